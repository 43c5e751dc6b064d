/-
  What Trips and its reference call: words of a call, three at a time; ends; first; Counted; Goes.
-/
import Derived.Test.YtgnaohhopbhihaaDoorLoopTM
import Derived.Test.YtgnaohhopbhihaaDoorBitsQ
namespace Go.Proofs.YtgnaohhopbhihaaDoor
open Go.RowKit

section
variable (n a b c : Nat) (w : World) (T : Nat)
theorem lw3_yes (hM : Masks w) (h1 : 1 ≤ n) (h2 : n ≤ 32) (ha : a < pw n) (hb : b < pw n) (hc : c < pw n) :
    Calls Tryd.prog 61 #[.int .i64 n, .slice (some ⟨w.heap.size, 0, none⟩) 3 3] (w.alloc (.cells #[.int .u32 a, .int .u32 b, .int .u32 c] T)) fun e w' => e = .returned (.bool true) ∧ w.alloc (.cells #[.int .u32 a, .int .u32 b, .int .u32 c] T) = w' :=
  lw_yes n 3 w.heap.size (fun i => if i = 0 then a else if i = 1 then b else c) _ (hM.alloc _) h1 h2 (by omega) (three_cells w a b c T) (three_lt n a b c ha hb hc)
theorem lw3_no (m : Int) (hM : Masks w) (h : m < 1 ∨ 32 < m ∨ pw m.toNat ≤ a ∨ pw m.toNat ≤ b ∨ pw m.toNat ≤ c) :
    Calls Tryd.prog 61 #[.int .i64 m, .slice (some ⟨w.heap.size, 0, none⟩) 3 3] (w.alloc (.cells #[.int .u32 a, .int .u32 b, .int .u32 c] T)) fun e w' => e = .returned (.bool false) ∧ w.alloc (.cells #[.int .u32 a, .int .u32 b, .int .u32 c] T) = w' := by
  by_cases hw : m < 1 ∨ 32 < m
  · exact lw_width m 3 w.heap.size (fun i => if i = 0 then a else if i = 1 then b else c) _ hw (by omega) (three_cells w a b c T)
  obtain ⟨n, rfl⟩ : ∃ n : Nat, m = n := ⟨m.toNat, by omega⟩
  have habc : pw n ≤ a ∨ pw n ≤ b ∨ pw n ≤ c := by
    rcases h with h | h | h
    · omega
    · omega
    · simpa using h
  rcases habc with h | h | h
  · exact lw_no n 3 w.heap.size 0 (fun i => if i = 0 then a else if i = 1 then b else c) _ (hM.alloc _) (by omega) (by omega) (by omega) (three_cells w a b c T) (by omega) (by simpa using h)
  · exact lw_no n 3 w.heap.size 1 (fun i => if i = 0 then a else if i = 1 then b else c) _ (hM.alloc _) (by omega) (by omega) (by omega) (three_cells w a b c T) (by omega) (by simpa using h)
  · exact lw_no n 3 w.heap.size 2 (fun i => if i = 0 then a else if i = 1 then b else c) _ (hM.alloc _) (by omega) (by omega) (by omega) (three_cells w a b c T) (by omega) (by simpa using h)
theorem wd3_yes (k : Int) (h1 : 1 ≤ n) (h2 : n ≤ 32) (hc0 : 0 ≤ k) (hc1 : k ≤ 4294967296) (ha : a < pw n) (hb : b < pw n) (hc : c < pw n) :
    Calls Tryd.prog 66 #[.int .i64 n, .int .i64 k, .slice (some ⟨w.heap.size, 0, none⟩) 3 3] (w.alloc (.cells #[.int .u32 a, .int .u32 b, .int .u32 c] T)) fun e w' => e = .returned (.int .i64 0) ∧ w.alloc (.cells #[.int .u32 a, .int .u32 b, .int .u32 c] T) = w' :=
  worded_yes n 3 w.heap.size k (fun i => if i = 0 then a else if i = 1 then b else c) _ h1 h2 hc0 hc1 (by omega) (three_cells w a b c T) (three_lt n a b c ha hb hc)
theorem wd3_no (m k : Int) (a32 : a < 4294967296) (b32 : b < 4294967296) (c32 : c < 4294967296) (h : (m < 1 ∨ 32 < m ∨ k < 0 ∨ 4294967296 < k) ∨ pw m.toNat ≤ a ∨ pw m.toNat ≤ b ∨ pw m.toNat ≤ c) :
    Calls Tryd.prog 66 #[.int .i64 m, .int .i64 k, .slice (some ⟨w.heap.size, 0, none⟩) 3 3] (w.alloc (.cells #[.int .u32 a, .int .u32 b, .int .u32 c] T)) fun e w' => e = .returned (.int .i64 1) ∧ w.alloc (.cells #[.int .u32 a, .int .u32 b, .int .u32 c] T) = w' := by
  by_cases hw : m < 1 ∨ 32 < m ∨ k < 0 ∨ 4294967296 < k
  · exact worded_bad m k _ _ hw
  have hab' := h.resolve_left hw
  obtain ⟨n, rfl⟩ : ∃ n : Nat, m = n := ⟨m.toNat, by omega⟩
  have habc : pw n ≤ a ∨ pw n ≤ b ∨ pw n ≤ c := by simpa using hab'
  have h32 : ∀ i, i < 3 → (if i = 0 then a else if i = 1 then b else c) < 4294967296 := by
    intro i _
    split
    · assumption
    split <;> assumption
  rcases habc with h | h | h
  · exact worded_no n 3 w.heap.size 0 k (fun i => if i = 0 then a else if i = 1 then b else c) _ (by omega) (by omega) (by omega) (by omega) (by omega) (three_cells w a b c T) h32 (by omega) (by simpa using h)
  · exact worded_no n 3 w.heap.size 1 k (fun i => if i = 0 then a else if i = 1 then b else c) _ (by omega) (by omega) (by omega) (by omega) (by omega) (three_cells w a b c T) h32 (by omega) (by simpa using h)
  · exact worded_no n 3 w.heap.size 2 k (fun i => if i = 0 then a else if i = 1 then b else c) _ (by omega) (by omega) (by omega) (by omega) (by omega) (three_cells w a b c T) h32 (by omega) (by simpa using h)
end
section
variable (c all : Nat) (w : World)
theorem ends_1 : Calls Tryd.prog 63 #[.int .i64 1, .int .u32 c, .int .u32 all] w fun e w' => e = .returned (.tuple #[.int .u32 c, .int .u32 c, .bool true]) ∧ w = w' := by
  go_enter Tryd.func63, Tryd.ntmps63
  go_wp2
  go_ret3
  exact ⟨rfl, rfl⟩
theorem ends_2 : Calls Tryd.prog 63 #[.int .i64 2, .int .u32 c, .int .u32 all] w fun e w' => e = .returned (.tuple #[.int .u32 c, .int .u32 all, .bool true]) ∧ w = w' := by
  go_enter Tryd.func63, Tryd.ntmps63
  go_wp2
  go_ret3
  exact ⟨rfl, rfl⟩
theorem ends_3_yes (h : c < all) (h32 : all ≤ 4294967295) : Calls Tryd.prog 63 #[.int .i64 3, .int .u32 c, .int .u32 all] w fun e w' => e = .returned (.tuple #[.int .u32 ((c + 1 : Nat) : Int), .int .u32 all, .bool true]) ∧ w = w' := by
  go_enter Tryd.func63, Tryd.ntmps63
  go_wp2
  go_ret3
  exact ⟨by simp, rfl⟩
theorem ends_3_no (h : c = all) : Calls Tryd.prog 63 #[.int .i64 3, .int .u32 c, .int .u32 all] w fun e w' => (∃ x y : Int, e = .returned (.tuple #[.int .u32 x, .int .u32 y, .bool false])) ∧ w = w' := by
  subst h
  go_enter Tryd.func63, Tryd.ntmps63
  go_wp2
  go_ret3
  exact ⟨⟨((c : Int) + 1) % 4294967296, c, by simp⟩, rfl⟩
theorem ends_4 : Calls Tryd.prog 63 #[.int .i64 4, .int .u32 c, .int .u32 all] w fun e w' => e = .returned (.tuple #[.int .u32 0, .int .u32 c, .bool true]) ∧ w = w' := by
  go_enter Tryd.func63, Tryd.ntmps63
  go_wp2
  go_ret3
  exact ⟨rfl, rfl⟩
theorem ends_5_yes (h : 0 < c) (h32 : c ≤ 4294967295) : Calls Tryd.prog 63 #[.int .i64 5, .int .u32 c, .int .u32 all] w fun e w' => e = .returned (.tuple #[.int .u32 0, .int .u32 ((c - 1 : Nat) : Int), .bool true]) ∧ w = w' := by
  have e1 : ((c - 1 : Nat) : Int) = (c : Int) - 1 := by omega
  go_enter Tryd.func63, Tryd.ntmps63
  go_wp2
  go_ret3
  exact ⟨by rw [e1]; simp, rfl⟩
theorem ends_5_no : Calls Tryd.prog 63 #[.int .i64 5, .int .u32 0, .int .u32 all] w fun e w' => (∃ x y : Int, e = .returned (.tuple #[.int .u32 x, .int .u32 y, .bool false])) ∧ w = w' := by
  go_enter Tryd.func63, Tryd.ntmps63
  go_wp2
  go_ret3
  exact ⟨⟨_, _, rfl⟩, rfl⟩
end
/-- When a count is refused. -/
def TripBad (p m : Int) (a b c : Nat) : Prop := (m < 1 ∨ 32 < m ∨ pw m.toNat ≤ a ∨ pw m.toNat ≤ b ∨ pw m.toNat ≤ c) ∨ p < 0 ∨ 9 < p
theorem trip_split (p m : Int) (a b c : Nat) (h : ¬ TripBad p m a b c) : ∃ q n : Nat, p = q ∧ m = n ∧ q < 10 ∧ 1 ≤ n ∧ n ≤ 32 ∧ a < pw n ∧ b < pw n ∧ c < pw n := by
  unfold TripBad at h
  exact ⟨p.toNat, m.toNat, by omega, by omega, by omega, by omega, by omega, by omega, by omega, by omega⟩
theorem counted_ok (p n a b c : Nat) (w : World) (hp : p < 10) (h1 : 1 ≤ n) (h2 : n ≤ 32) (ha : a < pw n) (hb : b < pw n) (hc : c < pw n) :
    Calls Tryd.prog 26 #[.int .i64 p, .int .i64 n, .int .u32 a, .int .u32 b, .int .u32 c] w fun e w' => e = .returned (.int .i64 0) ∧ Below w.heap.size w w' := by
  go_enter Tryd.func26, Tryd.ntmps26
  go_wp2_with (go_at_call 66; refine (wd3_yes n a b c w _ 0 h1 h2 (by omega) (by omega) ha hb hc).mono ?_; rintro e w' ⟨rfl, rfl⟩)
  go_ret
  exact ⟨rfl, (Below.refl _ _).alloc (Nat.le_refl _) _⟩
theorem counted_err (p m : Int) (a b c : Nat) (w : World) (a32 : a < 4294967296) (b32 : b < 4294967296) (c32 : c < 4294967296) (h : TripBad p m a b c) :
    Calls Tryd.prog 26 #[.int .i64 p, .int .i64 m, .int .u32 a, .int .u32 b, .int .u32 c] w fun e w' => e = .returned (.int .i64 1) ∧ Below w.heap.size w w' := by
  by_cases hw : m < 1 ∨ 32 < m ∨ pw m.toNat ≤ a ∨ pw m.toNat ≤ b ∨ pw m.toNat ≤ c
  · have HW := Lib.hid (show (m < 1 ∨ 32 < m ∨ (0 : Int) < 0 ∨ 4294967296 < (0 : Int)) ∨ pw m.toNat ≤ a ∨ pw m.toNat ≤ b ∨ pw m.toNat ≤ c by omega)
    clear h hw
    go_enter Tryd.func26, Tryd.ntmps26
    go_wp2_with (go_at_call 66; refine (wd3_no a b c w _ m 0 a32 b32 c32 HW.out).mono ?_; rintro e w' ⟨rfl, rfl⟩)
    go_ret
    exact ⟨rfl, (Below.refl _ _).alloc (Nat.le_refl _) _⟩
  · have hp := h.resolve_left hw
    obtain ⟨n, rfl⟩ : ∃ n : Nat, m = n := ⟨m.toNat, by omega⟩
    have h1 : 1 ≤ n := by omega
    have h2 : n ≤ 32 := by omega
    have hh : ¬ pw n ≤ a ∧ ¬ pw n ≤ b ∧ ¬ pw n ≤ c := ⟨fun e => hw (.inr (.inr (.inl (by simpa using e)))), fun e => hw (.inr (.inr (.inr (.inl (by simpa using e))))), fun e => hw (.inr (.inr (.inr (.inr (by simpa using e)))))⟩
    have ha : a < pw n := by omega
    have hb : b < pw n := by omega
    have hc : c < pw n := by omega
    clear h hw hh
    by_cases hp0 : p < 0
    · clear hp
      go_enter Tryd.func26, Tryd.ntmps26
      go_wp2_with (go_at_call 66; refine (wd3_yes n a b c w _ 0 h1 h2 (by omega) (by omega) ha hb hc).mono ?_; rintro e w' ⟨rfl, rfl⟩)
      go_ret
      exact ⟨rfl, (Below.refl _ _).alloc (Nat.le_refl _) _⟩
    · have hp9 : 9 < p := by omega
      clear hp
      go_enter Tryd.func26, Tryd.ntmps26
      go_wp2_with (go_at_call 66; refine (wd3_yes n a b c w _ 0 h1 h2 (by omega) (by omega) ha hb hc).mono ?_; rintro e w' ⟨rfl, rfl⟩)
      go_ret
      exact ⟨rfl, (Below.refl _ _).alloc (Nat.le_refl _) _⟩
theorem goes_ok (p n a b c k : Nat) (w : World) (hp : p < 10) (h1 : 1 ≤ n) (h2 : n ≤ 32) (ha : a < pw n) (hb : b < pw n) (hc : c < pw n) (hk : k ≤ 4294967296) :
    Calls Tryd.prog 28 #[.int .i64 p, .int .i64 n, .int .u32 a, .int .u32 b, .int .u32 c, .int .i64 k] w fun e w' => e = .returned (.bool (cmpF p n (aftF n a b k) c)) ∧ Below w.heap.size w w' := by
  have hlt := aft_lt n a b k
  have A := Lib.hid (refAfter_ok n a b k)
  obtain ⟨x, hx⟩ : ∃ x, x = aftF n a b k := ⟨_, rfl⟩
  rw [← hx] at hlt A ⊢
  clear hx
  go_enter Tryd.func28, Tryd.ntmps28
  go_wp2_with fail
  refine (A.out _ h1 h2 ha hb hk).mono ?_
  rintro e w1 ⟨rfl, hb1⟩
  go_wp2_with (go_at_call 68; refine (refCmp_ok p n x c _ hp h1 h2 hlt hc).mono ?_; rintro e w' ⟨rfl, rfl⟩)
  go_ret
  exact ⟨rfl, hb1⟩
end Go.Proofs.YtgnaohhopbhihaaDoor
