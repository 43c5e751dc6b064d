/-
  Compare, Opposite and Mirror of both packages, and the walk of BitsCompares.
-/
import Derived.Test.YtbohigjfdnnomaaGreatDoorBitsW
namespace Go.Proofs.YtbohigjfdnnomaaGreatDoor
open Go.RowKit

def oppF (p : Nat) : Nat := [1, 0, 5, 4, 3, 2, 9, 8, 7, 6].getD p 0
def mirF (p : Nat) : Nat := [0, 1, 4, 5, 2, 3, 8, 9, 6, 7].getD p 0
/-- Whether a predicate holds. -/
def cmpF (p n a b : Nat) : Bool :=
  if p = 0 then decide (a = b) else if p = 1 then decide (a ≠ b) else if p = 2 then decide (a < b) else if p = 3 then decide (a ≤ b)
  else if p = 4 then decide (b < a) else if p = 5 then decide (b ≤ a) else if p = 6 then decide (sgn n a < sgn n b) else if p = 7 then decide (sgn n a ≤ sgn n b)
  else if p = 8 then decide (sgn n b < sgn n a) else decide (sgn n b ≤ sgn n a)
theorem pred_cases {p : Nat} (h : p < 10) : p = 0 ∨ p = 1 ∨ p = 2 ∨ p = 3 ∨ p = 4 ∨ p = 5 ∨ p = 6 ∨ p = 7 ∨ p = 8 ∨ p = 9 := by omega
theorem cmp_opp (p n a b : Nat) (h : p < 10) : cmpF (oppF p) n a b = !cmpF p n a b := by
  rcases pred_cases h with rfl | rfl | rfl | rfl | rfl | rfl | rfl | rfl | rfl | rfl <;> simp [cmpF, oppF]
  all_goals (rw [Bool.eq_iff_iff]; simp; try omega)
theorem cmp_mir (p n a b : Nat) (h : p < 10) : cmpF (mirF p) n b a = cmpF p n a b := by
  rcases pred_cases h with rfl | rfl | rfl | rfl | rfl | rfl | rfl | rfl | rfl | rfl <;> simp [cmpF, mirF]
  all_goals exact eq_comm
theorem isPred_yes (p : Nat) (w : World) (h : p < 10) : Calls Tryz.prog 94 #[.int .i64 p] w fun e w' => e = .returned (.bool true) ∧ w = w' := by
  go_enter Tryz.func94, Tryz.ntmps94
  go_wp2
  go_ret
  exact ⟨ret_b (by simp; try omega), rfl⟩
theorem isPred_no (p : Int) (w : World) (h : p < 0 ∨ 9 < p) : Calls Tryz.prog 94 #[.int .i64 p] w fun e w' => e = .returned (.bool false) ∧ w = w' := by
  rcases h with h | h
  · go_enter Tryz.func94, Tryz.ntmps94
    go_wp2
    go_ret
    exact ⟨rfl, rfl⟩
  · have h1 : 0 ≤ p := by omega
    go_enter Tryz.func94, Tryz.ntmps94
    go_wp2
    go_ret
    exact ⟨ret_b (by simp; try omega), rfl⟩
theorem refIsPred_yes (p : Nat) (w : World) (h : p < 10) : Calls Tryz.prog 88 #[.int .i64 p] w fun e w' => e = .returned (.bool true) ∧ w = w' := by
  go_enter Tryz.func88, Tryz.ntmps88
  go_wp2
  go_ret
  exact ⟨ret_b (by simp; try omega), rfl⟩
theorem refIsPred_no (p : Int) (w : World) (h : p < 0 ∨ 9 < p) : Calls Tryz.prog 88 #[.int .i64 p] w fun e w' => e = .returned (.bool false) ∧ w = w' := by
  rcases h with h | h
  · go_enter Tryz.func88, Tryz.ntmps88
    go_wp2
    go_ret
    exact ⟨rfl, rfl⟩
  · have h1 : 0 ≤ p := by omega
    go_enter Tryz.func88, Tryz.ntmps88
    go_wp2
    go_ret
    exact ⟨ret_b (by simp; try omega), rfl⟩
set_option maxHeartbeats 2000000 in
theorem cmp_ok (p n a b : Nat) (w : World) (hM : Masks w) (hp : p < 10) (h1 : 1 ≤ n) (h2 : n ≤ 32) (ha : a < pw n) (hb : b < pw n) :
    Calls Tryz.prog 73 #[.int .i64 p, .int .i64 n, .int .u32 a, .int .u32 b] w fun e w' => e = .returned (.tuple #[.bool (cmpF p n a b), .int .i64 0]) ∧ w = w' := by
  rcases pred_cases hp with rfl | rfl | rfl | rfl | rfl | rfl | rfl | rfl | rfl | rfl
  all_goals
    go_enter Tryz.func73, Tryz.ntmps73
    go_wp2_with (first
      | (go_at_call 94; refine (isPred_yes _ _ hp).mono ?_; rintro e w' ⟨rfl, rfl⟩)
      | (go_at_call 95; refine (areWords_yes n a b _ hM h1 h2 ha hb).mono ?_; rintro e w' ⟨rfl, rfl⟩)
      | (go_at_call 96; ((with_reducible refine (signed_any n a _ hM h1 h2 ha).mono ?_); rintro e w' ⟨rfl, rfl⟩))
      | (go_at_call 96; ((with_reducible refine (signed_any n b _ hM h1 h2 hb).mono ?_); rintro e w' ⟨rfl, rfl⟩)))
    go_ret2
    refine ⟨?_, rfl⟩
    first | (simp [cmpF]; done) | (simp [cmpF]; rw [Bool.eq_iff_iff]; simp; done) | (simp [cmpF]; rw [Bool.eq_iff_iff]; simp; omega)
theorem cmp_err (p n : Int) (a b : Nat) (w : World) (hM : Masks w) (h : (p < 0 ∨ 9 < p) ∨ (n < 1 ∨ 32 < n ∨ pw n.toNat ≤ a ∨ pw n.toNat ≤ b)) :
    Calls Tryz.prog 73 #[.int .i64 p, .int .i64 n, .int .u32 a, .int .u32 b] w fun e w' => e = .returned (.tuple #[.bool false, .int .i64 1]) ∧ w = w' := by
  by_cases hp : p < 0 ∨ 9 < p
  · clear h
    go_enter Tryz.func73, Tryz.ntmps73
    go_wp2_with (go_at_call 94; refine (isPred_no _ _ hp).mono ?_; rintro e w' ⟨rfl, rfl⟩)
    go_ret2
    exact ⟨rfl, rfl⟩
  · have hn := h.resolve_left hp
    obtain ⟨q, rfl⟩ : ∃ q : Nat, p = q := ⟨p.toNat, by omega⟩
    have hq : q < 10 := by omega
    have HN := Lib.hid hn
    clear h hp hn
    go_enter Tryz.func73, Tryz.ntmps73
    go_wp2_with (first
      | (go_at_call 94; refine (isPred_yes _ _ hq).mono ?_; rintro e w' ⟨rfl, rfl⟩)
      | (go_at_call 95; refine (areWords_no n a b _ hM HN.out).mono ?_; rintro e w' ⟨rfl, rfl⟩))
    go_ret2
    exact ⟨rfl, rfl⟩
set_option maxHeartbeats 2000000 in
theorem refCmp_ok (p n a b : Nat) (w : World) (hp : p < 10) (h1 : 1 ≤ n) (h2 : n ≤ 32) (ha : a < pw n) (hb : b < pw n) :
    Calls Tryz.prog 69 #[.int .i64 p, .int .i64 n, .int .u32 a, .int .u32 b] w fun e w' => e = .returned (.tuple #[.bool (cmpF p n a b), .int .i64 0]) ∧ w = w' := by
  have hw := pw_le h2
  rcases pred_cases hp with rfl | rfl | rfl | rfl | rfl | rfl | rfl | rfl | rfl | rfl
  all_goals
    go_enter Tryz.func69, Tryz.ntmps69
    go_wp2_with (first
      | (go_at_call 88; refine (refIsPred_yes _ _ hp).mono ?_; rintro e w' ⟨rfl, rfl⟩)
      | (go_at_call 67; ((with_reducible refine (isWord_yes n a _ h1 h2 ha).mono ?_); rintro e w' ⟨rfl, rfl⟩))
      | (go_at_call 67; ((with_reducible refine (isWord_yes n b _ h1 h2 hb).mono ?_); rintro e w' ⟨rfl, rfl⟩))
      | (go_at_call 90; ((with_reducible refine (refSign_any n a _ h1 h2 ha).mono ?_); rintro e w' ⟨rfl, rfl⟩))
      | (go_at_call 90; ((with_reducible refine (refSign_any n b _ h1 h2 hb).mono ?_); rintro e w' ⟨rfl, rfl⟩))
      | go_in)
    go_ret2
    refine ⟨?_, rfl⟩
    first | (simp [cmpF]; done) | (simp [cmpF]; rw [Bool.eq_iff_iff]; simp; done) | (simp [cmpF]; rw [Bool.eq_iff_iff]; simp; omega)
theorem refCmp_err (p n : Int) (a b : Nat) (w : World) (a32 : a < 4294967296) (b32 : b < 4294967296) (h : (p < 0 ∨ 9 < p) ∨ (n < 1 ∨ 32 < n ∨ pw n.toNat ≤ a ∨ pw n.toNat ≤ b)) :
    Calls Tryz.prog 69 #[.int .i64 p, .int .i64 n, .int .u32 a, .int .u32 b] w fun e w' => e = .returned (.tuple #[.bool false, .int .i64 1]) ∧ w = w' := by
  by_cases hp : p < 0 ∨ 9 < p
  · clear h
    go_enter Tryz.func69, Tryz.ntmps69
    go_wp2_with (go_at_call 88; refine (refIsPred_no _ _ hp).mono ?_; rintro e w' ⟨rfl, rfl⟩)
    go_ret2
    exact ⟨rfl, rfl⟩
  · have hn := h.resolve_left hp
    obtain ⟨q, rfl⟩ : ∃ q : Nat, p = q := ⟨p.toNat, by omega⟩
    have hq : q < 10 := by omega
    clear h hp
    by_cases hA : n < 1 ∨ 32 < n ∨ pw n.toNat ≤ a
    · have HA := Lib.hid hA
      clear hn hA
      go_enter Tryz.func69, Tryz.ntmps69
      go_wp2_with (first
        | (go_at_call 88; refine (refIsPred_yes _ _ hq).mono ?_; rintro e w' ⟨rfl, rfl⟩)
        | (go_at_call 67; refine (isWord_no n a _ a32 HA.out).mono ?_; rintro e w' ⟨rfl, rfl⟩))
      go_ret2
      exact ⟨rfl, rfl⟩
    · obtain ⟨m, rfl⟩ : ∃ m : Nat, n = m := ⟨n.toNat, by omega⟩
      have h1 : 1 ≤ m := by omega
      have h2 : m ≤ 32 := by omega
      have ha : a < pw m := by have : ¬ pw m ≤ a := fun hh => hA (.inr (.inr (by simpa using hh)))
                               omega
      have hB : (m : Int) < 1 ∨ 32 < (m : Int) ∨ pw (m : Int).toNat ≤ b := by rcases hn with h | h | h | h
                                                                              · omega
                                                                              · omega
                                                                              · exact absurd (.inr (.inr h)) hA
                                                                              · exact .inr (.inr h)
      have HB := Lib.hid hB
      clear hn hA hB
      go_enter Tryz.func69, Tryz.ntmps69
      go_wp2_with (first
        | (go_at_call 88; refine (refIsPred_yes _ _ hq).mono ?_; rintro e w' ⟨rfl, rfl⟩)
        | (go_at_call 67; ((with_reducible refine (isWord_yes m a _ h1 h2 ha).mono ?_); rintro e w' ⟨rfl, rfl⟩))
        | (go_at_call 67; refine (isWord_no m b _ b32 HB.out).mono ?_; rintro e w' ⟨rfl, rfl⟩))
      go_ret2
      exact ⟨rfl, rfl⟩
end Go.Proofs.YtbohigjfdnnomaaGreatDoor
