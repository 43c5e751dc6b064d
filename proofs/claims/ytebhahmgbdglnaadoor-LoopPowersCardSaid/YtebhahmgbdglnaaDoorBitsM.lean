/-
  Compare, Opposite and Mirror of both packages, and the walk of BitsCompares.
-/
import Derived.Test.YtebhahmgbdglnaaDoorBitsW
namespace Go.Proofs.YtebhahmgbdglnaaDoor
open Go.RowKit

def oppF (p : Nat) : Nat := [1, 0, 5, 4, 3, 2, 9, 8, 7, 6].getD p 0
def mirF (p : Nat) : Nat := [0, 1, 4, 5, 2, 3, 8, 9, 6, 7].getD p 0
/-- The two tables of predicates lie as their text lays them. -/
def Preds (w : World) : Prop := ∀ i : Nat, i < 10 → w.cell? ⟨1, i, none⟩ = some (.int .i64 (oppF i)) ∧ w.cell? ⟨2, i, none⟩ = some (.int .i64 (mirF i))
theorem Preds.below {B : Nat} {w w1 : World} (h : Preds w) (hb : Below B w w1) (hB : w.heap.size ≤ B) : Preds w1 := fun i hi => by
  obtain ⟨h1, h2⟩ := h i hi
  have b1 : 1 < w.heap.size := block_lt_of_cell h1
  have b2 : 2 < w.heap.size := block_lt_of_cell h2
  exact ⟨(hb.cell (p := ⟨1, i, none⟩) (Nat.lt_of_lt_of_le b1 hB)).trans h1, (hb.cell (p := ⟨2, i, none⟩) (Nat.lt_of_lt_of_le b2 hB)).trans h2⟩
/-- Whether a predicate holds. -/
def cmpF (p n a b : Nat) : Bool :=
  if p = 0 then decide (a = b) else if p = 1 then decide (a ≠ b) else if p = 2 then decide (a < b) else if p = 3 then decide (a ≤ b)
  else if p = 4 then decide (b < a) else if p = 5 then decide (b ≤ a) else if p = 6 then decide (sgn n a < sgn n b) else if p = 7 then decide (sgn n a ≤ sgn n b)
  else if p = 8 then decide (sgn n b < sgn n a) else decide (sgn n b ≤ sgn n a)
theorem pred_cases {p : Nat} (h : p < 10) : p = 0 ∨ p = 1 ∨ p = 2 ∨ p = 3 ∨ p = 4 ∨ p = 5 ∨ p = 6 ∨ p = 7 ∨ p = 8 ∨ p = 9 := by omega
theorem cmp_opp (p n a b : Nat) (h : p < 10) : cmpF (oppF p) n a b = !cmpF p n a b := by
  rcases pred_cases h with rfl | rfl | rfl | rfl | rfl | rfl | rfl | rfl | rfl | rfl <;> simp [cmpF, oppF]
  all_goals (rw [Bool.eq_iff_iff]; simp; try omega)
theorem cmp_mir (p n a b : Nat) (h : p < 10) : cmpF (mirF p) n b a = cmpF p n a b := by
  rcases pred_cases h with rfl | rfl | rfl | rfl | rfl | rfl | rfl | rfl | rfl | rfl <;> simp [cmpF, mirF]
  all_goals exact eq_comm
theorem isPred_yes (p : Nat) (w : World) (h : p < 10) : Calls Tryd.prog 70 #[.int .i64 p] w fun e w' => e = .returned (.bool true) ∧ w = w' := by
  go_enter Tryd.func70, Tryd.ntmps70
  go_wp2
  go_ret
  exact ⟨ret_b (by simp; try omega), rfl⟩
theorem isPred_no (p : Int) (w : World) (h : p < 0 ∨ 9 < p) : Calls Tryd.prog 70 #[.int .i64 p] w fun e w' => e = .returned (.bool false) ∧ w = w' := by
  rcases h with h | h
  · go_enter Tryd.func70, Tryd.ntmps70
    go_wp2
    go_ret
    exact ⟨rfl, rfl⟩
  · have h1 : 0 ≤ p := by omega
    go_enter Tryd.func70, Tryd.ntmps70
    go_wp2
    go_ret
    exact ⟨ret_b (by simp; try omega), rfl⟩
theorem refIsPred_yes (p : Nat) (w : World) (h : p < 10) : Calls Tryd.prog 71 #[.int .i64 p] w fun e w' => e = .returned (.bool true) ∧ w = w' := by
  go_enter Tryd.func71, Tryd.ntmps71
  go_wp2
  go_ret
  exact ⟨ret_b (by simp; try omega), rfl⟩
theorem refIsPred_no (p : Int) (w : World) (h : p < 0 ∨ 9 < p) : Calls Tryd.prog 71 #[.int .i64 p] w fun e w' => e = .returned (.bool false) ∧ w = w' := by
  rcases h with h | h
  · go_enter Tryd.func71, Tryd.ntmps71
    go_wp2
    go_ret
    exact ⟨rfl, rfl⟩
  · have h1 : 0 ≤ p := by omega
    go_enter Tryd.func71, Tryd.ntmps71
    go_wp2
    go_ret
    exact ⟨ret_b (by simp; try omega), rfl⟩
set_option maxHeartbeats 2000000 in
theorem cmp_ok (p n a b : Nat) (w : World) (hM : Masks w) (hp : p < 10) (h1 : 1 ≤ n) (h2 : n ≤ 32) (ha : a < pw n) (hb : b < pw n) :
    Calls Tryd.prog 28 #[.int .i64 p, .int .i64 n, .int .u32 a, .int .u32 b] w fun e w' => e = .returned (.tuple #[.bool (cmpF p n a b), .int .i64 0]) ∧ w = w' := by
  rcases pred_cases hp with rfl | rfl | rfl | rfl | rfl | rfl | rfl | rfl | rfl | rfl
  all_goals
    go_enter Tryd.func28, Tryd.ntmps28
    go_wp2_with (first
      | (go_at_call 70; refine (isPred_yes _ _ hp).mono ?_; rintro e w' ⟨rfl, rfl⟩)
      | (go_at_call 60; refine (areWords_yes n a b _ hM h1 h2 ha hb).mono ?_; rintro e w' ⟨rfl, rfl⟩)
      | (go_at_call 61; ((with_reducible refine (signed_any n a _ hM h1 h2 ha).mono ?_); rintro e w' ⟨rfl, rfl⟩))
      | (go_at_call 61; ((with_reducible refine (signed_any n b _ hM h1 h2 hb).mono ?_); rintro e w' ⟨rfl, rfl⟩)))
    go_ret2
    refine ⟨?_, rfl⟩
    first | (simp [cmpF]; done) | (simp [cmpF]; rw [Bool.eq_iff_iff]; simp; done) | (simp [cmpF]; rw [Bool.eq_iff_iff]; simp; omega)
theorem cmp_err (p n : Int) (a b : Nat) (w : World) (hM : Masks w) (h : (p < 0 ∨ 9 < p) ∨ (n < 1 ∨ 32 < n ∨ pw n.toNat ≤ a ∨ pw n.toNat ≤ b)) :
    Calls Tryd.prog 28 #[.int .i64 p, .int .i64 n, .int .u32 a, .int .u32 b] w fun e w' => e = .returned (.tuple #[.bool false, .int .i64 1]) ∧ w = w' := by
  by_cases hp : p < 0 ∨ 9 < p
  · clear h
    go_enter Tryd.func28, Tryd.ntmps28
    go_wp2_with (go_at_call 70; refine (isPred_no _ _ hp).mono ?_; rintro e w' ⟨rfl, rfl⟩)
    go_ret2
    exact ⟨rfl, rfl⟩
  · have hn := h.resolve_left hp
    obtain ⟨q, rfl⟩ : ∃ q : Nat, p = q := ⟨p.toNat, by omega⟩
    have hq : q < 10 := by omega
    have HN := Lib.hid hn
    clear h hp hn
    go_enter Tryd.func28, Tryd.ntmps28
    go_wp2_with (first
      | (go_at_call 70; refine (isPred_yes _ _ hq).mono ?_; rintro e w' ⟨rfl, rfl⟩)
      | (go_at_call 60; refine (areWords_no n a b _ hM HN.out).mono ?_; rintro e w' ⟨rfl, rfl⟩))
    go_ret2
    exact ⟨rfl, rfl⟩
set_option maxHeartbeats 2000000 in
theorem refCmp_ok (p n a b : Nat) (w : World) (hp : p < 10) (h1 : 1 ≤ n) (h2 : n ≤ 32) (ha : a < pw n) (hb : b < pw n) :
    Calls Tryd.prog 29 #[.int .i64 p, .int .i64 n, .int .u32 a, .int .u32 b] w fun e w' => e = .returned (.tuple #[.bool (cmpF p n a b), .int .i64 0]) ∧ w = w' := by
  have hw := pw_le h2
  rcases pred_cases hp with rfl | rfl | rfl | rfl | rfl | rfl | rfl | rfl | rfl | rfl
  all_goals
    go_enter Tryd.func29, Tryd.ntmps29
    go_wp2_with (first
      | (go_at_call 71; refine (refIsPred_yes _ _ hp).mono ?_; rintro e w' ⟨rfl, rfl⟩)
      | (go_at_call 42; ((with_reducible refine (isWord_yes n a _ h1 h2 ha).mono ?_); rintro e w' ⟨rfl, rfl⟩))
      | (go_at_call 42; ((with_reducible refine (isWord_yes n b _ h1 h2 hb).mono ?_); rintro e w' ⟨rfl, rfl⟩))
      | (go_at_call 62; ((with_reducible refine (refSign_any n a _ h1 h2 ha).mono ?_); rintro e w' ⟨rfl, rfl⟩))
      | (go_at_call 62; ((with_reducible refine (refSign_any n b _ h1 h2 hb).mono ?_); rintro e w' ⟨rfl, rfl⟩))
      | go_in)
    go_ret2
    refine ⟨?_, rfl⟩
    first | (simp [cmpF]; done) | (simp [cmpF]; rw [Bool.eq_iff_iff]; simp; done) | (simp [cmpF]; rw [Bool.eq_iff_iff]; simp; omega)
theorem refCmp_err (p n : Int) (a b : Nat) (w : World) (a32 : a < 4294967296) (b32 : b < 4294967296) (h : (p < 0 ∨ 9 < p) ∨ (n < 1 ∨ 32 < n ∨ pw n.toNat ≤ a ∨ pw n.toNat ≤ b)) :
    Calls Tryd.prog 29 #[.int .i64 p, .int .i64 n, .int .u32 a, .int .u32 b] w fun e w' => e = .returned (.tuple #[.bool false, .int .i64 1]) ∧ w = w' := by
  by_cases hp : p < 0 ∨ 9 < p
  · clear h
    go_enter Tryd.func29, Tryd.ntmps29
    go_wp2_with (go_at_call 71; refine (refIsPred_no _ _ hp).mono ?_; rintro e w' ⟨rfl, rfl⟩)
    go_ret2
    exact ⟨rfl, rfl⟩
  · have hn := h.resolve_left hp
    obtain ⟨q, rfl⟩ : ∃ q : Nat, p = q := ⟨p.toNat, by omega⟩
    have hq : q < 10 := by omega
    clear h hp
    by_cases hA : n < 1 ∨ 32 < n ∨ pw n.toNat ≤ a
    · have HA := Lib.hid hA
      clear hn hA
      go_enter Tryd.func29, Tryd.ntmps29
      go_wp2_with (first
        | (go_at_call 71; refine (refIsPred_yes _ _ hq).mono ?_; rintro e w' ⟨rfl, rfl⟩)
        | (go_at_call 42; refine (isWord_no n a _ a32 HA.out).mono ?_; rintro e w' ⟨rfl, rfl⟩))
      go_ret2
      exact ⟨rfl, rfl⟩
    · obtain ⟨m, rfl⟩ : ∃ m : Nat, n = m := ⟨n.toNat, by omega⟩
      have h1 : 1 ≤ m := by omega
      have h2 : m ≤ 32 := by omega
      have ha : a < pw m := by have : ¬ pw m ≤ a := fun hh => hA (.inr (.inr (by simpa using hh)))
                               omega
      have hB : (m : Int) < 1 ∨ 32 < (m : Int) ∨ pw (m : Int).toNat ≤ b := by rcases hn with h | h | h | h
                                                                              · omega
                                                                              · omega
                                                                              · exact absurd (.inr (.inr h)) hA
                                                                              · exact .inr (.inr h)
      have HB := Lib.hid hB
      clear hn hA hB
      go_enter Tryd.func29, Tryd.ntmps29
      go_wp2_with (first
        | (go_at_call 71; refine (refIsPred_yes _ _ hq).mono ?_; rintro e w' ⟨rfl, rfl⟩)
        | (go_at_call 42; ((with_reducible refine (isWord_yes m a _ h1 h2 ha).mono ?_); rintro e w' ⟨rfl, rfl⟩))
        | (go_at_call 42; refine (isWord_no m b _ b32 HB.out).mono ?_; rintro e w' ⟨rfl, rfl⟩))
      go_ret2
      exact ⟨rfl, rfl⟩
theorem opp_ok (p : Nat) (w : World) (hP : Preds w) (hp : p < 10) : Calls Tryd.prog 30 #[.int .i64 p] w fun e w' => e = .returned (.tuple #[.int .i64 (oppF p), .int .i64 0]) ∧ w = w' := by
  have hc := (hP p hp).1
  go_enter Tryd.func30, Tryd.ntmps30
  go_wp2_with (go_at_call 70; refine (isPred_yes _ _ hp).mono ?_; rintro e w' ⟨rfl, rfl⟩)
  go_ret2
  exact ⟨rfl, rfl⟩
theorem mir_ok (p : Nat) (w : World) (hP : Preds w) (hp : p < 10) : Calls Tryd.prog 32 #[.int .i64 p] w fun e w' => e = .returned (.tuple #[.int .i64 (mirF p), .int .i64 0]) ∧ w = w' := by
  have hc := (hP p hp).2
  go_enter Tryd.func32, Tryd.ntmps32
  go_wp2_with (go_at_call 70; refine (isPred_yes _ _ hp).mono ?_; rintro e w' ⟨rfl, rfl⟩)
  go_ret2
  exact ⟨rfl, rfl⟩
theorem opp_err (p : Int) (w : World) (hp : p < 0 ∨ 9 < p) : Calls Tryd.prog 30 #[.int .i64 p] w fun e w' => e = .returned (.tuple #[.int .i64 0, .int .i64 1]) ∧ w = w' := by
  go_enter Tryd.func30, Tryd.ntmps30
  go_wp2_with (go_at_call 70; refine (isPred_no _ _ hp).mono ?_; rintro e w' ⟨rfl, rfl⟩)
  go_ret2
  exact ⟨rfl, rfl⟩
theorem mir_err (p : Int) (w : World) (hp : p < 0 ∨ 9 < p) : Calls Tryd.prog 32 #[.int .i64 p] w fun e w' => e = .returned (.tuple #[.int .i64 0, .int .i64 1]) ∧ w = w' := by
  go_enter Tryd.func32, Tryd.ntmps32
  go_wp2_with (go_at_call 70; refine (isPred_no _ _ hp).mono ?_; rintro e w' ⟨rfl, rfl⟩)
  go_ret2
  exact ⟨rfl, rfl⟩
theorem refOpp_err (p : Int) (w : World) (hp : p < 0 ∨ 9 < p) : Calls Tryd.prog 31 #[.int .i64 p] w fun e w' => e = .returned (.tuple #[.int .i64 0, .int .i64 1]) ∧ w = w' := by
  go_enter Tryd.func31, Tryd.ntmps31
  go_wp2_with (go_at_call 71; refine (refIsPred_no _ _ hp).mono ?_; rintro e w' ⟨rfl, rfl⟩)
  go_ret2
  exact ⟨rfl, rfl⟩
theorem refMir_err (p : Int) (w : World) (hp : p < 0 ∨ 9 < p) : Calls Tryd.prog 33 #[.int .i64 p] w fun e w' => e = .returned (.tuple #[.int .i64 0, .int .i64 1]) ∧ w = w' := by
  go_enter Tryd.func33, Tryd.ntmps33
  go_wp2_with (go_at_call 71; refine (refIsPred_no _ _ hp).mono ?_; rintro e w' ⟨rfl, rfl⟩)
  go_ret2
  exact ⟨rfl, rfl⟩
set_option maxHeartbeats 4000000 in
theorem refOpp_ok (p : Nat) (w : World) (hp : p < 10) : Calls Tryd.prog 31 #[.int .i64 p] w fun e w' => e = .returned (.tuple #[.int .i64 (oppF p), .int .i64 0]) ∧ Below w.heap.size w w' := by
  rcases pred_cases hp with rfl | rfl | rfl | rfl | rfl | rfl | rfl | rfl | rfl | rfl
  all_goals
    go_enter Tryd.func31, Tryd.ntmps31
    go_wp2_with (go_at_call 71; refine (refIsPred_yes _ _ hp).mono ?_; rintro e w' ⟨rfl, rfl⟩)
    go_ret2
    exact ⟨rfl, (Below.refl _ _).alloc (Nat.le_refl _) _⟩
set_option maxHeartbeats 4000000 in
theorem refMir_ok (p : Nat) (w : World) (hp : p < 10) : Calls Tryd.prog 33 #[.int .i64 p] w fun e w' => e = .returned (.tuple #[.int .i64 (mirF p), .int .i64 0]) ∧ Below w.heap.size w w' := by
  rcases pred_cases hp with rfl | rfl | rfl | rfl | rfl | rfl | rfl | rfl | rfl | rfl
  all_goals
    go_enter Tryd.func33, Tryd.ntmps33
    go_wp2_with (go_at_call 71; refine (refIsPred_yes _ _ hp).mono ?_; rintro e w' ⟨rfl, rfl⟩)
    go_ret2
    exact ⟨rfl, (Below.refl _ _).alloc (Nat.le_refl _) _⟩
end Go.Proofs.YtebhahmgbdglnaaDoor
