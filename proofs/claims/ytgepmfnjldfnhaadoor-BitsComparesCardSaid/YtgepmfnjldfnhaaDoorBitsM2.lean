/-
  The walk of BitsCompares.
-/
import Derived.Test.YtgepmfnjldfnhaaDoorBitsM
namespace Go.Proofs.YtgepmfnjldfnhaaDoor
open Go.RowKit

theorem oppF_lt (p : Nat) (h : p < 10) : oppF p < 10 := by
  rcases pred_cases h with rfl | rfl | rfl | rfl | rfl | rfl | rfl | rfl | rfl | rfl <;> decide
theorem mirF_lt (p : Nat) (h : p < 10) : mirF p < 10 := by
  rcases pred_cases h with rfl | rfl | rfl | rfl | rfl | rfl | rfl | rfl | rfl | rfl <;> decide
set_option maxHeartbeats 2000000 in
theorem compares_walk (p n : Int) (a b : Nat) (w : World) (hT : Masks w ∧ Preds w) (a32 : a < 4294967296) (b32 : b < 4294967296) :
    Calls Tryd.prog 7 #[.int .i64 p, .int .i64 n, .agg #[.int .u32 a, .int .u32 b]] w fun e w' => e = .returned (.bool true) ∧ Below w.heap.size w w' := by
  obtain ⟨hM0, hP0⟩ := hT
  obtain ⟨o, ho⟩ : ∃ o : Obj, o = .cells #[.int .u32 a, .int .u32 b] 32 := ⟨_, rfl⟩
  have hB0 : Below w.heap.size w (w.alloc o) := (Below.refl _ _).alloc (Nat.le_refl _) _
  have hM := hM0.alloc o
  have hP := hP0.below hB0 (Nat.le_refl _)
  rw [ho] at hB0 hM hP
  by_cases hp : p < 0 ∨ 9 < p
  · have HP := Lib.hid hp
    have HE := Lib.hid (show (p < 0 ∨ 9 < p) ∨ (n < 1 ∨ 32 < n ∨ pw n.toNat ≤ a ∨ pw n.toNat ≤ b) from .inl hp)
    clear hp ho
    go_enter Tryd.func7, Tryd.ntmps7
    go_wp2_with (first
      | (go_at_call 25; refine (cmp_err p n a b _ hM HE.out).mono ?_; rintro e w' ⟨rfl, rfl⟩)
      | (go_at_call 26; refine (refCmp_err p n a b _ a32 b32 HE.out).mono ?_; rintro e w' ⟨rfl, rfl⟩)
      | (go_at_call 27; refine (opp_err p _ HP.out).mono ?_; rintro e w' ⟨rfl, rfl⟩)
      | (go_at_call 28; refine (refOpp_err p _ HP.out).mono ?_; rintro e w' ⟨rfl, rfl⟩)
      | (go_at_call 29; refine (mir_err p _ HP.out).mono ?_; rintro e w' ⟨rfl, rfl⟩)
      | (go_at_call 30; refine (refMir_err p _ HP.out).mono ?_; rintro e w' ⟨rfl, rfl⟩)
      | (go_at_call 18; refine (known_any _ hM).mono ?_; rintro e w' ⟨rfl, hb⟩))
    go_ret
    exact ⟨rfl, hB0.trans (hb.mono (by simp))⟩
  obtain ⟨q, rfl⟩ : ∃ q : Nat, p = q := ⟨p.toNat, by omega⟩
  have hq : q < 10 := by omega
  have hoq := oppF_lt q hq
  have hmq := mirF_lt q hq
  clear hp ho
  by_cases hE : n < 1 ∨ 32 < n ∨ pw n.toNat ≤ a ∨ pw n.toNat ≤ b
  · have HE := Lib.hid (show ((q : Int) < 0 ∨ 9 < (q : Int)) ∨ (n < 1 ∨ 32 < n ∨ pw n.toNat ≤ a ∨ pw n.toNat ≤ b) from .inr hE)
    clear hE
    go_enter Tryd.func7, Tryd.ntmps7
    go_wp2_with (first
      | (go_at_call 25; refine (cmp_err q n a b _ hM HE.out).mono ?_; rintro e w' ⟨rfl, rfl⟩)
      | (go_at_call 26; refine (refCmp_err q n a b _ a32 b32 HE.out).mono ?_; rintro e w' ⟨rfl, rfl⟩)
      | (go_at_call 27; refine (opp_ok q _ hP hq).mono ?_; rintro e w' ⟨rfl, rfl⟩))
    refine (refOpp_ok q _ hq).mono ?_
    rintro e w1 ⟨rfl, hb1⟩
    have hM1 := hM.below hb1 (Nat.le_refl _)
    have hP1 := hP.below hb1 (Nat.le_refl _)
    go_wp2_with (go_at_call 29; refine (mir_ok q _ hP1 hq).mono ?_; rintro e w' ⟨rfl, rfl⟩)
    refine (refMir_ok q _ hq).mono ?_
    rintro e w2 ⟨rfl, hb2⟩
    have hM2 := hM1.below hb2 (Nat.le_refl _)
    go_wp2_with (go_at_call 18; refine (known_any _ hM2).mono ?_; rintro e w' ⟨rfl, hb3⟩)
    go_ret
    have s1 := hb1.size
    have s2 := hb2.size
    simp at s1 s2
    exact ⟨rfl, hB0.trans ((hb1.mono (by simp)).trans ((hb2.mono (by omega)).trans (hb3.mono (by omega))))⟩
  obtain ⟨m, rfl⟩ : ∃ m : Nat, n = m := ⟨n.toNat, by omega⟩
  have h1 : 1 ≤ m := by omega
  have h2 : m ≤ 32 := by omega
  have ha : a < pw m := by have : ¬ pw m ≤ a := fun hh => hE (.inr (.inr (.inl (by simpa using hh))))
                           omega
  have hb : b < pw m := by have : ¬ pw m ≤ b := fun hh => hE (.inr (.inr (.inr (by simpa using hh))))
                           omega
  have CO := Lib.hid (cmp_opp q m a b hq)
  have CM := Lib.hid (cmp_mir q m a b hq)
  clear hE
  cases hc : cmpF q m a b
  all_goals
    rw [hc] at CO CM
    have HC := Lib.hid hc
    clear hc
    go_enter Tryd.func7, Tryd.ntmps7
    go_wp2_with (first
      | (go_at_call 25; refine (cmp_ok q m a b _ hM hq h1 h2 ha hb).mono ?_; rw [HC.out]; rintro e w' ⟨rfl, rfl⟩)
      | (go_at_call 26; refine (refCmp_ok q m a b _ hq h1 h2 ha hb).mono ?_; rw [HC.out]; rintro e w' ⟨rfl, rfl⟩)
      | (go_at_call 27; refine (opp_ok q _ hP hq).mono ?_; rintro e w' ⟨rfl, rfl⟩))
    refine (refOpp_ok q _ hq).mono ?_
    rintro e w1 ⟨rfl, hb1⟩
    have hM1 := hM.below hb1 (Nat.le_refl _)
    have hP1 := hP.below hb1 (Nat.le_refl _)
    go_wp2_with (go_at_call 29; refine (mir_ok q _ hP1 hq).mono ?_; rintro e w' ⟨rfl, rfl⟩)
    refine (refMir_ok q _ hq).mono ?_
    rintro e w2 ⟨rfl, hb2⟩
    have hM2 := hM1.below hb2 (Nat.le_refl _)
    have hca : w2.cell? ⟨w.heap.size, 0, none⟩ = some (.int .u32 a) := (hb2.cell (p := ⟨w.heap.size, 0, none⟩) (by have := hb1.size; simp at this; show w.heap.size < _; omega)).trans ((hb1.cell (p := ⟨w.heap.size, 0, none⟩) (by simp)).trans (by simp [go_sem]))
    have hcb : w2.cell? ⟨w.heap.size, 1, none⟩ = some (.int .u32 b) := (hb2.cell (p := ⟨w.heap.size, 1, none⟩) (by have := hb1.size; simp at this; show w.heap.size < _; omega)).trans ((hb1.cell (p := ⟨w.heap.size, 1, none⟩) (by simp)).trans (by simp [go_sem]))
    go_wp2_with (first
      | (go_at_call 25; ((with_reducible refine (cmp_ok (oppF q) m a b _ hM2 hoq h1 h2 ha hb).mono ?_); rw [CO.out]; rintro e w' ⟨rfl, rfl⟩))
      | (go_at_call 25; ((with_reducible refine (cmp_ok (mirF q) m b a _ hM2 hmq h1 h2 hb ha).mono ?_); rw [CM.out]; rintro e w' ⟨rfl, rfl⟩))
      | (go_at_call 18; refine (known_any _ hM2).mono ?_; rintro e w' ⟨rfl, hb3⟩))
    go_ret
    have s1 := hb1.size
    have s2 := hb2.size
    simp at s1 s2
    exact ⟨rfl, hB0.trans ((hb1.mono (by simp)).trans ((hb2.mono (by omega)).trans (hb3.mono (by omega))))⟩
end Go.Proofs.YtgepmfnjldfnhaaDoor
