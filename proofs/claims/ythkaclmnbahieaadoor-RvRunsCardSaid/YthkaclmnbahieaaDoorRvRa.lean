/-
  Runs as mathematics.
-/
import Derived.Test.YthkaclmnbahieaaDoorRvSi
namespace Go.Proofs.YthkaclmnbahieaaDoor
open Go.RowKit

/-- So many steps, as long as the machine runs: how many were no faults, and the machine behind them. -/
def runT : Nat → Mst → Nat × Mst
  | 0, s => (0, s)
  | k + 1, s => if s.fin = 0 then (if (stepF s).fin = 3 then (0, stepF s) else (1 + (runT k (stepF s)).1, (runT k (stepF s)).2)) else (0, s)
theorem runT_stop {s : Mst} (h : ¬ s.fin = 0) : ∀ k, runT k s = (0, s)
  | 0 => rfl
  | _ + 1 => if_neg h
theorem runT_fault {s : Mst} (h : s.fin = 0) (h3 : (stepF s).fin = 3) (k : Nat) : runT (k + 1) s = (0, stepF s) := (if_pos h).trans (if_pos h3)
theorem runT_go {s : Mst} (h : s.fin = 0) (h3 : ¬ (stepF s).fin = 3) (k : Nat) : runT (k + 1) s = (1 + (runT k (stepF s)).1, (runT k (stepF s)).2) := (if_pos h).trans (if_neg h3)
theorem runT_le : ∀ (k : Nat) (s : Mst), (runT k s).1 ≤ k
  | 0, _ => Nat.le_refl _
  | k + 1, s => by
    by_cases h : s.fin = 0
    · by_cases h3 : (stepF s).fin = 3
      · rw [runT_fault h h3]
        exact Nat.zero_le _
      · rw [runT_go h h3]
        have := runT_le k (stepF s)
        show 1 + _ ≤ _
        omega
    · rw [runT_stop h]
      exact Nat.zero_le _
/-- A machine that still runs has made all its steps. -/
theorem runT_all : ∀ (k : Nat) (s : Mst), (runT k s).2.fin = 0 → (runT k s).1 = k
  | 0, _, _ => rfl
  | k + 1, s, hf => by
    by_cases h : s.fin = 0
    · by_cases h3 : (stepF s).fin = 3
      · rw [runT_fault h h3] at hf
        dsimp only at hf
        omega
      · rw [runT_go h h3] at hf ⊢
        have := runT_all k (stepF s) hf
        show 1 + _ = _
        omega
    · rw [runT_stop h] at hf
      exact absurd hf h
/-- Some steps and more are as many together. -/
theorem runT_add : ∀ (a b : Nat) (s : Mst), runT (a + b) s = ((runT a s).1 + (runT b (runT a s).2).1, (runT b (runT a s).2).2)
  | 0, b, s => by
    rw [Nat.zero_add]
    show runT b s = (0 + (runT b s).1, (runT b s).2)
    rw [Nat.zero_add]
  | a + 1, b, s => by
    rw [show a + 1 + b = a + b + 1 by omega]
    by_cases h : s.fin = 0
    · by_cases h3 : (stepF s).fin = 3
      · rw [runT_fault h h3, runT_fault h h3]
        simp [runT_stop (show ¬ (stepF s).fin = 0 by omega)]
      · rw [runT_go h h3, runT_go h h3, runT_add a b (stepF s)]
        dsimp only
        rw [Nat.add_assoc]
    · rw [runT_stop h, runT_stop h]
      simp [runT_stop h]
/-- What all states of a run keep. -/
structure Kept (s t : Mst) : Prop where
  zero : s.R 0 = 0 → t.R 0 = 0
  len : t.l.length = s.l.length
theorem kept_step (s : Mst) : Kept s (stepF s) := ⟨(stepF_keep s).1, (stepF_keep s).2.1⟩
theorem runT_kept : ∀ (k : Nat) (s : Mst), Kept s (runT k s).2
  | 0, _ => ⟨id, rfl⟩
  | k + 1, s => by
    by_cases h : s.fin = 0
    · by_cases h3 : (stepF s).fin = 3
      · rw [runT_fault h h3]
        exact kept_step s
      · rw [runT_go h h3]
        have h1 := kept_step s
        have h2 := runT_kept k (stepF s)
        exact ⟨fun h => h2.zero (h1.zero h), h2.len.trans h1.len⟩
    · rw [runT_stop h]
      exact ⟨id, rfl⟩
theorem exF_fin (op d a b : Nat) (imm : Int) (s : Mst) : (exF op d a b imm s).2.fin = s.fin ∨ (exF op d a b imm s).2.fin ≤ 2 := by
  unfold exF
  repeat (first | exact .inl rfl | exact .inr (Nat.le_refl 2) | exact .inr (Nat.le_succ 1) | split)
theorem stepF_fin (s : Mst) (h : s.fin = 0) : (stepF s).fin ≤ 3 := by
  unfold stepF
  split
  · split
    · exact Nat.le_refl _
    · rename_i x _
      split
      · rcases exF_fin x.op.toNat x.d.toNat x.a.toNat x.b.toNat x.imm s with e | e
        · omega
        · omega
      · exact Nat.le_refl _
  · exact Nat.le_refl _
theorem runT_fin : ∀ (k : Nat) (s : Mst), s.fin = 0 → (runT k s).2.fin ≤ 3
  | 0, s, h => by
    show s.fin ≤ 3
    omega
  | k + 1, s, h => by
    by_cases h3 : (stepF s).fin = 3
    · rw [runT_fault h h3]
      dsimp only
      omega
    · rw [runT_go h h3]
      dsimp only
      by_cases h4 : (stepF s).fin = 0
      · exact runT_fin k (stepF s) h4
      · rw [runT_stop h4]
        exact stepF_fin s h
/-- What a run returns. -/
def endF (t : Mst) : Nat := if t.fin = 0 then 4 else t.fin
def badR (R : Nat → Nat) (l : List Int) (most : Int) : Prop := 32768 < l.length ∨ R 0 ≠ 0 ∨ most < 0 ∨ 200000 < most
instance (R : Nat → Nat) (l : List Int) (most : Int) : Decidable (badR R l most) := by unfold badR; exact inferInstance
def runF (R : Nat → Nat) (fl : Int) (pc : Nat) (fin : Int) (l : List Int) (most : Int) : SR × Nat :=
  if badR R l most then (zeroS 1, 0)
  else if fin ≠ 0 then (zeroS 9, 0)
  else (⟨0, (runT most.toNat ⟨R, pc, 0, l⟩).2.R, fl, (runT most.toNat ⟨R, pc, 0, l⟩).2.pc, endF (runT most.toNat ⟨R, pc, 0, l⟩).2, (runT most.toNat ⟨R, pc, 0, l⟩).2.l⟩, (runT most.toNat ⟨R, pc, 0, l⟩).1)
end Go.Proofs.YthkaclmnbahieaaDoor
