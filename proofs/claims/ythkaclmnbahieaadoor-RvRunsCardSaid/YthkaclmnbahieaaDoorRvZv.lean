/-
  What a step keeps: the register 0, the length of the memory; only a store changes the memory.
-/
import Derived.Test.YthkaclmnbahieaaDoorRvZu
namespace Go.Proofs.YthkaclmnbahieaaDoor
open Go.RowKit

theorem setRF_zero {R : Nat → Nat} (h : R 0 = 0) (d x : Nat) : setRF R d x 0 = 0 := by
  unfold setRF putR
  by_cases e : d = 0
  · rw [if_pos e]
    exact h
  · rw [if_neg e, if_neg (fun q => e q.symm)]
    exact h
theorem stF_len (l : List Int) (P v : Nat) : ∀ k, (stF l P v k).length = l.length
  | 0 => rfl
  | k + 1 => by
    show ((stF l P v k).set (P + k) _).length = _
    rw [List.length_set]
    exact stF_len l P v k
/-- What an instruction keeps. -/
structure KeepS (op : Nat) (s t : Mst) : Prop where
  zero : s.R 0 = 0 → t.R 0 = 0
  len : t.l.length = s.l.length
  mem : t.l = s.l ∨ (28 ≤ op ∧ op ≤ 30 ∧ t.R = s.R)
theorem exF_keep (op d a b : Nat) (imm : Int) (s : Mst) : KeepS op s (exF op d a b imm s).2 := by
  unfold exF
  split
  · exact ⟨fun h => setRF_zero h _ _, rfl, .inl rfl⟩
  split
  · exact ⟨fun h => setRF_zero h _ _, rfl, .inl rfl⟩
  split
  · exact ⟨fun h => setRF_zero h _ _, rfl, .inl rfl⟩
  split
  · split
    · split
      · exact ⟨fun h => setRF_zero h _ _, rfl, .inl rfl⟩
      · exact ⟨id, stF_len _ _ _ _, .inr ⟨by omega, by omega, rfl⟩⟩
    · exact ⟨id, rfl, .inl rfl⟩
  split
  · exact ⟨id, rfl, .inl rfl⟩
  split
  · exact ⟨fun h => setRF_zero h _ _, rfl, .inl rfl⟩
  split
  · exact ⟨fun h => setRF_zero h _ _, rfl, .inl rfl⟩
  split
  · exact ⟨id, rfl, .inl rfl⟩
  · exact ⟨id, rfl, .inl rfl⟩
/-- What a step keeps: where the memory changes, the word at the place decodes to a store, and the registers stay. -/
theorem stepF_keep (s : Mst) : (s.R 0 = 0 → (stepF s).R 0 = 0) ∧ (stepF s).l.length = s.l.length ∧ ((stepF s).l = s.l ∨ (s.pc + 4 ≤ s.l.length ∧ ∃ x, decF (ldF s.l s.pc 4) = some x ∧ 28 ≤ x.op.toNat ∧ x.op.toNat ≤ 30 ∧ (stepF s).R = s.R)) := by
  unfold stepF
  split
  · rename_i h1
    split
    · exact ⟨id, rfl, .inl rfl⟩
    · rename_i x hx
      have k := exF_keep x.op.toNat x.d.toNat x.a.toNat x.b.toNat x.imm s
      split
      · refine ⟨k.zero, k.len, ?_⟩
        rcases k.mem with h | ⟨h2, h3, h4⟩
        · exact .inl h
        · exact .inr ⟨h1.1, x, hx, h2, h3, h4⟩
      · refine ⟨k.zero, k.len, ?_⟩
        rcases k.mem with h | ⟨h2, h3, h4⟩
        · exact .inl h
        · exact .inr ⟨h1.1, x, hx, h2, h3, h4⟩
  · exact ⟨id, rfl, .inl rfl⟩
end Go.Proofs.YthkaclmnbahieaaDoor
