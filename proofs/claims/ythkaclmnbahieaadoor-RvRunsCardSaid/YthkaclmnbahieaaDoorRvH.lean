/-
  The reference's forms, and what it asks of instructions.
-/
import Derived.Test.YthkaclmnbahieaaDoorRvG
namespace Go.Proofs.YthkaclmnbahieaaDoor
open Go.RowKit

/-- The shapes of the reference. -/
def shL : List Nat := [0, 0, 0, 0, 0, 0, 0, 0, 0, 0, 0, 0, 0, 0, 0, 1, 1, 1, 1, 1, 1, 2, 2, 2, 3, 4, 4, 4, 5, 5, 5, 6, 6, 6, 6, 6, 6, 7, 8, 9, 9]
def shT (i : Nat) : Nat := shL.getD i 0
def f7R (i : Nat) : Nat := if i = 40 then 0 else f7T i
/-- The kind of a shape. -/
def kS (s : Nat) : Nat := if s = 4 ∨ s = 8 then 1 else if s = 5 then 4 else if s = 6 then 5 else if s = 7 then 6 else if s = 9 then 7 else s
theorem kS_of {i : Nat} (h : i < 41) : kS (shT i) = kT i := by
  have : ∀ i, i < 41 → kS (shT i) = kT i := by decide +kernel
  exact this i h
theorem shT_le {i : Nat} (h : i < 41) : shT i ≤ 9 := by
  have : ∀ i, i < 41 → shT i ≤ 9 := by decide +kernel
  exact this i h
def rfC (i : Nat) : List Value := [.int .i64 (shT i : Nat), .int .i64 (oT i : Nat), .int .i64 (f3T i : Nat), .int .i64 (f7R i : Nat)]
def RA : Array Value := rowsC rfC 41
theorem infoFm : (Tryd.prog.info? 71).map (fun i => (i.zero, i.size, i.bytes)) = some (some (.agg #[.int .i64 0, .int .i64 0, .int .i64 0, .int .i64 0]), 4, 32) := by kernel_rfl
set_option maxRecDepth 100000 in
set_option maxHeartbeats 8000000 in
theorem forms_any (w : World) : Calls Tryd.prog 39 #[] w fun e w' => e = .returned (.slice (some ⟨w.heap.size, 0, none⟩) 41 41) ∧ w.alloc (.cells RA 71) = w' := by
  obtain ⟨i0, hi, hz0, hz1, hz2⟩ := info_parts infoFm
  go_enter Tryd.func39, Tryd.ntmps39
  go_wp2_with fail
  refine wp_buildSlice 72 71 41 _ rfl RA i0 (.agg #[.int .i64 0, .int .i64 0, .int .i64 0, .int .i64 0]) Tryd.underlying72 hi hz0 (by rw [hz1]; decide) (by rw [hz1]; decide) (by rw [hz1]; kernel_rfl) ?_
  go_wp2
  go_ret
  exact ⟨rfl, rfl⟩
end Go.Proofs.YthkaclmnbahieaaDoor
