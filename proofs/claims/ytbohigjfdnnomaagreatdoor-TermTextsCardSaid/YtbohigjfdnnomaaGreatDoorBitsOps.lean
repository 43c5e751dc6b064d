/-
  The table of operations: what the call of operations returns, in whatever world.
-/
import Derived.Test.YtbohigjfdnnomaaGreatDoorRows
import Derived.WalkKit
import Derived.IntWalk
import Derived.ProofKit
import Derived.Laws.BitsAllLaws
import Derived.Laws.ShiftsVarLaws
import Derived.Laws.EntriesVeiled
import Derived.Laws.Rows
import Derived.WalkLawsBesides
import Derived.WalkSpells
import Derived.Outline
import Derived.OwnWalk
import Derived.Deep.WholeRow
namespace Go.Proofs.YtbohigjfdnnomaaGreatDoor
open Go.RowKit

abbrev fv (i : Nat) : Value := .func (.func i) #[] #[]
def opCells : Array Value := #[fv 104, fv 105, fv 106, fv 107,
  fv 104, fv 108, fv 106, fv 109,
  fv 104, fv 110, fv 106, fv 111,
  fv 112, fv 113, fv 114, fv 115,
  fv 112, fv 116, fv 117, fv 118,
  fv 119, fv 120, fv 121, fv 122,
  fv 119, fv 123, fv 124, fv 118,
  fv 104, fv 125, fv 106, fv 118,
  fv 104, fv 126, fv 106, fv 118,
  fv 104, fv 127, fv 106, fv 118,
  fv 128, fv 129, fv 106, fv 130,
  fv 128, fv 131, fv 106, fv 132,
  fv 128, fv 133, fv 134, fv 132]

theorem info65 : (Tryz.prog.info? 128).map (fun i => (i.zero, i.size)) = some (some (.agg (Array.replicate 52 .nilFunc)), 52) := by kernel_rfl
theorem infoSize65 : (Tryz.prog.info? 128).map (·.size) = some opCells.size := by kernel_rfl
set_option maxHeartbeats 1000000 in
theorem operations_any (w : World) : Calls Tryz.prog 100 #[] w fun e w' => e = .returned (.agg opCells) ∧ w.alloc (.cells opCells 128) = w' := by
  go_enter Tryz.func100, Tryz.ntmps100
  go_wp2_with (refine wpList_store_row rfl _ _ _ rfl w.heap.size opCells rfl rfl 128 _ (heap_alloc_last w _) infoSize65 (by kernel_rfl) (by kernel_rfl) ?_)
  rw [World.setRow_alloc_new]
  refine bodyPost_ret (results_cell_row rfl _ _ w.heap.size 128 opCells (0, 0) _ rfl (heap_alloc_last w _) Tryz.underlying128 rfl infoSize65) rfl ⟨rfl, rfl⟩
end Go.Proofs.YtbohigjfdnnomaaGreatDoor
