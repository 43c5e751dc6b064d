/-
  The table of operations: what the call of operations returns, in whatever world.
-/
import Derived.Test.YtbohigjfdnnomaaDoorRows
import Derived.WalkKit
import Derived.IntWalk
import Derived.ProofKit
import Derived.Laws.BitsAllLaws
import Derived.Laws.ShiftsVarLaws
import Derived.Laws.EntriesVeiled
import Derived.Laws.Rows
import Derived.WalkLawsBesides
import Derived.WalkSpells
import Derived.Outline
import Derived.OwnWalk
import Derived.Deep.WholeRow
namespace Go.Proofs.YtbohigjfdnnomaaDoor
open Go.RowKit

abbrev fv (i : Nat) : Value := .func (.func i) #[] #[]
def opCells : Array Value := #[fv 88, fv 89, fv 90, fv 91,
  fv 88, fv 92, fv 90, fv 93,
  fv 88, fv 94, fv 90, fv 95,
  fv 96, fv 97, fv 98, fv 99,
  fv 96, fv 100, fv 101, fv 102,
  fv 103, fv 104, fv 105, fv 106,
  fv 103, fv 107, fv 108, fv 102,
  fv 88, fv 109, fv 90, fv 102,
  fv 88, fv 110, fv 90, fv 102,
  fv 88, fv 111, fv 90, fv 102,
  fv 112, fv 113, fv 90, fv 114,
  fv 112, fv 115, fv 90, fv 116,
  fv 112, fv 117, fv 118, fv 116]

theorem info65 : (Tryd.prog.info? 100).map (fun i => (i.zero, i.size)) = some (some (.agg (Array.replicate 52 .nilFunc)), 52) := by kernel_rfl
theorem infoSize65 : (Tryd.prog.info? 100).map (·.size) = some opCells.size := by kernel_rfl
set_option maxHeartbeats 1000000 in
theorem operations_any (w : World) : Calls Tryd.prog 77 #[] w fun e w' => e = .returned (.agg opCells) ∧ w.alloc (.cells opCells 100) = w' := by
  go_enter Tryd.func77, Tryd.ntmps77
  go_wp2_with (refine wpList_store_row rfl _ _ _ rfl w.heap.size opCells rfl rfl 100 _ (heap_alloc_last w _) infoSize65 (by kernel_rfl) (by kernel_rfl) ?_)
  rw [World.setRow_alloc_new]
  refine bodyPost_ret (results_cell_row rfl _ _ w.heap.size 100 opCells (0, 0) _ rfl (heap_alloc_last w _) Tryd.underlying100 rfl infoSize65) rfl ⟨rfl, rfl⟩
end Go.Proofs.YtbohigjfdnnomaaDoor
