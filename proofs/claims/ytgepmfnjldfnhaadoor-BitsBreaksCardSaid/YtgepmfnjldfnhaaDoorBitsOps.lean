/-
  The table of operations: what the call of operations returns, in whatever world.
-/
import Derived.Test.YtgepmfnjldfnhaaDoorRows
import Derived.WalkKit
import Derived.IntWalk
import Derived.ProofKit
import Derived.Laws.BitsAllLaws
import Derived.Laws.ShiftsVarLaws
import Derived.Laws.EntriesVeiled
import Derived.Laws.Rows
import Derived.WalkLawsBesides
import Derived.WalkSpells
import Derived.Outline
import Derived.OwnWalk
import Derived.Deep.WholeRow
namespace Go.Proofs.YtgepmfnjldfnhaaDoor
open Go.RowKit

abbrev fv (i : Nat) : Value := .func (.func i) #[] #[]
def opCells : Array Value := #[fv 57, fv 58, fv 59, fv 60,
  fv 57, fv 61, fv 59, fv 62,
  fv 57, fv 63, fv 59, fv 64,
  fv 65, fv 66, fv 67, fv 68,
  fv 65, fv 69, fv 70, fv 71,
  fv 72, fv 73, fv 74, fv 75,
  fv 72, fv 76, fv 77, fv 71,
  fv 57, fv 78, fv 59, fv 71,
  fv 57, fv 79, fv 59, fv 71,
  fv 57, fv 80, fv 59, fv 71,
  fv 81, fv 82, fv 59, fv 83,
  fv 81, fv 84, fv 59, fv 85,
  fv 81, fv 86, fv 87, fv 85]

theorem info65 : (Tryd.prog.info? 65).map (fun i => (i.zero, i.size)) = some (some (.agg (Array.replicate 52 .nilFunc)), 52) := by kernel_rfl
theorem infoSize65 : (Tryd.prog.info? 65).map (·.size) = some opCells.size := by kernel_rfl
set_option maxHeartbeats 1000000 in
theorem operations_any (w : World) : Calls Tryd.prog 50 #[] w fun e w' => e = .returned (.agg opCells) ∧ w.alloc (.cells opCells 65) = w' := by
  go_enter Tryd.func50, Tryd.ntmps50
  go_wp2_with (refine wpList_store_row rfl _ _ _ rfl w.heap.size opCells rfl rfl 65 _ (heap_alloc_last w _) infoSize65 (by kernel_rfl) (by kernel_rfl) ?_)
  rw [World.setRow_alloc_new]
  refine bodyPost_ret (results_cell_row rfl _ _ w.heap.size 65 opCells (0, 0) _ rfl (heap_alloc_last w _) Tryd.underlying65 rfl infoSize65) rfl ⟨rfl, rfl⟩
end Go.Proofs.YtgepmfnjldfnhaaDoor
