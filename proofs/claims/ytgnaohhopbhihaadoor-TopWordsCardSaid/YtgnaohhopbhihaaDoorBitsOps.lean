/-
  The table of operations: what the call of operations returns, in whatever world.
-/
import Derived.Test.YtgnaohhopbhihaaDoorRows
import Derived.WalkKit
import Derived.IntWalk
import Derived.ProofKit
import Derived.Laws.BitsAllLaws
import Derived.Laws.ShiftsVarLaws
import Derived.Laws.EntriesVeiled
import Derived.Laws.Rows
import Derived.WalkLawsBesides
import Derived.WalkSpells
import Derived.Outline
import Derived.OwnWalk
import Derived.Deep.WholeRow
namespace Go.Proofs.YtgnaohhopbhihaaDoor
open Go.RowKit

abbrev fv (i : Nat) : Value := .func (.func i) #[] #[]
def opCells : Array Value := #[fv 95, fv 96, fv 97, fv 98,
  fv 95, fv 99, fv 97, fv 100,
  fv 95, fv 101, fv 97, fv 102,
  fv 103, fv 104, fv 105, fv 106,
  fv 103, fv 107, fv 108, fv 109,
  fv 110, fv 111, fv 112, fv 113,
  fv 110, fv 114, fv 115, fv 109,
  fv 95, fv 116, fv 97, fv 109,
  fv 95, fv 117, fv 97, fv 109,
  fv 95, fv 118, fv 97, fv 109,
  fv 119, fv 120, fv 97, fv 121,
  fv 119, fv 122, fv 97, fv 123,
  fv 119, fv 124, fv 125, fv 123]

theorem info65 : (Tryd.prog.info? 89).map (fun i => (i.zero, i.size)) = some (some (.agg (Array.replicate 52 .nilFunc)), 52) := by kernel_rfl
theorem infoSize65 : (Tryd.prog.info? 89).map (·.size) = some opCells.size := by kernel_rfl
set_option maxHeartbeats 1000000 in
theorem operations_any (w : World) : Calls Tryd.prog 53 #[] w fun e w' => e = .returned (.agg opCells) ∧ w.alloc (.cells opCells 89) = w' := by
  go_enter Tryd.func53, Tryd.ntmps53
  go_wp2_with (refine wpList_store_row rfl _ _ _ rfl w.heap.size opCells rfl rfl 89 _ (heap_alloc_last w _) infoSize65 (by kernel_rfl) (by kernel_rfl) ?_)
  rw [World.setRow_alloc_new]
  refine bodyPost_ret (results_cell_row rfl _ _ w.heap.size 89 opCells (0, 0) _ rfl (heap_alloc_last w _) Tryd.underlying89 rfl infoSize65) rfl ⟨rfl, rfl⟩
end Go.Proofs.YtgnaohhopbhihaaDoor
