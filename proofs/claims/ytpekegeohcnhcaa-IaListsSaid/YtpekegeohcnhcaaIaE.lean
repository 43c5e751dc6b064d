/-
  The table of formats; signed numbers; which instructions are valid.
-/
import Derived.Test.YtpekegeohcnhcaaIaDn
import Derived.Deep.WholeRow
namespace Go.Proofs.Ytpekegeohcnhcaa
open Go.RowKit

def fmtCells : Array Value := #[
  .int .i64 137, .int .i64 0, .int .i64 48, fv 43, fv 44,
  .int .i64 184, .int .i64 0, .int .i64 48, fv 45, fv 46,
  .int .i64 139, .int .i64 0, .int .i64 48, fv 47, fv 48,
  .int .i64 137, .int .i64 0, .int .i64 48, fv 49, fv 50,
  .int .i64 182, .int .i64 0, .int .i64 32, fv 47, fv 51,
  .int .i64 183, .int .i64 0, .int .i64 32, fv 47, fv 51,
  .int .i64 136, .int .i64 0, .int .i64 32, fv 52, fv 50,
  .int .i64 1, .int .i64 0, .int .i64 48, fv 43, fv 44,
  .int .i64 9, .int .i64 0, .int .i64 48, fv 43, fv 44,
  .int .i64 33, .int .i64 0, .int .i64 48, fv 43, fv 44,
  .int .i64 41, .int .i64 0, .int .i64 48, fv 43, fv 44,
  .int .i64 49, .int .i64 0, .int .i64 48, fv 43, fv 44,
  .int .i64 57, .int .i64 0, .int .i64 48, fv 43, fv 44,
  .int .i64 133, .int .i64 0, .int .i64 48, fv 43, fv 44,
  .int .i64 129, .int .i64 0, .int .i64 48, fv 45, fv 53,
  .int .i64 129, .int .i64 1, .int .i64 48, fv 45, fv 53,
  .int .i64 129, .int .i64 4, .int .i64 48, fv 45, fv 53,
  .int .i64 129, .int .i64 5, .int .i64 48, fv 45, fv 53,
  .int .i64 129, .int .i64 6, .int .i64 48, fv 45, fv 53,
  .int .i64 129, .int .i64 7, .int .i64 48, fv 45, fv 53,
  .int .i64 175, .int .i64 0, .int .i64 32, fv 43, fv 54,
  .int .i64 211, .int .i64 4, .int .i64 48, fv 55, fv 56,
  .int .i64 211, .int .i64 5, .int .i64 48, fv 55, fv 56,
  .int .i64 211, .int .i64 7, .int .i64 48, fv 55, fv 56,
  .int .i64 247, .int .i64 2, .int .i64 48, fv 55, fv 56,
  .int .i64 247, .int .i64 3, .int .i64 48, fv 55, fv 56,
  .int .i64 247, .int .i64 6, .int .i64 32, fv 55, fv 56,
  .int .i64 247, .int .i64 7, .int .i64 32, fv 55, fv 56,
  .int .i64 153, .int .i64 0, .int .i64 32, fv 57, fv 58,
  .int .i64 144, .int .i64 0, .int .i64 32, fv 59, fv 60,
  .int .i64 182, .int .i64 0, .int .i64 32, fv 61, fv 54,
  .int .i64 64, .int .i64 0, .int .i64 32, fv 62, fv 63,
  .int .i64 112, .int .i64 0, .int .i64 40, fv 64, fv 65,
  .int .i64 235, .int .i64 0, .int .i64 40, fv 66, fv 67,
  .int .i64 244, .int .i64 0, .int .i64 32, fv 57, fv 58,
  .int .i64 11, .int .i64 0, .int .i64 32, fv 57, fv 68,
  .int .i64 144, .int .i64 0, .int .i64 32, fv 57, fv 58]
theorem infoSizeF : (Try.prog.info? 60).map (·.size) = some fmtCells.size := by kernel_rfl
set_option maxRecDepth 100000 in
set_option maxHeartbeats 4000000 in
theorem formats_any (w : World) : Calls Try.prog 27 #[] w fun e w' => e = .returned (.agg fmtCells) ∧ w.alloc (.cells fmtCells 60) = w' := by
  go_enter Try.func27, Try.ntmps27
  go_wp2_with (refine wpList_store_row rfl _ _ _ rfl w.heap.size fmtCells rfl rfl 60 _ (heap_alloc_last w _) infoSizeF (by kernel_rfl) (by kernel_rfl) ?_)
  rw [World.setRow_alloc_new]
  refine bodyPost_ret (results_cell_row rfl _ _ w.heap.size 60 fmtCells (0, 0) _ rfl (heap_alloc_last w _) Try.underlying60 rfl infoSizeF) rfl ⟨rfl, rfl⟩
end Go.Proofs.Ytpekegeohcnhcaa
