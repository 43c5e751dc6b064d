/-
  The walk of LoopSums.
-/
import Derived.Test.YtgnaohhopbhihaaDoorLoopF
import Derived.StillTailTactics
namespace Go.Proofs.YtgnaohhopbhihaaDoor
open Go.RowKit

theorem box_cell {w w1 : World} {o : Obj} {i : Nat} {v : Value} (h : Way16 (w.alloc o) w1) (hv : (w.alloc o).cell? ⟨w.heap.size, i, none⟩ = some v) : w1.cell? ⟨w.heap.size, i, none⟩ = some v :=
  (h.2.cell (p := ⟨w.heap.size, i, none⟩) (by simp)).trans hv
theorem Masks.drew {w : World} (h : Masks w) : Masks w.drew := fun i hi => by
  have := h i hi
  simpa [go_sem] using this
theorem below_drew {w w1 : World} (h : Below w.drew.heap.size w.drew w1) : Below w.heap.size w w1 := ⟨h.os, h.tape, h.output, h.size, h.block⟩
theorem way_base {w w1 : World} {o : Obj} (h : Way16 (w.alloc o) w1) : Below w.heap.size w w1 :=
  ((Below.refl _ _).alloc (Nat.le_refl _) _).trans (h.2.mono (by simp))
end Go.Proofs.YtgnaohhopbhihaaDoor
