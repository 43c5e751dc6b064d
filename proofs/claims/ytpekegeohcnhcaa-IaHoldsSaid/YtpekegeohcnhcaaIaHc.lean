/-
  The walk of IaHolds.
-/
import Derived.Test.YtpekegeohcnhcaaIaHb
import Derived.Test.YtpekegeohcnhcaaIaS
namespace Go.Proofs.Ytpekegeohcnhcaa
open Go.RowKit

set_option maxRecDepth 100000 in
set_option maxHeartbeats 4000000 in
theorem holds_walk (c f : Int) {x : Ins} (h1 : -9223372036854775808 ≤ x.imm) (h2 : x.imm ≤ 9223372036854775807) {w : World} : Calls Try.prog 6 #[.int .i64 c, .int .i64 f, aggI x] w fun e w' => e = .returned (.bool true) ∧ Below w.heap.size w w' := by
  have H1 := Lib.hid (fun w1 => Holds_any c f w1)
  have H2 := Lib.hid (fun w1 => rHolds_any c f w1)
  have H3 := Lib.hid (fun w1 => Reads_any x w1)
  have H4 := Lib.hid (fun w1 => rReads_any x h1 h2 w1)
  generalize hldB c f = hB at H1 H2
  generalize hldE c f = hE at H1 H2
  generalize rdF x = rd at H3 H4
  generalize errI x = er at H3 H4
  obtain ⟨op, d, s, sz, imm⟩ := x
  clear h1 h2
  go_enter Try.func6, Try.ntmps6
  go_wp2_with fail
  generalize hA : World.alloc w _ = W
  have hb := below_new hA (Below.refl _ _)
  have hx := hA ▸ heap_alloc_new w _
  clear hA
  refine (H1.out _).mono ?_
  rintro e w1 ⟨rfl, rfl⟩
  go_wp2_with fail
  refine (H2.out _).mono ?_
  rintro e w1 ⟨rfl, rfl⟩
  obtain ⟨x0, x1, x2, x3, x4⟩ := cells5 hx
  go_wp2_with fail
  refine (H3.out _).mono ?_
  rintro e w2 ⟨rfl, hw⟩
  replace hx := (hw.block _ (lt_of_block hx)).trans hx
  replace hb := hb.trans (hw.mono hb.size)
  clear hw x0 x1 x2 x3 x4
  obtain ⟨x0, x1, x2, x3, x4⟩ := cells5 hx
  go_wp2_with fail
  refine (H4.out _).mono ?_
  rintro e w3 ⟨rfl, hw⟩
  replace hb := hb.trans (hw.mono hb.size)
  clear hw x0 x1 x2 x3 x4 hx
  go_wp2_with fail
  refine (known_any _).mono ?_
  rintro e w4 ⟨rfl, hw⟩
  replace hb := hb.trans (hw.mono hb.size)
  clear hw
  go_wp2
  go_ret
  exact ⟨rfl, hb⟩
end Go.Proofs.Ytpekegeohcnhcaa
