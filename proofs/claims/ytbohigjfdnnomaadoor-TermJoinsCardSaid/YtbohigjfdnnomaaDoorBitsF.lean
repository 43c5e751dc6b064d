/-
  What all rows of this seat share: the table of masks out of the row's condition; a world that meets it.
-/
import Derived.Test.YtbohigjfdnnomaaDoorBitsK
import Derived.LaidMore
import Derived.OpenShut
import Derived.Stop.Joined
import Derived.Lib.LaidTab
import Derived.Lib.SmallJoins
namespace Go.Proofs.YtbohigjfdnnomaaDoor
open Go.ChangeShapes Go.WideShapes Go.ChangeAt Go.WideMaps Go.WideElems Go.RowKit

theorem own : ownKnob Tryd.prog.godebug = none := by kernel_rfl
theorem gMasks : Tryd.prog.globalNamed "backstay/bits.masks" = some 0 := by kernel_rfl
theorem tMasks : (Tryd.prog.globals[0]?).map (·.type) = some 95 := by kernel_rfl
theorem cMasks : Tryd.prog.cellsOf 95 = 33 := by kernel_rfl
theorem cU32 : Tryd.prog.cellsOf 34 = 1 := by kernel_rfl
def maskList : List Int := (List.range 33).map fun i => ((pw i - 1 : Nat) : Int)
theorem masks_data {H : Type} : (Rows.laid_backstay_bits_masks : DataW H) = Lib.tabData .u32 maskList := by
  unfold Rows.laid_backstay_bits_masks Lib.tabData
  rfl
theorem masks_of_laid {W : World} {rest : List (String × DataW Unit)} (h : laidMet Tryd.prog (("backstay/bits.masks", Rows.laid_backstay_bits_masks) :: rest) W) : Masks W := by
  rw [masks_data] at h
  have hT := Lib.tabIs_of_head gMasks tMasks Tryd.underlying95 Tryd.underlying34 cU32 cMasks h
  intro i hi
  have := hT.cell gMasks i (by simp [maskList]; omega)
  rw [this]
  congr 2
  simp [maskList, List.getD, show i < 33 by omega]
abbrev laid1 : List (String × DataW Unit) := [("backstay/bits.masks", Rows.laid_backstay_bits_masks)]
theorem masks_of_laidH {W : World} (h : laidMetH Tryd.prog laid1 W) : Masks W := by
  rw [MakeChecks.laidMetH_plain _ _ _ (by kernel_rfl)] at h
  exact masks_of_laid h
theorem door_met (os : Os) (args : Array Value) : laidMetH Tryd.prog laid1 ((World.doorLaid Tryd.prog 400 os).forCall (fun _ _ => 0) ⟨#[], args, []⟩).memory :=
  laidMetH_of_parts3 (fuel := 8) (laidMet_of_run' 8 (by kernel_rfl) (by kernel_rfl)) (by kernel_rfl) (by kernel_rfl)
end Go.Proofs.YtbohigjfdnnomaaDoor
