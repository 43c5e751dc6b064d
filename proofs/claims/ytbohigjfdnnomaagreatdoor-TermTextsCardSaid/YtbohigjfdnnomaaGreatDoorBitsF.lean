/-
  What all rows of this seat share: the table of masks out of the row's condition; a world that meets it.
-/
import Derived.Test.YtbohigjfdnnomaaGreatDoorBitsK
import Derived.LaidMore
import Derived.OpenShut
import Derived.Stop.Joined
import Derived.Lib.LaidTab
import Derived.Lib.SmallJoins
namespace Go.Proofs.YtbohigjfdnnomaaGreatDoor
open Go.ChangeShapes Go.WideShapes Go.ChangeAt Go.WideMaps Go.WideElems Go.RowKit

theorem own : ownKnob Tryz.prog.godebug = none := by kernel_rfl
theorem gMasks : Tryz.prog.globalNamed "backstay/bits.masks" = some 1 := by kernel_rfl
theorem tMasks : (Tryz.prog.globals[1]?).map (·.type) = some 123 := by kernel_rfl
theorem cMasks : Tryz.prog.cellsOf 123 = 33 := by kernel_rfl
theorem cU32 : Tryz.prog.cellsOf 36 = 1 := by kernel_rfl
def maskList : List Int := (List.range 33).map fun i => ((pw i - 1 : Nat) : Int)
theorem masks_data {H : Type} : (Rows.laid_backstay_bits_masks : DataW H) = Lib.tabData .u32 maskList := by
  unfold Rows.laid_backstay_bits_masks Lib.tabData
  rfl
theorem masks_of_laid {W : World} {rest : List (String × DataW Unit)} (h : laidMet Tryz.prog (("backstay/bits.masks", Rows.laid_backstay_bits_masks) :: rest) W) : Masks W := by
  rw [masks_data] at h
  have hT := Lib.tabIs_of_head gMasks tMasks Tryz.underlying123 Tryz.underlying36 cU32 cMasks h
  intro i hi
  have := hT.cell gMasks i (by simp [maskList]; omega)
  rw [this]
  congr 2
  simp [maskList, List.getD, show i < 33 by omega]
abbrev laid1 : List (String × DataW Unit) := [("backstay/bits.masks", Rows.laid_backstay_bits_masks)]
theorem masks_of_laidH {W : World} (h : laidMetH Tryz.prog laid1 W) : Masks W := by
  rw [MakeChecks.laidMetH_plain _ _ _ (by kernel_rfl)] at h
  exact masks_of_laid h
theorem door_met (os : Os) (args : Array Value) : laidMetH Tryz.prog laid1 ((World.doorLaid Tryz.prog 400 os).forCall (fun _ _ => 0) ⟨#[], args, []⟩).memory :=
  laidMetH_of_parts3 (fuel := 8) (laidMet_of_run' 8 (by kernel_rfl) (by kernel_rfl)) (by kernel_rfl) (by kernel_rfl)
end Go.Proofs.YtbohigjfdnnomaaGreatDoor
