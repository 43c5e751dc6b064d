/-
  The three tables of package bits out of a row's condition; a world that meets it.
-/
import Derived.Test.YtgepmfnjldfnhaaDoorBitsF
import Derived.Test.YtgepmfnjldfnhaaDoorBitsM
import Derived.Stop.LaidErr
namespace Go.Proofs.YtgepmfnjldfnhaaDoor
open Go.ChangeShapes Go.WideShapes Go.ChangeAt Go.WideMaps Go.WideElems Go.RowKit

theorem gOpp : Tryd.prog.globalNamed "backstay/bits.opposites" = some 1 := by kernel_rfl
theorem tOpp : (Tryd.prog.globals[1]?).map (·.type) = some 71 := by kernel_rfl
theorem gMir : Tryd.prog.globalNamed "backstay/bits.mirrors" = some 2 := by kernel_rfl
theorem tMir : (Tryd.prog.globals[2]?).map (·.type) = some 71 := by kernel_rfl
theorem cTen : Tryd.prog.cellsOf 71 = 10 := by kernel_rfl
theorem cInt : Tryd.prog.cellsOf 3 = 1 := by kernel_rfl
def oppList : List Int := [1, 0, 5, 4, 3, 2, 9, 8, 7, 6]
def mirList : List Int := [0, 1, 4, 5, 2, 3, 8, 9, 6, 7]
theorem opp_data {H : Type} : (Rows.laid_backstay_bits_opposites : DataW H) = Lib.tabData .i64 oppList := rfl
theorem mir_data {H : Type} : (Rows.laid_backstay_bits_mirrors : DataW H) = Lib.tabData .i64 mirList := rfl
abbrev laid3 : List (String × DataW Unit) := [("backstay/bits.masks", Rows.laid_backstay_bits_masks), ("backstay/bits.opposites", Rows.laid_backstay_bits_opposites), ("backstay/bits.mirrors", Rows.laid_backstay_bits_mirrors)]
theorem tables_of_laidH {W : World} (h : laidMetH Tryd.prog laid3 W) : Masks W ∧ Preds W := by
  rw [MakeChecks.laidMetH_plain _ _ _ (by kernel_rfl)] at h
  refine ⟨masks_of_laid h, ?_⟩
  have h1 := laidMet.tail h
  have h2 := laidMet.tail h1
  rw [opp_data] at h1
  rw [mir_data] at h2
  have hO := Lib.tabIs_of_head gOpp tOpp Tryd.underlying71 Tryd.underlying3 cInt cTen h1
  have hR := Lib.tabIs_of_head gMir tMir Tryd.underlying71 Tryd.underlying3 cInt cTen h2
  intro i hi
  rw [hO.cell gOpp i (by simpa [oppList] using hi), hR.cell gMir i (by simpa [mirList] using hi)]
  rcases pred_cases hi with rfl | rfl | rfl | rfl | rfl | rfl | rfl | rfl | rfl | rfl <;> exact ⟨rfl, rfl⟩
theorem door_met3 (os : Os) (args : Array Value) : laidMetH Tryd.prog laid3 ((World.doorLaid Tryd.prog 400 os).forCall (fun _ _ => 0) ⟨#[], args, []⟩).memory :=
  laidMetH_of_parts3 (fuel := 8) (laidMet_of_run' 8 (by kernel_rfl) (by kernel_rfl)) (by kernel_rfl) (by kernel_rfl)
end Go.Proofs.YtgepmfnjldfnhaaDoor
