/-
  OWN TEXT. The tables of masks and of powers of ten out of the row's condition; a world that meets it.
-/
import Derived.Test.YtbohigjfdnnomaaGreatDoorBitsF
import Derived.Test.YtbohigjfdnnomaaGreatDoorTeXb
import Derived.Lib.LaidU8
namespace Go.Proofs.YtbohigjfdnnomaaGreatDoor
open Go.ChangeShapes Go.WideShapes Go.ChangeAt Go.WideMaps Go.WideElems Go.RowKit Go.Joins

abbrev laid4 : List (String × DataW Unit) := [("backstay/bits.masks", Rows.laid_backstay_bits_masks), ("math/bits.deBruijn32tab", Rows.laid_math_bits_deBruijn32tab), ("math/bits.deBruijn64tab", Rows.laid_math_bits_deBruijn64tab), ("internal/strconv.uint64pow10", Rows.laid_internal_strconv_uint64pow10)]
theorem p10_data : (Rows.laid_internal_strconv_uint64pow10 : DataW Unit) = Lib.tabData .u64 Lib.pow10Tab := by kernel_rfl
theorem p10_of {W : World} (h : Lib.VarReads Tryz.prog W "internal/strconv.uint64pow10" Rows.laid_internal_strconv_uint64pow10) : P10 W := by
  rw [p10_data] at h
  obtain ⟨g, t, cs, fuel, p, hg, ht, hv, hd⟩ := h
  have hg2 : Tryz.prog.globalNamed "internal/strconv.uint64pow10" = some 0 := by kernel_rfl
  obtain rfl := Option.some.inj (hg2.symm.trans hg)
  have ht2 : (Tryz.prog.globals[0]?).map (·.type) = some 110 := by kernel_rfl
  obtain rfl := Option.some.inj (ht2.symm.trans ht)
  have hc := Lib.cells_of_tab (n := 20) Tryz.underlying110 Tryz.underlying48 (by kernel_rfl) (by kernel_rfl) hd
  have e : cs = p10A := by
    unfold p10A
    rw [← hc]
  subst e
  unfold World.var? at hv
  rw [hg2, Option.bind_some] at hv
  unfold P10
  split at hv
  · rename_i c t fr hh
    injection hv with hv
    rw [hv] at hh
    exact ⟨_, _, hh⟩
  · cases hv
theorem laid4_of {W : World} (h : laidMetH Tryz.prog laid4 W) : Masks W ∧ P10 W := by
  rw [MakeChecks.laidMetH_plain _ _ _ (by kernel_rfl)] at h
  exact ⟨masks_of_laid h, p10_of (Lib.laidMet.reads h (by simp [laid4]))⟩
theorem door_met4 (os : Os) (args : Array Value) : laidMetH Tryz.prog laid4 ((World.doorLaid Tryz.prog 4000 os).forCall (fun _ _ => 0) ⟨#[], args, []⟩).memory :=
  laidMetH_of_parts3 (fuel := 8) (laidMet_of_run' 8 (by kernel_rfl) (by kernel_rfl)) (by kernel_rfl) (by kernel_rfl)
end Go.Proofs.YtbohigjfdnnomaaGreatDoor
