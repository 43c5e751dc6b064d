/-
  The tables out of the rows' condition; a world that meets it; an instruction that came in as an argument.
-/
import Derived.Test.YthkaclmnbahieaaDoorRvB
import Derived.Test.YthkaclmnbahieaaDoorRows
import Derived.LaidMore
import Derived.OpenShut
import Derived.Stop.Joined
import Derived.Lib.LaidTab
import Derived.Lib.LaidU8
import Derived.Lib.SmallJoins
import Derived.ChangeSlices
import Derived.ChangeSame
import Derived.Carry
namespace Go.Proofs.YthkaclmnbahieaaDoor
open Go.ChangeShapes Go.WideShapes Go.ChangeAt Go.WideMaps Go.WideElems Go.RowKit Go.Joins

theorem own : ownKnob Tryd.prog.godebug = none := by kernel_rfl
theorem blocks_eq {cs : List Value} {f : Nat → List Value} {k n : Nat} (hk : ∀ i, (f i).length = k) (k0 : 0 < k) (hl : cs.length = n * k) (h : ∀ i, i < n → (cs.drop (i * k)).take k = f i) : cs.toArray = rowsC f n := by
  apply Array.ext_getElem?
  intro m
  by_cases hm : m < n * k
  · have hi : m / k < n := Nat.div_lt_of_lt_mul (by rw [Nat.mul_comm]; exact hm)
    have hj : m % k < k := Nat.mod_lt _ k0
    have e : m = m / k * k + m % k := by rw [Nat.mul_comm]; exact (Nat.div_add_mod m k).symm
    rw [e, rowsC_at hk hi hj, ← h _ hi, List.getElem?_toArray, List.getElem?_take, if_pos hj, List.getElem?_drop]
  · rw [Array.getElem?_eq_none (by simp; omega), Array.getElem?_eq_none (by rw [rowsC_size hk]; omega)]
abbrev laid6 : List (String × DataW Unit) := [("math/bits.deBruijn32tab", Rows.laid_math_bits_deBruijn32tab), ("math/bits.deBruijn64tab", Rows.laid_math_bits_deBruijn64tab), ("internal/strconv.uint64pow10", Rows.laid_internal_strconv_uint64pow10), ("backstay/rv.formats", Rows.laid_backstay_rv_formats), ("backstay/rv.shapes", Rows.laid_backstay_rv_shapes), ("backstay/rv.names", Rows.laid_backstay_rv_names)]
def fmD (i : Nat) : DataW Unit := .agg [.lit (.int .u32 (kT i : Nat)), .lit (.int .u32 (oT i : Nat)), .lit (.int .u32 (f3T i : Nat)), .lit (.int .u32 (f7T i : Nat))]
def shD (k : Nat) : DataW Unit := .agg [.lit (.bool (hasD k)), .lit (.bool (hasA k)), .lit (.bool (hasB k)), .lit (.bool (hasI k)), .lit (.int .i64 (lowT k)), .lit (.int .i64 (highT k)), .lit (.bool (evenT k))]
def nmD (i : Nat) : DataW Unit := .lit (.string (nmT.getD i []))
theorem fm_data : (Rows.laid_backstay_rv_formats : DataW Unit) = .agg ((List.range 41).map fmD) := by kernel_rfl
theorem sh_data : (Rows.laid_backstay_rv_shapes : DataW Unit) = .agg ((List.range 8).map shD) := by kernel_rfl
theorem nm_data : (Rows.laid_backstay_rv_names : DataW Unit) = .agg ((List.range 41).map nmD) := by kernel_rfl
theorem p10_data : (Rows.laid_internal_strconv_uint64pow10 : DataW Unit) = Lib.tabData .u64 Lib.pow10Tab := by kernel_rfl
theorem c4f : Tryd.prog.cellsOf 66 = 4 := by kernel_rfl
theorem c7s : Tryd.prog.cellsOf 63 = 7 := by kernel_rfl
theorem cInt : Tryd.prog.cellsOf 3 = 1 := by kernel_rfl
theorem cU32 : Tryd.prog.cellsOf 24 = 1 := by kernel_rfl
theorem cBool : Tryd.prog.cellsOf 4 = 1 := by kernel_rfl
theorem cStr : Tryd.prog.cellsOf 9 = 1 := by kernel_rfl
theorem take_one {cs : List Value} {k : Nat} {v : Value} (h : (cs.drop k).take 1 = [v]) : cs[k]? = some v := by
  have := congrArg (·[0]?) h
  simpa [List.getElem?_take, List.getElem?_drop] using this
theorem holds_of_var {W : World} {n : String} {g : Nat} {cs cs2 : Array Value} (hg : Tryd.prog.globalNamed n = some g) (h : W.var? Tryd.prog n = some cs) (e : cs = cs2) : Holds1 W g cs2 := by
  subst e
  unfold World.var? at h
  rw [hg, Option.bind_some] at h
  unfold Holds1
  split at h
  · rename_i c t fr hh
    injection h with h
    subst h
    exact ⟨_, _, hh⟩
  · cases h
section
variable {W : World}
set_option maxRecDepth 100000 in
theorem fm_of (h : Lib.VarReads Tryd.prog W "backstay/rv.formats" Rows.laid_backstay_rv_formats) : Holds1 W 1 FA := by
  rw [fm_data] at h
  obtain ⟨g, t, cs, fuel, p, hg, ht, hv, hd⟩ := h
  have hg2 : Tryd.prog.globalNamed "backstay/rv.formats" = some 1 := by kernel_rfl
  obtain rfl := Option.some.inj (hg2.symm.trans hg)
  have ht2 : (Tryd.prog.globals[1]?).map (·.type) = some 67 := by kernel_rfl
  obtain rfl := Option.some.inj (ht2.symm.trans ht)
  refine holds_of_var hg2 hv ?_
  have hl : cs.toList.length = 41 * 4 := by
    cases fuel with
    | zero => simp [DataW.trod] at hd
    | succ fuel =>
      simp only [DataW.trod, Tryd.underlying67] at hd
      split at hd
      · rename_i hl
        rw [hl]
        kernel_rfl
      · cases hd
  have key := blocks_eq (cs := cs.toList) (f := fmC) (k := 4) (n := 41) (fun _ => rfl) (by decide) hl fun i hi => ?_
  · have k2 : cs = rowsC fmC 41 := by simpa using key
    exact k2
  · obtain ⟨fuel', d, q, hds, hr⟩ := Lib.array_elem Tryd.underlying67 hd i hi
    rw [c4f] at hr
    simp only [List.getElem?_map, List.getElem?_range hi, Option.map_some, Option.some.injEq] at hds
    subst hds
    generalize (cs.toList.drop (i * 4)).take 4 = r at hr
    obtain ⟨xs, n, rfl, hx, hl2, hlen, hg⟩ := DataW.trod_struct Tryd.underlying66 hr
    rw [c4f] at hl2
    have g0 := hg 0 _ rfl
    have g1 := hg 1 _ rfl
    have g2 := hg 2 _ rfl
    have g3 := hg 3 _ rfl
    match r, hl2, xs, hlen, hx, g0, g1, g2, g3 with
    | [v0, v1, v2, v3], _, [y0, y1, y2, y3], _, hx, g0, g1, g2, g3 =>
      simp [cU32] at g0 g1 g2 g3
      obtain ⟨a, e0, rfl, _⟩ := DataW.trod_int Tryd.underlying24 g0
      obtain ⟨b, e1, rfl, _⟩ := DataW.trod_int Tryd.underlying24 g1
      obtain ⟨x, e2, rfl, _⟩ := DataW.trod_int Tryd.underlying24 g2
      obtain ⟨y, e3, rfl, _⟩ := DataW.trod_int Tryd.underlying24 g3
      simp at e0 e1 e2 e3
      subst e0 e1 e2 e3
      simp [fmD] at hx
      obtain ⟨⟨h0, h1, h2, h3⟩, -⟩ := hx
      unfold fmC
      rw [h0, h1, h2, h3]
set_option maxRecDepth 100000 in
theorem sh_of (h : Lib.VarReads Tryd.prog W "backstay/rv.shapes" Rows.laid_backstay_rv_shapes) : Holds1 W 0 SA := by
  rw [sh_data] at h
  obtain ⟨g, t, cs, fuel, p, hg, ht, hv, hd⟩ := h
  have hg2 : Tryd.prog.globalNamed "backstay/rv.shapes" = some 0 := by kernel_rfl
  obtain rfl := Option.some.inj (hg2.symm.trans hg)
  have ht2 : (Tryd.prog.globals[0]?).map (·.type) = some 64 := by kernel_rfl
  obtain rfl := Option.some.inj (ht2.symm.trans ht)
  refine holds_of_var hg2 hv ?_
  have hl : cs.toList.length = 8 * 7 := by
    cases fuel with
    | zero => simp [DataW.trod] at hd
    | succ fuel =>
      simp only [DataW.trod, Tryd.underlying64] at hd
      split at hd
      · rename_i hl
        rw [hl]
        kernel_rfl
      · cases hd
  have key := blocks_eq (cs := cs.toList) (f := shC) (k := 7) (n := 8) (fun _ => rfl) (by decide) hl fun i hi => ?_
  · have k2 : cs = rowsC shC 8 := by simpa using key
    exact k2
  · obtain ⟨fuel', d, q, hds, hr⟩ := Lib.array_elem Tryd.underlying64 hd i hi
    rw [c7s] at hr
    simp only [List.getElem?_map, List.getElem?_range hi, Option.map_some, Option.some.injEq] at hds
    subst hds
    generalize (cs.toList.drop (i * 7)).take 7 = r at hr
    obtain ⟨xs, n, rfl, hx, hl2, hlen, hg⟩ := DataW.trod_struct Tryd.underlying63 hr
    rw [c7s] at hl2
    have g0 := hg 0 _ rfl
    have g1 := hg 1 _ rfl
    have g2 := hg 2 _ rfl
    have g3 := hg 3 _ rfl
    have g4 := hg 4 _ rfl
    have g5 := hg 5 _ rfl
    have g6 := hg 6 _ rfl
    match r, hl2, xs, hlen, hx, g0, g1, g2, g3, g4, g5, g6 with
    | [v0, v1, v2, v3, v4, v5, v6], _, [y0, y1, y2, y3, y4, y5, y6], _, hx, g0, g1, g2, g3, g4, g5, g6 =>
      simp [cBool, cInt] at g0 g1 g2 g3 g4 g5 g6
      obtain ⟨a0, e0, rfl⟩ := DataW.trod_bool Tryd.underlying4 g0
      obtain ⟨a1, e1, rfl⟩ := DataW.trod_bool Tryd.underlying4 g1
      obtain ⟨a2, e2, rfl⟩ := DataW.trod_bool Tryd.underlying4 g2
      obtain ⟨a3, e3, rfl⟩ := DataW.trod_bool Tryd.underlying4 g3
      obtain ⟨a4, e4, rfl, _⟩ := DataW.trod_int Tryd.underlying3 g4
      obtain ⟨a5, e5, rfl, _⟩ := DataW.trod_int Tryd.underlying3 g5
      obtain ⟨a6, e6, rfl⟩ := DataW.trod_bool Tryd.underlying4 g6
      simp at e0 e1 e2 e3 e4 e5 e6
      subst e0 e1 e2 e3 e4 e5 e6
      simp [shD] at hx
      obtain ⟨⟨h0, h1, h2, h3, h4, h5, h6⟩, -⟩ := hx
      unfold shC
      rw [h0, h1, h2, h3, h4, h5, h6]
def nmC (i : Nat) : List Value := [.string ⟨(nmT.getD i []).toArray⟩]
theorem nmA_eq : nmA = rowsC nmC 41 := by kernel_rfl
set_option maxRecDepth 100000 in
theorem nm_of (h : Lib.VarReads Tryd.prog W "backstay/rv.names" Rows.laid_backstay_rv_names) : Holds1 W 2 nmA := by
  rw [nm_data] at h
  obtain ⟨g, t, cs, fuel, p, hg, ht, hv, hd⟩ := h
  have hg2 : Tryd.prog.globalNamed "backstay/rv.names" = some 2 := by kernel_rfl
  obtain rfl := Option.some.inj (hg2.symm.trans hg)
  have ht2 : (Tryd.prog.globals[2]?).map (·.type) = some 85 := by kernel_rfl
  obtain rfl := Option.some.inj (ht2.symm.trans ht)
  refine holds_of_var hg2 hv ?_
  have hl : cs.toList.length = 41 * 1 := by
    cases fuel with
    | zero => simp [DataW.trod] at hd
    | succ fuel =>
      simp only [DataW.trod, Tryd.underlying85] at hd
      split at hd
      · rename_i hl
        rw [hl]
        kernel_rfl
      · cases hd
  rw [nmA_eq]
  have key := blocks_eq (cs := cs.toList) (f := nmC) (k := 1) (n := 41) (fun _ => rfl) (by decide) hl fun i hi => ?_
  · have k2 : cs = rowsC nmC 41 := by simpa using key
    exact k2
  · obtain ⟨fuel', d, q, hds, hr⟩ := Lib.array_elem Tryd.underlying85 hd i hi
    rw [cStr] at hr
    simp only [List.getElem?_map, List.getElem?_range hi, Option.map_some, Option.some.injEq] at hds
    subst hds
    obtain ⟨s, e, hx, _⟩ := DataW.trod_string Tryd.underlying9 hr
    rw [e]
    unfold nmD at hx
    injection hx with hx _
    injection hx with hx
    injection hx with hx
    unfold nmC
    rw [hx]
theorem p10_of (h : Lib.VarReads Tryd.prog W "internal/strconv.uint64pow10" Rows.laid_internal_strconv_uint64pow10) : Holds1 W 3 p10A := by
  rw [p10_data] at h
  obtain ⟨g, t, cs, fuel, p, hg, ht, hv, hd⟩ := h
  have hg2 : Tryd.prog.globalNamed "internal/strconv.uint64pow10" = some 3 := by kernel_rfl
  obtain rfl := Option.some.inj (hg2.symm.trans hg)
  have ht2 : (Tryd.prog.globals[3]?).map (·.type) = some 146 := by kernel_rfl
  obtain rfl := Option.some.inj (ht2.symm.trans ht)
  refine holds_of_var hg2 hv ?_
  have := Lib.cells_of_tab (n := 20) Tryd.underlying146 Tryd.underlying129 (by kernel_rfl) (by kernel_rfl) hd
  unfold p10A
  rw [← this]
theorem laid_of (h : laidMetH Tryd.prog laid6 W) : Laid W := by
  rw [MakeChecks.laidMetH_plain _ _ _ (by kernel_rfl)] at h
  exact ⟨fm_of (Lib.laidMet.reads h (by simp [laid6])), sh_of (Lib.laidMet.reads h (by simp [laid6])), nm_of (Lib.laidMet.reads h (by simp [laid6])), p10_of (Lib.laidMet.reads h (by simp [laid6]))⟩
end
theorem door_met (os : Os) (args : Array Value) : laidMetH Tryd.prog laid6 ((World.doorLaid Tryd.prog 4000 os).forCall (fun _ _ => 0) ⟨#[], args, []⟩).memory :=
  laidMetH_of_parts3 (fuel := 8) (laidMet_of_run' 8 (by kernel_rfl) (by kernel_rfl)) (by kernel_rfl) (by kernel_rfl)
end Go.Proofs.YthkaclmnbahieaaDoor
