/-
  The map of the operations by the parts of a word.
-/
import Derived.Test.YthkaclmnbahieaaDoorRvD
import Derived.Maps.OwnSet
import Derived.DeepKeys4
namespace Go.Proofs.YthkaclmnbahieaaDoor
open Go.RowKit

abbrev K3 : Type := Int × Int × Int
theorem laidKeys : laidOutB Tryd.prog = true := by kernel_rfl
theorem keyLaw : Go.Maps.Keyed Tryd.prog 101 := Go.Maps.Keyed.of_law (deep_law_laid laidKeys (m := Tryd.prog.types.size + 1) (of_decide_eq_true (by kernel_rfl)) (of_decide_eq_true (by kernel_rfl)) (by kernel_rfl) (by kernel_rfl))
abbrev keyV (k : K3) : Value := .agg #[.int .i64 k.1, .int .i64 k.2.1, .int .i64 k.2.2]
def FineK (k : K3) : Prop := (-1 ≤ k.1 ∧ k.1 < 4294967296) ∧ (-1 ≤ k.2.1 ∧ k.2.1 < 4294967296) ∧ (-1 ≤ k.2.2 ∧ k.2.2 < 4294967296)
theorem wf64 {x : Int} (h : -1 ≤ x ∧ x < 4294967296) : (Lit.int .i64 x).wf = true := by
  simp [Lit.wf, IntKind.min, IntKind.max, IntKind.signed, IntKind.bits]
  omega
theorem cellsK3 : Tryd.prog.cellsOf 3 = 1 := by kernel_rfl
theorem kI (d : Nat) (a : Int) (h : (Lit.int .i64 a).wf = true) : Tryd.prog.keyLits (d + 1) 3 [.int .i64 a] = some [.int .i64 a] := by
  unfold Program.keyLits
  rw [Tryd.underlying3]
  simp [h]
theorem keyOf_ex {k : K3} (h : FineK k) : ∃ l, keyOf Tryd.prog 101 (keyV k) = some l := by
  obtain ⟨h0, h1, h2⟩ := h
  have w0 := wf64 h0
  have w1 := wf64 h1
  have w2 := wf64 h2
  unfold keyV
  generalize k.1 = a0 at *
  generalize k.2.1 = a1 at *
  generalize k.2.2 = a2 at *
  unfold keyOf
  rw [Tryd.underlying101]
  simp only
  rw [if_pos (by kernel_rfl)]
  have e : Tryd.prog.keyLits (Tryd.prog.types.size + 1) 101 (Value.agg #[.int .i64 a0, .int .i64 a1, .int .i64 a2]).cells.toList = some [.int .i64 a0, .int .i64 a1, .int .i64 a2] := by
    obtain ⟨d, hd⟩ : ∃ d, Tryd.prog.types.size = d + 2 := ⟨Tryd.prog.types.size - 2, by kernel_rfl⟩
    rw [hd]
    unfold Program.keyLits
    rw [Tryd.underlying101]
    simp only
    rw [if_pos ⟨by kernel_rfl, by kernel_rfl⟩]
    simp [Value.cells, cellsK3, kI _ _ w0, kI _ _ w1, kI _ _ w2]
  rw [e]
  exact ⟨_, rfl⟩
noncomputable def keyL (k : K3) : Lit := (keyOf Tryd.prog 101 (keyV k)).getD (.bool false)
theorem keyL_of {k : K3} (h : FineK k) : keyOf Tryd.prog 101 (keyV k) = some (keyL k) := by
  obtain ⟨l, hl⟩ := keyOf_ex h
  unfold keyL
  rw [hl]
  rfl
theorem keyL_inj {y z : K3} (hy : FineK y) (hz : FineK z) (h : keyL y = keyL z) : y = z := by
  have e := keyLaw.inj (keyL_of hy) (by rw [h]; exact keyL_of hz)
  unfold keyV at e
  simp at e
  obtain ⟨e0, e1, e2⟩ := e
  exact Prod.ext e0 (Prod.ext e1 e2)
theorem keyT_fine {i : Nat} (h : i < 41) : FineK (keyT i) := by
  have : ∀ i, i < 41 → (-1 ≤ (keyT i).1 ∧ (keyT i).1 < 4294967296) ∧ (-1 ≤ (keyT i).2.1 ∧ (keyT i).2.1 < 4294967296) ∧ (-1 ≤ (keyT i).2.2 ∧ (keyT i).2.2 < 4294967296) := by decide +kernel
  exact this i h
/-- What the map of the first n operations says. -/
def MapOK (n : Nat) (D : DataW Unit) : Prop := ∀ k, FineK k → Go.Maps.has D (keyL k) = (look n k).isSome ∧ (∀ i, look n k = some i → ∀ z, D.atKey (keyL k) z = .lit (.int .i64 (i : Int)))
theorem mapOK_nil : MapOK 0 (.map []) := fun _ _ => ⟨rfl, fun _ h => by cases h⟩
set_option maxRecDepth 100000 in
theorem mapOK_put {D : DataW Unit} {n : Nat} (hD : Go.Maps.IsMap D) (h : MapOK n D) (hn : n < 41) : MapOK (n + 1) (D.put (keyL (keyT n)) (.lit (.int .i64 (n : Int)))) := fun k hk => by
  have hky := keyLaw.key (keyL_of (keyT_fine hn))
  unfold look
  by_cases e : keyT n = k
  · subst e
    rw [if_pos rfl]
    refine ⟨Go.Maps.has_put_same hD hky _, fun i hi z => ?_⟩
    injection hi with hi
    subst hi
    exact Go.Maps.atKey_put_same hD hky _ z
  · have hne : keyL k ≠ keyL (keyT n) := fun he => e (keyL_inj hk (keyT_fine hn) he).symm
    rw [if_neg e, Go.Maps.has_put_other hne]
    obtain ⟨h1, h2⟩ := h k hk
    refine ⟨h1, fun i hi z => ?_⟩
    rw [Go.Maps.atKey_put_other hne]
    exact h2 i hi z
/-- The map of the first n operations lies in block M. -/
def MapN (w : World) (M n : Nat) : Prop := ∃ D, w.ownsMap Tryd.prog 101 (plainElem (H := Unit) Tryd.prog 3) M n D ∧ MapOK n D
theorem zeroInt (w : World) : (zeroValue 3).run Tryd.prog w = .ok (.int .i64 0) w := by kernel_rfl
theorem infoI : (Tryd.prog.info? 3).map (fun i => (i.zero, i.size, i.bytes)) = some (some (.int .i64 0), 1, 8) := by kernel_rfl
def lookV (n : Nat) (k : K3) : Value := .tuple #[.int .i64 (((look n k).getD 0 : Nat) : Int), .bool (look n k).isSome]
theorem MapN.block {w w' : World} {M n : Nat} (h : MapN w M n) (hb : w'.heap[M]? = w.heap[M]?) : MapN w' M n := by
  obtain ⟨D, ⟨es, clock, hM, r⟩, h2⟩ := h
  exact ⟨D, ⟨es, clock, hb.trans hM, r⟩, h2⟩
theorem MapN.lt {w : World} {M n : Nat} (h : MapN w M n) : M < w.heap.size := by
  obtain ⟨D, h, _⟩ := h
  exact h.lt
theorem MapN.below {w w' : World} {M n : Nat} (h : MapN w M n) (hb : Below w.heap.size w w') : MapN w' M n := h.block (hb.block _ h.lt)
set_option maxRecDepth 100000 in
theorem MapN.look {w : World} {M n : Nat} (h : MapN w M n) (_ : n ≤ 41) {k : K3} (hk : FineK k) : (Instr.lookup 79 (.map (some M)) (keyV k) true).run Tryd.prog w = .ok (lookV n k) w := by
  obtain ⟨D, hM, hD⟩ := h
  obtain ⟨v, ps, hrun, hR⟩ := hM.look_ok keyLaw Tryd.underlying79 (zeroInt w) (plainElem_int (H := Unit) Tryd.underlying3 (wf64 (by omega))) (keyL_of hk)
  obtain ⟨h1, h2⟩ := hD k hk
  rw [hrun, h1]
  unfold lookV
  obtain ⟨a, rfl, hz, -⟩ := plainElem_int_inv Tryd.underlying3 hR
  rcases e : Go.Proofs.YthkaclmnbahieaaDoor.look n k with _ | i
  · have hno := Go.Maps.atKey_of_not_has (D := D) (k := keyL k) (by rw [h1, e]; rfl) (.lit (.int .i64 0))
    rw [hno] at hz
    injection hz with hz _
    injection hz with hz
    injection hz with _ hz
    rw [← hz]
    rfl
  · rw [h2 i e] at hz
    injection hz with hz _
    injection hz with hz
    injection hz with _ hz
    subst hz
    rfl
theorem infoF : (Tryd.prog.info? 67).map (·.size) = some FA.size := by kernel_rfl
set_option maxRecDepth 100000 in
theorem fa_index (i : Nat) (hi : i < 41) : ∀ w, (Instr.index 67 (.agg FA) (.int .i64 (i : Nat))).run Tryd.prog w = .ok (.agg #[.int .u32 (kT i : Nat), .int .u32 (oT i : Nat), .int .u32 (f3T i : Nat), .int .u32 (f7T i : Nat)]) w := by
  match i, hi with
  | 0, _ => exact fun w => by kernel_rfl
  | 1, _ => exact fun w => by kernel_rfl
  | 2, _ => exact fun w => by kernel_rfl
  | 3, _ => exact fun w => by kernel_rfl
  | 4, _ => exact fun w => by kernel_rfl
  | 5, _ => exact fun w => by kernel_rfl
  | 6, _ => exact fun w => by kernel_rfl
  | 7, _ => exact fun w => by kernel_rfl
  | 8, _ => exact fun w => by kernel_rfl
  | 9, _ => exact fun w => by kernel_rfl
  | 10, _ => exact fun w => by kernel_rfl
  | 11, _ => exact fun w => by kernel_rfl
  | 12, _ => exact fun w => by kernel_rfl
  | 13, _ => exact fun w => by kernel_rfl
  | 14, _ => exact fun w => by kernel_rfl
  | 15, _ => exact fun w => by kernel_rfl
  | 16, _ => exact fun w => by kernel_rfl
  | 17, _ => exact fun w => by kernel_rfl
  | 18, _ => exact fun w => by kernel_rfl
  | 19, _ => exact fun w => by kernel_rfl
  | 20, _ => exact fun w => by kernel_rfl
  | 21, _ => exact fun w => by kernel_rfl
  | 22, _ => exact fun w => by kernel_rfl
  | 23, _ => exact fun w => by kernel_rfl
  | 24, _ => exact fun w => by kernel_rfl
  | 25, _ => exact fun w => by kernel_rfl
  | 26, _ => exact fun w => by kernel_rfl
  | 27, _ => exact fun w => by kernel_rfl
  | 28, _ => exact fun w => by kernel_rfl
  | 29, _ => exact fun w => by kernel_rfl
  | 30, _ => exact fun w => by kernel_rfl
  | 31, _ => exact fun w => by kernel_rfl
  | 32, _ => exact fun w => by kernel_rfl
  | 33, _ => exact fun w => by kernel_rfl
  | 34, _ => exact fun w => by kernel_rfl
  | 35, _ => exact fun w => by kernel_rfl
  | 36, _ => exact fun w => by kernel_rfl
  | 37, _ => exact fun w => by kernel_rfl
  | 38, _ => exact fun w => by kernel_rfl
  | 39, _ => exact fun w => by kernel_rfl
  | 40, _ => exact fun w => by kernel_rfl
  | n + 41, h => exact absurd h (by omega)
theorem underM : Tryd.prog.underlying 79 = some (.map 101 3) := Tryd.underlying79
theorem cells3r {W : World} {B : Nat} {v0 v1 v2 : Value} {t : TypeId} (h : W.heap[B]? = some (.cells #[v0, v1, v2] t (0, 0))) : W.cell? ⟨B, 0, none⟩ = some v0 ∧ W.cell? ⟨B, 1, none⟩ = some v1 ∧ W.cell? ⟨B, 2, none⟩ = some v2 := by
  refine ⟨?_, ?_, ?_⟩ <;> simp [World.cell?, h]
set_option maxRecDepth 100000 in
set_option maxHeartbeats 8000000 in
theorem newOps_any (w : World) (hL : Laid w) : Calls Tryd.prog 43 #[] w fun e w' => ∃ M, e = .returned (.map (some M)) ∧ MapN w' M 41 ∧ w.heap.size ≤ M ∧ Below w.heap.size w w' := by
  have hmm := @run_makeMap Tryd.prog
  go_enter Tryd.func43, Tryd.ntmps43
  go_upto_region 2 with fail
  have hM : MapN (w.alloc (.map #[] 0)) w.heap.size 0 := ⟨_, World.ownsMap_made (H := Unit) w Tryd.prog 101 (plainElem Tryd.prog 3), mapOK_nil⟩
  have hb : Below w.heap.size w (w.alloc (.map #[] 0)) := (Below.refl _ _).alloc (Nat.le_refl _) _
  replace hL := hL.below hb
  generalize World.alloc w _ = W1 at hM hb hL ⊢
  clear hmm
  obtain ⟨tF, fr, hF⟩ := hL.fmB
  go_upto_region 3 with (refine wpList_load_row rfl 67 _ rfl 1 rfl tF FA fr _ hF Tryd.underlying67 rfl infoF ?_)
  clear hF hL
  go_loopw [7] (fun zi wr => ∃ j : Nat, j ≤ 41 ∧ zi = .int .i64 (j : Int) ∧ Below w.heap.size w wr ∧ MapN wr w.heap.size j) (fun zi _ => 41 - (intOf zi).toNat)
  case atStart => exact ⟨0, by omega, rfl, hb, hM⟩
  case round =>
    clear hb hM
    obtain ⟨j, hj, rfl, hbw, hmw⟩ := hrel
    by_cases hlt : j < 41
    · have hidx := fa_index j hlt
      have HK := Lib.hid (kT_le hlt)
      have HF := Lib.hid (keyT_fine hlt)
      go_upto_region 5 with fail
      have hf := heap_alloc_new wr (.cells #[.int .u32 (kT j : Nat), .int .u32 (oT j : Nat), .int .u32 (f3T j : Nat), .int .u32 (f7T j : Nat)] 66)
      replace hbw := hbw.alloc hbw.size (.cells #[.int .u32 (kT j : Nat), .int .u32 (oT j : Nat), .int .u32 (f3T j : Nat), .int .u32 (f7T j : Nat)] 66)
      replace hmw := hmw.below ((Below.refl _ _).alloc (Nat.le_refl _) (.cells #[.int .u32 (kT j : Nat), .int .u32 (oT j : Nat), .int .u32 (f3T j : Nat), .int .u32 (f7T j : Nat)] 66))
      clear hidx
      generalize World.alloc wr _ = W2 at hf hbw hmw ⊢
      generalize wr.heap.size = F at hf ⊢
      obtain ⟨f0, f1, f2, f3⟩ := cells4r hf
      have hFl := lt_of_block hf
      clear hf
      obtain hk | hk | hk | hk | hk | hk | hk | hk : kT j = 0 ∨ kT j = 1 ∨ kT j = 2 ∨ kT j = 3 ∨ kT j = 4 ∨ kT j = 5 ∨ kT j = 6 ∨ kT j = 7 := by have := HK.out; omega
      · rw [hk] at f0
        have hkey : keyT j = ((oT j : Int), ((f3T j : Nat) : Int), ((f7T j : Nat) : Int)) := by
          unfold keyT
          rw [hk]
          simp
        have HKY := Lib.hid hkey
        clear hkey hk
        have ho := oT_lt hlt
        have h3 := f3T_lt hlt
        have h7 := (f7T_lt hlt).1
        generalize oT j = o at *
        generalize f3T j = g3 at *
        generalize f7T j = g7 at *
        obtain ⟨D, hown, hok⟩ := hmw
        have hwM := hown.lt
        have hput := Lib.hid (mapOK_put hown.isMap hok hlt)
        have HFI := Lib.hid (plainElem_int (H := Unit) Tryd.underlying3 (a := ((j : Nat) : Int)) (wf64 (by omega)))
        have HLL := Lib.hid (keyL_of HF.out)
        rw [HKY.out] at HLL hput
        clear hok
        go_wp2_with (at_mapUpdate; refine wpList_mapUpdate_in _ rfl _ _ _ 79 rfl 101 3 keyLaw underM (plainElem (H := Unit) Tryd.prog 3) w.heap.size j D rfl (hown.alloc _) (by unfold maxLen; omega) _ _ _ rfl rfl HLL.out _ [] HFI.out ?_)
        intro w5 hown5 hturn
        have hg5 := hturn.grown
        have hb5 : Below w.heap.size w w5 := (hbw.alloc hbw.size _).grown hg5 (by have := hbw.size; simp; omega) (by intro k hk; injection hk with hk; omega)
        have hm5 : MapN w5 w.heap.size (j + 1) := ⟨_, hown5, hput.out⟩
        clear hown hown5 hturn hg5 hput hbw f0 f1 f2 f3 hFl
        go_wp2
        go_roundw
        case rel => exact ⟨j + 1, by omega, rfl, hb5, hm5⟩
        case measure => simp [intOf]; omega
      · rw [hk] at f0
        have hkey : keyT j = ((oT j : Int), ((f3T j : Nat) : Int), -1) := by
          unfold keyT
          rw [hk]
          simp
        have HKY := Lib.hid hkey
        clear hkey hk
        have ho := oT_lt hlt
        have h3 := f3T_lt hlt
        have h7 := (f7T_lt hlt).1
        generalize oT j = o at *
        generalize f3T j = g3 at *
        generalize f7T j = g7 at *
        obtain ⟨D, hown, hok⟩ := hmw
        have hwM := hown.lt
        have hput := Lib.hid (mapOK_put hown.isMap hok hlt)
        have HFI := Lib.hid (plainElem_int (H := Unit) Tryd.underlying3 (a := ((j : Nat) : Int)) (wf64 (by omega)))
        have HLL := Lib.hid (keyL_of HF.out)
        rw [HKY.out] at HLL hput
        clear hok
        go_wp2_with (at_mapUpdate; refine wpList_mapUpdate_in _ rfl _ _ _ 79 rfl 101 3 keyLaw underM (plainElem (H := Unit) Tryd.prog 3) w.heap.size j D rfl (hown.alloc _) (by unfold maxLen; omega) _ _ _ rfl rfl HLL.out _ [] HFI.out ?_)
        intro w5 hown5 hturn
        have hg5 := hturn.grown
        have hb5 : Below w.heap.size w w5 := (hbw.alloc hbw.size _).grown hg5 (by have := hbw.size; simp; omega) (by intro k hk; injection hk with hk; omega)
        have hm5 : MapN w5 w.heap.size (j + 1) := ⟨_, hown5, hput.out⟩
        clear hown hown5 hturn hg5 hput hbw f0 f1 f2 f3 hFl
        go_wp2
        go_roundw
        case rel => exact ⟨j + 1, by omega, rfl, hb5, hm5⟩
        case measure => simp [intOf]; omega
      · rw [hk] at f0
        have hkey : keyT j = ((oT j : Int), ((f3T j : Nat) : Int), ((f7T j : Nat) : Int)) := by
          unfold keyT
          rw [hk]
          simp
        have HKY := Lib.hid hkey
        clear hkey hk
        have ho := oT_lt hlt
        have h3 := f3T_lt hlt
        have h7 := (f7T_lt hlt).1
        generalize oT j = o at *
        generalize f3T j = g3 at *
        generalize f7T j = g7 at *
        obtain ⟨D, hown, hok⟩ := hmw
        have hwM := hown.lt
        have hput := Lib.hid (mapOK_put hown.isMap hok hlt)
        have HFI := Lib.hid (plainElem_int (H := Unit) Tryd.underlying3 (a := ((j : Nat) : Int)) (wf64 (by omega)))
        have HLL := Lib.hid (keyL_of HF.out)
        rw [HKY.out] at HLL hput
        clear hok
        go_wp2_with (at_mapUpdate; refine wpList_mapUpdate_in _ rfl _ _ _ 79 rfl 101 3 keyLaw underM (plainElem (H := Unit) Tryd.prog 3) w.heap.size j D rfl (hown.alloc _) (by unfold maxLen; omega) _ _ _ rfl rfl HLL.out _ [] HFI.out ?_)
        intro w5 hown5 hturn
        have hg5 := hturn.grown
        have hb5 : Below w.heap.size w w5 := (hbw.alloc hbw.size _).grown hg5 (by have := hbw.size; simp; omega) (by intro k hk; injection hk with hk; omega)
        have hm5 : MapN w5 w.heap.size (j + 1) := ⟨_, hown5, hput.out⟩
        clear hown hown5 hturn hg5 hput hbw f0 f1 f2 f3 hFl
        go_wp2
        go_roundw
        case rel => exact ⟨j + 1, by omega, rfl, hb5, hm5⟩
        case measure => simp [intOf]; omega
      · rw [hk] at f0
        have hkey : keyT j = ((oT j : Int), -1, -1) := by
          unfold keyT
          rw [hk]
          simp
        have HKY := Lib.hid hkey
        clear hkey hk
        have ho := oT_lt hlt
        have h3 := f3T_lt hlt
        have h7 := (f7T_lt hlt).1
        generalize oT j = o at *
        generalize f3T j = g3 at *
        generalize f7T j = g7 at *
        obtain ⟨D, hown, hok⟩ := hmw
        have hwM := hown.lt
        have hput := Lib.hid (mapOK_put hown.isMap hok hlt)
        have HFI := Lib.hid (plainElem_int (H := Unit) Tryd.underlying3 (a := ((j : Nat) : Int)) (wf64 (by omega)))
        have HLL := Lib.hid (keyL_of HF.out)
        rw [HKY.out] at HLL hput
        clear hok
        go_wp2_with (at_mapUpdate; refine wpList_mapUpdate_in _ rfl _ _ _ 79 rfl 101 3 keyLaw underM (plainElem (H := Unit) Tryd.prog 3) w.heap.size j D rfl (hown.alloc _) (by unfold maxLen; omega) _ _ _ rfl rfl HLL.out _ [] HFI.out ?_)
        intro w5 hown5 hturn
        have hg5 := hturn.grown
        have hb5 : Below w.heap.size w w5 := (hbw.alloc hbw.size _).grown hg5 (by have := hbw.size; simp; omega) (by intro k hk; injection hk with hk; omega)
        have hm5 : MapN w5 w.heap.size (j + 1) := ⟨_, hown5, hput.out⟩
        clear hown hown5 hturn hg5 hput hbw f0 f1 f2 f3 hFl
        go_wp2
        go_roundw
        case rel => exact ⟨j + 1, by omega, rfl, hb5, hm5⟩
        case measure => simp [intOf]; omega
      · rw [hk] at f0
        have hkey : keyT j = ((oT j : Int), ((f3T j : Nat) : Int), -1) := by
          unfold keyT
          rw [hk]
          simp
        have HKY := Lib.hid hkey
        clear hkey hk
        have ho := oT_lt hlt
        have h3 := f3T_lt hlt
        have h7 := (f7T_lt hlt).1
        generalize oT j = o at *
        generalize f3T j = g3 at *
        generalize f7T j = g7 at *
        obtain ⟨D, hown, hok⟩ := hmw
        have hwM := hown.lt
        have hput := Lib.hid (mapOK_put hown.isMap hok hlt)
        have HFI := Lib.hid (plainElem_int (H := Unit) Tryd.underlying3 (a := ((j : Nat) : Int)) (wf64 (by omega)))
        have HLL := Lib.hid (keyL_of HF.out)
        rw [HKY.out] at HLL hput
        clear hok
        go_wp2_with (at_mapUpdate; refine wpList_mapUpdate_in _ rfl _ _ _ 79 rfl 101 3 keyLaw underM (plainElem (H := Unit) Tryd.prog 3) w.heap.size j D rfl (hown.alloc _) (by unfold maxLen; omega) _ _ _ rfl rfl HLL.out _ [] HFI.out ?_)
        intro w5 hown5 hturn
        have hg5 := hturn.grown
        have hb5 : Below w.heap.size w w5 := (hbw.alloc hbw.size _).grown hg5 (by have := hbw.size; simp; omega) (by intro k hk; injection hk with hk; omega)
        have hm5 : MapN w5 w.heap.size (j + 1) := ⟨_, hown5, hput.out⟩
        clear hown hown5 hturn hg5 hput hbw f0 f1 f2 f3 hFl
        go_wp2
        go_roundw
        case rel => exact ⟨j + 1, by omega, rfl, hb5, hm5⟩
        case measure => simp [intOf]; omega
      · rw [hk] at f0
        have hkey : keyT j = ((oT j : Int), ((f3T j : Nat) : Int), -1) := by
          unfold keyT
          rw [hk]
          simp
        have HKY := Lib.hid hkey
        clear hkey hk
        have ho := oT_lt hlt
        have h3 := f3T_lt hlt
        have h7 := (f7T_lt hlt).1
        generalize oT j = o at *
        generalize f3T j = g3 at *
        generalize f7T j = g7 at *
        obtain ⟨D, hown, hok⟩ := hmw
        have hwM := hown.lt
        have hput := Lib.hid (mapOK_put hown.isMap hok hlt)
        have HFI := Lib.hid (plainElem_int (H := Unit) Tryd.underlying3 (a := ((j : Nat) : Int)) (wf64 (by omega)))
        have HLL := Lib.hid (keyL_of HF.out)
        rw [HKY.out] at HLL hput
        clear hok
        go_wp2_with (at_mapUpdate; refine wpList_mapUpdate_in _ rfl _ _ _ 79 rfl 101 3 keyLaw underM (plainElem (H := Unit) Tryd.prog 3) w.heap.size j D rfl (hown.alloc _) (by unfold maxLen; omega) _ _ _ rfl rfl HLL.out _ [] HFI.out ?_)
        intro w5 hown5 hturn
        have hg5 := hturn.grown
        have hb5 : Below w.heap.size w w5 := (hbw.alloc hbw.size _).grown hg5 (by have := hbw.size; simp; omega) (by intro k hk; injection hk with hk; omega)
        have hm5 : MapN w5 w.heap.size (j + 1) := ⟨_, hown5, hput.out⟩
        clear hown hown5 hturn hg5 hput hbw f0 f1 f2 f3 hFl
        go_wp2
        go_roundw
        case rel => exact ⟨j + 1, by omega, rfl, hb5, hm5⟩
        case measure => simp [intOf]; omega
      · rw [hk] at f0
        have hkey : keyT j = ((oT j : Int), -1, -1) := by
          unfold keyT
          rw [hk]
          simp
        have HKY := Lib.hid hkey
        clear hkey hk
        have ho := oT_lt hlt
        have h3 := f3T_lt hlt
        have h7 := (f7T_lt hlt).1
        generalize oT j = o at *
        generalize f3T j = g3 at *
        generalize f7T j = g7 at *
        obtain ⟨D, hown, hok⟩ := hmw
        have hwM := hown.lt
        have hput := Lib.hid (mapOK_put hown.isMap hok hlt)
        have HFI := Lib.hid (plainElem_int (H := Unit) Tryd.underlying3 (a := ((j : Nat) : Int)) (wf64 (by omega)))
        have HLL := Lib.hid (keyL_of HF.out)
        rw [HKY.out] at HLL hput
        clear hok
        go_wp2_with (at_mapUpdate; refine wpList_mapUpdate_in _ rfl _ _ _ 79 rfl 101 3 keyLaw underM (plainElem (H := Unit) Tryd.prog 3) w.heap.size j D rfl (hown.alloc _) (by unfold maxLen; omega) _ _ _ rfl rfl HLL.out _ [] HFI.out ?_)
        intro w5 hown5 hturn
        have hg5 := hturn.grown
        have hb5 : Below w.heap.size w w5 := (hbw.alloc hbw.size _).grown hg5 (by have := hbw.size; simp; omega) (by intro k hk; injection hk with hk; omega)
        have hm5 : MapN w5 w.heap.size (j + 1) := ⟨_, hown5, hput.out⟩
        clear hown hown5 hturn hg5 hput hbw f0 f1 f2 f3 hFl
        go_wp2
        go_roundw
        case rel => exact ⟨j + 1, by omega, rfl, hb5, hm5⟩
        case measure => simp [intOf]; omega
      · rw [hk] at f0
        have hkey : keyT j = ((oT j : Int), -1, ((f7T j : Nat) : Int)) := by
          unfold keyT
          rw [hk]
          simp
        have HKY := Lib.hid hkey
        clear hkey hk
        have ho := oT_lt hlt
        have h3 := f3T_lt hlt
        have h7 := (f7T_lt hlt).1
        generalize oT j = o at *
        generalize f3T j = g3 at *
        generalize f7T j = g7 at *
        obtain ⟨D, hown, hok⟩ := hmw
        have hwM := hown.lt
        have hput := Lib.hid (mapOK_put hown.isMap hok hlt)
        have HFI := Lib.hid (plainElem_int (H := Unit) Tryd.underlying3 (a := ((j : Nat) : Int)) (wf64 (by omega)))
        have HLL := Lib.hid (keyL_of HF.out)
        rw [HKY.out] at HLL hput
        clear hok
        go_wp2_with (at_mapUpdate; refine wpList_mapUpdate_in _ rfl _ _ _ 79 rfl 101 3 keyLaw underM (plainElem (H := Unit) Tryd.prog 3) w.heap.size j D rfl (hown.alloc _) (by unfold maxLen; omega) _ _ _ rfl rfl HLL.out _ [] HFI.out ?_)
        intro w5 hown5 hturn
        have hg5 := hturn.grown
        have hb5 : Below w.heap.size w w5 := (hbw.alloc hbw.size _).grown hg5 (by have := hbw.size; simp; omega) (by intro k hk; injection hk with hk; omega)
        have hm5 : MapN w5 w.heap.size (j + 1) := ⟨_, hown5, hput.out⟩
        clear hown hown5 hturn hg5 hput hbw f0 f1 f2 f3 hFl
        go_wp2
        go_roundw
        case rel => exact ⟨j + 1, by omega, rfl, hb5, hm5⟩
        case measure => simp [intOf]; omega
    · obtain rfl : j = 41 := by omega
      go_wp2
      go_ret
      exact ⟨_, rfl, hmw, Nat.le_refl _, hbw⟩
end Go.Proofs.YthkaclmnbahieaaDoor
