/-
  check and Step of the program at a machine whose End is any number but 0. A machine that came in as an argument.
-/
import Derived.Test.YthkaclmnbahieaaDoorRvZv
import Derived.OpenShut
namespace Go.Proofs.YthkaclmnbahieaaDoor
open Go.RowKit

/-- A machine as a value that came in: its End may be any number. -/
structure MachI (MC : Array Value) (R : Nat → Nat) (fl : Int) (at_ : Nat) (mem : Value) (fin : Int) : Prop where
  size : MC.size = 36
  reg : ∀ j, j < 32 → MC[j]? = some (.int .u32 (R j : Nat))
  flg : MC[32]? = some (.int .i64 fl)
  plc : MC[33]? = some (.int .u32 (at_ : Nat))
  mem : MC[34]? = some mem
  fin : MC[35]? = some (.int .i64 fin)
theorem MachI.zero {MC : Array Value} {R : Nat → Nat} {fl : Int} {at_ : Nat} {mem : Value} (h : MachI MC R fl at_ mem 0) : MachV MC R fl at_ mem 0 := ⟨h.size, h.reg, h.flg, h.plc, h.mem, h.fin⟩
theorem MachI.cells {MC : Array Value} {R : Nat → Nat} {fl : Int} {at_ : Nat} {mem : Value} {fin : Int} (h : MachI MC R fl at_ mem fin) {w : World} {G : Nat} (hG : w.heap[G]? = some (.cells MC 52 (0, 0))) : (∀ j, j < 32 → w.cell? ⟨G, j, none⟩ = some (.int .u32 (R j : Nat))) ∧ w.cell? ⟨G, 32, none⟩ = some (.int .i64 fl) ∧ w.cell? ⟨G, 33, none⟩ = some (.int .u32 (at_ : Nat)) ∧ w.cell? ⟨G, 34, none⟩ = some mem ∧ w.cell? ⟨G, 35, none⟩ = some (.int .i64 fin) := by
  refine ⟨fun j hj => ?_, ?_, ?_, ?_, ?_⟩
  · simp [World.cell?, hG, h.reg j hj]
  · simp [World.cell?, hG, h.flg]
  · simp [World.cell?, hG, h.plc]
  · simp [World.cell?, hG, h.mem]
  · simp [World.cell?, hG, h.fin]
/-- What is wrong with a machine that does not run. -/
def endM (n r : Nat) : Nat := if 32768 < n ∨ r ≠ 0 then 1 else 9
section
variable {MC : Array Value} {R : Nat → Nat} {fl : Int} {at_ : Nat} {fin : Int} {A : Option Addr} {n c : Nat}
set_option maxRecDepth 100000 in
set_option maxHeartbeats 4000000 in
theorem check_end (h : MachI MC R fl at_ (.slice A n c) fin) (hf : fin ≠ 0) (w : World) : Calls Tryd.prog 56 #[.agg MC] w fun e w' => e = .returned (.int .i64 (endM n (R 0) : Nat)) ∧ Below w.heap.size w w' := by
  have hb0 : Below w.heap.size w (w.alloc (.cells MC 52)) := (Below.refl _ _).alloc (Nat.le_refl _) _
  have hB := heap_alloc_new w (.cells MC 52)
  have HB0 := Lib.hid hb0
  obtain ⟨c0, -, -, c34, c35⟩ := h.cells hB
  have cR := c0 0 (by omega)
  obtain ⟨r, hr⟩ : ∃ r, r = R 0 := ⟨_, rfl⟩
  rw [← hr] at cR ⊢
  clear h hb0 hB c0 hr
  by_cases h1 : 32768 < n
  · have d1 : decide ((n : Int) > 32768) = true := decide_eq_true (by omega)
    have HE := Lib.hid (show endM n r = 1 from if_pos (Or.inl h1))
    go_enter Tryd.func56, Tryd.ntmps56
    go_upto_region 1 with fail
    generalize World.alloc w _ = W0 at HB0 cR c34 c35 ⊢
    go_wp2
    exact bodyPost_ret (v := .int .i64 1) (by simp [results, Tryd.results56, go_sem]) rfl ⟨by rw [HE.out]; rfl, HB0.out⟩
  · have d1 : decide ((n : Int) > 32768) = false := decide_eq_false (by omega)
    by_cases h2 : r = 0
    · subst h2
      have d2 : (fin == 0) = false := beq_eq_false_iff_ne.mpr hf
      have d3 : (fin != 0) = true := bne_iff_ne.mpr hf
      have HE := Lib.hid (show endM n 0 = 9 from if_neg (by omega))
      go_enter Tryd.func56, Tryd.ntmps56
      go_upto_region 1 with fail
      generalize World.alloc w _ = W0 at HB0 cR c34 c35 ⊢
      go_wp2
      exact bodyPost_ret (v := .int .i64 9) (by simp [results, Tryd.results56, go_sem]) rfl ⟨by rw [HE.out]; rfl, HB0.out⟩
    · have d2 : ((r : Int) == 0) = false := beq_eq_false_iff_ne.mpr (by omega)
      have d3 : ((r : Int) != 0) = true := bne_iff_ne.mpr (by omega)
      have HE := Lib.hid (show endM n r = 1 from if_pos (Or.inr h2))
      go_enter Tryd.func56, Tryd.ntmps56
      go_upto_region 1 with fail
      generalize World.alloc w _ = W0 at HB0 cR c34 c35 ⊢
      go_wp2
      exact bodyPost_ret (v := .int .i64 1) (by simp [results, Tryd.results56, go_sem]) rfl ⟨by rw [HE.out]; rfl, HB0.out⟩
end
section
variable {w : World} {MC : Array Value} {R : Nat → Nat} {fl : Int} {pc n c : Nat} {fin : Int} {A : Option Addr}
set_option maxRecDepth 100000 in
set_option maxHeartbeats 4000000 in
theorem Step_end (h : MachI MC R fl pc (.slice A n c) fin) (hf : fin ≠ 0) (Z : Nat) (hZ : endM n (R 0) = Z) (hn0 : ¬ Z = 0) :
    Calls Tryd.prog 30 #[.agg MC] w fun e w' => e = .returned (.tuple #[.agg zeroMC, .int .i64 (Z : Nat)]) ∧ Below w.heap.size w w' := by
  have d1 : ((Z : Int) != 0) = true := bne_iff_ne.mpr (by omega)
  have d2 : ((Z : Int) == 0) = false := beq_eq_false_iff_ne.mpr (by omega)
  have hb0 : Below w.heap.size w (w.alloc (.cells MC 52)) := (Below.refl _ _).alloc (Nat.le_refl _) _
  have hx := heap_alloc_new w (.cells MC 52)
  have HCk := Lib.hid (fun w1 => check_end h hf w1)
  rw [hZ] at HCk
  have hs := h.size
  go_enter Tryd.func30, Tryd.ntmps30
  go_upto_region 1 with fail
  have hy : ((w.alloc (.cells MC 52)).alloc (.cells zeroMC 52)).heap[w.heap.size + 1]? = some (.cells zeroMC 52 (0, 0)) := by
    have q := heap_alloc_new (w.alloc (.cells MC 52)) (.cells zeroMC 52)
    rw [show (w.alloc (.cells MC 52)).heap.size = w.heap.size + 1 from Array.size_push ..] at q
    exact q
  have hba : Below (w.alloc (.cells MC 52)).heap.size (w.alloc (.cells MC 52)) ((w.alloc (.cells MC 52)).alloc (.cells zeroMC 52)) := (Below.refl _ _).alloc (Nat.le_refl _) _
  replace hx := (hba.block _ (lt_of_block hx)).trans hx
  have hbb : Below w.heap.size w ((w.alloc (.cells MC 52)).alloc (.cells zeroMC 52)) := hb0.trans (hba.mono hb0.size)
  generalize World.alloc (World.alloc w _) _ = W at hx hy hbb ⊢
  clear hb0 hba
  obtain ⟨X, hX⟩ : ∃ X, X = w.heap.size := ⟨_, rfl⟩
  rw [← hX] at hx hy ⊢
  have HW := Lib.hid hbb
  have HXe := Lib.hid hX
  clear hbb hX
  go_wp2_with (refine wpList_load_row rfl _ _ rfl X rfl 52 MC (0, 0) _ hx Tryd.underlying52 rfl (by rw [hs]; kernel_rfl) ?_)
  refine (HCk.out _).mono ?_
  rintro e w3 ⟨rfl, hb3⟩
  replace hy := (hb3.block _ (lt_of_block hy)).trans hy
  replace HW := Lib.hid (HW.out.trans (hb3.mono HW.out.size))
  clear hb3 h hx hn0
  go_wp2_with (refine wpList_store_row rfl _ _ _ rfl (X + 1) zeroMC rfl rfl 52 _ hy size_zero rfl one_zero ?_)
  have rr := setRow_heap _ (X + 1) _ zeroMC 52 (0, 0) hy
  refine bodyPost_ret (res2c rfl _ _ (X + 1) zeroMC rfl (loadMc _ (X + 1) zeroMC rfl rr)) rfl ⟨rfl, bel_setRow HW.out (show w.heap.size ≤ X + 1 by rw [HXe.out]; exact Nat.le_succ _) zeroMC⟩
end
end Go.Proofs.YthkaclmnbahieaaDoor

namespace Go.Proofs.YthkaclmnbahieaaDoor
open Go.ChangeShapes Go.WideShapes Go.ChangeAt Go.WideMaps Go.WideElems Go.RowKit Go.Deep Go.Joins

theorem one_at {cs : List Value} {j : Nat} {x : Value} (h : (cs.drop j).take 1 = [x]) : cs[j]? = some x := by
  have h1 := congrArg (·[0]?) h
  simpa using h1
def regAt (MC : Array Value) (j : Nat) : Nat := if j < 32 then (match MC[j]? with
  | some v => (intOf v).toNat
  | none => 0) else 0
section
variable {H : Type} {enc : TypeId × Value → H} {W : World} {base b0 : Nat} {held : Bool}
set_option maxRecDepth 100000 in
theorem byn_cells {cs : List Value} {fuel : Nat} {x : DataW H × List MemPlace} (hf : DataW.trod enc Tryd.prog W base (fun _ => true) held fuel 35 cs = some x) :
    ∃ A n c l, cs = [.slice A n c] ∧ Byn W A n c l := by
  rcases open_ints Tryd.underlying35 Tryd.underlying5 cellsU8 hf with ⟨rfl, -⟩ | ⟨a, n, c, zs, rfl, -, hl, hm, hz, -, hcell, hwz⟩
  · exact ⟨_, _, _, [], rfl, ⟨rfl, Nat.le_refl _, by omega, fun j hj => by omega, .inl rfl⟩, fun _ => rfl⟩
  · simp only [if_true] at hz
    unfold maxLen at hm
    refine ⟨_, n, c, zs.take n, rfl, ⟨by simp; omega, hl, by omega, fun j hj => ?_, ?_⟩, fun h => by cases h⟩
    · have e2 : (zs.take n)[j]! = zs[j]'(by omega) := by
        simp [List.getElem!_eq_getElem?_getD, hj, List.getElem?_eq_getElem (show j < zs.length by omega)]
      rw [e2]
      have := wf_byte (hwz (zs[j]'(by omega)) (List.getElem_mem _))
      omega
    · by_cases hn : n = 0
      · exact .inl hn
      · obtain ⟨ab, ao, spot⟩ := a
        have hspot : spot = none := by simpa [Addr.add] using World.cell?_spot (hcell 0 (by omega))
        subst hspot
        have hb : ab < W.heap.size := by
          have h0 := hcell 0 (by omega)
          rw [Addr.add_lit] at h0
          apply Classical.byContradiction
          intro hb
          have : W.heap[ab]? = none := Array.getElem?_eq_none (by omega)
          simp [World.cell?, this] at h0
        refine .inr ⟨ab, ao, rfl, hb, fun j hj => ?_⟩
        have hc := hcell j (by omega)
        rw [Addr.add_lit] at hc
        have e : zs.getD j 0 = zs[j]'(by omega) := by simp [List.getD, List.getElem?_eq_getElem (show j < zs.length by omega)]
        have e2 : (zs.take n)[j]! = zs[j]'(by omega) := by
          simp [List.getElem!_eq_getElem?_getD, hj, List.getElem?_eq_getElem (show j < zs.length by omega)]
        rw [hc, e, e2]
set_option maxRecDepth 100000 in
theorem open_mach {v : Value} {d : DataW H} {p : List MemPlace} (hv : Value.okWide Tryd.prog W .any b0 52 v) (h : DataW.Trod enc Tryd.prog W base (fun _ => true) held 52 v d p) :
    ∃ MC R fl at_ fin A n c l, v = .agg MC ∧ MachI MC R fl at_ (.slice A n c) fin ∧ (∀ j, R j < 4294967296) ∧ at_ < 4294967296 ∧ Byn W A n c l := by
  obtain ⟨MC, rfl, hsz⟩ := okWide_struct Tryd.underlying52 hv
  obtain ⟨fuel, hf⟩ := h
  obtain ⟨xs, m, _, hx, hcl, hlen, hg⟩ := DataW.trod_struct Tryd.underlying52 hf
  rw [show Tryd.prog.cellsOf 52 = 36 by kernel_rfl] at hsz hcl
  have g0 := hg 0 _ rfl
  have g1 := hg 1 _ rfl
  have g2 := hg 2 _ rfl
  have g3 := hg 3 _ rfl
  have g4 := hg 4 _ rfl
  have ci : Tryd.prog.cellsOf 3 = 1 := by kernel_rfl
  have c1 : Tryd.prog.cellsOf 24 = 1 := by kernel_rfl
  have c2 : Tryd.prog.cellsOf 35 = 1 := by kernel_rfl
  have c32 : Tryd.prog.cellsOf 50 = 32 := by kernel_rfl
  have hl5 : xs.length = 5 := hlen
  obtain ⟨y0, hy0⟩ : ∃ y, xs[0]? = some y := ⟨_, List.getElem?_eq_getElem (by omega)⟩
  obtain ⟨y1, hy1⟩ : ∃ y, xs[1]? = some y := ⟨_, List.getElem?_eq_getElem (by omega)⟩
  obtain ⟨y4, hy4⟩ : ∃ y, xs[4]? = some y := ⟨_, List.getElem?_eq_getElem (by omega)⟩
  obtain ⟨y2, hy2⟩ : ∃ y, xs[2]? = some y := ⟨_, List.getElem?_eq_getElem (by omega)⟩
  obtain ⟨y3, hy3⟩ : ∃ y, xs[3]? = some y := ⟨_, List.getElem?_eq_getElem (by omega)⟩
  rw [hy0] at g0
  rw [hy1] at g1
  rw [hy4] at g4
  rw [hy2] at g2
  rw [hy3] at g3
  simp only [Value.cells] at g0 g1 g2 g3 g4
  obtain ⟨fl, e1, -, -⟩ := DataW.trod_int Tryd.underlying3 g1
  obtain ⟨fin, e4, -, -⟩ := DataW.trod_int Tryd.underlying3 g4
  obtain ⟨at_, e2, -, w2⟩ := DataW.trod_int Tryd.underlying24 g2
  obtain ⟨A, n, c, l, e3, hB⟩ := byn_cells g3
  obtain ⟨ys, m2, _, _, hl32, hys, hreg⟩ := DataW.trod_array Tryd.underlying50 g0
  have hr : ∀ j, j < 32 → ∃ n : Nat, n < 4294967296 ∧ MC[j]? = some (.int .u32 (n : Nat)) := by
    intro j hj
    have g := hreg j hj
    obtain ⟨y, hy⟩ : ∃ y, ys[j]? = some y := ⟨_, List.getElem?_eq_getElem (by omega)⟩
    rw [hy, c1, Nat.mul_one] at g
    obtain ⟨n, en, -, wn⟩ := DataW.trod_int Tryd.underlying24 g
    obtain ⟨n, rfl, ln⟩ := wf_u32 wn
    have := one_at en
    simp at this
    rw [c32] at this
    simp [hj] at this
    exact ⟨n, ln, this⟩
  have a1 := one_at e1
  have a2 := one_at e2
  have a3 := one_at e3
  have a4 := one_at e4
  simp at a1 a2 a3 a4
  obtain ⟨at2, rfl, lat⟩ := wf_u32 w2
  refine ⟨MC, regAt MC, fl, at2, fin, A, n, c, l, rfl, ⟨hsz, fun j hj => ?_, a1, a2, a3, a4⟩, fun j => ?_, lat, hB⟩
  · obtain ⟨n, -, hn⟩ := hr j hj
    rw [hn]
    unfold regAt
    rw [if_pos hj, hn]
    rfl
  · unfold regAt
    split
    · rename_i hj
      obtain ⟨n, ln, hn⟩ := hr j hj
      rw [hn]
      exact ln
    · decide
end
end Go.Proofs.YthkaclmnbahieaaDoor
