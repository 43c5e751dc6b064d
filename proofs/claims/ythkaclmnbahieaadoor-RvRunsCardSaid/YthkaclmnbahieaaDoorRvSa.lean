/-
  The reference's step: a fault at the place.
-/
import Derived.Test.YthkaclmnbahieaaDoorRvZz
namespace Go.Proofs.YthkaclmnbahieaaDoor
open Go.RowKit

/-- A row loaded under a guard that holds. -/
theorem wpList_row_g {P : Program} {ops : Array Oper} {rest : List Oper} {o : Oper} {a : Act} {w : World} {Q : Exit → Act → World → Prop} (hw : Region.wanted o (yielded ops a.tmps) = true) (ty : TypeId) (x : Operand) (ho : o.op = .load ty x)
    (g : Nat) (hx : a.eval x = .pointer (some ⟨g, 0, none⟩)) (t : TypeId) (cs : Array Value) (fr : Nat × Nat) (d : TypeDesc) (hg : w.heap[g]? = some (.cells cs t fr))
    (hu : P.underlying ty = some d) (hd : (match d with | .struct _ | .array _ _ => true | _ => false) = true) (hi : (P.info? ty).map (·.size) = some cs.size)
    (h : wpList P ops Q rest (a.put o.dst (.agg cs)) w) : wpList P ops Q (o :: rest) a w :=
  wpList_step fun K hK => by
    rw [if_pos hw]
    exact wp_load_row ty x ho g hx t cs fr d hg hu hd hi (hK _ _ h)
theorem infoMs {MC : Array Value} (hs : MC.size = 36) : (Tryd.prog.info? 52).map (·.size) = some MC.size := by
  rw [hs]
  kernel_rfl
section
variable {w : World} {MC : Array Value} {R : Nat → Nat} {fl : Int} {pc n c : Nat} {A : Option Addr}
set_option maxRecDepth 100000 in
set_option maxHeartbeats 4000000 in
theorem rstep_fault (h : MachV MC R fl pc (.slice A n c) 0) (hpc : pc < 4294967296) (hn : n ≤ 40000) (hno : n < pc + 4 ∨ ¬ pc % 4 = 0) :
    Calls Tryd.prog 60 #[.agg MC] w fun e w' => ∃ MC', e = .returned (.agg MC') ∧ MachV MC' R fl pc (.slice A n c) 3 ∧ Below w.heap.size w w' := by
  have HI := Lib.hid (fun w1 => inMem_any h pc 4 hpc (by decide) hn w1)
  have hb1 : Below w.heap.size w (w.alloc (.cells MC 52)) := (Below.refl _ _).alloc (Nat.le_refl _) _
  have hx := heap_alloc_new w (.cells MC 52)
  have hs := h.size
  have hone := one_mach h
  have HH := Lib.hid h
  go_enter Tryd.func60, Tryd.ntmps60
  go_upto_region 1 with fail
  have hy := heap_alloc_new (w.alloc (.cells MC 52)) (.cells zeroMC 52)
  have hba : Below (w.alloc (.cells MC 52)).heap.size (w.alloc (.cells MC 52)) ((w.alloc (.cells MC 52)).alloc (.cells zeroMC 52)) := (Below.refl _ _).alloc (Nat.le_refl _) _
  replace hx := (hba.block _ (lt_of_block hx)).trans hx
  have hY : w.heap.size + 1 = (w.alloc (.cells MC 52)).heap.size := (show (w.alloc (.cells MC 52)).heap.size = w.heap.size + 1 from Array.size_push ..).symm
  rw [← hY] at hy
  have HB := Lib.hid (hb1.trans (hba.mono hb1.size))
  clear hb1 hba hY h
  generalize World.alloc (World.alloc w _) _ = W at hx hy HB ⊢
  obtain ⟨X, hX⟩ : ∃ X, X = w.heap.size := ⟨_, rfl⟩
  rw [← hX] at hx hy ⊢
  have HX := Lib.hid hX
  clear hX
  have hxl := lt_of_block hx
  have hyl := lt_of_block hy
  have hz := heap_alloc_new W (.cells zeroMC 52)
  have hbz : Below W.heap.size W (W.alloc (.cells zeroMC 52)) := (Below.refl _ _).alloc (Nat.le_refl _) _
  have hx3 := (setRow_other (W.alloc (.cells zeroMC 52)) W.heap.size X MC (by omega)).trans ((hbz.block _ hxl).trans hx)
  have hy3 := (setRow_other (W.alloc (.cells zeroMC 52)) W.heap.size (X + 1) MC (by omega)).trans ((hbz.block _ hyl).trans hy)
  have hz3 := setRow_heap _ W.heap.size _ MC 52 (0, 0) hz
  have HB3 := Lib.hid (bel_setRow (HB.out.trans (hbz.mono HB.out.size)) HB.out.size MC)
  clear hbz
  go_upto_region 2 with (first | (refine wpList_load_row rfl _ _ rfl X rfl 52 MC (0, 0) _ (by first | exact hx | exact ((Below.refl _ _).alloc (Nat.le_refl _) _ : Below W.heap.size W (W.alloc _)).block _ hxl |>.trans hx) Tryd.underlying52 rfl (infoMs hs) ?_) | (refine wpList_store_row rfl _ _ _ rfl W.heap.size MC rfl rfl 52 _ hz (infoMs hs) (by rw [hs]; rfl) hone ?_))
  have hZX : X ≠ W.heap.size ∧ X + 1 ≠ W.heap.size := by constructor <;> omega
  clear hx hy hz hxl hyl
  generalize hWs : World.setRow _ _ _ = W3 at hx3 hy3 hz3 HB3 ⊢
  clear hWs
  have hZw : w.heap.size ≤ W.heap.size := HB.out.size
  generalize W.heap.size = Z at hz3 hZX hZw ⊢
  have hm3 := HH.out.mac hz3
  obtain ⟨-, -, -, -, c35⟩ := hm3.cells
  have f35 := hm3.free 35
  have hm4 := hm3.setFin 3
  have hx4 := (heap_setCell_other W3 ⟨Z, 35, none⟩ X (.int .i64 ((3 : Nat) : Int)) hZX.1).trans hx3
  have hy4 := (heap_setCell_other W3 ⟨Z, 35, none⟩ (X + 1) (.int .i64 ((3 : Nat) : Int)) hZX.2).trans hy3
  have HB4 := Lib.hid (HB3.out.setCell (p := ⟨Z, 35, none⟩) hZw (.int .i64 ((3 : Nat) : Int)))
  have HM4 := Lib.hid hm4
  clear hx3 hy3 hz3 hm3 hm4 HB3 hZw HB
  go_upto_region 3 with fail
  clear c35 f35
  rw [show ((3 : Nat) : Int) = 3 from rfl] at hx4 hy4 HB4 HM4
  generalize World.setCell W3 _ _ = W4 at hx4 hy4 HB4 HM4 ⊢
  obtain ⟨-, -, c33, -, -⟩ := (HH.out.mac hx4).cells
  have fin : ∀ W5, Below W4.heap.size W4 W5 → (∃ MC5, W5.heap[Z]? = some (.cells MC5 52 (0, 0)) ∧ MachV MC5 R fl pc (.slice A n c) 3 ∧ W5.heap[X + 1]? = some (.cells zeroMC 52 (0, 0)) ∧ Below w.heap.size w W5) := by
    intro W5 hb5
    obtain ⟨MC5, hG, hsz, hR, h2, h3, h4, h5⟩ := (HM4.out.below hb5).ex
    exact ⟨MC5, hG, ⟨hsz, hR, h2, h3, h4, h5⟩, (hb5.block _ (lt_of_block hy4)).trans hy4, HB4.out.trans (hb5.mono HB4.out.size)⟩
  have HFin := Lib.hid fin
  clear fin hy4
  by_cases h4 : pc % 4 = 0
  · have d1 : ((pc : Int) % 4 != 0) = false := bne_eq_false_iff_eq.mpr (by omega)
    have d2 : ((pc : Int) % 4 == 0) = true := beq_iff_eq.mpr (by omega)
    have d3 : decide (pc + 4 ≤ n) = false := decide_eq_false (by omega)
    rw [d3] at HI
    clear d3 hno h4
    have HX4 := Lib.hid hx4
    clear hx4
    go_wp2_with (refine wpList_row_g rfl _ _ rfl X rfl 52 MC (0, 0) _ HX4.out Tryd.underlying52 rfl (infoMs hs) ?_)
    refine (HI.out _).mono ?_
    rintro e w5 ⟨rfl, hb5⟩
    obtain ⟨MC5, hz5, hV5, hy5, hB5⟩ := HFin.out _ hb5
    have hs5 := hV5.size
    have hone5 := one_mach hV5
    have HV5 := Lib.hid hV5
    have HB5 := Lib.hid hB5
    clear hb5 HFin HI hV5 hB5 c33
    go_wp2_with (first | (refine wpList_load_row rfl _ _ rfl Z rfl 52 MC5 (0, 0) _ hz5 Tryd.underlying52 rfl (infoMs hs5) ?_) | (refine wpList_store_row rfl _ _ _ rfl (X + 1) MC5 rfl rfl 52 _ hy5 (infoMs hs5) (by rw [hs5]; rfl) hone5 ?_))
    have rr := setRow_heap _ (X + 1) _ MC5 52 (0, 0) hy5
    exact bodyPost_ret (results_cell_row rfl _ _ (X + 1) 52 MC5 (0, 0) _ rfl rr Tryd.underlying52 rfl (infoMs hs5)) rfl ⟨MC5, rfl, HV5.out, bel_setRow HB5.out (by rw [HX.out]; exact Nat.le_succ _) MC5⟩
  · have d1 : ((pc : Int) % 4 != 0) = true := bne_iff_ne.mpr (by omega)
    have d2 : ((pc : Int) % 4 == 0) = false := beq_eq_false_iff_ne.mpr (by omega)
    obtain ⟨MC5, hz5, hV5, hy5, hB5⟩ := HFin.out _ (Below.refl _ _)
    have hs5 := hV5.size
    have hone5 := one_mach hV5
    have HV5 := Lib.hid hV5
    have HB5 := Lib.hid hB5
    clear HFin HI hV5 hB5 h4 hno
    go_wp2_with (first | (refine wpList_load_row rfl _ _ rfl Z rfl 52 MC5 (0, 0) _ hz5 Tryd.underlying52 rfl (infoMs hs5) ?_) | (refine wpList_store_row rfl _ _ _ rfl (X + 1) MC5 rfl rfl 52 _ hy5 (infoMs hs5) (by rw [hs5]; rfl) hone5 ?_))
    have rr := setRow_heap _ (X + 1) _ MC5 52 (0, 0) hy5
    exact bodyPost_ret (results_cell_row rfl _ _ (X + 1) 52 MC5 (0, 0) _ rfl rr Tryd.underlying52 rfl (infoMs hs5)) rfl ⟨MC5, rfl, HV5.out, bel_setRow HB5.out (by rw [HX.out]; exact Nat.le_succ _) MC5⟩
end
end Go.Proofs.YthkaclmnbahieaaDoor
