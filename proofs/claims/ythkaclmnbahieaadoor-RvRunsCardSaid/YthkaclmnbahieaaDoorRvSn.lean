/-
  The reference's step where it executes.
-/
import Derived.Test.YthkaclmnbahieaaDoorRvSb
namespace Go.Proofs.YthkaclmnbahieaaDoor
open Go.RowKit

section
variable {w : World} {MC : Array Value} {R : Nat → Nat} {fl : Int} {pc M n c : Nat} {l : List Int}
theorem decI_none {n : Nat} (h : decF n = none) : decI n = ⟨0, 0, 0, 0, 0⟩ := by
  unfold decI
  rw [h]
theorem decB_none {n : Nat} (h : decF n = none) : decB n = false := by
  unfold decB
  rw [h]
  rfl
set_option maxRecDepth 100000 in
set_option maxHeartbeats 1000000 in
theorem rstep_n (h : MachV MC R fl pc (.slice (some ⟨M, 0, none⟩) n c) 0) (hM : MemC w M n c l) (hpc : pc + 4 ≤ n) (h4 : pc % 4 = 0) (hn : n ≤ 40000)
    (hF : decF (ldF l pc 4) = none) :
    Calls Tryd.prog 60 #[.agg MC] w fun e w' => ∃ MC', e = .returned (.agg MC') ∧ MachV MC' R fl pc (.slice (some ⟨M, 0, none⟩) n c) 3 ∧ MemC w' M n c l ∧ KeepI M w w' := by
  have hpc32 : pc < 4294967296 := by omega
  have HI := Lib.hid (fun w1 P k hP hk => inMem_any h P k hP hk hn w1)
  have HRd := Lib.hid (fun (w1 : World) (h1 : MemC w1 M n c l) (P k : Nat) (hk : 1 ≤ k ∧ k ≤ 4) (hp : P + k ≤ n) => by
    have q := read_any h1.byt P k hk.2 hp
    rw [mem_read h1 P k hk hp] at q
    exact callsSym q)
  have hlt : ldF l pc 4 < 4294967296 := by
    have h1 := numP_lt (byt_part hM.byt pc 4 (by decide) hpc).2.2.2.1 4 (by decide)
    have h2 : numP ((l.drop pc).take 4) 4 = ldF l pc 4 := rfl
    omega
  have HD := Lib.hid (fun w1 => RDecode_any (ldF l pc 4) hlt w1)
  rw [decI_none hF, decB_none hF] at HD
  have hb1 : Below w.heap.size w (w.alloc (.cells MC 52)) := (Below.refl _ _).alloc (Nat.le_refl _) _
  have hx := heap_alloc_new w (.cells MC 52)
  have hs := h.size
  have hone := one_mach h
  have HH := Lib.hid h
  have HM := Lib.hid hM
  have hpn : (pc : Int) + 4 ≤ 40000 := by omega
  have hMl := hM.lt
  clear hF hlt hM
  generalize hN4 : ldF l pc 4 = N4 at HD
  have HN4 := Lib.hid hN4
  clear hN4
  go_enter Tryd.func60, Tryd.ntmps60
  go_upto_region 1 with fail
  have hy := heap_alloc_new (w.alloc (.cells MC 52)) (.cells zeroMC 52)
  have hba : Below (w.alloc (.cells MC 52)).heap.size (w.alloc (.cells MC 52)) ((w.alloc (.cells MC 52)).alloc (.cells zeroMC 52)) := (Below.refl _ _).alloc (Nat.le_refl _) _
  replace hx := (hba.block _ (lt_of_block hx)).trans hx
  have hY : w.heap.size + 1 = (w.alloc (.cells MC 52)).heap.size := (show (w.alloc (.cells MC 52)).heap.size = w.heap.size + 1 from Array.size_push ..).symm
  rw [← hY] at hy
  have HB := Lib.hid (hb1.trans (hba.mono hb1.size))
  clear hb1 hba hY h
  generalize World.alloc (World.alloc w _) _ = W at hx hy HB ⊢
  obtain ⟨X, hX⟩ : ∃ X, X = w.heap.size := ⟨_, rfl⟩
  rw [← hX] at hx hy ⊢
  have HX := Lib.hid hX
  clear hX
  have hxl := lt_of_block hx
  have hyl := lt_of_block hy
  have hz := heap_alloc_new W (.cells zeroMC 52)
  have hbz : Below W.heap.size W (W.alloc (.cells zeroMC 52)) := (Below.refl _ _).alloc (Nat.le_refl _) _
  have hx3 := (setRow_other (W.alloc (.cells zeroMC 52)) W.heap.size X MC (by omega)).trans ((hbz.block _ hxl).trans hx)
  have hy3 := (setRow_other (W.alloc (.cells zeroMC 52)) W.heap.size (X + 1) MC (by omega)).trans ((hbz.block _ hyl).trans hy)
  have hz3 := setRow_heap _ W.heap.size _ MC 52 (0, 0) hz
  have HB3 := Lib.hid (bel_setRow (HB.out.trans (hbz.mono HB.out.size)) HB.out.size MC)
  clear hbz
  go_upto_region 2 with (first | (refine wpList_load_row rfl _ _ rfl X rfl 52 MC (0, 0) _ (by first | exact hx | exact ((Below.refl _ _).alloc (Nat.le_refl _) _ : Below W.heap.size W (W.alloc _)).block _ hxl |>.trans hx) Tryd.underlying52 rfl (infoMs hs) ?_) | (refine wpList_store_row rfl _ _ _ rfl W.heap.size MC rfl rfl 52 _ hz (infoMs hs) (by rw [hs]; rfl) hone ?_))
  have hZX : X ≠ W.heap.size ∧ X + 1 ≠ W.heap.size ∧ X + 1 < W.heap.size := by refine ⟨?_, ?_, ?_⟩ <;> omega
  clear hx hy hz hxl hyl
  generalize hWs : World.setRow _ _ _ = W3 at hx3 hy3 hz3 HB3 ⊢
  clear hWs
  have hZw : w.heap.size ≤ W.heap.size := HB.out.size
  generalize W.heap.size = Z at hz3 hZX hZw ⊢
  have hm3 := HH.out.mac hz3
  obtain ⟨-, -, -, -, c35⟩ := hm3.cells
  have f35 := hm3.free 35
  have hm4 := hm3.setFin 3
  have hx4 := (heap_setCell_other W3 ⟨Z, 35, none⟩ X (.int .i64 ((3 : Nat) : Int)) hZX.1).trans hx3
  have hy4 := (heap_setCell_other W3 ⟨Z, 35, none⟩ (X + 1) (.int .i64 ((3 : Nat) : Int)) hZX.2.1).trans hy3
  have HB4 := Lib.hid (HB3.out.setCell (p := ⟨Z, 35, none⟩) hZw (.int .i64 ((3 : Nat) : Int)))
  have HM4 := Lib.hid hm4
  have HZX := Lib.hid hZX
  clear hx3 hy3 hz3 hm3 hm4 HB3 hZw HB hZX
  go_upto_region 3 with fail
  clear c35 f35
  rw [show ((3 : Nat) : Int) = 3 from rfl] at hx4 hy4 HB4 HM4
  generalize World.setCell W3 _ _ = W4 at hx4 hy4 HB4 HM4 ⊢
  obtain ⟨-, -, c33, -, -⟩ := (HH.out.mac hx4).cells
  have d1 : ((pc : Int) % 4 != 0) = false := bne_eq_false_iff_eq.mpr (by omega)
  have d2 : ((pc : Int) % 4 == 0) = true := beq_iff_eq.mpr (by omega)
  have HX4 := Lib.hid hx4
  have HY4 := Lib.hid hy4
  have HP := Lib.hid (And.intro hpc hpc32)
  clear hx4 hy4 h4 hpc hpc32
  go_wp2_with (refine wpList_row_g rfl _ _ rfl X rfl 52 MC (0, 0) _ HX4.out Tryd.underlying52 rfl (infoMs hs) ?_)
  refine (HI.out _ pc 4 HP.out.2 (by decide)).mono ?_
  rintro e w5 ⟨rfl, hb5⟩
  rw [decide_eq_true HP.out.1]
  clear c33
  have hx5 := (hb5.block _ (lt_of_block HX4.out)).trans HX4.out
  have hy5 := (hb5.block _ (lt_of_block HY4.out)).trans HY4.out
  have hm5 := HM4.out.below hb5
  have HB5 := Lib.hid (HB4.out.trans (hb5.mono HB4.out.size))
  clear hb5 HM4 HB4 HX4 HY4 hone
  obtain ⟨-, -, c33, c34, -⟩ := (HH.out.mac hx5).cells
  have hMw := HM.out.below HB5.out
  have hRd5 := HRd.out w5 hMw pc 4 (by decide) HP.out.1
  rw [HN4.out] at hRd5
  have HRd5 := Lib.hid hRd5
  have HX5 := Lib.hid hx5
  have HMw := Lib.hid hMw
  have hZw : Z < w5.heap.size := hm5.lt
  have HZw := Lib.hid hZw
  clear hRd5 hMw hZw hx5
  go_wp2_with fail
  refine HRd5.out.mono ?_
  rintro e w6 ⟨rfl, rfl⟩
  go_wp2_with fail
  refine (HD.out _).mono ?_
  rintro e w7 ⟨rfl, hb7⟩
  have hb8 : Below w7.heap.size w7 (w7.alloc (.cells #[.int .i64 0, .int .i64 0, .int .i64 0, .int .i64 0, .int .i64 0] 23)) := (Below.refl _ _).alloc (Nat.le_refl _) _
  replace hb8 := hb7.trans (hb8.mono hb7.size)
  have hy8 := (hb8.block _ (lt_of_block hy5)).trans hy5
  have hm8 := hm5.below hb8
  have HM8 := Lib.hid (HMw.out.below hb8)
  have HB8 := Lib.hid (HB5.out.trans (hb8.mono HB5.out.size))
  clear hb7 hb8 c33 c34 hy5 hm5 HX5 HMw HRd5 HZw HD HB5
  go_upto_region 6 with fail
  generalize World.alloc w7 _ = W8 at hy8 hm8 HM8 HB8 ⊢
  obtain ⟨MC5, hz5, hs5, hR, h2, h3, h4, h5⟩ := hm8.ex
  have hV5 : MachV MC5 R fl pc (.slice (some ⟨M, 0, none⟩) n c) 3 := ⟨hs5, hR, h2, h3, h4, h5⟩
  have hone5 := one_mach hV5
  have HV5 := Lib.hid hV5
  have hM1 : M ≠ X + 1 := by
    have := HX.out
    omega
  have hk8 : KeepI M w (W8.setRow (X + 1) MC5) := KeepI.of_below (bel_setRow HB8.out (by rw [HX.out]; exact Nat.le_succ _) MC5)
  have HK8 := Lib.hid hk8
  clear hV5 hR h2 h3 h4 h5 hm8 hk8 d1 d2 hs
  go_wp2_with (first | (refine wpList_load_row rfl _ _ rfl Z rfl 52 MC5 (0, 0) _ hz5 Tryd.underlying52 rfl (infoMs hs5) ?_) | (refine wpList_store_row rfl _ _ _ rfl (X + 1) MC5 rfl rfl 52 _ hy8 (infoMs hs5) (by rw [hs5]; rfl) hone5 ?_))
  have rr := setRow_heap _ (X + 1) _ MC5 52 (0, 0) hy8
  exact bodyPost_ret (results_cell_row rfl _ _ (X + 1) 52 MC5 (0, 0) _ rfl rr Tryd.underlying52 rfl (infoMs hs5)) rfl ⟨MC5, rfl, HV5.out, HM8.out.block (setRow_other _ (X + 1) M MC5 hM1), HK8.out⟩
end
end Go.Proofs.YthkaclmnbahieaaDoor
