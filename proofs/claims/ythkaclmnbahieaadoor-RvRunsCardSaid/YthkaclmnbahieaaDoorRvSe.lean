/-
  The reference's step where it executes.
-/
import Derived.Test.YthkaclmnbahieaaDoorRvSb
namespace Go.Proofs.YthkaclmnbahieaaDoor
open Go.RowKit

section
variable {w : World} {MC : Array Value} {R : Nat → Nat} {fl : Int} {pc M n c : Nat} {l : List Int}
set_option maxRecDepth 100000 in
set_option maxHeartbeats 1000000 in
theorem rstep_e (h : MachV MC R fl pc (.slice (some ⟨M, 0, none⟩) n c) 0) (hM : MemC w M n c l) (hpc : pc + 4 ≤ n) (h4 : pc % 4 = 0) (hn : n ≤ 40000) (h0 : R 0 = 0) (hR : ∀ j, R j < 4294967296)
    (op d a b : Nat) (imm : Int) (hF : decF (ldF l pc 4) = some ⟨op, d, a, b, imm⟩) (hcl : 28 ≤ op ∧ op ≤ 30) (hd : d < 32) (ha : a < 32) (hb : b < 32) :
    Calls Tryd.prog 60 #[.agg MC] w fun e w' => ∃ MC', e = .returned (.agg MC') ∧ MachV MC' (stepF ⟨R, pc, 0, l⟩).R fl (stepF ⟨R, pc, 0, l⟩).pc (.slice (some ⟨M, 0, none⟩) n c) (stepF ⟨R, pc, 0, l⟩).fin ∧ MemC w' M n c (stepF ⟨R, pc, 0, l⟩).l ∧ KeepI M w w' := by
  have hop : op ≤ 40 := by omega
  have hlen := hM.len
  have hstep := stepF_some ⟨R, pc, 0, l⟩ (by rw [← hlen]; exact hpc) h4 hF
  rw [hstep]
  clear hstep
  obtain ⟨T, hT⟩ : ∃ T, T = (if (exF op d a b imm ⟨R, pc, 0, l⟩).1 = true then (exF op d a b imm ⟨R, pc, 0, l⟩).2 else ⟨(exF op d a b imm ⟨R, pc, 0, l⟩).2.R, (exF op d a b imm ⟨R, pc, 0, l⟩).2.pc, 3, (exF op d a b imm ⟨R, pc, 0, l⟩).2.l⟩ : Mst) := ⟨_, rfl⟩
  rw [← hT]
  have HT := Lib.hid hT
  clear hT
  have hpc32 : pc < 4294967296 := by omega
  have HI := Lib.hid (fun w1 P k hP hk => inMem_any h P k hP hk hn w1)
  have HRd := Lib.hid (fun (w1 : World) (h1 : MemC w1 M n c l) (P k : Nat) (hk : 1 ≤ k ∧ k ≤ 4) (hp : P + k ≤ n) => by
    have q := read_any h1.byt P k hk.2 hp
    rw [mem_read h1 P k hk hp] at q
    exact callsSym q)
  have HRq := Lib.hid (fun (w1 : World) (h1 : MemC w1 M n c l) (P k : Nat) (hk : 1 ≤ k ∧ k ≤ 4) (hp : P + k ≤ n) => by
    have q := read_any h1.byt P k hk.2 hp
    rw [mem_read h1 P k hk hp] at q
    exact q)
  have hlt : ldF l pc 4 < 4294967296 := by
    have h1 := numP_lt (byt_part hM.byt pc 4 (by decide) hpc).2.2.2.1 4 (by decide)
    have h2 : numP ((l.drop pc).take 4) 4 = ldF l pc 4 := rfl
    omega
  have HD := Lib.hid (fun w1 => RDecode_any (ldF l pc 4) hlt w1)
  rw [decI_some hF, decB_some hF] at HD
  have hb1 : Below w.heap.size w (w.alloc (.cells MC 52)) := (Below.refl _ _).alloc (Nat.le_refl _) _
  have hx := heap_alloc_new w (.cells MC 52)
  have hs := h.size
  have hone := one_mach h
  have HH := Lib.hid h
  have HM := Lib.hid hM
  have HRg := Lib.hid hR
  have HLn := Lib.hid hlen
  have HZr := Lib.hid h0
  have hpn : (pc : Int) + 4 ≤ 40000 := by omega
  have hFC := Lib.hid (fun w1 => forms_any w1)
  have hMl := hM.lt
  clear hF hlt hlen h0 hR hM
  generalize hN4 : ldF l pc 4 = N4 at HD
  have HN4 := Lib.hid hN4
  clear hN4
  go_enter Tryd.func60, Tryd.ntmps60
  go_upto_region 1 with fail
  have hy := heap_alloc_new (w.alloc (.cells MC 52)) (.cells zeroMC 52)
  have hba : Below (w.alloc (.cells MC 52)).heap.size (w.alloc (.cells MC 52)) ((w.alloc (.cells MC 52)).alloc (.cells zeroMC 52)) := (Below.refl _ _).alloc (Nat.le_refl _) _
  replace hx := (hba.block _ (lt_of_block hx)).trans hx
  have hY : w.heap.size + 1 = (w.alloc (.cells MC 52)).heap.size := (show (w.alloc (.cells MC 52)).heap.size = w.heap.size + 1 from Array.size_push ..).symm
  rw [← hY] at hy
  have HB := Lib.hid (hb1.trans (hba.mono hb1.size))
  clear hb1 hba hY h
  generalize World.alloc (World.alloc w _) _ = W at hx hy HB ⊢
  obtain ⟨X, hX⟩ : ∃ X, X = w.heap.size := ⟨_, rfl⟩
  rw [← hX] at hx hy ⊢
  have HX := Lib.hid hX
  clear hX
  have hxl := lt_of_block hx
  have hyl := lt_of_block hy
  have hz := heap_alloc_new W (.cells zeroMC 52)
  have hbz : Below W.heap.size W (W.alloc (.cells zeroMC 52)) := (Below.refl _ _).alloc (Nat.le_refl _) _
  have hx3 := (setRow_other (W.alloc (.cells zeroMC 52)) W.heap.size X MC (by omega)).trans ((hbz.block _ hxl).trans hx)
  have hy3 := (setRow_other (W.alloc (.cells zeroMC 52)) W.heap.size (X + 1) MC (by omega)).trans ((hbz.block _ hyl).trans hy)
  have hz3 := setRow_heap _ W.heap.size _ MC 52 (0, 0) hz
  have HB3 := Lib.hid (bel_setRow (HB.out.trans (hbz.mono HB.out.size)) HB.out.size MC)
  clear hbz
  go_upto_region 2 with (first | (refine wpList_load_row rfl _ _ rfl X rfl 52 MC (0, 0) _ (by first | exact hx | exact ((Below.refl _ _).alloc (Nat.le_refl _) _ : Below W.heap.size W (W.alloc _)).block _ hxl |>.trans hx) Tryd.underlying52 rfl (infoMs hs) ?_) | (refine wpList_store_row rfl _ _ _ rfl W.heap.size MC rfl rfl 52 _ hz (infoMs hs) (by rw [hs]; rfl) hone ?_))
  have hZX : X ≠ W.heap.size ∧ X + 1 ≠ W.heap.size ∧ X + 1 < W.heap.size := by refine ⟨?_, ?_, ?_⟩ <;> omega
  clear hx hy hz hxl hyl
  generalize hWs : World.setRow _ _ _ = W3 at hx3 hy3 hz3 HB3 ⊢
  clear hWs
  have hZw : w.heap.size ≤ W.heap.size := HB.out.size
  generalize W.heap.size = Z at hz3 hZX hZw ⊢
  have hm3 := HH.out.mac hz3
  obtain ⟨-, -, -, -, c35⟩ := hm3.cells
  have f35 := hm3.free 35
  have hm4 := hm3.setFin 3
  have hx4 := (heap_setCell_other W3 ⟨Z, 35, none⟩ X (.int .i64 ((3 : Nat) : Int)) hZX.1).trans hx3
  have hy4 := (heap_setCell_other W3 ⟨Z, 35, none⟩ (X + 1) (.int .i64 ((3 : Nat) : Int)) hZX.2.1).trans hy3
  have HB4 := Lib.hid (HB3.out.setCell (p := ⟨Z, 35, none⟩) hZw (.int .i64 ((3 : Nat) : Int)))
  have HM4 := Lib.hid hm4
  have HZX := Lib.hid hZX
  clear hx3 hy3 hz3 hm3 hm4 HB3 hZw HB hZX
  go_upto_region 3 with fail
  clear c35 f35
  rw [show ((3 : Nat) : Int) = 3 from rfl] at hx4 hy4 HB4 HM4
  generalize World.setCell W3 _ _ = W4 at hx4 hy4 HB4 HM4 ⊢
  obtain ⟨-, -, c33, -, -⟩ := (HH.out.mac hx4).cells
  have d1 : ((pc : Int) % 4 != 0) = false := bne_eq_false_iff_eq.mpr (by omega)
  have d2 : ((pc : Int) % 4 == 0) = true := beq_iff_eq.mpr (by omega)
  have HX4 := Lib.hid hx4
  have HY4 := Lib.hid hy4
  have HP := Lib.hid (And.intro hpc hpc32)
  clear hx4 hy4 h4 hpc hpc32
  go_wp2_with (refine wpList_row_g rfl _ _ rfl X rfl 52 MC (0, 0) _ HX4.out Tryd.underlying52 rfl (infoMs hs) ?_)
  refine (HI.out _ pc 4 HP.out.2 (by decide)).mono ?_
  rintro e w5 ⟨rfl, hb5⟩
  rw [decide_eq_true HP.out.1]
  clear c33
  have hx5 := (hb5.block _ (lt_of_block HX4.out)).trans HX4.out
  have hy5 := (hb5.block _ (lt_of_block HY4.out)).trans HY4.out
  have hm5 := HM4.out.below hb5
  have HB5 := Lib.hid (HB4.out.trans (hb5.mono HB4.out.size))
  clear hb5 HM4 HB4 HX4 HY4 hone
  obtain ⟨-, -, c33, c34, -⟩ := (HH.out.mac hx5).cells
  have hMw := HM.out.below HB5.out
  have hRd5 := HRd.out w5 hMw pc 4 (by decide) HP.out.1
  rw [HN4.out] at hRd5
  have HRd5 := Lib.hid hRd5
  have HX5 := Lib.hid hx5
  have HMw := Lib.hid hMw
  have hZw : Z < w5.heap.size := hm5.lt
  have HZw := Lib.hid hZw
  clear hRd5 hMw hZw hx5
  go_wp2_with fail
  refine HRd5.out.mono ?_
  rintro e w6 ⟨rfl, rfl⟩
  go_wp2_with fail
  refine (HD.out _).mono ?_
  rintro e w7 ⟨rfl, hb7⟩
  have hb8 : Below w7.heap.size w7 (w7.alloc (.cells #[.int .i64 op, .int .i64 d, .int .i64 a, .int .i64 b, .int .i64 imm] 23)) := (Below.refl _ _).alloc (Nat.le_refl _) _
  replace hb8 := hb7.trans (hb8.mono hb7.size)
  have hx8 := (hb8.block _ (lt_of_block HX5.out)).trans HX5.out
  have hy8 := (hb8.block _ (lt_of_block hy5)).trans hy5
  have hm8 := hm5.below hb8
  have hv8 := heap_alloc_new w7 (.cells #[.int .i64 op, .int .i64 d, .int .i64 a, .int .i64 b, .int .i64 imm] 23)
  have HM8 := Lib.hid (HMw.out.below hb8)
  have HB8 := Lib.hid (HB5.out.trans (hb8.mono HB5.out.size))
  have HZV := Lib.hid (Nat.lt_of_lt_of_le HZw.out hb7.size)
  clear hb7 hb8 c33 c34 hy5 hm5 HX5 HMw HRd5 HZw HD HB5
  go_upto_region 6 with fail
  generalize World.alloc w7 _ = W8 at hx8 hy8 hm8 hv8 HM8 HB8 ⊢
  generalize w7.heap.size = V at hv8 HZV ⊢
  have hxl := lt_of_block hx8
  have hyl := lt_of_block hy8
  have hzl := hm8.lt
  have hvl := lt_of_block hv8
  have hu := heap_alloc_new W8 (.cells zeroMC 52)
  have hbu : Below W8.heap.size W8 (W8.alloc (.cells zeroMC 52)) := (Below.refl _ _).alloc (Nat.le_refl _) _
  have hbu9 : Below W8.heap.size W8 ((W8.alloc (.cells zeroMC 52)).setRow W8.heap.size MC) := bel_setRow hbu (Nat.le_refl _) MC
  have hu9 := setRow_heap _ W8.heap.size _ MC 52 (0, 0) hu
  have hone := one_mach HH.out
  have hrst : RSt w ((W8.alloc (.cells zeroMC 52)).setRow W8.heap.size MC) M MC X Z V W8.heap.size op d a b imm R fl pc (.slice (some ⟨M, 0, none⟩) n c) R pc 0 := by
    obtain ⟨MC5, hG, hsz, hR, h2, h3, h4, h5⟩ := hm8.ex
    exact ⟨(hbu9.block _ hxl).trans hx8, (hbu9.block _ hyl).trans hy8, ⟨MC5, (hbu9.block _ hzl).trans hG, ⟨hsz, hR, h2, h3, h4, h5⟩⟩, (hbu9.block _ hvl).trans hv8, HH.out.mac hu9, (KeepI.of_below (HB8.out.trans (hbu9.mono HB8.out.size)) : KeepI M w _), hMl, HX.out, HZX.out.2.2, HZV.out, hvl⟩
  have HRS := Lib.hid hrst
  have HM9 := Lib.hid (HM8.out.below hbu9)
  clear hrst hbu9 hu9 hy8 hm8 hv8 HZX hyl hzl hvl HB8 HM8 HZV hbu
  go_upto_region 9 with (first | (refine wpList_load_row rfl _ _ rfl X rfl 52 MC (0, 0) _ (by first | exact hx8 | exact ((Below.refl _ _).alloc (Nat.le_refl _) _ : Below W8.heap.size W8 (W8.alloc _)).block _ hxl |>.trans hx8) Tryd.underlying52 rfl (infoMs hs) ?_) | (refine wpList_store_row rfl _ _ _ rfl W8.heap.size MC rfl rfl 52 _ hu (infoMs hs) (by rw [hs]; rfl) hone ?_))
  clear hu hone hx8 hxl
  generalize World.setRow _ _ _ = W9 at HRS HM9 ⊢
  generalize W8.heap.size = U at HRS ⊢
  clear hs d1 d2
  obtain ⟨z0, z1, z2, z3, z4⟩ := cells5r HRS.out.v
  obtain ⟨c0, -, c33, -, -⟩ := (HH.out.mac HRS.out.x).cells
  have ca := c0 a ha
  have cb := c0 b hb
  clear c0
  obtain ⟨va, hva⟩ : ∃ v, v = R a := ⟨_, rfl⟩
  obtain ⟨vb, hvb⟩ : ∃ v, v = R b := ⟨_, rfl⟩
  have la : va < 4294967296 := hva ▸ HRg.out a
  have lb : vb < 4294967296 := hvb ▸ HRg.out b
  rw [← hva] at ca
  rw [← hvb] at cb
  have HV := Lib.hid (And.intro hva hvb)
  clear hva hvb
  have ia : (a : Int) < 32 := by omega
  have ib : (b : Int) < 32 := by omega
  go_quiet (fail)
  replace HRS := Lib.hid (HRS.out.drewN nq)
  replace HM9 := Lib.hid (HM9.out.below (drewNR (Below.refl _ _) : Below W9.heap.size W9 (W9.drewN nq)))
  clear z0 z1 z2 z3 z4 ca cb c33
  generalize W9.drewN nq = W10 at HRS HM9 ⊢
  obtain ⟨-, -, c33, -, -⟩ := (HH.out.mac HRS.out.x).cells
  have f33 := HRS.out.u.free 33
  obtain ⟨-, -, u33, -, -⟩ := HRS.out.u.cells
  have hpn2 : (pc : Int) + 4 < 4294967296 := by omega
  have h11 := HRS.out.setAt (pc + 4)
  have hm11 : MemC (W10.setCell ⟨U, 33, none⟩ (.int .u32 ((pc + 4 : Nat) : Int))) M n c l := HM9.out.block (heap_setCell_other _ ⟨U, 33, none⟩ M _ (by have := HRS.out; have q1 := this.geX; have q2 := this.geZ; have q3 := this.geV; have q4 := this.geU; show M ≠ U; omega))
  rw [show ((pc + 4 : Nat) : Int) = (pc : Int) + 4 by omega] at h11 hm11
  replace HRS := Lib.hid h11
  replace HM9 := Lib.hid hm11
  clear h11 hm11
  go_upto_region 11 with fail
  clear c33 f33 u33 hpn2
  generalize World.setCell W10 _ _ = W11 at HRS HM9 ⊢
  rw [i32_u32 imm]
  obtain ⟨I, hI⟩ : ∃ I, I = wr32 imm := ⟨_, rfl⟩
  rw [← hI]
  have lI : I < 4294967296 := hI ▸ wr32_lt imm
  have HIm := Lib.hid hI
  clear hI
  have q0 : RA[op * 4]? = some (.int .i64 (shT op : Nat)) := RA_at (by omega) (j := 0) (by omega)
  obtain ⟨z0, -, -, -, -⟩ := cells5r HRS.out.v
  have hne : W11.heap.size ≠ V := World.new_ne W11 _ z0
  have lV : V < W11.heap.size := lt_of_block HRS.out.v
  have hi1 : (op : Int) < 41 := by omega
  have hi0 : (0 : Int) ≤ (op : Int) := by omega
  go_cut [64] from 12 (fun s wx => s = .int .i64 (shT op : Nat) ∧ Below W11.heap.size W11 wx)
  case first =>
    clear ia ib la lb lI hd ha hb hop hpn hMl hn
    go_region_with (go_at_call 39; refine (hFC.out _).mono ?_; rintro e w' ⟨rfl, rfl⟩)
    all_goals go_wp2_with fail
    all_goals go_meet
    all_goals exact ⟨rfl, drewR ((Below.refl _ _).alloc (Nat.le_refl _) _)⟩
  case rest =>
  obtain ⟨rfl, hb12⟩ := hcut
  replace HRS := Lib.hid (HRS.out.below hb12)
  replace HM9 := Lib.hid (HM9.out.below hb12)
  clear hb12 z0 hne lV q0 hi1 hi0
  obtain ⟨sh, hsh⟩ : ∃ sh, sh = shT op := ⟨_, rfl⟩
  rw [← hsh]
  have HSh := Lib.hid hsh
  clear hsh hFC
  go_step
  go_cut [7] from 46 (fun s7 wx => s7 = .int .u32 (va : Nat) ∧ RDone w wx M n c MC X Z V U op d a b imm R fl pc l)
  case first =>
    have hpc4 : (pc + 4) % 4294967296 = pc + 4 := Nat.mod_eq_of_lt (by omega)
    have HP4 := Lib.hid hpc4
    have id : (d : Int) < 32 := by omega
    clear hpc4
    have k1 : ¬ op ≤ 14 := by omega
    have k2 : ¬ op ≤ 23 := by omega
    by_cases k5 : op ≤ 30
    · obtain rfl : sh = 5 := HSh.out.trans (shT_5 (by omega))
      rw [show ((5 : Nat) : Int) = 5 from rfl]
      obtain ⟨z0, -, -, -, -⟩ := cells5r HRS.out.v
      have o1 : (28 : Int) ≤ (op : Int) := by omega
      have o2 : (op : Int) ≤ 30 := by omega
      go_upto_region 26 with fail
      clear z0 o1 o2
      rw [sz_store (op := op) (by omega)]
      obtain ⟨k, hk⟩ : ∃ k, k = szF op := ⟨_, rfl⟩
      rw [← hk]
      have hkl := szF_lim op
      rw [← hk] at hkl
      have HK := Lib.hid hk
      clear hk
      obtain ⟨P, hP⟩ : ∃ P, P = (va + I) % 4294967296 := ⟨_, rfl⟩
      have lP : P < 4294967296 := by omega
      have eP : ((P : Nat) : Int) = ((va : Int) + (I : Int)) % 4294967296 := by omega
      have HI2 := Lib.hid (fun w1 => HI.out w1 P k lP hkl.2)
      rw [eP] at HI2
      have HPP := Lib.hid hP
      have HeP := Lib.hid eP
      clear hP eP
      have HX9 := Lib.hid HRS.out.x
      have hs := HH.out.size
      go_wp2_with (refine wpList_load_row rfl _ _ rfl X rfl 52 MC (0, 0) _ HX9.out Tryd.underlying52 rfl (infoMs hs) ?_)
      refine (HI2.out _).mono ?_
      rintro e w13 ⟨rfl, hb13⟩
      replace HRS := Lib.hid (HRS.out.below hb13)
      replace HM9 := Lib.hid (HM9.out.below hb13)
      clear hb13 HX9 HI2 hs
      by_cases hPk : P + k ≤ n
      rotate_left
      · rw [decide_eq_false hPk]
        obtain ⟨MC5, hz5, hV5⟩ := HRS.out.z
        have hy5 := HRS.out.y
        have hs5 := hV5.size
        have hone5 := one_mach hV5
        have HV5 := Lib.hid hV5
        have hTe : T = ⟨R, pc, 3, l⟩ := by
          rw [HT.out, exF_mem op d a b imm ⟨R, pc, 0, l⟩ (by omega) (by omega) (by
            dsimp only
            rw [← HV.out.1, ← HIm.out, ← HPP.out, ← HK.out, ← HLn.out]
            exact hPk)]
          rfl
        subst hTe
        clear hV5
        go_wp2_with (first | (refine wpList_load_row rfl _ _ rfl Z rfl 52 MC5 (0, 0) _ hz5 Tryd.underlying52 rfl (infoMs hs5) ?_) | (refine wpList_store_row rfl _ _ _ rfl (X + 1) MC5 rfl rfl 52 _ hy5 (infoMs hs5) (by rw [hs5]; rfl) hone5 ?_))
        have rr := setRow_heap _ (X + 1) _ MC5 52 (0, 0) hy5
        exact bodyPost_ret (results_cell_row rfl _ _ (X + 1) 52 MC5 (0, 0) _ rfl rr Tryd.underlying52 rfl (infoMs hs5)) rfl ⟨MC5, rfl, HV5.out, HM9.out.block (setRow_other _ (X + 1) M MC5 HRS.out.memNe.2), HRS.out.done MC5⟩
      · rw [decide_eq_true hPk]
        have eW : IntKind.u32.wrap ((va : Int) + (I : Int)) = (P : Int) := by
          rw [IntKind.wrap_u32]
          exact HeP.out.symm
        have eX : IntKind.i64.wrap (P : Int) = (P : Int) := by
          rw [IntKind.wrap_i64]
          omega
        have EWX := Lib.hid (And.intro eW eX)
        clear eW eX
        go_upto_region 29 with fail
        go_loopw [12] (fun zi wr => ∃ j : Nat, j ≤ k ∧ zi = .int .i64 (j : Int) ∧ MemC wr M n c (stF l P vb j) ∧ KeepI M w13 wr) (fun zi _ => k - (intOf zi).toNat)
        case atStart => exact ⟨0, by omega, rfl, HM9.out, KeepI.refl _ _⟩
        case round =>
          obtain ⟨j, hj, rfl, hM, hK⟩ := hrel
          by_cases hlt : j < k
          · have hr := HRS.out.keep hK
            obtain ⟨-, -, -, c34, -⟩ := hr.u.cells
            obtain ⟨B, off, e0, -, cm, -, -⟩ := hM.byt.at_ (j := P + j) (by omega)
            have fm := hM.free (P + j)
            obtain ⟨rfl, rfl⟩ : M = B ∧ 0 = off := by
              cases e0
              exact ⟨rfl, rfl⟩
            rw [Nat.zero_add] at cm
            have hN := hM.set (P + j) (by omega) ((vb / 2 ^ (8 * j) % 256 : Nat) : Int) (by omega)
            have hKN := hK.set (P + j) (.int .u8 ((vb / 2 ^ (8 * j) % 256 : Nat) : Int))
            have HN := Lib.hid (And.intro hN hKN)
            generalize (stF l P vb j)[P + j]! = old at cm
            have HJ := Lib.hid (And.intro hj (And.intro hkl hPk))
            have hPn : (P : Int) + (j : Int) < (n : Int) := by omega
            have hPs : P + j < n := by omega
            have hjk : (j : Int) < (k : Int) := by omega
            clear hM hK hr hN hKN e0
            obtain rfl | rfl | rfl | rfl : j = 0 ∨ j = 1 ∨ j = 2 ∨ j = 3 := by omega
            · rw [Nat.add_zero] at cm fm hPs HN
              have HN2 : Hid (MemC (wr.setCell ⟨M, P, none⟩ (.int .u8 ((vb : Int) % 256))) M n c (stF l P vb 1) ∧ KeepI M w13 (wr.setCell ⟨M, P, none⟩ (.int .u8 ((vb : Int) % 256)))) := Lib.hid (by
                have q : MemC (wr.setCell ⟨M, P, none⟩ (.int .u8 ((vb / 2 ^ (8 * 0) % 256 : Nat) : Int))) M n c (stF l P vb 1) ∧ KeepI M w13 (wr.setCell ⟨M, P, none⟩ (.int .u8 ((vb / 2 ^ (8 * 0) % 256 : Nat) : Int))) := HN.out
                rw [show ((vb / 2 ^ (8 * 0) % 256 : Nat) : Int) = (vb : Int) % 256 by
                  show ((vb / 1 % 256 : Nat) : Int) = _
                  omega] at q
                exact q)
              clear HN
              have eA := EWX.out.1
              have eB := EWX.out.2
              have eC := HeP.out.symm
              rw [show ((0 : Nat) : Int) = 0 from rfl] at hPn hjk ⊢
              go_wp2_with fail
              go_roundw
              case rel => exact ⟨1, by have := HJ.out; omega, rfl, HN2.out⟩
              case measure => simp [intOf]; omega
            · have eS : IntKind.i64.wrap ((P : Int) + 1) = (P : Int) + 1 := by
                rw [IntKind.wrap_i64]
                omega
              have HN2 : Hid (MemC (wr.setCell ⟨M, P + 1, none⟩ (.int .u8 ((vb : Int) / 256 % 256))) M n c (stF l P vb 2) ∧ KeepI M w13 (wr.setCell ⟨M, P + 1, none⟩ (.int .u8 ((vb : Int) / 256 % 256)))) := Lib.hid (by
                have q : MemC (wr.setCell ⟨M, P + 1, none⟩ (.int .u8 ((vb / 2 ^ (8 * 1) % 256 : Nat) : Int))) M n c (stF l P vb 2) ∧ KeepI M w13 (wr.setCell ⟨M, P + 1, none⟩ (.int .u8 ((vb / 2 ^ (8 * 1) % 256 : Nat) : Int))) := HN.out
                rw [show ((vb / 2 ^ (8 * 1) % 256 : Nat) : Int) = (vb : Int) / 256 % 256 by
                  show ((vb / 256 % 256 : Nat) : Int) = _
                  omega] at q
                exact q)
              clear HN
              have eA := EWX.out.1
              have eB := EWX.out.2
              have eC := HeP.out.symm
              rw [show ((1 : Nat) : Int) = 1 from rfl] at hPn hjk ⊢
              go_wp2_with fail
              go_roundw
              case rel => exact ⟨2, by have := HJ.out; omega, rfl, HN2.out⟩
              case measure => simp [intOf]; omega
            · have eS : IntKind.i64.wrap ((P : Int) + 2) = (P : Int) + 2 := by
                rw [IntKind.wrap_i64]
                omega
              have HN2 : Hid (MemC (wr.setCell ⟨M, P + 2, none⟩ (.int .u8 ((vb : Int) / 65536 % 256))) M n c (stF l P vb 3) ∧ KeepI M w13 (wr.setCell ⟨M, P + 2, none⟩ (.int .u8 ((vb : Int) / 65536 % 256)))) := Lib.hid (by
                have q : MemC (wr.setCell ⟨M, P + 2, none⟩ (.int .u8 ((vb / 2 ^ (8 * 2) % 256 : Nat) : Int))) M n c (stF l P vb 3) ∧ KeepI M w13 (wr.setCell ⟨M, P + 2, none⟩ (.int .u8 ((vb / 2 ^ (8 * 2) % 256 : Nat) : Int))) := HN.out
                rw [show ((vb / 2 ^ (8 * 2) % 256 : Nat) : Int) = (vb : Int) / 65536 % 256 by
                  show ((vb / 65536 % 256 : Nat) : Int) = _
                  omega] at q
                exact q)
              clear HN
              have eA := EWX.out.1
              have eB := EWX.out.2
              have eC := HeP.out.symm
              rw [show ((2 : Nat) : Int) = 2 from rfl] at hPn hjk ⊢
              go_wp2_with fail
              go_roundw
              case rel => exact ⟨3, by have := HJ.out; omega, rfl, HN2.out⟩
              case measure => simp [intOf]; omega
            · have eS : IntKind.i64.wrap ((P : Int) + 3) = (P : Int) + 3 := by
                rw [IntKind.wrap_i64]
                omega
              have HN2 : Hid (MemC (wr.setCell ⟨M, P + 3, none⟩ (.int .u8 ((vb : Int) / 16777216))) M n c (stF l P vb 4) ∧ KeepI M w13 (wr.setCell ⟨M, P + 3, none⟩ (.int .u8 ((vb : Int) / 16777216)))) := Lib.hid (by
                have q : MemC (wr.setCell ⟨M, P + 3, none⟩ (.int .u8 ((vb / 2 ^ (8 * 3) % 256 : Nat) : Int))) M n c (stF l P vb 4) ∧ KeepI M w13 (wr.setCell ⟨M, P + 3, none⟩ (.int .u8 ((vb / 2 ^ (8 * 3) % 256 : Nat) : Int))) := HN.out
                rw [show ((vb / 2 ^ (8 * 3) % 256 : Nat) : Int) = (vb : Int) / 16777216 by
                  show ((vb / 16777216 % 256 : Nat) : Int) = _
                  omega] at q
                exact q)
              clear HN
              have eA := EWX.out.1
              have eB := EWX.out.2
              have eC := HeP.out.symm
              rw [show ((3 : Nat) : Int) = 3 from rfl] at hPn hjk ⊢
              go_wp2_with fail
              go_roundw
              case rel => exact ⟨4, by have := HJ.out; omega, rfl, HN2.out⟩
              case measure => simp [intOf]; omega
          · obtain rfl : j = k := by omega
            have hr := HRS.out.keep hK
            have hM2 := hM
            go_wp2_with fail
            go_meet
            exact ⟨rfl, RDone.same hr hM2 (by
              rw [exF_store op d a b imm ⟨R, pc, 0, l⟩ (by omega) (by omega) (by
                dsimp only
                rw [← HV.out.1, ← HIm.out, ← HPP.out, ← HK.out, ← HLn.out]
                exact hPk), putR_none HZr.out]
              dsimp only
              rw [← HV.out.1, ← HV.out.2, ← HIm.out, ← HPP.out, ← HK.out, HP4.out])⟩
    omega
  case rest =>
  obtain ⟨rfl, S, at_, fin, L, hrs, hmm, hex⟩ := hcut
  have hTe : T = ⟨putR S 0 0, at_, fin, L⟩ := by
    rw [HT.out, hex]
    rfl
  subst hTe
  obtain ⟨uc, -⟩ := hrs.u.cells
  have u0 := uc 0 (by decide)
  have f0 := hrs.u.free 0
  have h46 := hrs.setR 0 (by decide) 0
  have hm46 := hrs.mem hmm 0 (.int .u32 ((0 : Nat) : Int))
  rw [show ((0 : Nat) : Int) = 0 from rfl] at h46 hm46
  have H46 := Lib.hid (And.intro h46 hm46)
  clear uc hex h46 hm46 hmm hrs HRS HM9 la lb ia ib
  go_upto_region 47 with fail
  clear u0 f0
  generalize World.setCell wc _ _ = W46 at H46 ⊢
  obtain ⟨h46, hm46⟩ := H46.out
  have hy5 := h46.y
  obtain ⟨MCU, hu, hsz, hR, h2, h3, h4, h5⟩ := h46.u.ex
  have hVU : MachV MCU (putR S 0 0) fl at_ (.slice (some ⟨M, 0, none⟩) n c) fin := ⟨hsz, hR, h2, h3, h4, h5⟩
  have hone5 := one_mach hVU
  have HVU := Lib.hid hVU
  clear hVU hR h2 h3 h4 h5 h46 hm46
  go_wp2_with (first | (refine wpList_load_row rfl _ _ rfl U rfl 52 MCU (0, 0) _ hu Tryd.underlying52 rfl (infoMs hsz) ?_) | (refine wpList_store_row rfl _ _ _ rfl (X + 1) MCU rfl rfl 52 _ hy5 (infoMs hsz) (by rw [hsz]; rfl) hone5 ?_))
  have rr := setRow_heap _ (X + 1) _ MCU 52 (0, 0) hy5
  exact bodyPost_ret (results_cell_row rfl _ _ (X + 1) 52 MCU (0, 0) _ rfl rr Tryd.underlying52 rfl (infoMs hsz)) rfl ⟨MCU, rfl, HVU.out, H46.out.2.block (setRow_other _ (X + 1) M MCU H46.out.1.memNe.2), H46.out.1.done MCU⟩
end
end Go.Proofs.YthkaclmnbahieaaDoor
