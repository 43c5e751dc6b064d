/-
  Run of the program where it runs.
-/
import Derived.Test.YthkaclmnbahieaaDoorRvRb
namespace Go.Proofs.YthkaclmnbahieaaDoor
open Go.RowKit

/-- 1 where the machine runs. -/
def finZ (w : World) (X : Nat) : Nat := match w.cell? ⟨X, 35, none⟩ with
  | some v => if intOf v = 0 then 1 else 0
  | none => 0
theorem finZ_of {w : World} {X fin : Nat} (h : w.cell? ⟨X, 35, none⟩ = some (.int .i64 (fin : Nat))) : finZ w X = if fin = 0 then 1 else 0 := by
  unfold finZ
  rw [h]
  show (if ((fin : Nat) : Int) = 0 then 1 else 0) = _
  by_cases h0 : fin = 0
  · rw [if_pos h0, if_pos (by omega)]
  · rw [if_neg h0, if_neg (by omega)]
theorem runT_end {m k : Nat} {s : Mst} (hk : k ≤ m) (h : ¬ (k < m ∧ s.fin = 0)) : runT (m - k) s = (0, s) := by
  by_cases hf : s.fin = 0
  · have : m - k = 0 := by omega
    rw [this]
    rfl
  · exact runT_stop hf _
section
variable {w : World} {MC : Array Value} {R : Nat → Nat} {fl : Int} {pc n c : Nat} {A : Option Addr} {l : List Int}
set_option maxRecDepth 100000 in
set_option maxHeartbeats 2000000 in
theorem Run_some (h : MachI MC R fl pc (.slice A n c) 0) (hE : chkE n (R 0) 0 = 0) (hB : Byt w A n c l) (hp : 0 < n) (hn : n ≤ 32768) (hR : ∀ j, R j < 4294967296) (hpc : pc < 4294967296) (hL : Laid w) (m : Nat) (hm : m ≤ 200000) (N : Nat) (T : Mst) (hT : runT m ⟨R, pc, 0, l⟩ = (N, T)) :
    Calls Tryd.prog 33 #[.agg MC, .int .i64 (m : Int)] w fun e w' => ∃ MC' g c', e = .returned (.tuple #[.agg MC', .int .i64 (N : Int), .int .i64 0]) ∧ MachV MC' T.R fl T.pc (.slice (some ⟨g, 0, none⟩) n c') (endF T) ∧ MemC w' g n c' T.l ∧ w.heap.size ≤ g ∧ Below w.heap.size w w' := by
  have hc := fun w1 => check_res h w1
  rw [hE] at hc
  have m1 : ¬ (200000 : Int) < (m : Int) := by omega
  have HT := Lib.hid hT
  have HRp := Lib.hid (And.intro hR hpc)
  have HBw := Lib.hid hB
  have HL := Lib.hid hL
  have Hm := Lib.hid hm
  clear hE hT hR hpc hB hL hm
  have hb0 : Below w.heap.size w (w.alloc (.cells MC 52)) := (Below.refl _ _).alloc (Nat.le_refl _) _
  have hx := heap_alloc_new w (.cells MC 52)
  have HCk := Lib.hid (fun w1 => hc w1)
  have hs := h.size
  clear hc
  have HH := Lib.hid h
  go_enter Tryd.func33, Tryd.ntmps33
  go_upto_region 1 with fail
  have hy : ((w.alloc (.cells MC 52)).alloc (.cells zeroMC 52)).heap[w.heap.size + 1]? = some (.cells zeroMC 52 (0, 0)) := by
    have q := heap_alloc_new (w.alloc (.cells MC 52)) (.cells zeroMC 52)
    rw [show (w.alloc (.cells MC 52)).heap.size = w.heap.size + 1 from Array.size_push ..] at q
    exact q
  have hba : Below (w.alloc (.cells MC 52)).heap.size (w.alloc (.cells MC 52)) ((w.alloc (.cells MC 52)).alloc (.cells zeroMC 52)) := (Below.refl _ _).alloc (Nat.le_refl _) _
  replace hx := (hba.block _ (lt_of_block hx)).trans hx
  have hbb : Below w.heap.size w ((w.alloc (.cells MC 52)).alloc (.cells zeroMC 52)) := hb0.trans (hba.mono hb0.size)
  generalize World.alloc (World.alloc w _) _ = W at hx hy hbb ⊢
  clear hb0 hba h
  obtain ⟨X, hX⟩ : ∃ X, X = w.heap.size := ⟨_, rfl⟩
  rw [← hX] at hx hy ⊢
  have HW := Lib.hid hbb
  have HXe := Lib.hid hX
  clear hbb hX
  go_wp2_with (refine wpList_load_row rfl _ _ rfl X rfl 52 MC (0, 0) _ hx Tryd.underlying52 rfl (infoMs hs) ?_)
  refine (HCk.out _).mono ?_
  rintro e w3 ⟨rfl, hb3⟩
  replace hx := (hb3.block _ (lt_of_block hx)).trans hx
  replace hy := (hb3.block _ (lt_of_block hy)).trans hy
  replace HW := Lib.hid (HW.out.trans (hb3.mono HW.out.size))
  clear hb3
  rw [show ((0 : Nat) : Int) = 0 from rfl]
  have HB3 := Lib.hid (HBw.out.below HW.out)
  obtain ⟨-, -, -, c34, -⟩ := HH.out.cells hx
  go_wp2_with fail
  refine (clone_some HB3.out hp (by omega)).mono ?_
  rintro e w4 ⟨g, c', rfl, hg, hM, hb4⟩
  have hXg : X ≠ g := by
    have := lt_of_block hx
    omega
  have hYg : X + 1 ≠ g := by
    have := lt_of_block hy
    omega
  have hgw : w.heap.size ≤ g := Nat.le_trans HW.out.size hg
  replace hx := (hb4.block _ (lt_of_block hx)).trans hx
  replace hy := (hb4.block _ (lt_of_block hy)).trans hy
  have hmac := HH.out.zero.mac hx
  replace HW := Lib.hid (HW.out.trans (hb4.mono HW.out.size))
  obtain ⟨-, -, -, c34, -⟩ := hmac.cells
  have f34 := hmac.free 34
  have h5 := hmac.setMem (.slice (some ⟨g, 0, none⟩) n c')
  have hM5 : MemC (w4.setCell ⟨X, 34, none⟩ (.slice (some ⟨g, 0, none⟩) n c')) g n c' l := hM.block (heap_setCell_other _ ⟨X, 34, none⟩ g _ (Ne.symm hXg))
  have hy5 := (heap_setCell_other w4 ⟨X, 34, none⟩ (X + 1) (.slice (some ⟨g, 0, none⟩) n c') (show X + 1 ≠ X by omega)).trans hy
  have hW5 : Below w.heap.size w (w4.setCell ⟨X, 34, none⟩ (.slice (some ⟨g, 0, none⟩) n c')) := HW.out.setCell (show w.heap.size ≤ X by rw [HXe.out]; exact Nat.le_refl _) _
  have HF := Lib.hid (And.intro h5 (And.intro hM5 (And.intro hy5 (And.intro hW5 (And.intro hXg (And.intro hYg hgw))))))
  clear hx hy hmac hM hb4 h5 hM5 hy5 hW5 hXg hYg hgw hg
  go_wp2_with fail
  clear c34 f34 HW HH HCk
  generalize World.setCell w4 _ _ = W5 at HF ⊢
  refine (newOps_any W5 (HL.out.below HF.out.2.2.2.1)).mono ?_
  rintro e w6 ⟨K, rfl, hK, hKs, hb6⟩
  obtain ⟨h5, hM5, hy5, hW5, hXg, hYg, hgw⟩ := HF.out
  have hmch : MchA w6 X g n c' fl ⟨R, pc, 0, l⟩ := ⟨h5.below hb6, hM5.below hb6, HRp.out.1, HRp.out.2, hXg, by omega⟩
  have hy6 := (hb6.block _ (lt_of_block hy5)).trans hy5
  have hW6 := hW5.trans (hb6.mono hW5.size)
  have hKX : K ≠ X := by
    have := h5.lt
    omega
  have hKg : K ≠ g := by
    have := hM5.lt
    omega
  have HS := Lib.hid (And.intro hmch (And.intro hy6 (And.intro hW6 (And.intro hK (And.intro hKX (And.intro hKg (And.intro hYg hgw)))))))
  clear h5 hM5 hy5 hW5 hXg hYg hgw hmch hy6 hW6 hKX hKg hK hKs hb6 HF hs hp hn
  go_upto_region 9 with fail
  go_loopw [9] (fun zi wr => ∃ (k : Nat) (s : Mst), k ≤ m ∧ zi = .int .i64 (k : Int) ∧ k + (runT (m - k) s).1 = N ∧ (runT (m - k) s).2 = T ∧ MchA wr X g n c' fl s ∧ Keep2 X g w6 wr) (fun zi wr => (m - (intOf zi).toNat) + finZ wr X)
  case atStart => exact ⟨0, _, by omega, rfl, by rw [Nat.sub_zero, HT.out]; omega, by rw [Nat.sub_zero, HT.out], HS.out.1, Keep2.refl _ _ _⟩
  case round =>
    obtain ⟨k, s, hk, rfl, hN, hTe, hm, hkp⟩ := hrel
    have hX1 : w.heap.size ≤ X := by
      rw [HXe.out]
      exact Nat.le_refl _
    have hbw := HS.out.2.2.1.trans (hkp.below hX1 HS.out.2.2.2.2.2.2.2 HS.out.2.2.1.size)
    obtain ⟨-, -, -, -, c35⟩ := hm.mac.cells
    have hz := finZ_of c35
    by_cases hc : k < m ∧ s.fin = 0
    · obtain ⟨hk1, hf⟩ := hc
      rw [hf] at c35
      have i1 : (k : Int) < (m : Int) := by omega
      have hKr : MapN wr K 41 := HS.out.2.2.2.1.block (hkp.block K HS.out.2.2.2.1.lt HS.out.2.2.2.2.1 HS.out.2.2.2.2.2.1)
      have HC := Lib.hid (step_any hm (HL.out.below hbw) K hKr)
      rw [if_pos hf] at hz
      have HA := Lib.hid (And.intro hN (And.intro hTe (And.intro hkp (And.intro hz (And.intro hf hk1)))))
      clear hN hTe hm hkp hbw hz hKr hf
      rw [show ((0 : Nat) : Int) = 0 from rfl] at c35
      go_wp2_with fail
      refine HC.out.mono ?_
      rintro e w8 ⟨rfl, hm8, hk8⟩
      obtain ⟨-, -, -, -, c35'⟩ := hm8.mac.cells
      have hz8 := finZ_of c35'
      obtain ⟨hN, hTe, hkp, hz, hf, hk1⟩ := HA.out
      have hmk : m - k = (m - (k + 1)) + 1 := by omega
      rw [hmk] at hN hTe
      have hkp8 := hkp.trans hk8
      clear c35 HC hk8 hkp
      by_cases h3 : (stepF s).fin = 3
      · have hz80 : finZ w8 X = 0 := hz8.trans (if_neg (by omega))
        rw [h3] at c35'
        rw [runT_fault hf h3] at hN hTe
        have hne : ¬ (stepF s).fin = 0 := by omega
        have HG := Lib.hid (And.intro hN (And.intro hTe (And.intro hm8 (And.intro hkp8 (And.intro hz (And.intro hz80 hne))))))
        rw [show ((3 : Nat) : Int) = 3 from rfl] at c35'
        clear hN hTe hm8 hkp8 hz hz8 hmk h3 hf HA hz80 hne
        go_wp2_with fail
        go_roundw
        case rel => exact ⟨k, stepF s, hk, rfl, by rw [runT_stop HG.out.2.2.2.2.2.2]; exact HG.out.1, by rw [runT_stop HG.out.2.2.2.2.2.2]; exact HG.out.2.1, HG.out.2.2.1, HG.out.2.2.2.1⟩
        case measure =>
          have q1 := HG.out.2.2.2.2.1
          have q2 := HG.out.2.2.2.2.2.1
          rw [q1, q2]
          omega
      · have hz81 : finZ w8 X ≤ 1 := by
          rw [hz8]
          split <;> omega
        rw [runT_go hf h3] at hN hTe
        have i3 : (((stepF s).fin : Int) != 3) = true := bne_iff_ne.mpr (by omega)
        have i4 : (((stepF s).fin : Int) == 3) = false := beq_eq_false_iff_ne.mpr (by omega)
        have HG := Lib.hid (And.intro hN (And.intro hTe (And.intro hm8 (And.intro hkp8 (And.intro hz (And.intro hz81 hk1))))))
        clear hN hTe hm8 hkp8 hz hz8 hmk h3 hf HA hz81
        have k1 := Hm.out
        go_wp2_with fail
        go_roundw
        case rel => exact ⟨k + 1, stepF s, by omega, by go_num, by have q := HG.out.1; omega, HG.out.2.1, HG.out.2.2.1, HG.out.2.2.2.1⟩
        case measure =>
          have q1 := HG.out.2.2.2.2.1
          have q2 := HG.out.2.2.2.2.2.1
          have q3 := HG.out.2.2.2.2.2.2
          rw [q1]
          simp only [intOf]
          omega
    · rw [runT_end hk hc] at hN hTe
      dsimp only at hN hTe
      subst hTe
      have hNk : k = N := by omega
      subst hNk
      have hy9 := (hkp.block _ (lt_of_block HS.out.2.1) (show X + 1 ≠ X by omega) HS.out.2.2.2.2.2.2.1).trans HS.out.2.1
      have HA := Lib.hid (And.intro hbw (And.intro hkp (And.intro hm hX1)))
      have f35 := hm.mac.free 35
      by_cases hf : s.fin = 0
      · have hk2 : ¬ (k : Int) < (m : Int) := by omega
        have h9 := hm.mac.setFin 4
        have hm9 : MemC (wr.setCell ⟨X, 35, none⟩ (.int .i64 ((4 : Nat) : Int))) g n c' s.l := hm.mem.block (heap_setCell_other _ ⟨X, 35, none⟩ g _ (Ne.symm hm.ne))
        have hb9 : Below w.heap.size w (wr.setCell ⟨X, 35, none⟩ (.int .i64 ((4 : Nat) : Int))) := hbw.setCell (p := ⟨X, 35, none⟩) hX1 _
        have hy10 := (heap_setCell_other wr ⟨X, 35, none⟩ (X + 1) (.int .i64 ((4 : Nat) : Int)) (show X + 1 ≠ X by omega)).trans hy9
        have hEn : endF s = 4 := if_pos hf
        rw [hf] at c35
        rw [show ((4 : Nat) : Int) = 4 from rfl] at h9 hm9 hb9 hy10
        rw [show ((0 : Nat) : Int) = 0 from rfl] at c35
        have HE := Lib.hid (And.intro h9 (And.intro hm9 (And.intro hb9 (And.intro hy10 hEn))))
        clear hN hm hkp hbw hz hc hf h9 hm9 hb9 hy9 hy10 hEn hX1
        go_upto_region 15 with fail
        clear c35 f35 hk2
        generalize World.setCell wr _ _ = W9 at HE ⊢
        obtain ⟨h9, hm9, hb9, hy10, hEn⟩ := HE.out
        obtain ⟨MC9, hx9, hs9, hr9⟩ := h9.ex
        have hV9 : MachV MC9 s.R fl s.pc (.slice (some ⟨g, 0, none⟩) n c') (endF s) := by
          rw [hEn]
          exact ⟨hs9, hr9.1, hr9.2.1, hr9.2.2.1, hr9.2.2.2.1, hr9.2.2.2.2⟩
        have hone := one_mach hV9
        have HV9 := Lib.hid hV9
        have HQ := Lib.hid (And.intro hm9 hb9)
        clear h9 hm9 hb9 hr9 hV9 hEn
        go_wp2_with (first | (refine wpList_load_row rfl _ _ rfl X rfl 52 MC9 (0, 0) _ hx9 Tryd.underlying52 rfl (infoMs hs9) ?_) | (refine wpList_store_row rfl _ _ _ rfl (X + 1) MC9 rfl rfl 52 _ hy10 (infoMs hs9) (by rw [hs9]; rfl) hone ?_))
        have rr := setRow_heap _ (X + 1) _ MC9 52 (0, 0) hy10
        refine bodyPost_ret (res3c rfl _ _ (X + 1) MC9 rfl (loadMc _ (X + 1) MC9 hs9 rr)) rfl ⟨MC9, g, c', rfl, HV9.out, HQ.out.1.block (setRow_other _ (X + 1) g MC9 (Ne.symm HS.out.2.2.2.2.2.2.1)), HS.out.2.2.2.2.2.2.2, bel_setRow HQ.out.2 (show w.heap.size ≤ X + 1 by rw [HXe.out]; exact Nat.le_succ _) MC9⟩
      · have i5 : ((s.fin : Int) == 0) = false := beq_eq_false_iff_ne.mpr (by omega)
        have i6 : ¬ s.fin = 0 := hf
        have hEn : endF s = s.fin := if_neg hf
        have h9 := hm.mac
        have hm9 := hm.mem
        have hb9 := hbw
        have hy10 := hy9
        clear hN hkp hz hc hf hX1
        by_cases hk2 : k < m
        · have i7 : (k : Int) < (m : Int) := by omega
          have HE := Lib.hid (And.intro h9 (And.intro hm9 (And.intro hb9 (And.intro hy10 hEn))))
          clear h9 hm9 hb9 hy10 hEn hm hbw hy9 i6 hk2
          go_upto_region 15 with fail
          clear c35 f35 i5 i7
          obtain ⟨h9, hm9, hb9, hy10, hEn⟩ := HE.out
          generalize wr = W9 at h9 hm9 hb9 hy10 ⊢
          obtain ⟨MC9, hx9, hs9, hr9⟩ := h9.ex
          have hV9 : MachV MC9 s.R fl s.pc (.slice (some ⟨g, 0, none⟩) n c') (endF s) := by
            rw [hEn]
            exact ⟨hs9, hr9.1, hr9.2.1, hr9.2.2.1, hr9.2.2.2.1, hr9.2.2.2.2⟩
          have hone := one_mach hV9
          have HV9 := Lib.hid hV9
          have HQ := Lib.hid (And.intro hm9 hb9)
          clear h9 hm9 hb9 hr9 hV9 hEn
          go_wp2_with (first | (refine wpList_load_row rfl _ _ rfl X rfl 52 MC9 (0, 0) _ hx9 Tryd.underlying52 rfl (infoMs hs9) ?_) | (refine wpList_store_row rfl _ _ _ rfl (X + 1) MC9 rfl rfl 52 _ hy10 (infoMs hs9) (by rw [hs9]; rfl) hone ?_))
          have rr := setRow_heap _ (X + 1) _ MC9 52 (0, 0) hy10
          refine bodyPost_ret (res3c rfl _ _ (X + 1) MC9 rfl (loadMc _ (X + 1) MC9 hs9 rr)) rfl ⟨MC9, g, c', rfl, HV9.out, HQ.out.1.block (setRow_other _ (X + 1) g MC9 (Ne.symm HS.out.2.2.2.2.2.2.1)), HS.out.2.2.2.2.2.2.2, bel_setRow HQ.out.2 (show w.heap.size ≤ X + 1 by rw [HXe.out]; exact Nat.le_succ _) MC9⟩
        · have i7 : ¬ (k : Int) < (m : Int) := by omega
          have HE := Lib.hid (And.intro h9 (And.intro hm9 (And.intro hb9 (And.intro hy10 hEn))))
          clear h9 hm9 hb9 hy10 hEn hm hbw hy9 i6 hk2
          go_upto_region 15 with fail
          clear c35 f35 i5 i7
          obtain ⟨h9, hm9, hb9, hy10, hEn⟩ := HE.out
          generalize wr = W9 at h9 hm9 hb9 hy10 ⊢
          obtain ⟨MC9, hx9, hs9, hr9⟩ := h9.ex
          have hV9 : MachV MC9 s.R fl s.pc (.slice (some ⟨g, 0, none⟩) n c') (endF s) := by
            rw [hEn]
            exact ⟨hs9, hr9.1, hr9.2.1, hr9.2.2.1, hr9.2.2.2.1, hr9.2.2.2.2⟩
          have hone := one_mach hV9
          have HV9 := Lib.hid hV9
          have HQ := Lib.hid (And.intro hm9 hb9)
          clear h9 hm9 hb9 hr9 hV9 hEn
          go_wp2_with (first | (refine wpList_load_row rfl _ _ rfl X rfl 52 MC9 (0, 0) _ hx9 Tryd.underlying52 rfl (infoMs hs9) ?_) | (refine wpList_store_row rfl _ _ _ rfl (X + 1) MC9 rfl rfl 52 _ hy10 (infoMs hs9) (by rw [hs9]; rfl) hone ?_))
          have rr := setRow_heap _ (X + 1) _ MC9 52 (0, 0) hy10
          refine bodyPost_ret (res3c rfl _ _ (X + 1) MC9 rfl (loadMc _ (X + 1) MC9 hs9 rr)) rfl ⟨MC9, g, c', rfl, HV9.out, HQ.out.1.block (setRow_other _ (X + 1) g MC9 (Ne.symm HS.out.2.2.2.2.2.2.1)), HS.out.2.2.2.2.2.2.2, bel_setRow HQ.out.2 (show w.heap.size ≤ X + 1 by rw [HXe.out]; exact Nat.le_succ _) MC9⟩
end
end Go.Proofs.YthkaclmnbahieaaDoor
