/-
  Run of the reference where the memory is empty; what runs return.
-/
import Derived.Test.YthkaclmnbahieaaDoorRvRe
namespace Go.Proofs.YthkaclmnbahieaaDoor
open Go.RowKit

section
variable {w : World} {MC : Array Value} {R : Nat → Nat} {fl : Int} {pc n c : Nat} {fin : Int} {A : Option Addr} {l : List Int}
set_option maxRecDepth 100000 in
set_option maxHeartbeats 2000000 in
theorem RRun_none0 (h : MachI MC R fl pc (.slice none 0 0) 0) (hE : askM 0 (R 0) = 0) (hpc : pc < 4294967296) (m : Nat) (hm : m ≤ 200000) (T : Mst) (hT : (runT m ⟨R, pc, 0, []⟩).2 = T) :
    Calls Tryd.prog 34 #[.agg MC, .int .i64 (m : Int)] w fun e w' => ∃ MC' A' c', e = .returned (.tuple #[.agg MC', .int .i64 0, .int .i64 0]) ∧ MachV MC' R fl pc (.slice A' 0 c') (endF T) ∧ Below w.heap.size w w' := by
  have hc := fun w1 => askedI h w1
  rw [hE] at hc
  have HWi := Lib.hid (fun w1 => within_sym (m : Int) 0 200000 w1)
  rw [decide_eq_true (show (0 : Int) ≤ (m : Int) ∧ (m : Int) ≤ 200000 by omega)] at HWi
  have HT := Lib.hid hT
  have HPc := Lib.hid hpc
  clear hE hT hpc hm
  have hb0 : Below w.heap.size w (w.alloc (.cells MC 52)) := (Below.refl _ _).alloc (Nat.le_refl _) _
  have hx := heap_alloc_new w (.cells MC 52)
  have HCk := Lib.hid (fun w1 => hc w1)
  have hs := h.size
  clear hc
  have HH := Lib.hid h
  go_enter Tryd.func34, Tryd.ntmps34
  go_upto_region 1 with fail
  have hy : ((w.alloc (.cells MC 52)).alloc (.cells zeroMC 52)).heap[w.heap.size + 1]? = some (.cells zeroMC 52 (0, 0)) := by
    have q := heap_alloc_new (w.alloc (.cells MC 52)) (.cells zeroMC 52)
    rw [show (w.alloc (.cells MC 52)).heap.size = w.heap.size + 1 from Array.size_push ..] at q
    exact q
  have hba : Below (w.alloc (.cells MC 52)).heap.size (w.alloc (.cells MC 52)) ((w.alloc (.cells MC 52)).alloc (.cells zeroMC 52)) := (Below.refl _ _).alloc (Nat.le_refl _) _
  replace hx := (hba.block _ (lt_of_block hx)).trans hx
  have hbb : Below w.heap.size w ((w.alloc (.cells MC 52)).alloc (.cells zeroMC 52)) := hb0.trans (hba.mono hb0.size)
  generalize World.alloc (World.alloc w _) _ = W at hx hy hbb ⊢
  clear hb0 hba h
  obtain ⟨X, hX⟩ : ∃ X, X = w.heap.size := ⟨_, rfl⟩
  rw [← hX] at hx hy ⊢
  have HW := Lib.hid hbb
  have HXe := Lib.hid hX
  clear hbb hX
  go_wp2_with (refine wpList_load_row rfl _ _ rfl X rfl 52 MC (0, 0) _ hx Tryd.underlying52 rfl (infoMs hs) ?_)
  refine (HCk.out _).mono ?_
  rintro e w3 ⟨rfl, hb3⟩
  replace hx := (hb3.block _ (lt_of_block hx)).trans hx
  replace hy := (hb3.block _ (lt_of_block hy)).trans hy
  replace HW := Lib.hid (HW.out.trans (hb3.mono HW.out.size))
  clear hb3
  rw [show ((0 : Nat) : Int) = 0 from rfl]
  obtain ⟨-, -, -, c34, c35⟩ := HH.out.cells hx
  go_wp2_with fail
  refine (HWi.out _).mono ?_
  rintro e w4 ⟨rfl, rfl⟩
  go_upto_region 7 with fail
  have hba : Below w3.heap.size w3 (w3.alloc (.cells #[] 5)) := (Below.refl _ _).alloc (Nat.le_refl _) _
  have hx4 := (hba.block _ (lt_of_block hx)).trans hx
  have hy4 := (hba.block _ (lt_of_block hy)).trans hy
  have hmac := HH.out.zero.mac hx4
  have f34 := hmac.free 34
  have HW4 := Lib.hid (HW.out.trans (hba.mono HW.out.size))
  have h5 := hmac.setMem (.slice (some ⟨w3.heap.size, 0, none⟩) 0 0)
  have hy5 := (heap_setCell_other (w3.alloc (.cells #[] 5)) ⟨X, 34, none⟩ (X + 1) (.slice (some ⟨w3.heap.size, 0, none⟩) 0 0) (show X + 1 ≠ X by omega)).trans hy4
  have hW5 : Below w.heap.size w ((w3.alloc (.cells #[] 5)).setCell ⟨X, 34, none⟩ (.slice (some ⟨w3.heap.size, 0, none⟩) 0 0)) := HW4.out.setCell (show w.heap.size ≤ X by rw [HXe.out]; exact Nat.le_refl _) _
  have HS := Lib.hid (And.intro h5 (And.intro hy5 hW5))
  obtain ⟨-, -, -, c34, -⟩ := hmac.cells
  clear hx hy hx4 hy4 hmac h5 hy5 hW5 hba HW4 c35
  go_upto_region 8 with fail
  clear c34 f34 HW HCk HWi
  generalize World.setCell _ _ _ = W5 at HS ⊢
  generalize w3.heap.size = g at HS ⊢
  go_loopw [8] (fun zi wr => ∃ s : Mst, zi = .int .i64 0 ∧ s.R = R ∧ s.pc = pc ∧ s.l = [] ∧ (runT m s).2 = T ∧ MacC wr X R fl pc (.slice (some ⟨g, 0, none⟩) 0 0) s.fin ∧ KeepI X W5 wr) (fun zi wr => finZ wr X)
  case atStart => exact ⟨_, rfl, rfl, rfl, rfl, HT.out, HS.out.1, KeepI.refl _ _⟩
  case round =>
    obtain ⟨s, rfl, hsR, hsp, hsl, hTe, hm, hkp⟩ := hrel
    have hX1 : w.heap.size ≤ X := by
      rw [HXe.out]
      exact Nat.le_refl _
    have hbw := HS.out.2.2.trans (hkp.below hX1 HS.out.2.2.size)
    obtain ⟨-, -, -, -, c35⟩ := hm.cells
    have hz := finZ_of c35
    by_cases hc : 0 < m ∧ s.fin = 0
    · obtain ⟨hk1, hf⟩ := hc
      have hst : stepF s = ⟨s.R, s.pc, 3, s.l⟩ := stepF_stop s (by rw [hsl]; simp)
      obtain ⟨MCs, hxs, hss, hrs⟩ := hm.ex
      rw [hf] at c35 hrs
      have hVs : MachV MCs R fl pc (.slice (some ⟨g, 0, none⟩) 0 0) 0 := ⟨hss, hrs.1, hrs.2.1, hrs.2.2.1, hrs.2.2.2.1, hrs.2.2.2.2⟩
      have i1 : (0 : Int) < (m : Int) := by omega
      have HC := Lib.hid (rstep_fault (w := wr) hVs HPc.out (by omega) (by omega))
      rw [if_pos hf] at hz
      have hTn : (runT m ⟨s.R, s.pc, 3, s.l⟩).2 = T := by
        rw [← hTe, show m = (m - 1) + 1 by omega, runT_fault hf (by rw [hst]), hst, runT_stop (show ¬ (3 : Nat) = 0 by decide)]
      have HA2 := Lib.hid (And.intro hTn (And.intro hkp (And.intro hz (And.intro hsR (And.intro hsp hsl)))))
      clear hTe hm hkp hbw hz hf hst hTn hsR hsp hsl hX1 hrs hVs
      rw [show ((0 : Nat) : Int) = 0 from rfl] at c35
      go_wp2_with (refine wpList_load_row rfl _ _ rfl X rfl 52 MCs (0, 0) _ hxs Tryd.underlying52 rfl (infoMs hss) ?_)
      refine HC.out.mono ?_
      rintro e w8 ⟨MC8, rfl, hV8, hb8⟩
      have hx8 := (hb8.block X (lt_of_block hxs)).trans hxs
      have hs8 := hV8.size
      have hone8 := one_mach hV8
      have hx9 := setRow_heap _ X _ MC8 52 (0, 0) hx8
      have hm9 := hV8.mac hx9
      have hk9 : KeepI X wr (w8.setRow X MC8) := ⟨hb8.os, hb8.tape, hb8.output, by simpa using hb8.size, fun j hj hn1 => (setRow_other w8 X j MC8 hn1).trans (hb8.block j hj)⟩
      have HM9 := Lib.hid (And.intro hm9 hk9)
      clear hV8 hb8 hx9 hm9 hk9 c35 HC
      go_upto_region 10 with (refine wpList_store_row rfl _ _ _ rfl X MC8 rfl rfl 52 _ hx8 (infoMs hs8) (by first | rw [hs8, hss] | rw [hss, hs8]) hone8 ?_)
      clear hx8 hs8 hone8 hxs hss
      generalize World.setRow w8 _ _ = W9 at HM9 ⊢
      obtain ⟨hm8, hk8⟩ := HM9.out
      obtain ⟨-, -, -, -, c35'⟩ := hm8.cells
      have hz8 : finZ W9 X = 0 := (finZ_of c35').trans (if_neg (by decide))
      have HG := Lib.hid (And.intro hm8 (And.intro (HA2.out.2.1.trans hk8) hz8))
      rw [show ((3 : Nat) : Int) = 3 from rfl] at c35'
      clear hk8 hm8 hz8
      go_wp2_with fail
      go_roundw
      case rel => exact ⟨⟨s.R, s.pc, 3, s.l⟩, rfl, HA2.out.2.2.2.1, HA2.out.2.2.2.2.1, HA2.out.2.2.2.2.2, HA2.out.1, HG.out.1, HG.out.2.1⟩
      case measure =>
        have q1 := HG.out.2.2
        have q2 := HA2.out.2.2.1
        rw [q1, q2]
        omega
    · have he := runT_end (k := 0) (Nat.zero_le m) hc
      rw [Nat.sub_zero] at he
      rw [he] at hTe
      dsimp only at hTe
      subst hTe
      have hy9 := (hkp.block _ (lt_of_block HS.out.2.1) (show X + 1 ≠ X by omega)).trans HS.out.2.1
      have f35 := hm.free 35
      by_cases hf : s.fin = 0
      · have hk2 : ¬ (0 : Int) < (m : Int) := by omega
        have h9 := hm.setFin 4
        have hb9 : Below w.heap.size w (wr.setCell ⟨X, 35, none⟩ (.int .i64 ((4 : Nat) : Int))) := hbw.setCell (p := ⟨X, 35, none⟩) hX1 _
        have hy10 := (heap_setCell_other wr ⟨X, 35, none⟩ (X + 1) (.int .i64 ((4 : Nat) : Int)) (show X + 1 ≠ X by omega)).trans hy9
        have hEn : endF s = 4 := if_pos hf
        rw [hf] at c35
        rw [show ((4 : Nat) : Int) = 4 from rfl] at h9 hb9 hy10
        rw [show ((0 : Nat) : Int) = 0 from rfl] at c35
        have HE := Lib.hid (And.intro h9 (And.intro hb9 (And.intro hy10 hEn)))
        clear hm hkp hbw hz hc hf h9 hb9 hy9 hy10 hEn hX1 he hsR hsp hsl
        go_upto_region 14 with fail
        clear c35 f35 hk2
        generalize World.setCell wr _ _ = W9 at HE ⊢
        obtain ⟨h9, hb9, hy10, hEn⟩ := HE.out
        obtain ⟨MC9, hx9, hs9, hr9⟩ := h9.ex
        have hV9 : MachV MC9 R fl pc (.slice (some ⟨g, 0, none⟩) 0 0) (endF s) := by
          rw [hEn]
          exact ⟨hs9, hr9.1, hr9.2.1, hr9.2.2.1, hr9.2.2.2.1, hr9.2.2.2.2⟩
        have hone := one_mach hV9
        have HV9 := Lib.hid hV9
        have HQ := Lib.hid hb9
        clear h9 hb9 hr9 hV9 hEn
        go_wp2_with (first | (refine wpList_load_row rfl _ _ rfl X rfl 52 MC9 (0, 0) _ hx9 Tryd.underlying52 rfl (infoMs hs9) ?_) | (refine wpList_store_row rfl _ _ _ rfl (X + 1) MC9 rfl rfl 52 _ hy10 (infoMs hs9) (by rw [hs9]; rfl) hone ?_))
        have rr := setRow_heap _ (X + 1) _ MC9 52 (0, 0) hy10
        refine bodyPost_ret (res3c rfl _ _ (X + 1) MC9 rfl (loadMc _ (X + 1) MC9 hs9 rr)) rfl ⟨MC9, _, _, rfl, HV9.out, bel_setRow HQ.out (show w.heap.size ≤ X + 1 by rw [HXe.out]; exact Nat.le_succ _) MC9⟩
      · have i5 : ((s.fin : Int) == 0) = false := beq_eq_false_iff_ne.mpr (by omega)
        have hEn : endF s = s.fin := if_neg hf
        clear hkp hz hc hf hX1 he hsR hsp hsl
        by_cases hk2 : 0 < m
        · have i7 : (0 : Int) < (m : Int) := by omega
          have HE := Lib.hid (And.intro hm (And.intro hbw (And.intro hy9 hEn)))
          clear hEn hm hbw hy9 hk2
          go_upto_region 14 with fail
          clear c35 f35 i5 i7
          obtain ⟨h9, hb9, hy10, hEn⟩ := HE.out
          generalize wr = W9 at h9 hb9 hy10 ⊢
          obtain ⟨MC9, hx9, hs9, hr9⟩ := h9.ex
          have hV9 : MachV MC9 R fl pc (.slice (some ⟨g, 0, none⟩) 0 0) (endF s) := by
            rw [hEn]
            exact ⟨hs9, hr9.1, hr9.2.1, hr9.2.2.1, hr9.2.2.2.1, hr9.2.2.2.2⟩
          have hone := one_mach hV9
          have HV9 := Lib.hid hV9
          have HQ := Lib.hid hb9
          clear h9 hb9 hr9 hV9 hEn
          go_wp2_with (first | (refine wpList_load_row rfl _ _ rfl X rfl 52 MC9 (0, 0) _ hx9 Tryd.underlying52 rfl (infoMs hs9) ?_) | (refine wpList_store_row rfl _ _ _ rfl (X + 1) MC9 rfl rfl 52 _ hy10 (infoMs hs9) (by rw [hs9]; rfl) hone ?_))
          have rr := setRow_heap _ (X + 1) _ MC9 52 (0, 0) hy10
          refine bodyPost_ret (res3c rfl _ _ (X + 1) MC9 rfl (loadMc _ (X + 1) MC9 hs9 rr)) rfl ⟨MC9, _, _, rfl, HV9.out, bel_setRow HQ.out (show w.heap.size ≤ X + 1 by rw [HXe.out]; exact Nat.le_succ _) MC9⟩
        · have i7 : ¬ (0 : Int) < (m : Int) := by omega
          have HE := Lib.hid (And.intro hm (And.intro hbw (And.intro hy9 hEn)))
          clear hEn hm hbw hy9 hk2
          go_upto_region 14 with fail
          clear c35 f35 i5 i7
          obtain ⟨h9, hb9, hy10, hEn⟩ := HE.out
          generalize wr = W9 at h9 hb9 hy10 ⊢
          obtain ⟨MC9, hx9, hs9, hr9⟩ := h9.ex
          have hV9 : MachV MC9 R fl pc (.slice (some ⟨g, 0, none⟩) 0 0) (endF s) := by
            rw [hEn]
            exact ⟨hs9, hr9.1, hr9.2.1, hr9.2.2.1, hr9.2.2.2.1, hr9.2.2.2.2⟩
          have hone := one_mach hV9
          have HV9 := Lib.hid hV9
          have HQ := Lib.hid hb9
          clear h9 hb9 hr9 hV9 hEn
          go_wp2_with (first | (refine wpList_load_row rfl _ _ rfl X rfl 52 MC9 (0, 0) _ hx9 Tryd.underlying52 rfl (infoMs hs9) ?_) | (refine wpList_store_row rfl _ _ _ rfl (X + 1) MC9 rfl rfl 52 _ hy10 (infoMs hs9) (by rw [hs9]; rfl) hone ?_))
          have rr := setRow_heap _ (X + 1) _ MC9 52 (0, 0) hy10
          refine bodyPost_ret (res3c rfl _ _ (X + 1) MC9 rfl (loadMc _ (X + 1) MC9 hs9 rr)) rfl ⟨MC9, _, _, rfl, HV9.out, bel_setRow HQ.out (show w.heap.size ≤ X + 1 by rw [HXe.out]; exact Nat.le_succ _) MC9⟩
set_option maxRecDepth 100000 in
set_option maxHeartbeats 2000000 in
theorem RRun_none1 {ad : Addr} (h : MachI MC R fl pc (.slice (some ad) 0 c) 0) (hE : askM 0 (R 0) = 0) (hpc : pc < 4294967296) (m : Nat) (hm : m ≤ 200000) (T : Mst) (hT : (runT m ⟨R, pc, 0, []⟩).2 = T) :
    Calls Tryd.prog 34 #[.agg MC, .int .i64 (m : Int)] w fun e w' => ∃ MC' A' c', e = .returned (.tuple #[.agg MC', .int .i64 0, .int .i64 0]) ∧ MachV MC' R fl pc (.slice A' 0 c') (endF T) ∧ Below w.heap.size w w' := by
  have hc := fun w1 => askedI h w1
  rw [hE] at hc
  have HWi := Lib.hid (fun w1 => within_sym (m : Int) 0 200000 w1)
  rw [decide_eq_true (show (0 : Int) ≤ (m : Int) ∧ (m : Int) ≤ 200000 by omega)] at HWi
  have HT := Lib.hid hT
  have HPc := Lib.hid hpc
  clear hE hT hpc hm
  have hb0 : Below w.heap.size w (w.alloc (.cells MC 52)) := (Below.refl _ _).alloc (Nat.le_refl _) _
  have hx := heap_alloc_new w (.cells MC 52)
  have HCk := Lib.hid (fun w1 => hc w1)
  have hs := h.size
  clear hc
  have HH := Lib.hid h
  go_enter Tryd.func34, Tryd.ntmps34
  go_upto_region 1 with fail
  have hy : ((w.alloc (.cells MC 52)).alloc (.cells zeroMC 52)).heap[w.heap.size + 1]? = some (.cells zeroMC 52 (0, 0)) := by
    have q := heap_alloc_new (w.alloc (.cells MC 52)) (.cells zeroMC 52)
    rw [show (w.alloc (.cells MC 52)).heap.size = w.heap.size + 1 from Array.size_push ..] at q
    exact q
  have hba : Below (w.alloc (.cells MC 52)).heap.size (w.alloc (.cells MC 52)) ((w.alloc (.cells MC 52)).alloc (.cells zeroMC 52)) := (Below.refl _ _).alloc (Nat.le_refl _) _
  replace hx := (hba.block _ (lt_of_block hx)).trans hx
  have hbb : Below w.heap.size w ((w.alloc (.cells MC 52)).alloc (.cells zeroMC 52)) := hb0.trans (hba.mono hb0.size)
  generalize World.alloc (World.alloc w _) _ = W at hx hy hbb ⊢
  clear hb0 hba h
  obtain ⟨X, hX⟩ : ∃ X, X = w.heap.size := ⟨_, rfl⟩
  rw [← hX] at hx hy ⊢
  have HW := Lib.hid hbb
  have HXe := Lib.hid hX
  clear hbb hX
  go_wp2_with (refine wpList_load_row rfl _ _ rfl X rfl 52 MC (0, 0) _ hx Tryd.underlying52 rfl (infoMs hs) ?_)
  refine (HCk.out _).mono ?_
  rintro e w3 ⟨rfl, hb3⟩
  replace hx := (hb3.block _ (lt_of_block hx)).trans hx
  replace hy := (hb3.block _ (lt_of_block hy)).trans hy
  replace HW := Lib.hid (HW.out.trans (hb3.mono HW.out.size))
  clear hb3
  rw [show ((0 : Nat) : Int) = 0 from rfl]
  obtain ⟨-, -, -, c34, c35⟩ := HH.out.cells hx
  go_wp2_with fail
  refine (HWi.out _).mono ?_
  rintro e w4 ⟨rfl, rfl⟩
  go_upto_region 7 with fail
  have hba : Below w3.heap.size w3 (w3.alloc (.cells #[] 5)) := (Below.refl _ _).alloc (Nat.le_refl _) _
  have hx4 := (hba.block _ (lt_of_block hx)).trans hx
  have hy4 := (hba.block _ (lt_of_block hy)).trans hy
  have hmac := HH.out.zero.mac hx4
  have f34 := hmac.free 34
  have HW4 := Lib.hid (HW.out.trans (hba.mono HW.out.size))
  have h5 := hmac.setMem (.slice (some ⟨w3.heap.size, 0, none⟩) 0 0)
  have hy5 := (heap_setCell_other (w3.alloc (.cells #[] 5)) ⟨X, 34, none⟩ (X + 1) (.slice (some ⟨w3.heap.size, 0, none⟩) 0 0) (show X + 1 ≠ X by omega)).trans hy4
  have hW5 : Below w.heap.size w ((w3.alloc (.cells #[] 5)).setCell ⟨X, 34, none⟩ (.slice (some ⟨w3.heap.size, 0, none⟩) 0 0)) := HW4.out.setCell (show w.heap.size ≤ X by rw [HXe.out]; exact Nat.le_refl _) _
  have HS := Lib.hid (And.intro h5 (And.intro hy5 hW5))
  obtain ⟨-, -, -, c34, -⟩ := hmac.cells
  clear hx hy hx4 hy4 hmac h5 hy5 hW5 hba HW4 c35
  go_upto_region 8 with fail
  clear c34 f34 HW HCk HWi
  generalize World.setCell _ _ _ = W5 at HS ⊢
  generalize w3.heap.size = g at HS ⊢
  go_loopw [8] (fun zi wr => ∃ s : Mst, zi = .int .i64 0 ∧ s.R = R ∧ s.pc = pc ∧ s.l = [] ∧ (runT m s).2 = T ∧ MacC wr X R fl pc (.slice (some ⟨g, 0, none⟩) 0 0) s.fin ∧ KeepI X W5 wr) (fun zi wr => finZ wr X)
  case atStart => exact ⟨_, rfl, rfl, rfl, rfl, HT.out, HS.out.1, KeepI.refl _ _⟩
  case round =>
    obtain ⟨s, rfl, hsR, hsp, hsl, hTe, hm, hkp⟩ := hrel
    have hX1 : w.heap.size ≤ X := by
      rw [HXe.out]
      exact Nat.le_refl _
    have hbw := HS.out.2.2.trans (hkp.below hX1 HS.out.2.2.size)
    obtain ⟨-, -, -, -, c35⟩ := hm.cells
    have hz := finZ_of c35
    by_cases hc : 0 < m ∧ s.fin = 0
    · obtain ⟨hk1, hf⟩ := hc
      have hst : stepF s = ⟨s.R, s.pc, 3, s.l⟩ := stepF_stop s (by rw [hsl]; simp)
      obtain ⟨MCs, hxs, hss, hrs⟩ := hm.ex
      rw [hf] at c35 hrs
      have hVs : MachV MCs R fl pc (.slice (some ⟨g, 0, none⟩) 0 0) 0 := ⟨hss, hrs.1, hrs.2.1, hrs.2.2.1, hrs.2.2.2.1, hrs.2.2.2.2⟩
      have i1 : (0 : Int) < (m : Int) := by omega
      have HC := Lib.hid (rstep_fault (w := wr) hVs HPc.out (by omega) (by omega))
      rw [if_pos hf] at hz
      have hTn : (runT m ⟨s.R, s.pc, 3, s.l⟩).2 = T := by
        rw [← hTe, show m = (m - 1) + 1 by omega, runT_fault hf (by rw [hst]), hst, runT_stop (show ¬ (3 : Nat) = 0 by decide)]
      have HA2 := Lib.hid (And.intro hTn (And.intro hkp (And.intro hz (And.intro hsR (And.intro hsp hsl)))))
      clear hTe hm hkp hbw hz hf hst hTn hsR hsp hsl hX1 hrs hVs
      rw [show ((0 : Nat) : Int) = 0 from rfl] at c35
      go_wp2_with (refine wpList_load_row rfl _ _ rfl X rfl 52 MCs (0, 0) _ hxs Tryd.underlying52 rfl (infoMs hss) ?_)
      refine HC.out.mono ?_
      rintro e w8 ⟨MC8, rfl, hV8, hb8⟩
      have hx8 := (hb8.block X (lt_of_block hxs)).trans hxs
      have hs8 := hV8.size
      have hone8 := one_mach hV8
      have hx9 := setRow_heap _ X _ MC8 52 (0, 0) hx8
      have hm9 := hV8.mac hx9
      have hk9 : KeepI X wr (w8.setRow X MC8) := ⟨hb8.os, hb8.tape, hb8.output, by simpa using hb8.size, fun j hj hn1 => (setRow_other w8 X j MC8 hn1).trans (hb8.block j hj)⟩
      have HM9 := Lib.hid (And.intro hm9 hk9)
      clear hV8 hb8 hx9 hm9 hk9 c35 HC
      go_upto_region 10 with (refine wpList_store_row rfl _ _ _ rfl X MC8 rfl rfl 52 _ hx8 (infoMs hs8) (by first | rw [hs8, hss] | rw [hss, hs8]) hone8 ?_)
      clear hx8 hs8 hone8 hxs hss
      generalize World.setRow w8 _ _ = W9 at HM9 ⊢
      obtain ⟨hm8, hk8⟩ := HM9.out
      obtain ⟨-, -, -, -, c35'⟩ := hm8.cells
      have hz8 : finZ W9 X = 0 := (finZ_of c35').trans (if_neg (by decide))
      have HG := Lib.hid (And.intro hm8 (And.intro (HA2.out.2.1.trans hk8) hz8))
      rw [show ((3 : Nat) : Int) = 3 from rfl] at c35'
      clear hk8 hm8 hz8
      go_wp2_with fail
      go_roundw
      case rel => exact ⟨⟨s.R, s.pc, 3, s.l⟩, rfl, HA2.out.2.2.2.1, HA2.out.2.2.2.2.1, HA2.out.2.2.2.2.2, HA2.out.1, HG.out.1, HG.out.2.1⟩
      case measure =>
        have q1 := HG.out.2.2
        have q2 := HA2.out.2.2.1
        rw [q1, q2]
        omega
    · have he := runT_end (k := 0) (Nat.zero_le m) hc
      rw [Nat.sub_zero] at he
      rw [he] at hTe
      dsimp only at hTe
      subst hTe
      have hy9 := (hkp.block _ (lt_of_block HS.out.2.1) (show X + 1 ≠ X by omega)).trans HS.out.2.1
      have f35 := hm.free 35
      by_cases hf : s.fin = 0
      · have hk2 : ¬ (0 : Int) < (m : Int) := by omega
        have h9 := hm.setFin 4
        have hb9 : Below w.heap.size w (wr.setCell ⟨X, 35, none⟩ (.int .i64 ((4 : Nat) : Int))) := hbw.setCell (p := ⟨X, 35, none⟩) hX1 _
        have hy10 := (heap_setCell_other wr ⟨X, 35, none⟩ (X + 1) (.int .i64 ((4 : Nat) : Int)) (show X + 1 ≠ X by omega)).trans hy9
        have hEn : endF s = 4 := if_pos hf
        rw [hf] at c35
        rw [show ((4 : Nat) : Int) = 4 from rfl] at h9 hb9 hy10
        rw [show ((0 : Nat) : Int) = 0 from rfl] at c35
        have HE := Lib.hid (And.intro h9 (And.intro hb9 (And.intro hy10 hEn)))
        clear hm hkp hbw hz hc hf h9 hb9 hy9 hy10 hEn hX1 he hsR hsp hsl
        go_upto_region 14 with fail
        clear c35 f35 hk2
        generalize World.setCell wr _ _ = W9 at HE ⊢
        obtain ⟨h9, hb9, hy10, hEn⟩ := HE.out
        obtain ⟨MC9, hx9, hs9, hr9⟩ := h9.ex
        have hV9 : MachV MC9 R fl pc (.slice (some ⟨g, 0, none⟩) 0 0) (endF s) := by
          rw [hEn]
          exact ⟨hs9, hr9.1, hr9.2.1, hr9.2.2.1, hr9.2.2.2.1, hr9.2.2.2.2⟩
        have hone := one_mach hV9
        have HV9 := Lib.hid hV9
        have HQ := Lib.hid hb9
        clear h9 hb9 hr9 hV9 hEn
        go_wp2_with (first | (refine wpList_load_row rfl _ _ rfl X rfl 52 MC9 (0, 0) _ hx9 Tryd.underlying52 rfl (infoMs hs9) ?_) | (refine wpList_store_row rfl _ _ _ rfl (X + 1) MC9 rfl rfl 52 _ hy10 (infoMs hs9) (by rw [hs9]; rfl) hone ?_))
        have rr := setRow_heap _ (X + 1) _ MC9 52 (0, 0) hy10
        refine bodyPost_ret (res3c rfl _ _ (X + 1) MC9 rfl (loadMc _ (X + 1) MC9 hs9 rr)) rfl ⟨MC9, _, _, rfl, HV9.out, bel_setRow HQ.out (show w.heap.size ≤ X + 1 by rw [HXe.out]; exact Nat.le_succ _) MC9⟩
      · have i5 : ((s.fin : Int) == 0) = false := beq_eq_false_iff_ne.mpr (by omega)
        have hEn : endF s = s.fin := if_neg hf
        clear hkp hz hc hf hX1 he hsR hsp hsl
        by_cases hk2 : 0 < m
        · have i7 : (0 : Int) < (m : Int) := by omega
          have HE := Lib.hid (And.intro hm (And.intro hbw (And.intro hy9 hEn)))
          clear hEn hm hbw hy9 hk2
          go_upto_region 14 with fail
          clear c35 f35 i5 i7
          obtain ⟨h9, hb9, hy10, hEn⟩ := HE.out
          generalize wr = W9 at h9 hb9 hy10 ⊢
          obtain ⟨MC9, hx9, hs9, hr9⟩ := h9.ex
          have hV9 : MachV MC9 R fl pc (.slice (some ⟨g, 0, none⟩) 0 0) (endF s) := by
            rw [hEn]
            exact ⟨hs9, hr9.1, hr9.2.1, hr9.2.2.1, hr9.2.2.2.1, hr9.2.2.2.2⟩
          have hone := one_mach hV9
          have HV9 := Lib.hid hV9
          have HQ := Lib.hid hb9
          clear h9 hb9 hr9 hV9 hEn
          go_wp2_with (first | (refine wpList_load_row rfl _ _ rfl X rfl 52 MC9 (0, 0) _ hx9 Tryd.underlying52 rfl (infoMs hs9) ?_) | (refine wpList_store_row rfl _ _ _ rfl (X + 1) MC9 rfl rfl 52 _ hy10 (infoMs hs9) (by rw [hs9]; rfl) hone ?_))
          have rr := setRow_heap _ (X + 1) _ MC9 52 (0, 0) hy10
          refine bodyPost_ret (res3c rfl _ _ (X + 1) MC9 rfl (loadMc _ (X + 1) MC9 hs9 rr)) rfl ⟨MC9, _, _, rfl, HV9.out, bel_setRow HQ.out (show w.heap.size ≤ X + 1 by rw [HXe.out]; exact Nat.le_succ _) MC9⟩
        · have i7 : ¬ (0 : Int) < (m : Int) := by omega
          have HE := Lib.hid (And.intro hm (And.intro hbw (And.intro hy9 hEn)))
          clear hEn hm hbw hy9 hk2
          go_upto_region 14 with fail
          clear c35 f35 i5 i7
          obtain ⟨h9, hb9, hy10, hEn⟩ := HE.out
          generalize wr = W9 at h9 hb9 hy10 ⊢
          obtain ⟨MC9, hx9, hs9, hr9⟩ := h9.ex
          have hV9 : MachV MC9 R fl pc (.slice (some ⟨g, 0, none⟩) 0 0) (endF s) := by
            rw [hEn]
            exact ⟨hs9, hr9.1, hr9.2.1, hr9.2.2.1, hr9.2.2.2.1, hr9.2.2.2.2⟩
          have hone := one_mach hV9
          have HV9 := Lib.hid hV9
          have HQ := Lib.hid hb9
          clear h9 hb9 hr9 hV9 hEn
          go_wp2_with (first | (refine wpList_load_row rfl _ _ rfl X rfl 52 MC9 (0, 0) _ hx9 Tryd.underlying52 rfl (infoMs hs9) ?_) | (refine wpList_store_row rfl _ _ _ rfl (X + 1) MC9 rfl rfl 52 _ hy10 (infoMs hs9) (by rw [hs9]; rfl) hone ?_))
          have rr := setRow_heap _ (X + 1) _ MC9 52 (0, 0) hy10
          refine bodyPost_ret (res3c rfl _ _ (X + 1) MC9 rfl (loadMc _ (X + 1) MC9 hs9 rr)) rfl ⟨MC9, _, _, rfl, HV9.out, bel_setRow HQ.out (show w.heap.size ≤ X + 1 by rw [HXe.out]; exact Nat.le_succ _) MC9⟩
theorem RRun_none (h : MachI MC R fl pc (.slice A 0 c) 0) (hA : A = none → c = 0) (hE : askM 0 (R 0) = 0) (hpc : pc < 4294967296) (m : Nat) (hm : m ≤ 200000) (T : Mst) (hT : (runT m ⟨R, pc, 0, []⟩).2 = T) :
    Calls Tryd.prog 34 #[.agg MC, .int .i64 (m : Int)] w fun e w' => ∃ MC' A' c', e = .returned (.tuple #[.agg MC', .int .i64 0, .int .i64 0]) ∧ MachV MC' R fl pc (.slice A' 0 c') (endF T) ∧ Below w.heap.size w w' := by
  rcases A with _ | ad
  · rw [hA rfl] at h
    exact RRun_none0 h hE hpc m hm T hT
  · exact RRun_none1 h hE hpc m hm T hT
/-- A machine that a call made; more on its memory where it is empty. -/
def Res2 (base : Nat) (w' : World) (MC : Array Value) (r : SR) : Prop :=
  ∃ A c, MachV MC r.R r.fl r.pc (.slice A r.L.length c) r.fin ∧ (r.L.length = 0 ∧ (A = none → c = 0) ∨ ∃ g, A = some ⟨g, 0, none⟩ ∧ base ≤ g ∧ MemC w' g r.L.length c r.L)
theorem Res2.res {base : Nat} {w' : World} {MC : Array Value} {r : SR} (h : Res2 base w' MC r) : Res base w' MC r := by
  obtain ⟨A, c, hV, h | h⟩ := h
  · exact ⟨A, c, hV, .inl h.1⟩
  · exact ⟨A, c, hV, .inr h⟩
theorem Res2.zero (base : Nat) (w' : World) (e : Nat) : Res2 base w' zeroMC (zeroS e) := ⟨none, 0, mach_zero, .inl ⟨rfl, fun _ => rfl⟩⟩
/-- A run of the program. -/
theorem run_res (h : MachI MC R fl pc (.slice A n c) fin) (hl0 : n = l.length) (hB : n = 0 ∧ (A = none → c = 0) ∨ 0 < n ∧ Byt w A n c l) (hR : ∀ j, R j < 4294967296) (hpc : pc < 4294967296) (hL : Laid w) (most : Int) :
    Calls Tryd.prog 33 #[.agg MC, .int .i64 most] w fun e w' => ∃ MC', e = .returned (.tuple #[.agg MC', .int .i64 ((runF R fl pc fin l most).2 : Nat), .int .i64 ((runF R fl pc fin l most).1.err : Nat)]) ∧ Res2 w.heap.size w' MC' (runF R fl pc fin l most).1 ∧ Below w.heap.size w w' := by
  have hln := hl0
  unfold runF
  by_cases hk : badR R l most
  · rw [if_pos hk]
    unfold badR at hk
    rw [← hln] at hk
    refine (Run_arg h most _ rfl ?_).mono ?_
    · by_cases hq : 32768 < n ∨ R 0 ≠ 0
      · exact .inl (if_pos hq)
      · exact .inr (by omega)
    · rintro e w' ⟨rfl, hb⟩
      exact ⟨_, rfl, Res2.zero _ _ _, hb⟩
  · rw [if_neg hk]
    unfold badR at hk
    rw [← hln] at hk
    obtain ⟨hn2, h0, hm0, hm2⟩ : n ≤ 32768 ∧ R 0 = 0 ∧ 0 ≤ most ∧ most ≤ 200000 := by omega
    by_cases hf : fin = 0
    · subst hf
      rw [if_neg (by simp)]
      have hE : chkE n (R 0) 0 = 0 := (if_neg (by omega)).trans (if_neg (by simp))
      obtain ⟨m, rfl⟩ : ∃ m : Nat, most = (m : Int) := ⟨most.toNat, by omega⟩
      rw [Int.toNat_natCast]
      have hkp := runT_kept m ⟨R, pc, 0, l⟩
      have hle := hkp.len
      rcases hu : runT m ⟨R, pc, 0, l⟩ with ⟨N, T⟩
      rw [hu] at hle
      dsimp only at hle ⊢
      by_cases hn0 : n = 0
      · subst hn0
        have hl : l = [] := List.eq_nil_of_length_eq_zero hln.symm
        subst hl
        have hT0 : T.R = R ∧ T.pc = pc ∧ T.l = [] ∧ N = 0 := by
          have hst := stepF_stop ⟨R, pc, 0, []⟩ (by simp)
          rcases m with _ | m
          · cases hu
            exact ⟨rfl, rfl, rfl, rfl⟩
          · rw [runT_fault rfl (by rw [hst]), hst] at hu
            cases hu
            exact ⟨rfl, rfl, rfl, rfl⟩
        obtain ⟨e1, e2, e3, rfl⟩ := hT0
        refine (Run_none h hE (hB.elim (fun q => q.2) (fun q => absurd q.1 (by omega))) hpc hL m (by omega) T (by rw [hu])).mono ?_
        rintro e w' ⟨MC', A', c', rfl, hV, hAc, hb⟩
        refine ⟨MC', rfl, ⟨A', c', ?_, .inl ⟨(by rw [e3]; rfl), hAc⟩⟩, hb⟩
        dsimp only
        rw [e1, e2, e3]
        exact hV
      · refine (Run_some h hE (hB.elim (fun q => absurd q.1 hn0) (fun q => q.2)) (by omega) hn2 hR hpc hL m (by omega) N T hu).mono ?_
        rintro e w' ⟨MC', g, c', rfl, hV, hM, hg, hb⟩
        have e1 : T.l.length = n := by rw [hln]; exact hle
        exact ⟨MC', rfl, ⟨_, c', by dsimp only; rw [e1]; exact hV, .inr ⟨g, rfl, hg, by dsimp only; rw [e1]; exact hM⟩⟩, hb⟩
    · rw [if_pos hf]
      have hE : chkE n (R 0) fin = 9 := (if_neg (by omega)).trans (if_pos hf)
      refine (Run_end h most hE ⟨hm0, hm2⟩).mono ?_
      rintro e w' ⟨rfl, hb⟩
      exact ⟨_, rfl, Res2.zero _ _ _, hb⟩
/-- A run of the reference. -/
theorem rrun_res (h : MachI MC R fl pc (.slice A n c) fin) (hB : Byn w A n c l) (hR : ∀ j, R j < 4294967296) (hpc : pc < 4294967296) (most : Int) :
    Calls Tryd.prog 34 #[.agg MC, .int .i64 most] w fun e w' => ∃ MC', e = .returned (.tuple #[.agg MC', .int .i64 ((runF R fl pc fin l most).2 : Nat), .int .i64 ((runF R fl pc fin l most).1.err : Nat)]) ∧ Res w.heap.size w' MC' (runF R fl pc fin l most).1 ∧ Below w.heap.size w w' := by
  have hln := hB.1.1
  unfold runF
  by_cases hk : badR R l most
  · rw [if_pos hk]
    unfold badR at hk
    rw [← hln] at hk
    refine (RRun_arg h most _ rfl ?_).mono ?_
    · rcases askM_cases n (R 0) with ⟨ha, hq⟩ | ⟨ha, hq⟩
      · exact .inl ha
      · exact .inr ⟨ha, by omega⟩
    · rintro e w' ⟨rfl, hb⟩
      exact ⟨_, rfl, Res.zero _ _ _, hb⟩
  · rw [if_neg hk]
    unfold badR at hk
    rw [← hln] at hk
    obtain ⟨hn2, h0, hm0, hm2⟩ : n ≤ 32768 ∧ R 0 = 0 ∧ 0 ≤ most ∧ most ≤ 200000 := by omega
    have ha : askM n (R 0) = 0 := if_neg (by omega)
    by_cases hf : fin = 0
    · subst hf
      rw [if_neg (by simp)]
      obtain ⟨m, rfl⟩ : ∃ m : Nat, most = (m : Int) := ⟨most.toNat, by omega⟩
      rw [Int.toNat_natCast]
      have hkp := runT_kept m ⟨R, pc, 0, l⟩
      have hle := hkp.len
      rcases hu : runT m ⟨R, pc, 0, l⟩ with ⟨N, T⟩
      rw [hu] at hle
      dsimp only at hle ⊢
      by_cases hn0 : n = 0
      · subst hn0
        have hl : l = [] := List.eq_nil_of_length_eq_zero hln.symm
        subst hl
        have hT0 : T.R = R ∧ T.pc = pc ∧ T.l = [] ∧ N = 0 := by
          have hst := stepF_stop ⟨R, pc, 0, []⟩ (by simp)
          rcases m with _ | m
          · cases hu
            exact ⟨rfl, rfl, rfl, rfl⟩
          · rw [runT_fault rfl (by rw [hst]), hst] at hu
            cases hu
            exact ⟨rfl, rfl, rfl, rfl⟩
        obtain ⟨e1, e2, e3, rfl⟩ := hT0
        refine (RRun_none h hB.2 ha hpc m (by omega) T (by rw [hu])).mono ?_
        rintro e w' ⟨MC', A', c', rfl, hV, hb⟩
        refine ⟨MC', rfl, ⟨A', c', ?_, .inl (by rw [e3]; rfl)⟩, hb⟩
        dsimp only
        rw [e1, e2, e3]
        exact hV
      · refine (RRun_some h ha hB.1 (by omega) hn2 h0 hR hpc m (by omega) N T hu).mono ?_
        rintro e w' ⟨MC', g, c', rfl, hV, hM, hg, hb⟩
        have e1 : T.l.length = n := by rw [hln]; exact hle
        exact ⟨MC', rfl, ⟨_, c', by dsimp only; rw [e1]; exact hV, .inr ⟨g, rfl, hg, by dsimp only; rw [e1]; exact hM⟩⟩, hb⟩
    · rw [if_pos hf]
      refine (RRun_end h most ha hf ⟨hm0, hm2⟩).mono ?_
      rintro e w' ⟨rfl, hb⟩
      exact ⟨_, rfl, Res.zero _ _ _, hb⟩
end
end Go.Proofs.YthkaclmnbahieaaDoor
