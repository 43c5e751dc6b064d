/-
  Run of the program where the memory is empty.
-/
import Derived.Test.YthkaclmnbahieaaDoorRvRc
namespace Go.Proofs.YthkaclmnbahieaaDoor
open Go.RowKit

set_option maxRecDepth 100000 in
set_option maxHeartbeats 4000000 in
theorem clone_nil2 (w : World) : Calls Tryd.prog 57 #[.slice none 0 0] w fun e w' => e = .returned (.slice none 0 0) ∧ Below w.heap.size w w' := by
  have hE : ∀ w0, (binOp .eql 35 (.slice none 0 0) (.slice none 0 0)).run Tryd.prog w0 = .ok (.bool true) w0 := fun w0 => by kernel_rfl
  go_enter Tryd.func57, Tryd.ntmps57
  go_wp2
  go_ret
  exact ⟨rfl, Below.refl _ _⟩
set_option maxRecDepth 100000 in
set_option maxHeartbeats 4000000 in
theorem clone_empty2 (w : World) (ad : Addr) (c : Nat) : Calls Tryd.prog 57 #[.slice (some ad) 0 c] w fun e w' => ∃ a' c', e = .returned (.slice (some a') 0 c') ∧ Below w.heap.size w w' := by
  have hE : ∀ w0, (binOp .eql 35 (.slice (some ad) 0 c) (.slice none 0 0)).run Tryd.prog w0 = .ok (.bool false) w0 := fun w0 => by kernel_rfl
  have HB := Lib.hid (show Below w.heap.size w (w.alloc (.cells #[] 5)) from (Below.refl _ _).alloc (Nat.le_refl _) _)
  go_enter Tryd.func57, Tryd.ntmps57
  go_wp2
  go_ret
  exact ⟨_, _, rfl, HB.out⟩
section
variable {w : World} {MC : Array Value} {R : Nat → Nat} {fl : Int} {pc n c : Nat} {A : Option Addr}
set_option maxRecDepth 100000 in
set_option maxHeartbeats 2000000 in
theorem Run_none (h : MachI MC R fl pc (.slice A 0 c) 0) (hE : chkE 0 (R 0) 0 = 0) (hA : A = none → c = 0) (hpc : pc < 4294967296) (hL : Laid w) (m : Nat) (hm : m ≤ 200000) (T : Mst) (hT : (runT m ⟨R, pc, 0, []⟩).2 = T) :
    Calls Tryd.prog 33 #[.agg MC, .int .i64 (m : Int)] w fun e w' => ∃ MC' A' c', e = .returned (.tuple #[.agg MC', .int .i64 0, .int .i64 0]) ∧ MachV MC' R fl pc (.slice A' 0 c') (endF T) ∧ (A' = none → c' = 0) ∧ Below w.heap.size w w' := by
  have hc := fun w1 => check_res h w1
  rw [hE] at hc
  have m1 : ¬ (200000 : Int) < (m : Int) := by omega
  have HT := Lib.hid hT
  have HL := Lib.hid hL
  have HPc := Lib.hid hpc
  clear hE hT hpc hL hm
  have hb0 : Below w.heap.size w (w.alloc (.cells MC 52)) := (Below.refl _ _).alloc (Nat.le_refl _) _
  have hx := heap_alloc_new w (.cells MC 52)
  have HCk := Lib.hid (fun w1 => hc w1)
  have hs := h.size
  clear hc
  have HH := Lib.hid h
  go_enter Tryd.func33, Tryd.ntmps33
  go_upto_region 1 with fail
  have hy : ((w.alloc (.cells MC 52)).alloc (.cells zeroMC 52)).heap[w.heap.size + 1]? = some (.cells zeroMC 52 (0, 0)) := by
    have q := heap_alloc_new (w.alloc (.cells MC 52)) (.cells zeroMC 52)
    rw [show (w.alloc (.cells MC 52)).heap.size = w.heap.size + 1 from Array.size_push ..] at q
    exact q
  have hba : Below (w.alloc (.cells MC 52)).heap.size (w.alloc (.cells MC 52)) ((w.alloc (.cells MC 52)).alloc (.cells zeroMC 52)) := (Below.refl _ _).alloc (Nat.le_refl _) _
  replace hx := (hba.block _ (lt_of_block hx)).trans hx
  have hbb : Below w.heap.size w ((w.alloc (.cells MC 52)).alloc (.cells zeroMC 52)) := hb0.trans (hba.mono hb0.size)
  generalize World.alloc (World.alloc w _) _ = W at hx hy hbb ⊢
  clear hb0 hba h
  obtain ⟨X, hX⟩ : ∃ X, X = w.heap.size := ⟨_, rfl⟩
  rw [← hX] at hx hy ⊢
  have HW := Lib.hid hbb
  have HXe := Lib.hid hX
  clear hbb hX
  go_wp2_with (refine wpList_load_row rfl _ _ rfl X rfl 52 MC (0, 0) _ hx Tryd.underlying52 rfl (infoMs hs) ?_)
  refine (HCk.out _).mono ?_
  rintro e w3 ⟨rfl, hb3⟩
  replace hx := (hb3.block _ (lt_of_block hx)).trans hx
  replace hy := (hb3.block _ (lt_of_block hy)).trans hy
  replace HW := Lib.hid (HW.out.trans (hb3.mono HW.out.size))
  clear hb3
  rw [show ((0 : Nat) : Int) = 0 from rfl]
  obtain ⟨-, -, -, c34, -⟩ := HH.out.cells hx
  have HA := Lib.hid hA
  clear hA
  go_wp2_with fail
  have hcl : ∀ w0, Calls Tryd.prog 57 #[.slice A 0 c] w0 fun e w' => ∃ A' c', e = .returned (.slice A' 0 c') ∧ (A' = none → c' = 0) ∧ Below w0.heap.size w0 w' := by
    intro w0
    have hA := HA.out
    rcases A with _ | ad
    · rw [hA rfl]
      refine (clone_nil2 w0).mono ?_
      rintro e w' ⟨rfl, hb⟩
      exact ⟨_, _, rfl, fun _ => rfl, hb⟩
    · refine (clone_empty2 w0 ad c).mono ?_
      rintro e w' ⟨a', c', rfl, hb⟩
      exact ⟨_, _, rfl, (fun h => by cases h), hb⟩
  refine (hcl _).mono ?_
  clear hcl
  rintro e w4 ⟨A', c', rfl, hAc, hb4⟩
  have HAc := Lib.hid hAc
  clear hAc
  replace hx := (hb4.block _ (lt_of_block hx)).trans hx
  replace hy := (hb4.block _ (lt_of_block hy)).trans hy
  have hmac := HH.out.zero.mac hx
  replace HW := Lib.hid (HW.out.trans (hb4.mono HW.out.size))
  obtain ⟨-, -, -, c34, -⟩ := hmac.cells
  have f34 := hmac.free 34
  have h5 := hmac.setMem (.slice A' 0 c')
  have hy5 := (heap_setCell_other w4 ⟨X, 34, none⟩ (X + 1) (.slice A' 0 c') (show X + 1 ≠ X by omega)).trans hy
  have hW5 : Below w.heap.size w (w4.setCell ⟨X, 34, none⟩ (.slice A' 0 c')) := HW.out.setCell (show w.heap.size ≤ X by rw [HXe.out]; exact Nat.le_refl _) _
  have HF := Lib.hid (And.intro h5 (And.intro hy5 hW5))
  clear hx hy hmac hb4 h5 hy5 hW5
  go_wp2_with fail
  clear c34 f34 HW HH HCk
  generalize World.setCell w4 _ _ = W5 at HF ⊢
  refine (newOps_any W5 (HL.out.below HF.out.2.2)).mono ?_
  rintro e w6 ⟨K, rfl, -, -, hb6⟩
  obtain ⟨h5, hy5, hW5⟩ := HF.out
  have h6 := h5.below hb6
  have hy6 := (hb6.block _ (lt_of_block hy5)).trans hy5
  have hW6 := hW5.trans (hb6.mono hW5.size)
  have HS := Lib.hid (And.intro h6 (And.intro hy6 hW6))
  clear h5 hy5 hW5 h6 hy6 hW6 hb6 HF hs
  go_upto_region 9 with fail
  go_loopw [9] (fun zi wr => ∃ s : Mst, zi = .int .i64 0 ∧ s.R = R ∧ s.pc = pc ∧ s.l = [] ∧ (runT m s).2 = T ∧ MacC wr X R fl pc (.slice A' 0 c') s.fin ∧ KeepI X w6 wr) (fun zi wr => finZ wr X)
  case atStart => exact ⟨_, rfl, rfl, rfl, rfl, HT.out, HS.out.1, KeepI.refl _ _⟩
  case round =>
    obtain ⟨s, rfl, hsR, hsp, hsl, hTe, hm, hkp⟩ := hrel
    have hX1 : w.heap.size ≤ X := by
      rw [HXe.out]
      exact Nat.le_refl _
    have hbw := HS.out.2.2.trans (hkp.below hX1 HS.out.2.2.size)
    obtain ⟨-, -, -, -, c35⟩ := hm.cells
    have hz := finZ_of c35
    by_cases hc : 0 < m ∧ s.fin = 0
    · obtain ⟨hk1, hf⟩ := hc
      have hst : stepF s = ⟨s.R, s.pc, 3, s.l⟩ := stepF_stop s (by rw [hsl]; simp)
      rw [hf] at c35
      have i1 : (0 : Int) < (m : Int) := by omega
      have HC := Lib.hid (step_far hm HPc.out (by omega) (by omega) K)
      rw [if_pos hf] at hz
      have hTn : (runT m ⟨s.R, s.pc, 3, s.l⟩).2 = T := by
        rw [← hTe, show m = (m - 1) + 1 by omega, runT_fault hf (by rw [hst]), hst, runT_stop (show ¬ (3 : Nat) = 0 by decide)]
      have HA2 := Lib.hid (And.intro hTn (And.intro hkp (And.intro hz (And.intro hsR (And.intro hsp hsl)))))
      clear hTe hm hkp hbw hz hf hst hTn hsR hsp hsl hX1
      rw [show ((0 : Nat) : Int) = 0 from rfl] at c35
      go_wp2_with fail
      refine HC.out.mono ?_
      rintro e w8 ⟨rfl, hm8, hk8⟩
      obtain ⟨-, -, -, -, c35'⟩ := hm8.cells
      have hz8 : finZ w8 X = 0 := (finZ_of c35').trans (if_neg (by decide))
      have HG := Lib.hid (And.intro hm8 (And.intro (HA2.out.2.1.trans hk8) hz8))
      rw [show ((3 : Nat) : Int) = 3 from rfl] at c35'
      clear c35 HC hk8 hm8 hz8
      go_wp2_with fail
      go_roundw
      case rel => exact ⟨⟨s.R, s.pc, 3, s.l⟩, rfl, HA2.out.2.2.2.1, HA2.out.2.2.2.2.1, HA2.out.2.2.2.2.2, HA2.out.1, HG.out.1, HG.out.2.1⟩
      case measure =>
        have q1 := HG.out.2.2
        have q2 := HA2.out.2.2.1
        rw [q1, q2]
        omega
    · have he := runT_end (k := 0) (Nat.zero_le m) hc
      rw [Nat.sub_zero] at he
      rw [he] at hTe
      dsimp only at hTe
      subst hTe
      have hy9 := (hkp.block _ (lt_of_block HS.out.2.1) (show X + 1 ≠ X by omega)).trans HS.out.2.1
      have f35 := hm.free 35
      by_cases hf : s.fin = 0
      · have hk2 : ¬ (0 : Int) < (m : Int) := by omega
        have h9 := hm.setFin 4
        have hb9 : Below w.heap.size w (wr.setCell ⟨X, 35, none⟩ (.int .i64 ((4 : Nat) : Int))) := hbw.setCell (p := ⟨X, 35, none⟩) hX1 _
        have hy10 := (heap_setCell_other wr ⟨X, 35, none⟩ (X + 1) (.int .i64 ((4 : Nat) : Int)) (show X + 1 ≠ X by omega)).trans hy9
        have hEn : endF s = 4 := if_pos hf
        rw [hf] at c35
        rw [show ((4 : Nat) : Int) = 4 from rfl] at h9 hb9 hy10
        rw [show ((0 : Nat) : Int) = 0 from rfl] at c35
        have HE := Lib.hid (And.intro h9 (And.intro hb9 (And.intro hy10 hEn)))
        clear hm hkp hbw hz hc hf h9 hb9 hy9 hy10 hEn hX1 he hsR hsp hsl
        go_upto_region 15 with fail
        clear c35 f35 hk2
        generalize World.setCell wr _ _ = W9 at HE ⊢
        obtain ⟨h9, hb9, hy10, hEn⟩ := HE.out
        obtain ⟨MC9, hx9, hs9, hr9⟩ := h9.ex
        have hV9 : MachV MC9 R fl pc (.slice A' 0 c') (endF s) := by
          rw [hEn]
          exact ⟨hs9, hr9.1, hr9.2.1, hr9.2.2.1, hr9.2.2.2.1, hr9.2.2.2.2⟩
        have hone := one_mach hV9
        have HV9 := Lib.hid hV9
        have HQ := Lib.hid hb9
        clear h9 hb9 hr9 hV9 hEn
        go_wp2_with (first | (refine wpList_load_row rfl _ _ rfl X rfl 52 MC9 (0, 0) _ hx9 Tryd.underlying52 rfl (infoMs hs9) ?_) | (refine wpList_store_row rfl _ _ _ rfl (X + 1) MC9 rfl rfl 52 _ hy10 (infoMs hs9) (by rw [hs9]; rfl) hone ?_))
        have rr := setRow_heap _ (X + 1) _ MC9 52 (0, 0) hy10
        refine bodyPost_ret (res3c rfl _ _ (X + 1) MC9 rfl (loadMc _ (X + 1) MC9 hs9 rr)) rfl ⟨MC9, A', c', rfl, HV9.out, HAc.out, bel_setRow HQ.out (show w.heap.size ≤ X + 1 by rw [HXe.out]; exact Nat.le_succ _) MC9⟩
      · have i5 : ((s.fin : Int) == 0) = false := beq_eq_false_iff_ne.mpr (by omega)
        have hEn : endF s = s.fin := if_neg hf
        clear hkp hz hc hf hX1 he hsR hsp hsl
        by_cases hk2 : 0 < m
        · have i7 : (0 : Int) < (m : Int) := by omega
          have HE := Lib.hid (And.intro hm (And.intro hbw (And.intro hy9 hEn)))
          clear hEn hm hbw hy9 hk2
          go_upto_region 15 with fail
          clear c35 f35 i5 i7
          obtain ⟨h9, hb9, hy10, hEn⟩ := HE.out
          generalize wr = W9 at h9 hb9 hy10 ⊢
          obtain ⟨MC9, hx9, hs9, hr9⟩ := h9.ex
          have hV9 : MachV MC9 R fl pc (.slice A' 0 c') (endF s) := by
            rw [hEn]
            exact ⟨hs9, hr9.1, hr9.2.1, hr9.2.2.1, hr9.2.2.2.1, hr9.2.2.2.2⟩
          have hone := one_mach hV9
          have HV9 := Lib.hid hV9
          have HQ := Lib.hid hb9
          clear h9 hb9 hr9 hV9 hEn
          go_wp2_with (first | (refine wpList_load_row rfl _ _ rfl X rfl 52 MC9 (0, 0) _ hx9 Tryd.underlying52 rfl (infoMs hs9) ?_) | (refine wpList_store_row rfl _ _ _ rfl (X + 1) MC9 rfl rfl 52 _ hy10 (infoMs hs9) (by rw [hs9]; rfl) hone ?_))
          have rr := setRow_heap _ (X + 1) _ MC9 52 (0, 0) hy10
          refine bodyPost_ret (res3c rfl _ _ (X + 1) MC9 rfl (loadMc _ (X + 1) MC9 hs9 rr)) rfl ⟨MC9, A', c', rfl, HV9.out, HAc.out, bel_setRow HQ.out (show w.heap.size ≤ X + 1 by rw [HXe.out]; exact Nat.le_succ _) MC9⟩
        · have i7 : ¬ (0 : Int) < (m : Int) := by omega
          have HE := Lib.hid (And.intro hm (And.intro hbw (And.intro hy9 hEn)))
          clear hEn hm hbw hy9 hk2
          go_upto_region 15 with fail
          clear c35 f35 i5 i7
          obtain ⟨h9, hb9, hy10, hEn⟩ := HE.out
          generalize wr = W9 at h9 hb9 hy10 ⊢
          obtain ⟨MC9, hx9, hs9, hr9⟩ := h9.ex
          have hV9 : MachV MC9 R fl pc (.slice A' 0 c') (endF s) := by
            rw [hEn]
            exact ⟨hs9, hr9.1, hr9.2.1, hr9.2.2.1, hr9.2.2.2.1, hr9.2.2.2.2⟩
          have hone := one_mach hV9
          have HV9 := Lib.hid hV9
          have HQ := Lib.hid hb9
          clear h9 hb9 hr9 hV9 hEn
          go_wp2_with (first | (refine wpList_load_row rfl _ _ rfl X rfl 52 MC9 (0, 0) _ hx9 Tryd.underlying52 rfl (infoMs hs9) ?_) | (refine wpList_store_row rfl _ _ _ rfl (X + 1) MC9 rfl rfl 52 _ hy10 (infoMs hs9) (by rw [hs9]; rfl) hone ?_))
          have rr := setRow_heap _ (X + 1) _ MC9 52 (0, 0) hy10
          refine bodyPost_ret (res3c rfl _ _ (X + 1) MC9 rfl (loadMc _ (X + 1) MC9 hs9 rr)) rfl ⟨MC9, A', c', rfl, HV9.out, HAc.out, bel_setRow HQ.out (show w.heap.size ≤ X + 1 by rw [HXe.out]; exact Nat.le_succ _) MC9⟩
end
end Go.Proofs.YthkaclmnbahieaaDoor
