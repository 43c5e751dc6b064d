/-
  The reference's guess.
-/
import Derived.Test.YtpekegeohcnhcaaIaNe
namespace Go.Proofs.Ytpekegeohcnhcaa
open Go.RowKit

set_option maxRecDepth 100000 in
set_option maxHeartbeats 16000000 in
theorem rGuess_16_0 {w : World} {A : Option Addr} {n c : Nat} {l : List Int} (hB : Byt w A n c l) (hl : 1 < l.length) (hk : 0 ≤ kindG (bt l 1) (byTwoF (bt l 1)) ∧ kindG (bt l 1) (byTwoF (bt l 1)) ≤ 8) :
    Calls Try.prog 74 #[.slice A n c, .int .i64 1, .int .i64 16] w fun e w' => e = .returned (aggI (gueF 16 l 1)) ∧ Below w.heap.size w w' := by
  rw [gueV_eq 16 l 1 hl]
  obtain ⟨W, hW⟩ : ∃ W, W = (w.alloc (.cells #[.int .i64 0, .int .i64 0, .int .i64 0, .int .i64 0, .int .i64 0] 23)).alloc (.cells #[.int .i64 (-1), .int .i64 0, .int .i64 0, .int .i64 0, .int .i64 0] 23) := ⟨_, rfl⟩
  have hb : Below w.heap.size w W := by rw [hW]; exact ((Below.refl _ _).alloc (Nat.le_refl _) _).alloc (by simp) _
  have r0 : W.heap[w.heap.size]? = some (.cells #[.int .i64 0, .int .i64 0, .int .i64 0, .int .i64 0, .int .i64 0] 23 (0, 0)) := by
    rw [hW]; exact (heap_alloc_old _ _ (by simp)).trans (heap_alloc_new w _)
  have rN : W.heap[w.heap.size + 1]? = some (.cells #[.int .i64 (-1), .int .i64 0, .int .i64 0, .int .i64 0, .int .i64 0] 23 (0, 0)) := by
    rw [hW]
    have := heap_alloc_new (w.alloc (.cells #[.int .i64 0, .int .i64 0, .int .i64 0, .int .i64 0, .int .i64 0] 23)) (.cells #[.int .i64 (-1), .int .i64 0, .int .i64 0, .int .i64 0, .int .i64 0] 23)
    simpa using this
  have HWW := Lib.hid hW
  clear hW
  have hB2 := hB.below hb
  have H1 := Lib.hid (rNumber_any hB2 1 1 (by omega) (by omega))
  rw [decide_eq_true (show 1 + 1 ≤ l.length by omega)] at H1
  have H2 := Lib.hid (rNumber_any hB2 2 1 (by omega) (by omega))
  have H3 := Lib.hid (rNumber_any hB2 3 4 (by omega) (by omega))
  have H4 := Lib.hid (rNumber_any hB2 2 4 (by omega) (by omega))
  have H5 := Lib.hid (rNumber_any hB2 2 2 (by omega) (by omega))
  have H6 := Lib.hid (rNumber_any hB2 3 2 (by omega) (by omega))
  have H7 := Lib.hid (rNumber_any hB2 3 1 (by omega) (by omega))
  have HSEC := Lib.hid (rSecond_1 hB2)
  rw [numK_1] at H1 H2 H7
  rw [numK_4] at H3 H4
  rw [numK_2] at H5 H6
  rw [show num2 l 2 = nums 16 l 2 from rfl] at H5
  rw [show num2 l 3 = nums 16 l 3 from rfl] at H6
  have b1 := btw_bd hB 1
  have b2 := btw_bd hB 2
  have b7 := btw_bd hB 3
  have b3 := numK_bd4 hB 3
  have b4 := numK_bd4 hB 2
  rw [numK_4] at b3 b4
  have HKK := Lib.hid hk
  clear hB hB2 hl hk
  generalize secF l 1 = sec at HSEC ⊢
  generalize bt l 1 = C at H1 b1 HKK ⊢
  generalize bt l 2 = M at H2 b2 ⊢
  generalize bt l 3 = N7 at H7 b7 ⊢
  generalize num4 l 3 = F0 at H3 b3 ⊢
  generalize num4 l 2 = W0 at H4 b4 ⊢
  generalize nums 16 l 2 = NA at H5 ⊢
  generalize nums 16 l 3 = NB at H6 ⊢
  generalize decide (2 + 1 ≤ l.length) = q2 at H2
  generalize decide (3 + 4 ≤ l.length) = q3 at H3
  generalize decide (2 + 4 ≤ l.length) = q4 at H4
  generalize decide (2 + 2 ≤ l.length) = q5 at H5
  generalize decide (3 + 2 ≤ l.length) = q6 at H6
  generalize decide (3 + 1 ≤ l.length) = q7 at H7
  obtain ⟨FR, hFR⟩ : ∃ v, sgnR 2147483648 F0 = v := ⟨_, rfl⟩
  obtain ⟨WD, hWD⟩ : ∃ v, sgnR 2147483648 W0 = v := ⟨_, rfl⟩
  obtain ⟨S8, hS8⟩ : ∃ v, sgnR 128 M = v := ⟨_, rfl⟩
  obtain ⟨S7, hS7⟩ : ∃ v, sgnR 128 N7 = v := ⟨_, rfl⟩
  obtain ⟨T, hT⟩ : ∃ v, byTwoF C = v := ⟨_, rfl⟩
  have HS1 := Lib.hid (fun w1 => rSigned32_at F0 FR w1 hFR b3.1 (by omega))
  have HS2 := Lib.hid (fun w1 => rSigned32_at W0 WD w1 hWD b4.1 (by omega))
  have HS3 := Lib.hid (fun w1 => rSigned8_at M S8 w1 hS8 b2.1 b2.2)
  have HS4 := Lib.hid (fun w1 => rSigned8_at N7 S7 w1 hS7 b7.1 b7.2)
  have HT := Lib.hid (fun w1 => (show Calls Try.prog 96 #[.int .i64 C] w1 fun e w' => e = .returned (.int .i64 T) ∧ w1 = w' from hT ▸ rByTwo_any C w1))
  have hr8 : 0 ≤ M / 8 % 8 ∧ M / 8 % 8 < 8 := by omega
  have HD1 := Lib.hid (fun w1 => rByDigit_81 (M / 8 % 8) hr8 w1)
  have HD2 := Lib.hid (fun w1 => rByDigit_d3 (M / 8 % 8) hr8 w1)
  have HD3 := Lib.hid (fun w1 => rByDigit_f7 (M / 8 % 8) hr8 w1)
  have hS7b : -128 ≤ S7 ∧ S7 < 128 := by rw [← hS7]; unfold sgnR; split <;> omega
  rw [hFR, hWD, hS8, hS7, hT]
  rw [hT] at HKK
  have HT0 := Lib.hid hT
  clear hFR hWD hS8 hS7 hT b3 b4 b7 hr8
  rw [show regR M = M / 8 % 8 from rfl]
  generalize dig81 (M / 8 % 8) = E81 at HD1 ⊢
  generalize digd3 (M / 8 % 8) = ED3 at HD2 ⊢
  generalize digf7 (M / 8 % 8) = EF7 at HD3 ⊢
  rw [show S7 % (2 * half 16) = S7 % 65536 by simp [half]]
  obtain ⟨s7a, s7b⟩ := hS7b
  have HAND := Lib.hid (show bits .and .i64 S7 65535 = S7 % 65536 from i64_mask S7 16 (by omega))
  obtain ⟨b10, b11⟩ := b1
  obtain ⟨b20, b21⟩ := b2
  obtain ⟨r, hr⟩ : ∃ v, M / 8 % 8 = v := ⟨_, rfl⟩
  obtain ⟨lo, hlo⟩ : ∃ v, M % 8 = v := ⟨_, rfl⟩
  rw [hr] at HD1 HD2 HD3
  have HRR := Lib.hid (show regR M = r from hr)
  have HLO := Lib.hid (show regL M = lo from hlo)
  obtain ⟨mem, hmem⟩ : ∃ b, decide (128 ≤ M ∧ M < 192) = b := ⟨_, rfl⟩
  have HMEM := Lib.hid hmem
  clear hmem
  go_enter Try.func74, Try.ntmps74
  go_wp2_with fail
  rw [← HWW.out]
  refine (H1.out).mono ?_
  rintro e w2 ⟨rfl, rfl⟩
  go_wp2_with fail
  refine (H2.out).mono ?_
  rintro e w2 ⟨rfl, rfl⟩
  go_wp2_with fail
  refine (H3.out).mono ?_
  rintro e w2 ⟨rfl, rfl⟩
  go_wp2_with fail
  refine (HS1.out _).mono ?_
  rintro e w2 ⟨rfl, rfl⟩
  go_upto_region 9 with fail
  go_cut [16] from 27 (fun s16 wx => s16 = .bool mem ∧ W = wx)
  case first =>
    by_cases m1 : 128 ≤ M
    · have d1 : decide (M ≥ 128) = true := decide_eq_true m1
      by_cases m2 : M < 192
      · have d2 : decide (M < 192) = true := decide_eq_true m2
        go_wp2_with fail
        go_meet
        exact ⟨by rw [← HMEM.out, decide_eq_true (by omega)], rfl⟩
      · have d2 : decide (M < 192) = false := decide_eq_false m2
        go_wp2_with fail
        go_meet
        exact ⟨by rw [← HMEM.out, decide_eq_false (by omega)], rfl⟩
    · have d1 : decide (M ≥ 128) = false := decide_eq_false m1
      have d2 : M < 128 := by omega
      go_wp2_with fail
      go_meet
      exact ⟨by rw [← HMEM.out, decide_eq_false (by omega)], rfl⟩
  case rest =>
    obtain ⟨rfl, rfl⟩ := hcut
    go_wp2_with fail
    refine (H2.out).mono ?_
    rintro e w2 ⟨rfl, rfl⟩
    go_wp2_with fail
    refine (H4.out).mono ?_
    rintro e w2 ⟨rfl, rfl⟩
    clear H1 H3 HS1 HWW hr hlo b20 b21
    by_cases h15 : C = 15
    · have HV := Lib.hid (show gueV 16 C M FR WD NA NB T E81 ED3 EF7 (S7 % 65536) S8 sec = sec by unfold gueV; simp only [HRR.out, HLO.out]; rw [if_pos h15])
      have f15 : (C == 15) = true := by rw [h15]; rfl
      obtain ⟨so, sd, ss, sz, si⟩ := sec
      go_wp2_with fail
      refine (HSEC.out).mono ?_
      rintro e w3 ⟨rfl, hw⟩
      replace r0 := (hw.block _ (lt_of_block r0)).trans r0
      replace hb := hb.trans (hw.mono hb.size)
      clear hw
      go_wp2_with (refine wpList_store_row rfl _ _ _ rfl w.heap.size #[.int .i64 so, .int .i64 sd, .int .i64 ss, .int .i64 sz, .int .i64 si] rfl rfl 23 _ r0 (infoC _ _ _ _ _) rfl (oneI _ _ _ _ _) ?_)
      have rr := setRow_heap _ w.heap.size _ #[.int .i64 so, .int .i64 sd, .int .i64 ss, .int .i64 sz, .int .i64 si] 23 (0, 0) r0
      have hB7 := bel_setRow hb (Nat.le_refl w.heap.size) #[.int .i64 so, .int .i64 sd, .int .i64 ss, .int .i64 sz, .int .i64 si]
      clear r0 hb
      go_wp2
      exact bodyPost_ret (res1c rfl _ _ w.heap.size _ rfl (loadIA _ w.heap.size _ _ _ _ _ rr)) rfl ⟨by rw [HV.out]; first | done | rfl, hB7⟩
    by_cases h137 : C = 137
    · have f15 : (C == 15) = false := beq_false_of_ne h15
      have f137 : (C == 137) = true := by rw [h137]; rfl
      have f139 : (C == 139) = false := beq_false_of_ne (by omega)
      have f136 : (C == 136) = false := beq_false_of_ne (by omega)
      have hT00 : T = 0 := HT0.out.symm.trans (by rw [h137]; decide)
      cases mem
      · have HNM := Lib.hid (of_decide_eq_false HMEM.out)
        subst hT00
        have HV := Lib.hid (show gueV 16 C M FR WD NA NB 0 E81 ED3 EF7 (S7 % 65536) S8 sec = ⟨0, lo, r, 16, 0⟩ by unfold gueV; simp only [HRR.out, HLO.out]; rw [if_neg (by omega), if_neg (fun h => HNM.out h.2), if_neg (by omega), if_neg (by omega), if_pos (by omega)])
        clear h137 h15
        go_wp2_with fail
        refine (HT.out _).mono ?_
        rintro e w2 ⟨rfl, rfl⟩
        go_wp2_with fail
        refine (HT.out _).mono ?_
        rintro e w2 ⟨rfl, rfl⟩
        go_wp2_with (refine wpList_store_row rfl _ _ _ rfl w.heap.size #[.int .i64 0, .int .i64 lo, .int .i64 r, .int .i64 16, .int .i64 0] rfl rfl 23 _ r0 (infoC _ _ _ _ _) rfl (oneI _ _ _ _ _) ?_)
        have rr := setRow_heap _ w.heap.size _ #[.int .i64 0, .int .i64 lo, .int .i64 r, .int .i64 16, .int .i64 0] 23 (0, 0) r0
        have hB7 := bel_setRow hb (Nat.le_refl w.heap.size) #[.int .i64 0, .int .i64 lo, .int .i64 r, .int .i64 16, .int .i64 0]
        clear r0 hb
        go_wp2
        exact bodyPost_ret (res1c rfl _ _ w.heap.size _ rfl (loadIA _ w.heap.size _ _ _ _ _ rr)) rfl ⟨by rw [HV.out]; first | done | rfl, hB7⟩
      · have HNM := Lib.hid (of_decide_eq_true HMEM.out)
        have HV := Lib.hid (show gueV 16 C M FR WD NA NB T E81 ED3 EF7 (S7 % 65536) S8 sec = ⟨3, lo, r, 16, FR⟩ by unfold gueV; simp only [HRR.out, HLO.out]; rw [if_neg h15, if_pos ⟨h137, HNM.out⟩])
        clear h137 h15 hT00
        go_wp2_with (refine wpList_store_row rfl _ _ _ rfl w.heap.size #[.int .i64 3, .int .i64 lo, .int .i64 r, .int .i64 16, .int .i64 FR] rfl rfl 23 _ r0 (infoC _ _ _ _ _) rfl (oneI _ _ _ _ _) ?_)
        have rr := setRow_heap _ w.heap.size _ #[.int .i64 3, .int .i64 lo, .int .i64 r, .int .i64 16, .int .i64 FR] 23 (0, 0) r0
        have hB7 := bel_setRow hb (Nat.le_refl w.heap.size) #[.int .i64 3, .int .i64 lo, .int .i64 r, .int .i64 16, .int .i64 FR]
        clear r0 hb
        go_wp2
        exact bodyPost_ret (res1c rfl _ _ w.heap.size _ rfl (loadIA _ w.heap.size _ _ _ _ _ rr)) rfl ⟨by rw [HV.out]; first | done | rfl, hB7⟩
    by_cases h139 : C = 139
    · have HV := Lib.hid (show gueV 16 C M FR WD NA NB T E81 ED3 EF7 (S7 % 65536) S8 sec = ⟨2, r, lo, 16, FR⟩ by unfold gueV; simp only [HRR.out, HLO.out]; rw [if_neg h15, if_neg (fun h => h137 h.1), if_pos h139])
      have f15 : (C == 15) = false := beq_false_of_ne h15
      have f137 : (C == 137) = false := beq_false_of_ne h137
      have f139 : (C == 139) = true := by rw [h139]; rfl
      go_wp2_with (refine wpList_store_row rfl _ _ _ rfl w.heap.size #[.int .i64 2, .int .i64 r, .int .i64 lo, .int .i64 16, .int .i64 FR] rfl rfl 23 _ r0 (infoC _ _ _ _ _) rfl (oneI _ _ _ _ _) ?_)
      have rr := setRow_heap _ w.heap.size _ #[.int .i64 2, .int .i64 r, .int .i64 lo, .int .i64 16, .int .i64 FR] 23 (0, 0) r0
      have hB7 := bel_setRow hb (Nat.le_refl w.heap.size) #[.int .i64 2, .int .i64 r, .int .i64 lo, .int .i64 16, .int .i64 FR]
      clear r0 hb
      go_wp2
      exact bodyPost_ret (res1c rfl _ _ w.heap.size _ rfl (loadIA _ w.heap.size _ _ _ _ _ rr)) rfl ⟨by rw [HV.out]; first | done | rfl, hB7⟩
    by_cases h136 : C = 136
    · have HV := Lib.hid (show gueV 16 C M FR WD NA NB T E81 ED3 EF7 (S7 % 65536) S8 sec = ⟨6, lo, r, 16, FR⟩ by unfold gueV; simp only [HRR.out, HLO.out]; rw [if_neg h15, if_neg (fun h => h137 h.1), if_neg h139, if_pos h136])
      have f15 : (C == 15) = false := beq_false_of_ne h15
      have f137 : (C == 137) = false := beq_false_of_ne h137
      have f139 : (C == 139) = false := beq_false_of_ne h139
      have f136 : (C == 136) = true := by rw [h136]; rfl
      go_wp2_with (refine wpList_store_row rfl _ _ _ rfl w.heap.size #[.int .i64 6, .int .i64 lo, .int .i64 r, .int .i64 16, .int .i64 FR] rfl rfl 23 _ r0 (infoC _ _ _ _ _) rfl (oneI _ _ _ _ _) ?_)
      have rr := setRow_heap _ w.heap.size _ #[.int .i64 6, .int .i64 lo, .int .i64 r, .int .i64 16, .int .i64 FR] 23 (0, 0) r0
      have hB7 := bel_setRow hb (Nat.le_refl w.heap.size) #[.int .i64 6, .int .i64 lo, .int .i64 r, .int .i64 16, .int .i64 FR]
      clear r0 hb
      go_wp2
      exact bodyPost_ret (res1c rfl _ _ w.heap.size _ rfl (loadIA _ w.heap.size _ _ _ _ _ rr)) rfl ⟨by rw [HV.out]; first | done | rfl, hB7⟩
    by_cases hT0 : 0 ≤ T
    · have HV := Lib.hid (show gueV 16 C M FR WD NA NB T E81 ED3 EF7 (S7 % 65536) S8 sec = ⟨T, lo, r, 16, 0⟩ by unfold gueV; simp only [HRR.out, HLO.out]; rw [if_neg h15, if_neg (fun h => h137 h.1), if_neg h139, if_neg h136, if_pos hT0])
      have g1 : decide (T ≥ 0) = true := decide_eq_true hT0
      have f15 : (C == 15) = false := beq_false_of_ne h15
      have f137 : (C == 137) = false := beq_false_of_ne h137
      have f139 : (C == 139) = false := beq_false_of_ne h139
      have f136 : (C == 136) = false := beq_false_of_ne h136
      go_wp2_with fail
      refine (HT.out _).mono ?_
      rintro e w2 ⟨rfl, rfl⟩
      go_wp2_with fail
      refine (HT.out _).mono ?_
      rintro e w2 ⟨rfl, rfl⟩
      go_wp2_with (refine wpList_store_row rfl _ _ _ rfl w.heap.size #[.int .i64 T, .int .i64 lo, .int .i64 r, .int .i64 16, .int .i64 0] rfl rfl 23 _ r0 (infoC _ _ _ _ _) rfl (oneI _ _ _ _ _) ?_)
      have rr := setRow_heap _ w.heap.size _ #[.int .i64 T, .int .i64 lo, .int .i64 r, .int .i64 16, .int .i64 0] 23 (0, 0) r0
      have hB7 := bel_setRow hb (Nat.le_refl w.heap.size) #[.int .i64 T, .int .i64 lo, .int .i64 r, .int .i64 16, .int .i64 0]
      clear r0 hb
      go_wp2
      exact bodyPost_ret (res1c rfl _ _ w.heap.size _ rfl (loadIA _ w.heap.size _ _ _ _ _ rr)) rfl ⟨by rw [HV.out]; first | done | rfl, hB7⟩
    by_cases h184 : 184 ≤ C ∧ C ≤ 191
    · have HV := Lib.hid (show gueV 16 C M FR WD NA NB T E81 ED3 EF7 (S7 % 65536) S8 sec = ⟨1, C - 184, 0, 16, NA⟩ by unfold gueV; simp only [HRR.out, HLO.out]; rw [if_neg h15, if_neg (fun h => h137 h.1), if_neg h139, if_neg h136, if_neg hT0, if_pos h184])
      have f15 : (C == 15) = false := beq_false_of_ne h15
      have f137 : (C == 137) = false := beq_false_of_ne h137
      have f139 : (C == 139) = false := beq_false_of_ne h139
      have f136 : (C == 136) = false := beq_false_of_ne h136
      have g1 : decide (T ≥ 0) = false := decide_eq_false hT0
      have g1' : T < 0 := by omega
      obtain ⟨c1, c2⟩ := h184
      have g2 : decide (C ≥ 184) = true := decide_eq_true c1
      have g3 : decide (C ≤ 191) = true := decide_eq_true c2
      go_wp2_with fail
      refine (HT.out _).mono ?_
      rintro e w2 ⟨rfl, rfl⟩
      go_wp2_with fail
      refine (H5.out).mono ?_
      rintro e w2 ⟨rfl, rfl⟩
      go_wp2_with (refine wpList_store_row rfl _ _ _ rfl w.heap.size #[.int .i64 1, .int .i64 (C - 184), .int .i64 0, .int .i64 16, .int .i64 NA] rfl rfl 23 _ r0 (infoC _ _ _ _ _) rfl (oneI _ _ _ _ _) ?_)
      have rr := setRow_heap _ w.heap.size _ #[.int .i64 1, .int .i64 (C - 184), .int .i64 0, .int .i64 16, .int .i64 NA] 23 (0, 0) r0
      have hB7 := bel_setRow hb (Nat.le_refl w.heap.size) #[.int .i64 1, .int .i64 (C - 184), .int .i64 0, .int .i64 16, .int .i64 NA]
      clear r0 hb
      go_wp2
      exact bodyPost_ret (res1c rfl _ _ w.heap.size _ rfl (loadIA _ w.heap.size _ _ _ _ _ rr)) rfl ⟨by rw [HV.out]; first | done | rfl, hB7⟩
    have H184 := Lib.hid h184
    clear h184
    by_cases h131 : C = 131
    · have HV := Lib.hid (show gueV 16 C M FR WD NA NB T E81 ED3 EF7 (S7 % 65536) S8 sec = ⟨E81, lo, 0, 16, S7 % 65536⟩ by unfold gueV; simp only [HRR.out, HLO.out]; rw [if_neg h15, if_neg (fun h => h137 h.1), if_neg h139, if_neg h136, if_neg hT0, if_neg H184.out, if_pos h131])
      have f15 : (C == 15) = false := beq_false_of_ne h15
      have f137 : (C == 137) = false := beq_false_of_ne h137
      have f139 : (C == 139) = false := beq_false_of_ne h139
      have f136 : (C == 136) = false := beq_false_of_ne h136
      have f131 : (C == 131) = true := by rw [h131]; rfl
      have g1 : decide (T ≥ 0) = false := decide_eq_false hT0
      have g1' : T < 0 := by omega
      have g2 : decide (C ≥ 184) = false := decide_eq_false (by omega)
      have hand := HAND.out
      clear h131
      go_wp2_with fail
      refine (HT.out _).mono ?_
      rintro e w2 ⟨rfl, rfl⟩
      go_wp2_with fail
      refine (H7.out).mono ?_
      rintro e w2 ⟨rfl, rfl⟩
      go_wp2_with fail
      refine (HD1.out _).mono ?_
      rintro e w2 ⟨rfl, rfl⟩
      go_wp2_with fail
      refine (HS4.out _).mono ?_
      rintro e w2 ⟨rfl, rfl⟩
      go_wp2_with (refine wpList_store_row rfl _ _ _ rfl w.heap.size #[.int .i64 E81, .int .i64 lo, .int .i64 0, .int .i64 16, .int .i64 (S7 % 65536)] rfl rfl 23 _ r0 (infoC _ _ _ _ _) rfl (oneI _ _ _ _ _) ?_)
      have rr := setRow_heap _ w.heap.size _ #[.int .i64 E81, .int .i64 lo, .int .i64 0, .int .i64 16, .int .i64 (S7 % 65536)] 23 (0, 0) r0
      have hB7 := bel_setRow hb (Nat.le_refl w.heap.size) #[.int .i64 E81, .int .i64 lo, .int .i64 0, .int .i64 16, .int .i64 (S7 % 65536)]
      clear r0 hb
      go_wp2
      exact bodyPost_ret (res1c rfl _ _ w.heap.size _ rfl (loadIA _ w.heap.size _ _ _ _ _ rr)) rfl ⟨by rw [HV.out]; first | done | rfl, hB7⟩
    by_cases h129 : C = 129
    · have HV := Lib.hid (show gueV 16 C M FR WD NA NB T E81 ED3 EF7 (S7 % 65536) S8 sec = ⟨E81, lo, 0, 16, NB⟩ by unfold gueV; simp only [HRR.out, HLO.out]; rw [if_neg h15, if_neg (fun h => h137 h.1), if_neg h139, if_neg h136, if_neg hT0, if_neg H184.out, if_neg h131, if_pos h129])
      have f15 : (C == 15) = false := beq_false_of_ne h15
      have f137 : (C == 137) = false := beq_false_of_ne h137
      have f139 : (C == 139) = false := beq_false_of_ne h139
      have f136 : (C == 136) = false := beq_false_of_ne h136
      have f131 : (C == 131) = false := beq_false_of_ne h131
      have f129 : (C == 129) = true := by rw [h129]; rfl
      have g1 : decide (T ≥ 0) = false := decide_eq_false hT0
      have g1' : T < 0 := by omega
      have g2 : decide (C ≥ 184) = false := decide_eq_false (by omega)
      clear h129
      go_wp2_with fail
      refine (HT.out _).mono ?_
      rintro e w2 ⟨rfl, rfl⟩
      go_wp2_with fail
      refine (H6.out).mono ?_
      rintro e w2 ⟨rfl, rfl⟩
      go_wp2_with fail
      refine (HD1.out _).mono ?_
      rintro e w2 ⟨rfl, rfl⟩
      go_wp2_with (refine wpList_store_row rfl _ _ _ rfl w.heap.size #[.int .i64 E81, .int .i64 lo, .int .i64 0, .int .i64 16, .int .i64 NB] rfl rfl 23 _ r0 (infoC _ _ _ _ _) rfl (oneI _ _ _ _ _) ?_)
      have rr := setRow_heap _ w.heap.size _ #[.int .i64 E81, .int .i64 lo, .int .i64 0, .int .i64 16, .int .i64 NB] 23 (0, 0) r0
      have hB7 := bel_setRow hb (Nat.le_refl w.heap.size) #[.int .i64 E81, .int .i64 lo, .int .i64 0, .int .i64 16, .int .i64 NB]
      clear r0 hb
      go_wp2
      exact bodyPost_ret (res1c rfl _ _ w.heap.size _ rfl (loadIA _ w.heap.size _ _ _ _ _ rr)) rfl ⟨by rw [HV.out]; first | done | rfl, hB7⟩
    by_cases h211 : C = 211
    · have HV := Lib.hid (show gueV 16 C M FR WD NA NB T E81 ED3 EF7 (S7 % 65536) S8 sec = ⟨ED3, lo, 0, 16, 0⟩ by unfold gueV; simp only [HRR.out, HLO.out]; rw [if_neg h15, if_neg (fun h => h137 h.1), if_neg h139, if_neg h136, if_neg hT0, if_neg H184.out, if_neg h131, if_neg h129, if_pos h211])
      have f15 : (C == 15) = false := beq_false_of_ne h15
      have f137 : (C == 137) = false := beq_false_of_ne h137
      have f139 : (C == 139) = false := beq_false_of_ne h139
      have f136 : (C == 136) = false := beq_false_of_ne h136
      have f131 : (C == 131) = false := beq_false_of_ne h131
      have f129 : (C == 129) = false := beq_false_of_ne h129
      have f211 : (C == 211) = true := by rw [h211]; rfl
      have g1 : decide (T ≥ 0) = false := decide_eq_false hT0
      have g1' : T < 0 := by omega
      have g2 : decide (C ≥ 184) = true := decide_eq_true (by omega)
      have g3 : decide (C ≤ 191) = false := decide_eq_false (by omega)
      clear h211
      go_wp2_with fail
      refine (HT.out _).mono ?_
      rintro e w2 ⟨rfl, rfl⟩
      go_wp2_with fail
      refine (HD2.out _).mono ?_
      rintro e w2 ⟨rfl, rfl⟩
      go_wp2_with (refine wpList_store_row rfl _ _ _ rfl w.heap.size #[.int .i64 ED3, .int .i64 lo, .int .i64 0, .int .i64 16, .int .i64 0] rfl rfl 23 _ r0 (infoC _ _ _ _ _) rfl (oneI _ _ _ _ _) ?_)
      have rr := setRow_heap _ w.heap.size _ #[.int .i64 ED3, .int .i64 lo, .int .i64 0, .int .i64 16, .int .i64 0] 23 (0, 0) r0
      have hB7 := bel_setRow hb (Nat.le_refl w.heap.size) #[.int .i64 ED3, .int .i64 lo, .int .i64 0, .int .i64 16, .int .i64 0]
      clear r0 hb
      go_wp2
      exact bodyPost_ret (res1c rfl _ _ w.heap.size _ rfl (loadIA _ w.heap.size _ _ _ _ _ rr)) rfl ⟨by rw [HV.out]; first | done | rfl, hB7⟩
    by_cases h247 : C = 247
    · exfalso
      have hk := HKK.out
      rw [show kindG C T = 9 by unfold kindG; rw [if_neg h15, if_neg h137, if_neg h139, if_neg h136, if_neg hT0, if_neg H184.out, if_neg h131, if_neg h129, if_neg h211, if_pos h247]] at hk
      omega
    by_cases h112 : 112 ≤ C ∧ C ≤ 127
    · exfalso
      have hk := HKK.out
      rw [show kindG C T = 10 by unfold kindG; rw [if_neg h15, if_neg h137, if_neg h139, if_neg h136, if_neg hT0, if_neg H184.out, if_neg h131, if_neg h129, if_neg h211, if_neg h247, if_pos h112]] at hk
      omega
    have H112 := Lib.hid h112
    clear h112
    by_cases h235 : C = 235
    · exfalso
      have hk := HKK.out
      rw [show kindG C T = 11 by unfold kindG; rw [if_neg h15, if_neg h137, if_neg h139, if_neg h136, if_neg hT0, if_neg H184.out, if_neg h131, if_neg h129, if_neg h211, if_neg h247, if_neg H112.out, if_pos h235]] at hk
      omega
    by_cases h233 : C = 233
    · exfalso
      have hk := HKK.out
      rw [show kindG C T = 12 by unfold kindG; rw [if_neg h15, if_neg h137, if_neg h139, if_neg h136, if_neg hT0, if_neg H184.out, if_neg h131, if_neg h129, if_neg h211, if_neg h247, if_neg H112.out, if_neg h235, if_pos h233]] at hk
      omega
    by_cases h153 : C = 153
    · exfalso
      have hk := HKK.out
      rw [show kindG C T = 13 by unfold kindG; rw [if_neg h15, if_neg h137, if_neg h139, if_neg h136, if_neg hT0, if_neg H184.out, if_neg h131, if_neg h129, if_neg h211, if_neg h247, if_neg H112.out, if_neg h235, if_neg h233, if_pos h153]] at hk
      omega
    by_cases h244 : C = 244
    · exfalso
      have hk := HKK.out
      rw [show kindG C T = 14 by unfold kindG; rw [if_neg h15, if_neg h137, if_neg h139, if_neg h136, if_neg hT0, if_neg H184.out, if_neg h131, if_neg h129, if_neg h211, if_neg h247, if_neg H112.out, if_neg h235, if_neg h233, if_neg h153, if_pos h244]] at hk
      omega
    by_cases h144 : C = 144
    · exfalso
      have hk := HKK.out
      rw [show kindG C T = 15 by unfold kindG; rw [if_neg h15, if_neg h137, if_neg h139, if_neg h136, if_neg hT0, if_neg H184.out, if_neg h131, if_neg h129, if_neg h211, if_neg h247, if_neg H112.out, if_neg h235, if_neg h233, if_neg h153, if_neg h244, if_pos h144]] at hk
      omega
    exfalso
    have hk := HKK.out
    rw [show kindG C T = 16 by unfold kindG; rw [if_neg h15, if_neg h137, if_neg h139, if_neg h136, if_neg hT0, if_neg H184.out, if_neg h131, if_neg h129, if_neg h211, if_neg h247, if_neg H112.out, if_neg h235, if_neg h233, if_neg h153, if_neg h244, if_neg h144]] at hk
    omega
set_option maxRecDepth 100000 in
set_option maxHeartbeats 16000000 in
theorem rGuess_16_9 {w : World} {A : Option Addr} {n c : Nat} {l : List Int} (hB : Byt w A n c l) (hl : 1 < l.length) (hk : 9 ≤ kindG (bt l 1) (byTwoF (bt l 1)) ∧ kindG (bt l 1) (byTwoF (bt l 1)) ≤ 16) :
    Calls Try.prog 74 #[.slice A n c, .int .i64 1, .int .i64 16] w fun e w' => e = .returned (aggI (gueF 16 l 1)) ∧ Below w.heap.size w w' := by
  rw [gueV_eq 16 l 1 hl]
  obtain ⟨W, hW⟩ : ∃ W, W = (w.alloc (.cells #[.int .i64 0, .int .i64 0, .int .i64 0, .int .i64 0, .int .i64 0] 23)).alloc (.cells #[.int .i64 (-1), .int .i64 0, .int .i64 0, .int .i64 0, .int .i64 0] 23) := ⟨_, rfl⟩
  have hb : Below w.heap.size w W := by rw [hW]; exact ((Below.refl _ _).alloc (Nat.le_refl _) _).alloc (by simp) _
  have r0 : W.heap[w.heap.size]? = some (.cells #[.int .i64 0, .int .i64 0, .int .i64 0, .int .i64 0, .int .i64 0] 23 (0, 0)) := by
    rw [hW]; exact (heap_alloc_old _ _ (by simp)).trans (heap_alloc_new w _)
  have rN : W.heap[w.heap.size + 1]? = some (.cells #[.int .i64 (-1), .int .i64 0, .int .i64 0, .int .i64 0, .int .i64 0] 23 (0, 0)) := by
    rw [hW]
    have := heap_alloc_new (w.alloc (.cells #[.int .i64 0, .int .i64 0, .int .i64 0, .int .i64 0, .int .i64 0] 23)) (.cells #[.int .i64 (-1), .int .i64 0, .int .i64 0, .int .i64 0, .int .i64 0] 23)
    simpa using this
  have HWW := Lib.hid hW
  clear hW
  have hB2 := hB.below hb
  have H1 := Lib.hid (rNumber_any hB2 1 1 (by omega) (by omega))
  rw [decide_eq_true (show 1 + 1 ≤ l.length by omega)] at H1
  have H2 := Lib.hid (rNumber_any hB2 2 1 (by omega) (by omega))
  have H3 := Lib.hid (rNumber_any hB2 3 4 (by omega) (by omega))
  have H4 := Lib.hid (rNumber_any hB2 2 4 (by omega) (by omega))
  have H5 := Lib.hid (rNumber_any hB2 2 2 (by omega) (by omega))
  have H6 := Lib.hid (rNumber_any hB2 3 2 (by omega) (by omega))
  have H7 := Lib.hid (rNumber_any hB2 3 1 (by omega) (by omega))
  have HSEC := Lib.hid (rSecond_1 hB2)
  rw [numK_1] at H1 H2 H7
  rw [numK_4] at H3 H4
  rw [numK_2] at H5 H6
  rw [show num2 l 2 = nums 16 l 2 from rfl] at H5
  rw [show num2 l 3 = nums 16 l 3 from rfl] at H6
  have b1 := btw_bd hB 1
  have b2 := btw_bd hB 2
  have b7 := btw_bd hB 3
  have b3 := numK_bd4 hB 3
  have b4 := numK_bd4 hB 2
  rw [numK_4] at b3 b4
  have HKK := Lib.hid hk
  clear hB hB2 hl hk
  generalize secF l 1 = sec at HSEC ⊢
  generalize bt l 1 = C at H1 b1 HKK ⊢
  generalize bt l 2 = M at H2 b2 ⊢
  generalize bt l 3 = N7 at H7 b7 ⊢
  generalize num4 l 3 = F0 at H3 b3 ⊢
  generalize num4 l 2 = W0 at H4 b4 ⊢
  generalize nums 16 l 2 = NA at H5 ⊢
  generalize nums 16 l 3 = NB at H6 ⊢
  generalize decide (2 + 1 ≤ l.length) = q2 at H2
  generalize decide (3 + 4 ≤ l.length) = q3 at H3
  generalize decide (2 + 4 ≤ l.length) = q4 at H4
  generalize decide (2 + 2 ≤ l.length) = q5 at H5
  generalize decide (3 + 2 ≤ l.length) = q6 at H6
  generalize decide (3 + 1 ≤ l.length) = q7 at H7
  obtain ⟨FR, hFR⟩ : ∃ v, sgnR 2147483648 F0 = v := ⟨_, rfl⟩
  obtain ⟨WD, hWD⟩ : ∃ v, sgnR 2147483648 W0 = v := ⟨_, rfl⟩
  obtain ⟨S8, hS8⟩ : ∃ v, sgnR 128 M = v := ⟨_, rfl⟩
  obtain ⟨S7, hS7⟩ : ∃ v, sgnR 128 N7 = v := ⟨_, rfl⟩
  obtain ⟨T, hT⟩ : ∃ v, byTwoF C = v := ⟨_, rfl⟩
  have HS1 := Lib.hid (fun w1 => rSigned32_at F0 FR w1 hFR b3.1 (by omega))
  have HS2 := Lib.hid (fun w1 => rSigned32_at W0 WD w1 hWD b4.1 (by omega))
  have HS3 := Lib.hid (fun w1 => rSigned8_at M S8 w1 hS8 b2.1 b2.2)
  have HS4 := Lib.hid (fun w1 => rSigned8_at N7 S7 w1 hS7 b7.1 b7.2)
  have HT := Lib.hid (fun w1 => (show Calls Try.prog 96 #[.int .i64 C] w1 fun e w' => e = .returned (.int .i64 T) ∧ w1 = w' from hT ▸ rByTwo_any C w1))
  have hr8 : 0 ≤ M / 8 % 8 ∧ M / 8 % 8 < 8 := by omega
  have HD1 := Lib.hid (fun w1 => rByDigit_81 (M / 8 % 8) hr8 w1)
  have HD2 := Lib.hid (fun w1 => rByDigit_d3 (M / 8 % 8) hr8 w1)
  have HD3 := Lib.hid (fun w1 => rByDigit_f7 (M / 8 % 8) hr8 w1)
  have hS7b : -128 ≤ S7 ∧ S7 < 128 := by rw [← hS7]; unfold sgnR; split <;> omega
  rw [hFR, hWD, hS8, hS7, hT]
  rw [hT] at HKK
  have HT0 := Lib.hid hT
  clear hFR hWD hS8 hS7 hT b3 b4 b7 hr8
  rw [show regR M = M / 8 % 8 from rfl]
  generalize dig81 (M / 8 % 8) = E81 at HD1 ⊢
  generalize digd3 (M / 8 % 8) = ED3 at HD2 ⊢
  generalize digf7 (M / 8 % 8) = EF7 at HD3 ⊢
  rw [show S7 % (2 * half 16) = S7 % 65536 by simp [half]]
  obtain ⟨s7a, s7b⟩ := hS7b
  have HAND := Lib.hid (show bits .and .i64 S7 65535 = S7 % 65536 from i64_mask S7 16 (by omega))
  obtain ⟨b10, b11⟩ := b1
  obtain ⟨b20, b21⟩ := b2
  obtain ⟨r, hr⟩ : ∃ v, M / 8 % 8 = v := ⟨_, rfl⟩
  obtain ⟨lo, hlo⟩ : ∃ v, M % 8 = v := ⟨_, rfl⟩
  rw [hr] at HD1 HD2 HD3
  have HRR := Lib.hid (show regR M = r from hr)
  have HLO := Lib.hid (show regL M = lo from hlo)
  obtain ⟨mem, hmem⟩ : ∃ b, decide (128 ≤ M ∧ M < 192) = b := ⟨_, rfl⟩
  have HMEM := Lib.hid hmem
  clear hmem
  go_enter Try.func74, Try.ntmps74
  go_wp2_with fail
  rw [← HWW.out]
  refine (H1.out).mono ?_
  rintro e w2 ⟨rfl, rfl⟩
  go_wp2_with fail
  refine (H2.out).mono ?_
  rintro e w2 ⟨rfl, rfl⟩
  go_wp2_with fail
  refine (H3.out).mono ?_
  rintro e w2 ⟨rfl, rfl⟩
  go_wp2_with fail
  refine (HS1.out _).mono ?_
  rintro e w2 ⟨rfl, rfl⟩
  go_upto_region 9 with fail
  go_cut [16] from 27 (fun s16 wx => s16 = .bool mem ∧ W = wx)
  case first =>
    by_cases m1 : 128 ≤ M
    · have d1 : decide (M ≥ 128) = true := decide_eq_true m1
      by_cases m2 : M < 192
      · have d2 : decide (M < 192) = true := decide_eq_true m2
        go_wp2_with fail
        go_meet
        exact ⟨by rw [← HMEM.out, decide_eq_true (by omega)], rfl⟩
      · have d2 : decide (M < 192) = false := decide_eq_false m2
        go_wp2_with fail
        go_meet
        exact ⟨by rw [← HMEM.out, decide_eq_false (by omega)], rfl⟩
    · have d1 : decide (M ≥ 128) = false := decide_eq_false m1
      have d2 : M < 128 := by omega
      go_wp2_with fail
      go_meet
      exact ⟨by rw [← HMEM.out, decide_eq_false (by omega)], rfl⟩
  case rest =>
    obtain ⟨rfl, rfl⟩ := hcut
    go_wp2_with fail
    refine (H2.out).mono ?_
    rintro e w2 ⟨rfl, rfl⟩
    go_wp2_with fail
    refine (H4.out).mono ?_
    rintro e w2 ⟨rfl, rfl⟩
    clear H1 H3 HS1 HWW hr hlo b20 b21
    by_cases h15 : C = 15
    · exfalso
      have hk := HKK.out
      rw [show kindG C T = 0 by unfold kindG; rw [if_pos h15]] at hk
      omega
    by_cases h137 : C = 137
    · exfalso
      have hk := HKK.out
      rw [show kindG C T = 1 by unfold kindG; rw [if_neg h15, if_pos h137]] at hk
      omega
    by_cases h139 : C = 139
    · exfalso
      have hk := HKK.out
      rw [show kindG C T = 2 by unfold kindG; rw [if_neg h15, if_neg h137, if_pos h139]] at hk
      omega
    by_cases h136 : C = 136
    · exfalso
      have hk := HKK.out
      rw [show kindG C T = 3 by unfold kindG; rw [if_neg h15, if_neg h137, if_neg h139, if_pos h136]] at hk
      omega
    by_cases hT0 : 0 ≤ T
    · exfalso
      have hk := HKK.out
      rw [show kindG C T = 4 by unfold kindG; rw [if_neg h15, if_neg h137, if_neg h139, if_neg h136, if_pos hT0]] at hk
      omega
    by_cases h184 : 184 ≤ C ∧ C ≤ 191
    · exfalso
      have hk := HKK.out
      rw [show kindG C T = 5 by unfold kindG; rw [if_neg h15, if_neg h137, if_neg h139, if_neg h136, if_neg hT0, if_pos h184]] at hk
      omega
    have H184 := Lib.hid h184
    clear h184
    by_cases h131 : C = 131
    · exfalso
      have hk := HKK.out
      rw [show kindG C T = 6 by unfold kindG; rw [if_neg h15, if_neg h137, if_neg h139, if_neg h136, if_neg hT0, if_neg H184.out, if_pos h131]] at hk
      omega
    by_cases h129 : C = 129
    · exfalso
      have hk := HKK.out
      rw [show kindG C T = 7 by unfold kindG; rw [if_neg h15, if_neg h137, if_neg h139, if_neg h136, if_neg hT0, if_neg H184.out, if_neg h131, if_pos h129]] at hk
      omega
    by_cases h211 : C = 211
    · exfalso
      have hk := HKK.out
      rw [show kindG C T = 8 by unfold kindG; rw [if_neg h15, if_neg h137, if_neg h139, if_neg h136, if_neg hT0, if_neg H184.out, if_neg h131, if_neg h129, if_pos h211]] at hk
      omega
    by_cases h247 : C = 247
    · have HV := Lib.hid (show gueV 16 C M FR WD NA NB T E81 ED3 EF7 (S7 % 65536) S8 sec = ⟨EF7, lo, 0, 16, 0⟩ by unfold gueV; simp only [HRR.out, HLO.out]; rw [if_neg h15, if_neg (fun h => h137 h.1), if_neg h139, if_neg h136, if_neg hT0, if_neg H184.out, if_neg h131, if_neg h129, if_neg h211, if_pos h247])
      have f15 : (C == 15) = false := beq_false_of_ne h15
      have f137 : (C == 137) = false := beq_false_of_ne h137
      have f139 : (C == 139) = false := beq_false_of_ne h139
      have f136 : (C == 136) = false := beq_false_of_ne h136
      have f131 : (C == 131) = false := beq_false_of_ne h131
      have f129 : (C == 129) = false := beq_false_of_ne h129
      have f211 : (C == 211) = false := beq_false_of_ne h211
      have f247 : (C == 247) = true := by rw [h247]; rfl
      have g1 : decide (T ≥ 0) = false := decide_eq_false hT0
      have g1' : T < 0 := by omega
      have g2 : decide (C ≥ 184) = true := decide_eq_true (by omega)
      have g3 : decide (C ≤ 191) = false := decide_eq_false (by omega)
      clear h247
      go_wp2_with fail
      refine (HT.out _).mono ?_
      rintro e w2 ⟨rfl, rfl⟩
      go_wp2_with fail
      refine (HD3.out _).mono ?_
      rintro e w2 ⟨rfl, rfl⟩
      go_wp2_with (refine wpList_store_row rfl _ _ _ rfl w.heap.size #[.int .i64 EF7, .int .i64 lo, .int .i64 0, .int .i64 16, .int .i64 0] rfl rfl 23 _ r0 (infoC _ _ _ _ _) rfl (oneI _ _ _ _ _) ?_)
      have rr := setRow_heap _ w.heap.size _ #[.int .i64 EF7, .int .i64 lo, .int .i64 0, .int .i64 16, .int .i64 0] 23 (0, 0) r0
      have hB7 := bel_setRow hb (Nat.le_refl w.heap.size) #[.int .i64 EF7, .int .i64 lo, .int .i64 0, .int .i64 16, .int .i64 0]
      clear r0 hb
      go_wp2
      exact bodyPost_ret (res1c rfl _ _ w.heap.size _ rfl (loadIA _ w.heap.size _ _ _ _ _ rr)) rfl ⟨by rw [HV.out]; first | done | rfl, hB7⟩
    by_cases h112 : 112 ≤ C ∧ C ≤ 127
    · have HV := Lib.hid (show gueV 16 C M FR WD NA NB T E81 ED3 EF7 (S7 % 65536) S8 sec = ⟨32, 0, C - 112, 8, S8⟩ by unfold gueV; simp only [HRR.out, HLO.out]; rw [if_neg h15, if_neg (fun h => h137 h.1), if_neg h139, if_neg h136, if_neg hT0, if_neg H184.out, if_neg h131, if_neg h129, if_neg h211, if_neg h247, if_pos h112])
      have f15 : (C == 15) = false := beq_false_of_ne h15
      have f137 : (C == 137) = false := beq_false_of_ne h137
      have f139 : (C == 139) = false := beq_false_of_ne h139
      have f136 : (C == 136) = false := beq_false_of_ne h136
      have f131 : (C == 131) = false := beq_false_of_ne h131
      have f129 : (C == 129) = false := beq_false_of_ne h129
      have f211 : (C == 211) = false := beq_false_of_ne h211
      have f247 : (C == 247) = false := beq_false_of_ne h247
      have g1 : decide (T ≥ 0) = false := decide_eq_false hT0
      have g1' : T < 0 := by omega
      obtain ⟨c1, c2⟩ := h112
      have g2 : decide (C ≥ 184) = false := decide_eq_false (by omega)
      have g4 : decide (C ≥ 112) = true := decide_eq_true c1
      have g5 : decide (C ≤ 127) = true := decide_eq_true c2
      go_wp2_with fail
      refine (HT.out _).mono ?_
      rintro e w2 ⟨rfl, rfl⟩
      go_wp2_with fail
      refine (HS3.out _).mono ?_
      rintro e w2 ⟨rfl, rfl⟩
      go_wp2_with (refine wpList_store_row rfl _ _ _ rfl w.heap.size #[.int .i64 32, .int .i64 0, .int .i64 (C - 112), .int .i64 8, .int .i64 S8] rfl rfl 23 _ r0 (infoC _ _ _ _ _) rfl (oneI _ _ _ _ _) ?_)
      have rr := setRow_heap _ w.heap.size _ #[.int .i64 32, .int .i64 0, .int .i64 (C - 112), .int .i64 8, .int .i64 S8] 23 (0, 0) r0
      have hB7 := bel_setRow hb (Nat.le_refl w.heap.size) #[.int .i64 32, .int .i64 0, .int .i64 (C - 112), .int .i64 8, .int .i64 S8]
      clear r0 hb
      go_wp2
      exact bodyPost_ret (res1c rfl _ _ w.heap.size _ rfl (loadIA _ w.heap.size _ _ _ _ _ rr)) rfl ⟨by rw [HV.out]; first | done | rfl, hB7⟩
    have H112 := Lib.hid h112
    clear h112
    by_cases h235 : C = 235
    · have HV := Lib.hid (show gueV 16 C M FR WD NA NB T E81 ED3 EF7 (S7 % 65536) S8 sec = ⟨33, 0, 0, 8, S8⟩ by unfold gueV; simp only [HRR.out, HLO.out]; rw [if_neg h15, if_neg (fun h => h137 h.1), if_neg h139, if_neg h136, if_neg hT0, if_neg H184.out, if_neg h131, if_neg h129, if_neg h211, if_neg h247, if_neg H112.out, if_pos h235])
      have f15 : (C == 15) = false := beq_false_of_ne h15
      have f137 : (C == 137) = false := beq_false_of_ne h137
      have f139 : (C == 139) = false := beq_false_of_ne h139
      have f136 : (C == 136) = false := beq_false_of_ne h136
      have f131 : (C == 131) = false := beq_false_of_ne h131
      have f129 : (C == 129) = false := beq_false_of_ne h129
      have f211 : (C == 211) = false := beq_false_of_ne h211
      have f247 : (C == 247) = false := beq_false_of_ne h247
      have f235 : (C == 235) = true := by rw [h235]; rfl
      have g1 : decide (T ≥ 0) = false := decide_eq_false hT0
      have g1' : T < 0 := by omega
      have g2 : decide (C ≥ 184) = true := decide_eq_true (by omega)
      have g3 : decide (C ≤ 191) = false := decide_eq_false (by omega)
      have g4 : decide (C ≥ 112) = true := decide_eq_true (by omega)
      have g5 : decide (C ≤ 127) = false := decide_eq_false (by omega)
      clear h235
      go_wp2_with fail
      refine (HT.out _).mono ?_
      rintro e w2 ⟨rfl, rfl⟩
      go_wp2_with fail
      refine (HS3.out _).mono ?_
      rintro e w2 ⟨rfl, rfl⟩
      go_wp2_with (refine wpList_store_row rfl _ _ _ rfl w.heap.size #[.int .i64 33, .int .i64 0, .int .i64 0, .int .i64 8, .int .i64 S8] rfl rfl 23 _ r0 (infoC _ _ _ _ _) rfl (oneI _ _ _ _ _) ?_)
      have rr := setRow_heap _ w.heap.size _ #[.int .i64 33, .int .i64 0, .int .i64 0, .int .i64 8, .int .i64 S8] 23 (0, 0) r0
      have hB7 := bel_setRow hb (Nat.le_refl w.heap.size) #[.int .i64 33, .int .i64 0, .int .i64 0, .int .i64 8, .int .i64 S8]
      clear r0 hb
      go_wp2
      exact bodyPost_ret (res1c rfl _ _ w.heap.size _ rfl (loadIA _ w.heap.size _ _ _ _ _ rr)) rfl ⟨by rw [HV.out]; first | done | rfl, hB7⟩
    by_cases h233 : C = 233
    · have HV := Lib.hid (show gueV 16 C M FR WD NA NB T E81 ED3 EF7 (S7 % 65536) S8 sec = ⟨33, 0, 0, 32, WD⟩ by unfold gueV; simp only [HRR.out, HLO.out]; rw [if_neg h15, if_neg (fun h => h137 h.1), if_neg h139, if_neg h136, if_neg hT0, if_neg H184.out, if_neg h131, if_neg h129, if_neg h211, if_neg h247, if_neg H112.out, if_neg h235, if_pos h233])
      have f15 : (C == 15) = false := beq_false_of_ne h15
      have f137 : (C == 137) = false := beq_false_of_ne h137
      have f139 : (C == 139) = false := beq_false_of_ne h139
      have f136 : (C == 136) = false := beq_false_of_ne h136
      have f131 : (C == 131) = false := beq_false_of_ne h131
      have f129 : (C == 129) = false := beq_false_of_ne h129
      have f211 : (C == 211) = false := beq_false_of_ne h211
      have f247 : (C == 247) = false := beq_false_of_ne h247
      have f235 : (C == 235) = false := beq_false_of_ne h235
      have f233 : (C == 233) = true := by rw [h233]; rfl
      have g1 : decide (T ≥ 0) = false := decide_eq_false hT0
      have g1' : T < 0 := by omega
      have g2 : decide (C ≥ 184) = true := decide_eq_true (by omega)
      have g3 : decide (C ≤ 191) = false := decide_eq_false (by omega)
      have g4 : decide (C ≥ 112) = true := decide_eq_true (by omega)
      have g5 : decide (C ≤ 127) = false := decide_eq_false (by omega)
      clear h233
      go_wp2_with fail
      refine (HT.out _).mono ?_
      rintro e w2 ⟨rfl, rfl⟩
      go_wp2_with fail
      refine (HS2.out _).mono ?_
      rintro e w2 ⟨rfl, rfl⟩
      go_wp2_with (refine wpList_store_row rfl _ _ _ rfl w.heap.size #[.int .i64 33, .int .i64 0, .int .i64 0, .int .i64 32, .int .i64 WD] rfl rfl 23 _ r0 (infoC _ _ _ _ _) rfl (oneI _ _ _ _ _) ?_)
      have rr := setRow_heap _ w.heap.size _ #[.int .i64 33, .int .i64 0, .int .i64 0, .int .i64 32, .int .i64 WD] 23 (0, 0) r0
      have hB7 := bel_setRow hb (Nat.le_refl w.heap.size) #[.int .i64 33, .int .i64 0, .int .i64 0, .int .i64 32, .int .i64 WD]
      clear r0 hb
      go_wp2
      exact bodyPost_ret (res1c rfl _ _ w.heap.size _ rfl (loadIA _ w.heap.size _ _ _ _ _ rr)) rfl ⟨by rw [HV.out]; first | done | rfl, hB7⟩
    by_cases h153 : C = 153
    · have HV := Lib.hid (show gueV 16 C M FR WD NA NB T E81 ED3 EF7 (S7 % 65536) S8 sec = ⟨28, 0, 0, 16, 0⟩ by unfold gueV; simp only [HRR.out, HLO.out]; rw [if_neg h15, if_neg (fun h => h137 h.1), if_neg h139, if_neg h136, if_neg hT0, if_neg H184.out, if_neg h131, if_neg h129, if_neg h211, if_neg h247, if_neg H112.out, if_neg h235, if_neg h233, if_pos h153])
      have f15 : (C == 15) = false := beq_false_of_ne h15
      have f137 : (C == 137) = false := beq_false_of_ne h137
      have f139 : (C == 139) = false := beq_false_of_ne h139
      have f136 : (C == 136) = false := beq_false_of_ne h136
      have f131 : (C == 131) = false := beq_false_of_ne h131
      have f129 : (C == 129) = false := beq_false_of_ne h129
      have f211 : (C == 211) = false := beq_false_of_ne h211
      have f247 : (C == 247) = false := beq_false_of_ne h247
      have f235 : (C == 235) = false := beq_false_of_ne h235
      have f233 : (C == 233) = false := beq_false_of_ne h233
      have f153 : (C == 153) = true := by rw [h153]; rfl
      have g1 : decide (T ≥ 0) = false := decide_eq_false hT0
      have g1' : T < 0 := by omega
      have g2 : decide (C ≥ 184) = false := decide_eq_false (by omega)
      have g4 : decide (C ≥ 112) = true := decide_eq_true (by omega)
      have g5 : decide (C ≤ 127) = false := decide_eq_false (by omega)
      clear h153
      go_wp2_with fail
      refine (HT.out _).mono ?_
      rintro e w2 ⟨rfl, rfl⟩
      go_wp2_with (refine wpList_store_row rfl _ _ _ rfl w.heap.size #[.int .i64 28, .int .i64 0, .int .i64 0, .int .i64 16, .int .i64 0] rfl rfl 23 _ r0 (infoC _ _ _ _ _) rfl (oneI _ _ _ _ _) ?_)
      have rr := setRow_heap _ w.heap.size _ #[.int .i64 28, .int .i64 0, .int .i64 0, .int .i64 16, .int .i64 0] 23 (0, 0) r0
      have hB7 := bel_setRow hb (Nat.le_refl w.heap.size) #[.int .i64 28, .int .i64 0, .int .i64 0, .int .i64 16, .int .i64 0]
      clear r0 hb
      go_wp2
      exact bodyPost_ret (res1c rfl _ _ w.heap.size _ rfl (loadIA _ w.heap.size _ _ _ _ _ rr)) rfl ⟨by rw [HV.out]; first | done | rfl, hB7⟩
    by_cases h244 : C = 244
    · have HV := Lib.hid (show gueV 16 C M FR WD NA NB T E81 ED3 EF7 (S7 % 65536) S8 sec = ⟨34, 0, 0, 16, 0⟩ by unfold gueV; simp only [HRR.out, HLO.out]; rw [if_neg h15, if_neg (fun h => h137 h.1), if_neg h139, if_neg h136, if_neg hT0, if_neg H184.out, if_neg h131, if_neg h129, if_neg h211, if_neg h247, if_neg H112.out, if_neg h235, if_neg h233, if_neg h153, if_pos h244])
      have f15 : (C == 15) = false := beq_false_of_ne h15
      have f137 : (C == 137) = false := beq_false_of_ne h137
      have f139 : (C == 139) = false := beq_false_of_ne h139
      have f136 : (C == 136) = false := beq_false_of_ne h136
      have f131 : (C == 131) = false := beq_false_of_ne h131
      have f129 : (C == 129) = false := beq_false_of_ne h129
      have f211 : (C == 211) = false := beq_false_of_ne h211
      have f247 : (C == 247) = false := beq_false_of_ne h247
      have f235 : (C == 235) = false := beq_false_of_ne h235
      have f233 : (C == 233) = false := beq_false_of_ne h233
      have f153 : (C == 153) = false := beq_false_of_ne h153
      have f244 : (C == 244) = true := by rw [h244]; rfl
      have g1 : decide (T ≥ 0) = false := decide_eq_false hT0
      have g1' : T < 0 := by omega
      have g2 : decide (C ≥ 184) = true := decide_eq_true (by omega)
      have g3 : decide (C ≤ 191) = false := decide_eq_false (by omega)
      have g4 : decide (C ≥ 112) = true := decide_eq_true (by omega)
      have g5 : decide (C ≤ 127) = false := decide_eq_false (by omega)
      clear h244
      go_wp2_with fail
      refine (HT.out _).mono ?_
      rintro e w2 ⟨rfl, rfl⟩
      go_wp2_with (refine wpList_store_row rfl _ _ _ rfl w.heap.size #[.int .i64 34, .int .i64 0, .int .i64 0, .int .i64 16, .int .i64 0] rfl rfl 23 _ r0 (infoC _ _ _ _ _) rfl (oneI _ _ _ _ _) ?_)
      have rr := setRow_heap _ w.heap.size _ #[.int .i64 34, .int .i64 0, .int .i64 0, .int .i64 16, .int .i64 0] 23 (0, 0) r0
      have hB7 := bel_setRow hb (Nat.le_refl w.heap.size) #[.int .i64 34, .int .i64 0, .int .i64 0, .int .i64 16, .int .i64 0]
      clear r0 hb
      go_wp2
      exact bodyPost_ret (res1c rfl _ _ w.heap.size _ rfl (loadIA _ w.heap.size _ _ _ _ _ rr)) rfl ⟨by rw [HV.out]; first | done | rfl, hB7⟩
    by_cases h144 : C = 144
    · have HV := Lib.hid (show gueV 16 C M FR WD NA NB T E81 ED3 EF7 (S7 % 65536) S8 sec = ⟨36, 0, 0, 16, 0⟩ by unfold gueV; simp only [HRR.out, HLO.out]; rw [if_neg h15, if_neg (fun h => h137 h.1), if_neg h139, if_neg h136, if_neg hT0, if_neg H184.out, if_neg h131, if_neg h129, if_neg h211, if_neg h247, if_neg H112.out, if_neg h235, if_neg h233, if_neg h153, if_neg h244, if_pos h144])
      have f15 : (C == 15) = false := beq_false_of_ne h15
      have f137 : (C == 137) = false := beq_false_of_ne h137
      have f139 : (C == 139) = false := beq_false_of_ne h139
      have f136 : (C == 136) = false := beq_false_of_ne h136
      have f131 : (C == 131) = false := beq_false_of_ne h131
      have f129 : (C == 129) = false := beq_false_of_ne h129
      have f211 : (C == 211) = false := beq_false_of_ne h211
      have f247 : (C == 247) = false := beq_false_of_ne h247
      have f235 : (C == 235) = false := beq_false_of_ne h235
      have f233 : (C == 233) = false := beq_false_of_ne h233
      have f153 : (C == 153) = false := beq_false_of_ne h153
      have f244 : (C == 244) = false := beq_false_of_ne h244
      have f144 : (C == 144) = true := by rw [h144]; rfl
      have g1 : decide (T ≥ 0) = false := decide_eq_false hT0
      have g1' : T < 0 := by omega
      have g2 : decide (C ≥ 184) = false := decide_eq_false (by omega)
      have g4 : decide (C ≥ 112) = true := decide_eq_true (by omega)
      have g5 : decide (C ≤ 127) = false := decide_eq_false (by omega)
      clear h144
      go_wp2_with fail
      refine (HT.out _).mono ?_
      rintro e w2 ⟨rfl, rfl⟩
      go_wp2_with (refine wpList_store_row rfl _ _ _ rfl w.heap.size #[.int .i64 36, .int .i64 0, .int .i64 0, .int .i64 16, .int .i64 0] rfl rfl 23 _ r0 (infoC _ _ _ _ _) rfl (oneI _ _ _ _ _) ?_)
      have rr := setRow_heap _ w.heap.size _ #[.int .i64 36, .int .i64 0, .int .i64 0, .int .i64 16, .int .i64 0] 23 (0, 0) r0
      have hB7 := bel_setRow hb (Nat.le_refl w.heap.size) #[.int .i64 36, .int .i64 0, .int .i64 0, .int .i64 16, .int .i64 0]
      clear r0 hb
      go_wp2
      exact bodyPost_ret (res1c rfl _ _ w.heap.size _ rfl (loadIA _ w.heap.size _ _ _ _ _ rr)) rfl ⟨by rw [HV.out]; first | done | rfl, hB7⟩
    have HV := Lib.hid (show gueV 16 C M FR WD NA NB T E81 ED3 EF7 (S7 % 65536) S8 sec = noIns by unfold gueV; rw [if_neg h15, if_neg (fun h => h137 h.1), if_neg h139, if_neg h136, if_neg hT0, if_neg H184.out, if_neg h131, if_neg h129, if_neg h211, if_neg h247, if_neg H112.out, if_neg h235, if_neg h233, if_neg h153, if_neg h244, if_neg h144])
    have f15 : (C == 15) = false := beq_false_of_ne h15
    have f137 : (C == 137) = false := beq_false_of_ne h137
    have f139 : (C == 139) = false := beq_false_of_ne h139
    have f136 : (C == 136) = false := beq_false_of_ne h136
    have f131 : (C == 131) = false := beq_false_of_ne h131
    have f129 : (C == 129) = false := beq_false_of_ne h129
    have f211 : (C == 211) = false := beq_false_of_ne h211
    have f247 : (C == 247) = false := beq_false_of_ne h247
    have f235 : (C == 235) = false := beq_false_of_ne h235
    have f233 : (C == 233) = false := beq_false_of_ne h233
    have f153 : (C == 153) = false := beq_false_of_ne h153
    have f244 : (C == 244) = false := beq_false_of_ne h244
    have f144 : (C == 144) = false := beq_false_of_ne h144
    have g1 : decide (T ≥ 0) = false := decide_eq_false hT0
    have g1' : T < 0 := by omega
    rcases (show C < 112 ∨ (127 < C ∧ C < 184) ∨ 191 < C by have := H184.out; have := H112.out; omega) with c1 | ⟨c1, c2⟩ | c1
    · have g2 : decide (C ≥ 184) = false := decide_eq_false (by omega)
      have g4 : decide (C ≥ 112) = false := decide_eq_false (by omega)
      go_wp2_with fail
      refine (HT.out _).mono ?_
      rintro e w2 ⟨rfl, rfl⟩
      have hNN := cells5 rN
      obtain ⟨n0, n1, n2, n3, n4⟩ := hNN
      go_wp2_with (refine wpList_store_row rfl _ _ _ rfl w.heap.size #[.int .i64 (-1), .int .i64 0, .int .i64 0, .int .i64 0, .int .i64 0] rfl rfl 23 _ r0 (infoC _ _ _ _ _) rfl (oneI _ _ _ _ _) ?_)
      have rr := setRow_heap _ w.heap.size _ #[.int .i64 (-1), .int .i64 0, .int .i64 0, .int .i64 0, .int .i64 0] 23 (0, 0) r0
      have hB7 := bel_setRow hb (Nat.le_refl w.heap.size) #[.int .i64 (-1), .int .i64 0, .int .i64 0, .int .i64 0, .int .i64 0]
      clear r0 hb
      go_wp2
      exact bodyPost_ret (res1c rfl _ _ w.heap.size _ rfl (loadIA _ w.heap.size _ _ _ _ _ rr)) rfl ⟨by rw [HV.out]; first | done | rfl, hB7⟩
    · have g2 : decide (C ≥ 184) = false := decide_eq_false (by omega)
      have g4 : decide (C ≥ 112) = true := decide_eq_true (by omega)
      have g5 : decide (C ≤ 127) = false := decide_eq_false (by omega)
      go_wp2_with fail
      refine (HT.out _).mono ?_
      rintro e w2 ⟨rfl, rfl⟩
      have hNN := cells5 rN
      obtain ⟨n0, n1, n2, n3, n4⟩ := hNN
      go_wp2_with (refine wpList_store_row rfl _ _ _ rfl w.heap.size #[.int .i64 (-1), .int .i64 0, .int .i64 0, .int .i64 0, .int .i64 0] rfl rfl 23 _ r0 (infoC _ _ _ _ _) rfl (oneI _ _ _ _ _) ?_)
      have rr := setRow_heap _ w.heap.size _ #[.int .i64 (-1), .int .i64 0, .int .i64 0, .int .i64 0, .int .i64 0] 23 (0, 0) r0
      have hB7 := bel_setRow hb (Nat.le_refl w.heap.size) #[.int .i64 (-1), .int .i64 0, .int .i64 0, .int .i64 0, .int .i64 0]
      clear r0 hb
      go_wp2
      exact bodyPost_ret (res1c rfl _ _ w.heap.size _ rfl (loadIA _ w.heap.size _ _ _ _ _ rr)) rfl ⟨by rw [HV.out]; first | done | rfl, hB7⟩
    · have g2 : decide (C ≥ 184) = true := decide_eq_true (by omega)
      have g3 : decide (C ≤ 191) = false := decide_eq_false (by omega)
      have g4 : decide (C ≥ 112) = true := decide_eq_true (by omega)
      have g5 : decide (C ≤ 127) = false := decide_eq_false (by omega)
      go_wp2_with fail
      refine (HT.out _).mono ?_
      rintro e w2 ⟨rfl, rfl⟩
      have hNN := cells5 rN
      obtain ⟨n0, n1, n2, n3, n4⟩ := hNN
      go_wp2_with (refine wpList_store_row rfl _ _ _ rfl w.heap.size #[.int .i64 (-1), .int .i64 0, .int .i64 0, .int .i64 0, .int .i64 0] rfl rfl 23 _ r0 (infoC _ _ _ _ _) rfl (oneI _ _ _ _ _) ?_)
      have rr := setRow_heap _ w.heap.size _ #[.int .i64 (-1), .int .i64 0, .int .i64 0, .int .i64 0, .int .i64 0] 23 (0, 0) r0
      have hB7 := bel_setRow hb (Nat.le_refl w.heap.size) #[.int .i64 (-1), .int .i64 0, .int .i64 0, .int .i64 0, .int .i64 0]
      clear r0 hb
      go_wp2
      exact bodyPost_ret (res1c rfl _ _ w.heap.size _ rfl (loadIA _ w.heap.size _ _ _ _ _ rr)) rfl ⟨by rw [HV.out]; first | done | rfl, hB7⟩
end Go.Proofs.Ytpekegeohcnhcaa
