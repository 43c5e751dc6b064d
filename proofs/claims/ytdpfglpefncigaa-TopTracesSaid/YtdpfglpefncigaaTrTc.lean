/-
  The law of the whole of package trace.
-/
import Derived.Test.YtdpfglpefncigaaTrTd
namespace Go.Proofs.Ytdpfglpefncigaa
open Go.RowKit

theorem tab_one (w : World) (p : Plc) (T : Nat) : Tab (w.alloc (.cells #[.int .i64 p.a, .int .i64 p.z, .int .i64 p.v, .int .i64 p.k, .int .i64 p.n] T)) (some ⟨w.heap.size, 0, none⟩) 1 1 [p] := by
  refine ⟨rfl, Nat.le_refl _, by omega, .inr ⟨_, _, rfl, by simp, fun j hj i v hv => ?_⟩⟩
  obtain rfl : j = 0 := by simp at hj; exact hj
  have h := news5 (heap_alloc_new w (.cells #[.int .i64 p.a, .int .i64 p.z, .int .i64 p.v, .int .i64 p.k, .int .i64 p.n] T)) i v hv
  have e : (⟨w.heap.size, 0, none⟩ : Addr).add i = ⟨w.heap.size, 0 + 0 * 5 + i, none⟩ := by
    unfold Addr.add
    split
    · rename_i h0
      simp [h0]
    · simp
  rw [e] at h
  exact h
theorem tab_of {w : World} {base : Nat} {A : Option Addr} {c : Nat} {ps : List Plc} (h : w.ownsRow base 33 5 (.slice A ps.length c) ps.length (placesV ps)) : Tab w A ps.length c ps := by
  obtain ⟨A', c', e, hT⟩ := tab_own h
  injection e with e1 e2 e3
  subst e1 e3
  exact hT
section
variable {w : World} {A : Option Addr} {n c : Nat} {zs : List Plc} {MC : Array Value} {R : Nat → Int} {at_ : Int} {Am : Option Addr} {nm cm : Nat} {l : List Nat}
set_option maxRecDepth 100000 in
set_option maxHeartbeats 4000000 in
theorem top_walk (h : Tab w A n c zs) (hm : Mach w MC R at_ Am nm cm l) {a : Int} (ha : (Lit.int .i64 a).wf = true) :
    Calls Try.prog 13 #[.slice A n c, .agg MC, .int .i64 a] w fun e w' => e = .returned (.bool true) ∧ Below w.heap.size w w' := by
  have hsz := mach_size hm
  have HM := Lib.hid hm
  have HT := Lib.hid h
  clear hm h
  go_enter Try.func13, Try.ntmps13
  go_wp2_with fail
  have hb0 : Below w.heap.size w ((w.alloc (.cells MC 41)).alloc (.cells #[.int .i64 0, .int .i64 9, .int .i64 3, .int .i64 2, .int .i64 77] 33)) := ((Below.refl _ _).alloc (Nat.le_refl _) _).alloc (by simp) _
  have hB : ((w.alloc (.cells MC 41)).alloc (.cells #[.int .i64 0, .int .i64 9, .int .i64 3, .int .i64 2, .int .i64 77] 33)).heap[w.heap.size]? = some (.cells MC 41 (0, 0)) := (heap_alloc_old _ _ (by simp)).trans (heap_alloc_new w _)
  have hT1 : Tab ((w.alloc (.cells MC 41)).alloc (.cells #[.int .i64 0, .int .i64 9, .int .i64 3, .int .i64 2, .int .i64 77] 33)) (some ⟨w.heap.size + 1, 0, none⟩) 1 1 [⟨0, 9, 3, 2, 77⟩] := by
    have := tab_one (w.alloc (.cells MC 41)) ⟨0, 9, 3, 2, 77⟩ 33
    simpa using this
  generalize World.alloc (World.alloc w _) _ = W0 at hb0 hB hT1 ⊢
  have hv := value_is hT1 (mach8_is W0) 3 (by decide) one_knd
  rw [show valR (fun _ => 0) [] 0 (some (2, 77)) = (77, true, 0) from rfl] at hv
  refine Calls.mono hv ?_
  clear hv hT1
  rintro e w1 ⟨rfl, hb1⟩
  replace hB := (hb1.block _ (lt_of_block hB)).trans hB
  replace hb0 := hb0.trans (hb1.mono hb0.size)
  clear hb1
  obtain ⟨-, m2, -⟩ := HM.out.cells hB
  by_cases hn : 100 < n
  · have HN := Lib.hid hn
    clear hn
    go_wp2_with (first | (go_at_call 14; ((with_reducible refine (long_yes _ _ _ _ HN.out).mono ?_); rintro e w' ⟨rfl, rfl⟩)))
    go_ret
    exact ⟨rfl, hb0⟩
  · have HN := Lib.hid hn
    have n100 : n ≤ 100 := by omega
    clear hn
    by_cases h4 : 40000 < nm
    · go_wp2_with (first | (go_at_call 14; ((with_reducible refine (long_no _ _ _ _ HN.out).mono ?_); rintro e w' ⟨rfl, rfl⟩)))
      go_ret
      exact ⟨rfl, hb0⟩
    · have HE := Lib.hid (Encode_tab (HT.out.below hb0))
      by_cases hv : valF zs = 0
      · rw [hv] at HE
        go_wp2_with (first | (go_at_call 14; ((with_reducible refine (long_no _ _ _ _ HN.out).mono ?_); rintro e w' ⟨rfl, rfl⟩)))
        have HMG := Lib.hid (fun w1 (hb : Below w.heap.size w w1) => merge_tab (HT.out.below hb))
        rw [hv] at HMG
        have HVL := Lib.hid hv
        obtain ⟨T, hT, eT⟩ := at_mod a
        have k1 : chkF zs 0 0 (T : Int) = 0 := chk_yes hv (by
          rw [show inB 0 0 63 = true from rfl, show inB 0 0 32768 = true from rfl, show inB (T : Int) 0 32768 = true from inB_iff.2 ⟨by omega, by omega⟩, decide_eq_true (show (0 : Int) ≤ (T : Int) by omega)]
          rfl)
        have k2 : chkF zs 0 (T : Int) 32768 = 0 := chk_yes hv (by
          rw [show inB 0 0 63 = true from rfl, show inB 32768 0 32768 = true from rfl, show inB (T : Int) 0 32768 = true from inB_iff.2 ⟨by omega, by omega⟩, decide_eq_true (show (T : Int) ≤ 32768 by omega)]
          rfl)
        have HC1 := Lib.hid (fun w1 (hb : Below w.heap.size w w1) => cut_tab (HT.out.below hb) 0 (T : Int))
        have HC2 := Lib.hid (fun w1 (hb : Below w.heap.size w w1) => cut_tab (HT.out.below hb) (T : Int) 32768)
        rw [k1] at HC1
        rw [k2] at HC2
        obtain ⟨C1, hC1⟩ : ∃ C1, C1 = cutT zs 0 (T : Int) := ⟨_, rfl⟩
        obtain ⟨C2, hC2⟩ : ∃ C2, C2 = cutT zs (T : Int) 32768 := ⟨_, rfl⟩
        have l1 : C1.length ≤ 64 := by rw [hC1]; exact cutT_len2
        have l2 : C2.length ≤ 64 := by rw [hC2]; exact cutT_len2
        rw [← hC1] at HC1
        rw [← hC2] at HC2
        have HE1 := Lib.hid (hC1.trans (if_pos k1))
        have HE2 := Lib.hid (hC2.trans (if_pos k2))
        clear k1 k2 hC1 hC2
        have HDG := Lib.hid (decL_good hv)
        have hzl : zs.length ≤ 64 := (valF_ok hv).1
        have HMV := Lib.hid (show valF (mrgT zs) = 0 by rw [show mrgT zs = srt (mrgL zs) from if_pos hv]; exact mrg_val hv)
        clear hv m2
        refine HE.out.mono ?_
        rintro e w2 ⟨v2, rfl, hbv, hb2⟩
        replace hB := (hb2.block _ (lt_of_block hB)).trans hB
        replace hb0 := hb0.trans (hb2.mono hb0.size)
        have HD := Lib.hid (Decode_tab hbv)
        rw [HDG.out] at HD
        clear hbv hb2 HE HDG
        go_wp2_with fail
        refine HD.out.mono ?_
        rintro e w3 ⟨A3, n3, c3, rfl, h3, hb3⟩
        replace hB := (hb3.block _ (lt_of_block hB)).trans hB
        replace hb0 := hb0.trans (hb3.mono hb0.size)
        have H3 := Lib.hid (show Tab w3 A3 n3 c3 zs from h3)
        clear h3 hb3 HD
        go_wp2_with fail
        refine (HMG.out _ hb0).mono ?_
        rintro e w4 ⟨v4, rfl, ho4, hb4⟩
        obtain ⟨A4, c4, rfl, h4'⟩ := tab_own ho4
        replace hB := (hb4.block _ (lt_of_block hB)).trans hB
        replace hb0 := hb0.trans (hb4.mono hb0.size)
        have H4 := Lib.hid h4'
        have H3' := Lib.hid (H3.out.below hb4)
        clear ho4 h4' hb4 HMG H3
        go_wp2_with fail
        refine (same_any H3'.out (HT.out.below hb0) (by omega)).mono ?_
        rintro e w5 ⟨rfl, hb5⟩
        have ht : decide (zs = zs) = true := decide_eq_true rfl
        rw [ht]
        replace hB := (hb5.block _ (lt_of_block hB)).trans hB
        replace hb0 := hb0.trans (hb5.mono hb0.size)
        have H4' := Lib.hid (H4.out.below hb5)
        clear ht hb5 H3' H4
        go_wp2_with fail
        refine (validate_tab H4'.out).mono ?_
        rw [HMV.out]
        rintro e w6 ⟨rfl, hb6⟩
        replace hB := (hb6.block _ (lt_of_block hB)).trans hB
        replace hb0 := hb0.trans (hb6.mono hb0.size)
        have H6 := Lib.hid (H4'.out.below hb6)
        clear hb6 H4'
        go_wp2_with fail
        refine (HC1.out _ hb0).mono ?_
        rintro e w7 ⟨v7, rfl, ho7, hb7⟩
        obtain ⟨A7, c7, rfl, h7⟩ := tab_own ho7
        replace hB := (hb7.block _ (lt_of_block hB)).trans hB
        replace hb0 := hb0.trans (hb7.mono hb0.size)
        have H7 := Lib.hid (H6.out.below hb7)
        clear hb7 H6 HC1 h7
        go_wp2_with fail
        refine (HC2.out _ hb0).mono ?_
        rintro e w8 ⟨v8, rfl, ho8, hb8⟩
        obtain ⟨A8, c8, rfl, h8⟩ := tab_own ho8
        replace hB := (hb8.block _ (lt_of_block hB)).trans hB
        replace hb0 := hb0.trans (hb8.mono hb0.size)
        have H8 := Lib.hid (H7.out.below hb8)
        replace ho7 := own_below ho7 hb8
        clear hb8 H7 HC2 h8
        go_wp2_with (at_builtin; refine append_tab (ps := []) rfl _ _ rfl rfl (own_zero w8 w8.heap.size (Nat.le_refl _)) rfl (ho7.alloc _) (by omega) (by omega) (by simp) ?_)
        intro v9 w9 ho9 hg9
        have hb9 : Below w8.heap.size w8 w9 := ((Below.refl w8.heap.size w8).alloc (Nat.le_refl _) (.cells #[] 33)).grown hg9 (by simp) (own_base (own_zero w8 w8.heap.size (Nat.le_refl _)))
        go_wp2_with (at_builtin; refine append_tab rfl _ _ rfl rfl ho9 rfl (own_below ho8 hb9) (by omega) (by omega) hb9.size ?_)
        intro v10 w10 ho10 hg10
        have hb10 : Below w8.heap.size w8 w10 := hb9.grown hg10 hb9.size (own_base ho9)
        replace ho10 : w10.ownsRow w8.heap.size 33 5 v10 (C1 ++ C2).length (placesV (C1 ++ C2)) := by
          rw [List.length_append]
          simpa using ho10
        obtain ⟨A10, c10, rfl, h10⟩ := tab_own ho10
        replace hB := (hb10.block _ (lt_of_block hB)).trans hB
        replace hb0 := hb0.trans (hb10.mono hb0.size)
        have H10 := Lib.hid h10
        have HL1 := Lib.hid ((tab_of ho7).below hb10)
        have HL2 := Lib.hid ((tab_of ho8).below hb10)
        have HMT := Lib.hid (H8.out.below hb10)
        have HMM := Lib.hid (merge_tab h10)
        have HW1 := Lib.hid (fun (h : (C1 ++ C2).length ≤ 64) => (show valF (C1 ++ C2) = 0 ∧ mrgT (C1 ++ C2) = mrgT zs by
          rw [HE1.out, HE2.out] at h ⊢
          exact ⟨two_val HVL.out (by omega) (by omega) h, two_mrg HVL.out (by omega) (by omega) h⟩))
        have hml := (mrgT_len2 (zs := zs)).2
        clear ho7 ho8 ho9 ho10 hg9 hg10 hb9 hb10 h10 H8
        generalize C1 ++ C2 = CC at H10 HMM HW1 ⊢
        by_cases h64 : CC.length ≤ 64
        · obtain ⟨hw1, hw2⟩ := HW1.out h64
          rw [hw1, hw2] at HMM
          clear hw1 hw2 HW1
          go_wp2_with fail
          refine HMM.out.mono ?_
          rintro e w11 ⟨v11, rfl, ho11, hb11⟩
          obtain ⟨A11, c11, rfl, h11⟩ := tab_own ho11
          replace hB := (hb11.block _ (lt_of_block hB)).trans hB
          replace hb0 := hb0.trans (hb11.mono hb0.size)
          replace HL1 := Lib.hid (HL1.out.below hb11)
          replace HL2 := Lib.hid (HL2.out.below hb11)
          replace HMT := Lib.hid (HMT.out.below hb11)
          have H11 := Lib.hid h11
          clear hb11 ho11 h11 HMM H10
          go_wp2_with fail
          refine (same_any H11.out HMT.out (by omega)).mono ?_
          rintro e w12 ⟨rfl, hb12⟩
          have ht : decide (mrgT zs = mrgT zs) = true := decide_eq_true rfl
          rw [ht]
          replace hB := (hb12.block _ (lt_of_block hB)).trans hB
          replace hb0 := hb0.trans (hb12.mono hb0.size)
          replace HL1 := Lib.hid (HL1.out.below hb12)
          replace HL2 := Lib.hid (HL2.out.below hb12)
          replace HMT := Lib.hid (HMT.out.below hb12)
          clear hb12 ht H11
          have HLW := Lib.hid (HT.out.below hb0)
          have HLM := Lib.hid (Mach.below HM.out hb0)
          obtain ⟨WS, hWS⟩ : ∃ WS, WS = w12 := ⟨_, rfl⟩
          subst hWS
          go_wp2
          go_loopw [20] (fun zj wr => ∃ j : Nat, j ≤ 64 ∧ zj = .int .i64 (j : Int) ∧ Below WS.heap.size WS wr) (fun zj _ => 64 - (intOf zj).toNat)
          case atStart => exact ⟨0, by omega, rfl, Below.refl _ _⟩
          case round =>
            obtain ⟨j, hj, rfl, hb⟩ := hrel
            by_cases hj64 : j < 64
            · have hB1 := (hb.block _ (lt_of_block hB)).trans hB
              have v1 := Lib.hid (value_is (HLW.out.below hb) (Mach.below HLM.out hb) (j : Int) (chk_var HVL.out (by omega) (by omega)) rfl)
              have v2 := Lib.hid (fun w1 (hb : Below WS.heap.size WS w1) => value_is (HMT.out.below hb) (Mach.below HLM.out hb) (j : Int) (chk_var HMV.out (by omega) (by omega)) ((show knd (fnd (mrgT zs) (j : Int) at_) = knd (fnd zs (j : Int) at_) by rw [show mrgT zs = srt (mrgL zs) from if_pos HVL.out]; exact part_mrg HVL.out)))
              have v3 := Lib.hid (fun (hx : at_ < (T : Int)) w1 (hb : Below WS.heap.size WS w1) => value_is (HL1.out.below hb) (Mach.below HLM.out hb) (j : Int) (chk_var (by rw [HE1.out]; exact cut_val HVL.out (Int.le_refl _) (by omega)) (by omega) (by omega)) ((show knd (fnd C1 (j : Int) at_) = knd (fnd zs (j : Int) at_) by rw [HE1.out]; exact part_low HVL.out HLM.out.lo hx (by omega))))
              have v4 := Lib.hid (fun (hx : (T : Int) ≤ at_) w1 (hb : Below WS.heap.size WS w1) => value_is (HL2.out.below hb) (Mach.below HLM.out hb) (j : Int) (chk_var (by rw [HE2.out]; exact cut_val HVL.out (by omega) (Int.le_refl _)) (by omega) (by omega)) ((show knd (fnd C2 (j : Int) at_) = knd (fnd zs (j : Int) at_) by rw [HE2.out]; exact part_high HVL.out (by omega) hx)))
              generalize valR R l nm (knd (fnd zs (j : Int) at_)) = r at v1 v2 v3 v4
              obtain ⟨rx, rb, re⟩ := r
              go_wp2_with (refine wpList_load_row rfl 41 (.tmp 4) rfl w.heap.size rfl 41 MC (0, 0) _ hB1 Try.underlying41 rfl hsz ?_)
              refine v1.out.mono ?_
              rintro e wa ⟨rfl, hba⟩
              replace hb := hb.trans (hba.mono hb.size)
              replace hB1 := (hba.block _ (lt_of_block hB1)).trans hB1
              clear hba v1
              go_wp2_with (refine wpList_load_row rfl 41 (.tmp 4) rfl w.heap.size rfl 41 MC (0, 0) _ hB1 Try.underlying41 rfl hsz ?_)
              refine (v2.out _ hb).mono ?_
              rintro e wb ⟨rfl, hbb⟩
              replace hb := hb.trans (hbb.mono hb.size)
              replace hB1 := (hbb.block _ (lt_of_block hB1)).trans hB1
              clear hbb v2
              obtain ⟨m1, -, -⟩ := HM.out.cells hB1
              have hlo := HM.out.lo
              have hhi := HM.out.hi
              by_cases hx : (T : Int) ≤ at_
              · have dx : decide ((T : Int) ≤ at_) = true := decide_eq_true hx
                have v5 := Lib.hid (v4.out hx)
                clear hx v3 v4
                go_wp2_with (refine wpList_load_row rfl 41 (.tmp 4) rfl w.heap.size rfl 41 MC (0, 0) _ hB1 Try.underlying41 rfl hsz ?_)
                refine (v5.out _ hb).mono ?_
                rintro e wc ⟨rfl, hbc⟩
                replace hb := hb.trans (hbc.mono hb.size)
                clear hbc v5 hB1 m1 dx hlo hhi
                go_wp2
                go_roundw
                case rel => exact ⟨j + 1, by omega, by go_num, hb⟩
                case measure => simp [intOf]; omega
              · have dx : decide ((T : Int) ≤ at_) = false := decide_eq_false hx
                have v5 := Lib.hid (v3.out (by omega))
                clear hx v3 v4
                go_wp2_with (refine wpList_load_row rfl 41 (.tmp 4) rfl w.heap.size rfl 41 MC (0, 0) _ hB1 Try.underlying41 rfl hsz ?_)
                refine (v5.out _ hb).mono ?_
                rintro e wc ⟨rfl, hbc⟩
                replace hb := hb.trans (hbc.mono hb.size)
                clear hbc v5 hB1 m1 dx hlo hhi
                go_wp2
                go_roundw
                case rel => exact ⟨j + 1, by omega, by go_num, hb⟩
                case measure => simp [intOf]; omega
            · obtain rfl : j = 64 := by omega
              go_wp2
              go_ret
              exact ⟨rfl, hb0.trans (hb.mono hb0.size)⟩
        · clear HW1 HMM H10
          have HLW := Lib.hid (HT.out.below hb0)
          have HLM := Lib.hid (Mach.below HM.out hb0)
          obtain ⟨WS, hWS⟩ : ∃ WS, WS = w10 := ⟨_, rfl⟩
          subst hWS
          go_wp2
          go_loopw [20] (fun zj wr => ∃ j : Nat, j ≤ 64 ∧ zj = .int .i64 (j : Int) ∧ Below WS.heap.size WS wr) (fun zj _ => 64 - (intOf zj).toNat)
          case atStart => exact ⟨0, by omega, rfl, Below.refl _ _⟩
          case round =>
            obtain ⟨j, hj, rfl, hb⟩ := hrel
            by_cases hj64 : j < 64
            · have hB1 := (hb.block _ (lt_of_block hB)).trans hB
              have v1 := Lib.hid (value_is (HLW.out.below hb) (Mach.below HLM.out hb) (j : Int) (chk_var HVL.out (by omega) (by omega)) rfl)
              have v2 := Lib.hid (fun w1 (hb : Below WS.heap.size WS w1) => value_is (HMT.out.below hb) (Mach.below HLM.out hb) (j : Int) (chk_var HMV.out (by omega) (by omega)) ((show knd (fnd (mrgT zs) (j : Int) at_) = knd (fnd zs (j : Int) at_) by rw [show mrgT zs = srt (mrgL zs) from if_pos HVL.out]; exact part_mrg HVL.out)))
              have v3 := Lib.hid (fun (hx : at_ < (T : Int)) w1 (hb : Below WS.heap.size WS w1) => value_is (HL1.out.below hb) (Mach.below HLM.out hb) (j : Int) (chk_var (by rw [HE1.out]; exact cut_val HVL.out (Int.le_refl _) (by omega)) (by omega) (by omega)) ((show knd (fnd C1 (j : Int) at_) = knd (fnd zs (j : Int) at_) by rw [HE1.out]; exact part_low HVL.out HLM.out.lo hx (by omega))))
              have v4 := Lib.hid (fun (hx : (T : Int) ≤ at_) w1 (hb : Below WS.heap.size WS w1) => value_is (HL2.out.below hb) (Mach.below HLM.out hb) (j : Int) (chk_var (by rw [HE2.out]; exact cut_val HVL.out (by omega) (Int.le_refl _)) (by omega) (by omega)) ((show knd (fnd C2 (j : Int) at_) = knd (fnd zs (j : Int) at_) by rw [HE2.out]; exact part_high HVL.out (by omega) hx)))
              generalize valR R l nm (knd (fnd zs (j : Int) at_)) = r at v1 v2 v3 v4
              obtain ⟨rx, rb, re⟩ := r
              go_wp2_with (refine wpList_load_row rfl 41 (.tmp 4) rfl w.heap.size rfl 41 MC (0, 0) _ hB1 Try.underlying41 rfl hsz ?_)
              refine v1.out.mono ?_
              rintro e wa ⟨rfl, hba⟩
              replace hb := hb.trans (hba.mono hb.size)
              replace hB1 := (hba.block _ (lt_of_block hB1)).trans hB1
              clear hba v1
              go_wp2_with (refine wpList_load_row rfl 41 (.tmp 4) rfl w.heap.size rfl 41 MC (0, 0) _ hB1 Try.underlying41 rfl hsz ?_)
              refine (v2.out _ hb).mono ?_
              rintro e wb ⟨rfl, hbb⟩
              replace hb := hb.trans (hbb.mono hb.size)
              replace hB1 := (hbb.block _ (lt_of_block hB1)).trans hB1
              clear hbb v2
              obtain ⟨m1, -, -⟩ := HM.out.cells hB1
              have hlo := HM.out.lo
              have hhi := HM.out.hi
              by_cases hx : (T : Int) ≤ at_
              · have dx : decide ((T : Int) ≤ at_) = true := decide_eq_true hx
                have v5 := Lib.hid (v4.out hx)
                clear hx v3 v4
                go_wp2_with (refine wpList_load_row rfl 41 (.tmp 4) rfl w.heap.size rfl 41 MC (0, 0) _ hB1 Try.underlying41 rfl hsz ?_)
                refine (v5.out _ hb).mono ?_
                rintro e wc ⟨rfl, hbc⟩
                replace hb := hb.trans (hbc.mono hb.size)
                clear hbc v5 hB1 m1 dx hlo hhi
                go_wp2
                go_roundw
                case rel => exact ⟨j + 1, by omega, by go_num, hb⟩
                case measure => simp [intOf]; omega
              · have dx : decide ((T : Int) ≤ at_) = false := decide_eq_false hx
                have v5 := Lib.hid (v3.out (by omega))
                clear hx v3 v4
                go_wp2_with (refine wpList_load_row rfl 41 (.tmp 4) rfl w.heap.size rfl 41 MC (0, 0) _ hB1 Try.underlying41 rfl hsz ?_)
                refine (v5.out _ hb).mono ?_
                rintro e wc ⟨rfl, hbc⟩
                replace hb := hb.trans (hbc.mono hb.size)
                clear hbc v5 hB1 m1 dx hlo hhi
                go_wp2
                go_roundw
                case rel => exact ⟨j + 1, by omega, by go_num, hb⟩
                case measure => simp [intOf]; omega
            · obtain rfl : j = 64 := by omega
              go_wp2
              go_ret
              exact ⟨rfl, hb0.trans (hb.mono hb0.size)⟩
      · have HV := Lib.hid (fun w1 (hb : Below w.heap.size w w1) => validate_tab (HT.out.below hb))
        rw [show encL zs = [] from if_neg hv] at HE
        generalize valF zs = X at HE HV hv
        have dX : (X != 0) = true := by simp [hv]
        clear hv hB
        go_wp2_with (first | (go_at_call 14; ((with_reducible refine (long_no _ _ _ _ HN.out).mono ?_); rintro e w' ⟨rfl, rfl⟩)))
        refine HE.out.mono ?_
        rintro e w2 ⟨v2, rfl, hbv, hb2⟩
        obtain ⟨A2, c2, rfl⟩ : ∃ A2 c2, v2 = .slice A2 0 c2 := by
          rcases hbv with ⟨-, h⟩ | ⟨h, _⟩
          · exact h
          · simp at h
        replace hb0 := hb0.trans (hb2.mono hb0.size)
        clear hbv hb2 HE
        go_wp2_with fail
        refine (HV.out _ hb0).mono ?_
        rintro e w3 ⟨rfl, hb3⟩
        replace hb0 := hb0.trans (hb3.mono hb0.size)
        clear hb3
        go_wp2
        go_ret
        exact ⟨rfl, hb0⟩
end
end Go.Proofs.Ytdpfglpefncigaa
