/-
  The walk of IaLists.
-/
import Derived.Test.YtpekegeohcnhcaaIaLa
import Derived.Test.YtpekegeohcnhcaaIaYc
import Derived.Test.YtpekegeohcnhcaaIaNh
namespace Go.Proofs.Ytpekegeohcnhcaa
open Go.RowKit Go.Sort
theorem Bytes_any {w : World} {A : Option Addr} {n c : Nat} {zs : List Ins} (h : TabI w A n c zs) (hlen : (bytesL zs).length ≤ 9000) :
    Calls Try.prog 15 #[.slice A n c] w fun e w' => ∃ V, e = .returned (.tuple #[V, .int .i64 (bysE zs)]) ∧ w'.ownsRow w.heap.size 5 1 V (bysL zs).length (byV (bysL zs)) ∧ Below w.heap.size w w' := by
  unfold bysE bysL
  cases hv : allV zs
  · exact (Bytes_bad h hv).mono fun _ _ ⟨he, hb⟩ => ⟨_, he, World.ownsRow_nil _ _ _ _, hb⟩
  · exact Bytes_good h hv hlen
theorem bysE_next {zs : List Ins} {k : Nat} (hk : k < zs.length) : bysE (zs.take (k + 1)) = if valB zs[k]! then bysE (zs.take k) else 1 := by
  unfold bysE
  have e : allV (zs.take (k + 1)) = (allV (zs.take k) && valB zs[k]!) := by
    rw [take_next hk]
    unfold allV
    simp
  rw [e]
  cases valB zs[k]! <;> cases allV (zs.take k) <;> rfl
theorem dqB {B q : Nat} {w w' : World} (h : Below B w w') : Below B w (w'.drewN q) := ⟨h.os, h.tape, h.output, h.size, h.block⟩
theorem bysE_01 (zs : List Ins) : bysE zs = 0 ∨ bysE zs = 1 := by
  unfold bysE
  split
  · exact .inl rfl
  · exact .inr rfl
set_option maxRecDepth 100000 in
set_option maxHeartbeats 8000000 in
theorem lists_long {A A2 : Option Addr} {n c n2 c2 : Nat} {w : World} (hn : 200 < n ∨ 2000 < n2) : Calls Try.prog 5 #[.slice A n c, .slice A2 n2 c2] w fun e w' => e = .returned (.bool true) ∧ Below w.heap.size w w' := by
  by_cases h1 : 200 < n
  · have d1 : decide (200 < (n : Int)) = true := decide_eq_true (by omega)
    clear hn
    go_enter Try.func5, Try.ntmps5
    go_wp2_with fail
    refine (known_any _).mono ?_
    rintro e w5 ⟨rfl, hb⟩
    go_wp2
    go_ret
    exact ⟨rfl, hb⟩
  · have h2 : 2000 < n2 := by omega
    have d1 : decide (200 < (n : Int)) = false := decide_eq_false (by omega)
    have d2 : decide (2000 < (n2 : Int)) = true := decide_eq_true (by omega)
    clear hn
    go_enter Try.func5, Try.ntmps5
    go_wp2_with fail
    refine (known_any _).mono ?_
    rintro e w5 ⟨rfl, hb⟩
    go_wp2
    go_ret
    exact ⟨rfl, hb⟩
set_option maxRecDepth 100000 in
set_option maxHeartbeats 16000000 in
theorem lists_walk {A A2 : Option Addr} {n c n2 c2 : Nat} {zs : List Ins} {l : List Int} {w : World} (hT : TabI w A n c zs) (hi : ∀ j, j < n → immIn zs[j]!) (hBn : Byn w A2 n2 c2 l) :
    Calls Try.prog 5 #[.slice A n c, .slice A2 n2 c2] w fun e w' => e = .returned (.bool true) ∧ Below w.heap.size w w' := by
  by_cases hn : n ≤ 200 ∧ n2 ≤ 2000
  case neg => exact lists_long (by omega)
  obtain ⟨hn1, hn2⟩ := hn
  have HT := Lib.hid hT
  have HTL := Lib.hid hT.1
  have hcap := hT.2.1
  have hmax := hT.2.2.1
  have HI := Lib.hid hi
  have hB := hBn.1
  have HB := Lib.hid hB
  have hcap2 := hB.2.1
  have hmax2 := hB.2.2.1
  have HBL := Lib.hid hB.1
  have d1 : decide (200 < (n : Int)) = false := decide_eq_false (by omega)
  have d2 : decide (2000 < (n2 : Int)) = false := decide_eq_false (by omega)
  have hl1 : (bytesL zs).length ≤ 4200 := by have := (bytesL_len zs).2; have := hT.1; omega
  have H1 := Lib.hid (Bytes_any hT (by omega))
  have HBY := Lib.hid (show isBy (bysL zs) by
    unfold bysL
    cases hv : allV zs
    · intro x hx; simp at hx
    · exact bytesL_by zs hv)
  clear hT hi hBn hB
  go_enter Try.func5, Try.ntmps5
  go_wp2_with fail
  refine H1.out.mono ?_
  rintro e w1 ⟨V1, rfl, ho, hb⟩
  obtain ⟨A1, c1, rfl, hB1⟩ := byt_own ho HBY.out
  clear ho H1
  have HB1 := Lib.hid hB1
  clear hB1
  obtain ⟨E, hE⟩ : ∃ E, bysE zs = E := ⟨_, rfl⟩
  have HE := Lib.hid hE
  rw [hE]
  clear hE
  go_wp2_with fail
  go_loopw [7, 8] (fun wn zi wr => ∃ k : Nat, k ≤ n ∧ zi = .int .i64 k ∧ wn = .int .i64 (bysE (zs.take k)) ∧ Below w1.heap.size w1 wr) (fun _ zi _ => n - (intOf zi).toNat)
  case atStart => exact ⟨0, by omega, rfl, rfl, Below.refl _ _⟩
  case round =>
    obtain ⟨k, hk, rfl, rfl, hbr⟩ := hrel
    by_cases hlt : k < n
    · obtain ⟨b0, off, rfl, hbs, ht⟩ := (HT.out.below (hb.trans (hbr.mono hb.size))).at_ hlt
      have him := HI.out k hlt
      have hnx := bysE_next (show k < zs.length by rw [← HTL.out]; exact hlt)
      have HV := Lib.hid (fun w9 => rValidate_any zs[k]! him.1 him.2 w9)
      clear him
      have HNX := Lib.hid hnx
      clear hnx
      generalize zs[k]! = x at ht HV HNX
      unfold errI at HV
      cases hv : valB x
      all_goals
        rw [hv] at HV HNX
        clear hv
        obtain ⟨op, d, s, sz, imm⟩ := x
        obtain ⟨q0, q1, q2, q3, q4⟩ := ht
        simp only at q0 q1 q2 q3 q4
        go_wp2_with fail
        refine (HV.out _).mono ?_
        rintro e w3 ⟨rfl, hw⟩
        replace hbr := hbr.trans (hw.mono hbr.size)
        clear hw q0 q1 q2 q3 q4 hbs
        go_wp2_with fail
        go_roundw
        case rel => exact ⟨k + 1, by omega, by go_num, by rw [HNX.out]; rfl, hbr⟩
        case measure => simp [intOf]; omega
    · obtain rfl : k = n := by omega
      rw [show bysE (zs.take k) = E by rw [HTL.out, List.take_length]; exact HE.out]
      clear hlt hk
      replace hb := hb.trans (hbr.mono hb.size)
      have HB3 := Lib.hid (HB1.out.below hbr)
      clear hbr HB1
      rcases bysE_01 zs with h01 | h01
      · obtain rfl : E = 0 := HE.out.symm.trans h01
        have hva : allV zs = true := by
          unfold bysE at h01
          cases hv : allV zs
          · rw [hv] at h01; cases h01
          · rfl
        have hbl : bysL zs = bytesL zs := by unfold bysL; rw [hva]; rfl
        rw [hbl] at HB3 ⊢
        have HLI := Lib.hid (List_any HB3.out (by omega))
        rw [listL_enc zs _ hva (Nat.le_refl _)] at HLI
        clear hva hbl h01 HBY
        generalize hLb : bytesL zs = Lb at HB3 HLI hl1 ⊢
        clear hLb
        generalize Lb.length = q at HLI HB3 hl1 ⊢
        go_wp2_with fail
        refine HLI.out.mono ?_
        rintro e w4 ⟨V4, rfl, ho4, hw⟩
        obtain ⟨A4, c4, rfl, hT4⟩ := tabI_own ho4
        rw [← HTL.out] at hT4 ⊢
        replace hb := hb.trans (hw.mono hb.size)
        clear HLI hw ho4 HB3
        have HT4 := Lib.hid hT4
        have hc4 := hT4.2.1
        have hm4 := hT4.2.2.1
        clear hT4
        go_wp2_with fail
        go_loopw [11] (fun zi w5 => ∃ k3 : Nat, k3 ≤ k ∧ zi = .int .i64 k3 ∧ Below w4.heap.size w4 w5) (fun zi _ => k - (intOf zi).toNat)
        case atStart => exact ⟨0, by omega, rfl, Below.refl _ _⟩
        case round =>
          obtain ⟨k3, hk3, rfl, hbr⟩ := hrel
          by_cases hlt : k3 < k
          · obtain ⟨b0, off, rfl, hbs, ht⟩ := (HT.out.below (hb.trans (hbr.mono hb.size))).at_ hlt
            obtain ⟨b9, off9, rfl, hbs9, ht9⟩ := (HT4.out.below hbr).at_ hlt
            generalize zs[k3]! = x at ht ht9
            obtain ⟨op, d, s, sz, imm⟩ := x
            obtain ⟨q0, q1, q2, q3, q4⟩ := ht
            obtain ⟨p0, p1, p2, p3, p4⟩ := ht9
            simp only at q0 q1 q2 q3 q4 p0 p1 p2 p3 p4
            have hkn : (k3 : Int) < k := by omega
            have hk0 : (0 : Int) ≤ k3 := by omega
            go_wp2_with fail
            go_quiet (fail)
            go_wp2_with fail
            go_roundw
            case rel => exact ⟨k3 + 1, by omega, by go_num, dqB hbr⟩
            case measure => simp [intOf]; omega
          · obtain rfl : k3 = k := by omega
            clear hlt hk3
            replace hb := hb.trans (hbr.mono hb.size)
            clear hbr
            have HL2 := Lib.hid (List_any (HB.out.below hb) (by omega))
            go_wp2_with fail
            refine HL2.out.mono ?_
            rintro e w6 ⟨V6, rfl, ho6, hw⟩
            obtain ⟨A6, c6, rfl, hT6⟩ := tabI_own ho6
            replace hb := hb.trans (hw.mono hb.size)
            clear HL2 hw ho6
            obtain ⟨tt, htt⟩ := listL_pre n2 l
            have hkn2 : (bytesL (listL n2 l)).length ≤ n2 := by
              have h1 := congrArg List.length htt
              rw [List.length_append] at h1
              have h2 := HBL.out
              omega
            have HTK := Lib.hid (show l.take (bytesL (listL n2 l)).length = bytesL (listL n2 l) from (congrArg (fun z => z.take (bytesL (listL n2 l)).length) htt).symm.trans (List.take_left ..))
            have HEND := Lib.hid (dec_parts.2 (listL_end n2 l (by rw [HBL.out]; exact Nat.le_refl _)))
            have HGB := Lib.hid (Bytes_good hT6 (listL_valid n2 l) (by omega))
            have HIB := Lib.hid (bytesL_by _ (listL_valid n2 l))
            clear hT6 htt
            generalize listL n2 l = ys at HTK HEND HGB HIB hkn2 ⊢
            generalize bytesL ys = Ly at HTK HEND HGB HIB hkn2 ⊢
            obtain ⟨q2, hq2⟩ : ∃ q, Ly.length = q := ⟨_, rfl⟩
            rw [hq2] at HTK HEND HGB hkn2 ⊢
            have HQ2 := Lib.hid hq2
            clear hq2
            go_wp2_with fail
            refine HGB.out.mono ?_
            rintro e w7 ⟨V7, rfl, ho7, hw⟩
            obtain ⟨A7, c7, rfl, hB7⟩ := byt_own (l := Ly) (by rw [HQ2.out]; exact ho7) HIB.out
            rw [HQ2.out] at hB7 ⊢
            replace hb := hb.trans (hw.mono hb.size)
            clear HGB hw ho7
            have hb2 := byt_take (HB.out.below hb) hkn2
            rw [HTK.out] at hb2
            have e1 : ∀ (d : Nat) (os : Array Obj), (convert 24 9 (.slice A7 q2 c7)).run Try.prog (grow (redrawn w7 d) os) = .ok (.string (strI Ly)) (grow (redrawn w7 d) os) := fun d os => str_conv (hB7.below (below_regrown w7 d os))
            have e2 : ∀ (d : Nat) (os : Array Obj), (convert 24 9 (.slice A2 q2 c2)).run Try.prog (grow (redrawn w7 d) os) = .ok (.string (strI Ly)) (grow (redrawn w7 d) os) := fun d os => str_conv (hb2.below (below_regrown w7 d os))
            generalize strI Ly = S at e1 e2
            have hkc : q2 ≤ c2 := by omega
            have hkc2 : (q2 : Int) ≤ c2 := by omega
            have hk0 : (0 : Int) ≤ q2 := by omega
            have g1 : decide ((q2 : Int) < 0) = false := decide_eq_false (by omega)
            have g2 : decide (n2 < q2) = false := decide_eq_false (by omega)
            have g3 : ¬ n2 < q2 := by omega
            clear hB7 hb2
            go_wp2_with fail
            refine wp_region_quiet_below (by kernel_rfl) (by kernel_rfl) ?_
            iterate 21 (go_big_quiet_step (fail))
            refine wpQuiet_nil ?_
            intro _ hw'
            obtain ⟨⟨dq, osq⟩, hw''⟩ := hw'
            subst hw''
            replace hb := hb.trans ((below_regrown w7 dq osq).mono hb.size)
            clear e1 e2 g1 g2 g3
            generalize grow (redrawn w7 dq) osq = w8 at hb ⊢
            have hs := fun W => slice_from W A2 n2 c2 q2 hkn2
            have HRD := Lib.hid (rDecode_any (byt_drop (HB.out.below hb) hkn2))
            rw [HEND.out] at HRD
            generalize decI (l.drop q2) = x at HRD
            generalize (decN (l.drop q2) : Int) = k9 at HRD
            obtain ⟨op, d, s, sz, imm⟩ := x
            go_wp2_with fail
            refine HRD.out.mono ?_
            rintro e w9 ⟨rfl, hw⟩
            replace hb := hb.trans (hw.mono hb.size)
            have hb9 := hb.alloc hb.size (.cells #[.int .i64 op, .int .i64 d, .int .i64 s, .int .i64 sz, .int .i64 imm] 23)
            clear hw HRD hs
            go_wp2_with fail
            refine (known_any _).mono ?_
            rintro e w10 ⟨rfl, hw⟩
            have HF := Lib.hid (hb9.trans (hw.mono hb9.size))
            clear hb hb9 hw
            go_wp2
            go_ret
            exact ⟨rfl, HF.out⟩
      · obtain rfl : E = 1 := HE.out.symm.trans h01
        clear h01 HBY HB3
        have HL2 := Lib.hid (List_any (HB.out.below hb) (by omega))
        go_wp2_with fail
        refine HL2.out.mono ?_
        rintro e w6 ⟨V6, rfl, ho6, hw⟩
        obtain ⟨A6, c6, rfl, hT6⟩ := tabI_own ho6
        replace hb := hb.trans (hw.mono hb.size)
        clear HL2 hw ho6
        obtain ⟨tt, htt⟩ := listL_pre n2 l
        have hkn2 : (bytesL (listL n2 l)).length ≤ n2 := by
          have h1 := congrArg List.length htt
          rw [List.length_append] at h1
          have h2 := HBL.out
          omega
        have HTK := Lib.hid (show l.take (bytesL (listL n2 l)).length = bytesL (listL n2 l) from (congrArg (fun z => z.take (bytesL (listL n2 l)).length) htt).symm.trans (List.take_left ..))
        have HEND := Lib.hid (dec_parts.2 (listL_end n2 l (by rw [HBL.out]; exact Nat.le_refl _)))
        have HGB := Lib.hid (Bytes_good hT6 (listL_valid n2 l) (by omega))
        have HIB := Lib.hid (bytesL_by _ (listL_valid n2 l))
        clear hT6 htt
        generalize listL n2 l = ys at HTK HEND HGB HIB hkn2 ⊢
        generalize bytesL ys = Ly at HTK HEND HGB HIB hkn2 ⊢
        obtain ⟨q2, hq2⟩ : ∃ q, Ly.length = q := ⟨_, rfl⟩
        rw [hq2] at HTK HEND HGB hkn2 ⊢
        have HQ2 := Lib.hid hq2
        clear hq2
        go_wp2_with fail
        refine HGB.out.mono ?_
        rintro e w7 ⟨V7, rfl, ho7, hw⟩
        obtain ⟨A7, c7, rfl, hB7⟩ := byt_own (l := Ly) (by rw [HQ2.out]; exact ho7) HIB.out
        rw [HQ2.out] at hB7 ⊢
        replace hb := hb.trans (hw.mono hb.size)
        clear HGB hw ho7
        have hb2 := byt_take (HB.out.below hb) hkn2
        rw [HTK.out] at hb2
        have e1 : ∀ (d : Nat) (os : Array Obj), (convert 24 9 (.slice A7 q2 c7)).run Try.prog (grow (redrawn w7 d) os) = .ok (.string (strI Ly)) (grow (redrawn w7 d) os) := fun d os => str_conv (hB7.below (below_regrown w7 d os))
        have e2 : ∀ (d : Nat) (os : Array Obj), (convert 24 9 (.slice A2 q2 c2)).run Try.prog (grow (redrawn w7 d) os) = .ok (.string (strI Ly)) (grow (redrawn w7 d) os) := fun d os => str_conv (hb2.below (below_regrown w7 d os))
        generalize strI Ly = S at e1 e2
        have hkc : q2 ≤ c2 := by omega
        have hkc2 : (q2 : Int) ≤ c2 := by omega
        have hk0 : (0 : Int) ≤ q2 := by omega
        have g1 : decide ((q2 : Int) < 0) = false := decide_eq_false (by omega)
        have g2 : decide (n2 < q2) = false := decide_eq_false (by omega)
        have g3 : ¬ n2 < q2 := by omega
        clear hB7 hb2
        go_wp2_with fail
        refine wp_region_quiet_below (by kernel_rfl) (by kernel_rfl) ?_
        iterate 21 (go_big_quiet_step (fail))
        refine wpQuiet_nil ?_
        intro _ hw'
        obtain ⟨⟨dq, osq⟩, hw''⟩ := hw'
        subst hw''
        replace hb := hb.trans ((below_regrown w7 dq osq).mono hb.size)
        clear e1 e2 g1 g2 g3
        generalize grow (redrawn w7 dq) osq = w8 at hb ⊢
        have hs := fun W => slice_from W A2 n2 c2 q2 hkn2
        have HRD := Lib.hid (rDecode_any (byt_drop (HB.out.below hb) hkn2))
        rw [HEND.out] at HRD
        generalize decI (l.drop q2) = x at HRD
        generalize (decN (l.drop q2) : Int) = k9 at HRD
        obtain ⟨op, d, s, sz, imm⟩ := x
        go_wp2_with fail
        refine HRD.out.mono ?_
        rintro e w9 ⟨rfl, hw⟩
        replace hb := hb.trans (hw.mono hb.size)
        have hb9 := hb.alloc hb.size (.cells #[.int .i64 op, .int .i64 d, .int .i64 s, .int .i64 sz, .int .i64 imm] 23)
        clear hw HRD hs
        go_wp2_with fail
        refine (known_any _).mono ?_
        rintro e w10 ⟨rfl, hw⟩
        have HF := Lib.hid (hb9.trans (hw.mono hb9.size))
        clear hb hb9 hw
        go_wp2
        go_ret
        exact ⟨rfl, HF.out⟩
end Go.Proofs.Ytpekegeohcnhcaa
