/-
  Parent of the reference.
-/
import Derived.Test.YtchkckflpmepkaaFwPb
namespace Go.Proofs.Ytchkckflpmepkaa
open Go.RowKit

/-- Whether a node is no obstacle for a to be the parent of b. -/
def okB (G : List (List Nat)) (b a c : Nat) : Bool := !(decide (c ≠ b) && (domB G c b && !domB G c a))
theorem up_ref {G : List (List Nat)} (hG : okG G) {b a n : Nat} (hn : n = G.length) (ha : a ∈ setL (wy G (-1) 0) n) (hab : a ≠ b) (hd : domB G a b = true) : upB G b a = (setL (wy G (-1) 0) n).all (okB G b a) := by
  have hR := (mem_setL.1 ha).2
  rw [Bool.eq_iff_iff, up_iff hG, List.all_eq_true]
  constructor
  · rintro ⟨_, h⟩ c hc
    unfold okB
    by_cases hcb : c = b
    · simp [hcb]
    · cases hd2 : domB G c b
      · simp
      · have := h c (str_iff.2 ⟨(mem_setL.1 hc).2, hcb, hd2⟩)
        simp [this]
  · intro h
    refine ⟨str_iff.2 ⟨hR, hab, hd⟩, fun c hc => ?_⟩
    obtain ⟨c1, c2, c3⟩ := str_iff.1 hc
    have := h c (mem_setL.2 ⟨by rw [hn]; exact str_lt hG hc, c1⟩)
    unfold okB at this
    rw [c3] at this
    simpa [c2] using this
section
variable {w : World} {A : Option Addr} {n c : Nat} {g : List (List Int)}
set_option maxRecDepth 100000 in
set_option maxHeartbeats 8000000 in
theorem refParent_any (h : RG w A n c g) (b : Int) : Calls Try.prog 28 #[.slice A n c, .int .i64 b] w fun e w' => e = .returned (.tuple #[.int .i64 (numO (resP g b)), .bool (resP g b).isSome, .int .i64 (errT g [b])]) ∧ Below w.heap.size w w' := by
  have HV := Lib.hid (fun w1 (hb : Below w.heap.size w w1) => there_any ((h.below hb).below ((Below.refl w1.heap.size w1).alloc (Nat.le_refl _) _)) (ints_one w1 b))
  by_cases he : errT g [b] = 0
  · obtain ⟨hv, hB, hR⟩ := errT_one he
    have hG := okG_val hv
    have hvb := of_decide_eq_true hB
    obtain ⟨V, rfl⟩ : ∃ V : Nat, b = (V : Int) := ⟨b.toNat, by omega⟩
    have hVn : V < n := by have := h.1; omega
    have n10 : n ≤ 10 := by rw [h.1]; have := hG.2.1; rw [natG_len] at this; exact this
    have n1 : 0 < n := by omega
    have hM := MG_of h hv
    have HRE := Lib.hid (fun w1 (hb : Below w.heap.size w w1) => reach_any hG (hM.below hb) 0 n1 (-1))
    have HDO := Lib.hid (fun w1 (hb : Below w.heap.size w w1) x y (hy : y < n) => refDominates_any hG (hM.below hb) x y hy)
    have hr : resP g V = upF (natG g) V := if_pos he
    have hnl : n = (natG g).length := by rw [natG_len]; exact h.1
    have HSOME := Lib.hid (fun a (ha : upB (natG g) V a = true) => upF_some hG ha)
    have HNONE := Lib.hid (fun (hh : ∀ i, i < (setL (wy (natG g) (-1) 0) n).length → upB (natG g) V (setL (wy (natG g) (-1) 0) n)[i]! = false) => upF_none (G := natG g) (b := V) fun a ha => by
      cases hu : upB (natG g) V a
      · rfl
      · have hm : a ∈ setL (wy (natG g) (-1) 0) n := mem_setL.2 ⟨by rw [hnl]; exact ha, (str_iff.1 ((up_iff hG).1 hu).1).1⟩
        obtain ⟨i, hi, rfl⟩ := mem_at.1 hm
        rw [hh i hi] at hu
        cases hu)
    have HNO := Lib.hid (fun a (ha : a = V ∨ domB (natG g) a V = false) => show upB (natG g) V a = false from Bool.eq_false_iff.2 fun hu => by
      obtain ⟨_, h2, h3⟩ := str_iff.1 ((up_iff hG).1 hu).1
      rcases ha with ha | ha
      · exact h2 ha
      · rw [h3] at ha
        cases ha)
    have HUA := Lib.hid (fun i (hi : i < (setL (wy (natG g) (-1) 0) n).length) hab hd => up_ref hG hnl (at_get hi) (b := V) hab hd)
    have HOK := Lib.hid (fun a x => show okB (natG g) V a x = !(decide (x ≠ V) && (domB (natG g) x V && !domB (natG g) x a)) from rfl)
    have HLLT := Lib.hid (fun i (hi : i < (setL (wy (natG g) (-1) 0) n).length) => (mem_setL.1 (at_get hi)).1)
    have hL10 := setL_le (wy (natG g) (-1) 0) n
    have HTL := Lib.hid (fun gb w1 => set_any (wy (natG g) (-1) 0) gb n n10 w1)
    rw [he] at HV ⊢
    rw [hr]
    generalize upF (natG g) V = U at HSOME HNONE ⊢
    generalize upB (natG g) V = P at HSOME HNONE HUA HNO
    generalize okB (natG g) V = K at HUA HOK
    generalize domB (natG g) = D at HDO HUA HNO HOK
    generalize wy (natG g) (-1) 0 = R at HRE HTL HNONE HUA HLLT hL10
    generalize setL R n = L at HTL HNONE HUA HLLT hL10
    clear h hv hG hB hvb hM hr he hR hnl
    go_enter Try.func28, Try.ntmps28
    go_wp2_with fail
    refine (HV.out _ (Below.refl _ _)).mono ?_
    rintro e w1 ⟨rfl, hb1⟩
    have hb2 := ((Below.refl w.heap.size w).alloc (Nat.le_refl _) (.cells #[.int .i64 (V : Int)] 3)).trans (hb1.mono (by simp))
    clear hb1
    go_wp2_with fail
    refine (HRE.out w1 hb2).mono ?_
    rintro e w2 ⟨gb, rfl, hBo, -, hb3⟩
    replace hb2 := hb2.trans (hb3.mono hb2.size)
    go_wp2_with fail
    refine (HTL.out gb w2 hBo).mono ?_
    rintro e w3 ⟨v3, rfl, hown, hb4⟩
    have HW3 := Lib.hid (hb2.trans (hb4.mono hb2.size))
    obtain ⟨AL, cL, rfl, hN⟩ := own_nats hown
    have hcL := hN.2.1
    have hmL := hN.2.2.1
    have HM := Lib.hid hN
    clear hown hN hb2 hb3 hb4 hBo
    go_wp2
    go_loopw [9] (fun zi wr => ∃ i : Nat, i ≤ L.length ∧ zi = .int .i64 (i : Int) ∧ Below w3.heap.size w3 wr ∧ Hid (∀ j, j < i → P L[j]! = false)) (fun zi _ => L.length - (intOf zi).toNat)
    case atStart => exact ⟨0, by omega, rfl, Below.refl _ _, Lib.hid fun j hj => absurd hj (by omega)⟩
    case round =>
      obtain ⟨i, hi, rfl, hb6, HJ⟩ := hrel
      have hbw := HW3.out.trans (hb6.mono HW3.out.size)
      by_cases hlt : i < L.length
      · obtain ⟨bl, off, rfl, hbs, hc⟩ := HM.out.get hb6 hlt
        have han := HLLT.out i hlt
        have HUA2 := Lib.hid (HUA.out i hlt)
        have HSA := Lib.hid (HSOME.out L[i]!)
        have HNOA := Lib.hid (HNO.out L[i]!)
        have HJ2 := Lib.hid (show P L[i]! = false → ∀ j, j < i + 1 → P L[j]! = false from fun h j hj => by
          by_cases hji : j = i
          · rw [hji]; exact h
          · exact HJ.out j (by omega))
        generalize L[i]! = a at hc han HUA2 HSA HJ2 HNOA
        by_cases haV : a = V
        · have HJ3 := Lib.hid (HJ2.out (HNOA.out (.inl haV)))
          have e1 : ((a : Int) == (V : Int)) = true := by simp [haV]
          clear HUA2 HSA HJ2 HNOA haV
          go_wp2
          go_roundw
          case rel => exact ⟨i + 1, by omega, by go_num, hb6, HJ3⟩
          case measure => simp [intOf]; omega
        · have e1 : ((a : Int) == (V : Int)) = false := by simp; omega
          have HC := Lib.hid (HDO.out wr hbw a V hVn)
          cases hD : D a V
          · rw [hD] at HC
            have HJ3 := Lib.hid (HJ2.out (HNOA.out (.inr hD)))
            clear HUA2 HSA HJ2 HNOA haV hD
            go_wp2_with fail
            refine HC.out.mono ?_
            rintro e w4 ⟨rfl, hb4⟩
            have hb7 := hb6.trans (hb4.mono hb6.size)
            clear hb6 hb4 hc hbs hbw
            go_wp2
            go_roundw
            case rel => exact ⟨i + 1, by omega, by go_num, hb7, HJ3⟩
            case measure => simp [intOf]; omega
          · rw [hD] at HC
            have HPA := Lib.hid (HUA2.out haV hD)
            clear HUA2 HNOA haV hD
            go_wp2_with fail
            refine HC.out.mono ?_
            rintro e w4 ⟨rfl, hb4⟩
            have HB7 := Lib.hid (hb6.trans (hb4.mono hb6.size))
            have HW7 := Lib.hid (hbw.trans (hb4.mono hbw.size))
            clear hb6 hb4 hc hbs hbw HC
            go_wp2
            go_loopw [11, 12] (fun zn zk wr => ∃ k : Nat, k ≤ L.length ∧ zk = .int .i64 (k : Int) ∧ zn = .bool ((L.take k).all (K a)) ∧ Below w4.heap.size w4 wr) (fun _ zk _ => L.length - (intOf zk).toNat)
            case atStart => exact ⟨0, by omega, rfl, rfl, Below.refl _ _⟩
            case round =>
              obtain ⟨k, hk, rfl, rfl, hb8⟩ := hrel
              have hbw := HW7.out.trans (hb8.mono HW7.out.size)
              have hb9 := HB7.out.trans (hb8.mono HB7.out.size)
              by_cases hkl : k < L.length
              · obtain ⟨bk, offk, q1, hbk, hck⟩ := HM.out.get hb9 hkl
                injection q1 with q1
                injection q1 with q1 q2 _
                subst q1 q2
                have HAT := Lib.hid (show ∀ q1, ((L.take k).all (K a)) = q1 → ((L.take (k + 1)).all (K a)) = (q1 && K a L[k]!) from fun q1 h => by rw [← h]; exact all_take hkl)
                have hxn := HLLT.out k hkl
                generalize L[k]! = x at hck HAT hxn
                obtain ⟨q1, hq1⟩ : ∃ q1, ((L.take k).all (K a)) = q1 := ⟨_, rfl⟩
                have HE := Lib.hid (HAT.out q1 hq1)
                have HK := Lib.hid (HOK.out a x)
                rw [hq1]
                clear hq1 HAT
                by_cases hxV : x = V
                · have HE2 := Lib.hid (show (L.take (k + 1)).all (K a) = q1 by rw [HE.out, HK.out]; simp [hxV])
                  have e2 : ((x : Int) != (V : Int)) = false := by simp [hxV]
                  clear HE HK hxV
                  go_wp2
                  go_roundw
                  case rel => exact ⟨k + 1, by omega, by go_num, by rw [HE2.out], hb8⟩
                  case measure => simp [intOf]; omega
                · have e2 : ((x : Int) != (V : Int)) = true := by simp; omega
                  have HC := Lib.hid (HDO.out wr hbw x V hVn)
                  cases hD1 : D x V
                  · rw [hD1] at HC
                    have HE2 := Lib.hid (show (L.take (k + 1)).all (K a) = q1 by rw [HE.out, HK.out, hD1]; simp)
                    clear HE HK hxV hD1
                    go_wp2_with fail
                    refine HC.out.mono ?_
                    rintro e w9 ⟨rfl, hb10⟩
                    have hb11 := hb8.trans (hb10.mono hb8.size)
                    clear hb8 hb10 hck hbk hbw hb9
                    go_wp2
                    go_roundw
                    case rel => exact ⟨k + 1, by omega, by go_num, by rw [HE2.out], hb11⟩
                    case measure => simp [intOf]; omega
                  · rw [hD1] at HC
                    have HC2 := Lib.hid (fun w9 (hb : Below w.heap.size w w9) => HDO.out w9 hb x a han)
                    have HE2 := Lib.hid (show (L.take (k + 1)).all (K a) = (q1 && D x a) by rw [HE.out, HK.out, hD1]; simp [hxV])
                    generalize D x a = dx at HC2 HE2
                    clear HE HK hxV hD1
                    go_wp2_with fail
                    refine HC.out.mono ?_
                    rintro e w9 ⟨rfl, hb10⟩
                    have hb11 := hb8.trans (hb10.mono hb8.size)
                    have hbw2 := hbw.trans (hb10.mono hbw.size)
                    clear hb8 hb10 hck hbk hbw hb9
                    go_wp2_with fail
                    refine (HC2.out w9 hbw2).mono ?_
                    rintro e w10 ⟨rfl, hb10⟩
                    have hb12 := hb11.trans (hb10.mono hb11.size)
                    clear hb11 hb10 hbw2 HC HC2
                    cases dx
                    · go_wp2
                      go_roundw
                      case rel => exact ⟨k + 1, by omega, by go_num, by rw [HE2.out, Bool.and_false], hb12⟩
                      case measure => simp [intOf]; omega
                    · go_wp2
                      go_roundw
                      case rel => exact ⟨k + 1, by omega, by go_num, by rw [HE2.out, Bool.and_true], hb12⟩
                      case measure => simp [intOf]; omega
              · obtain rfl : k = L.length := by omega
                rw [List.take_length, ← HPA.out]
                have HBZ := Lib.hid hb9
                have HBW := Lib.hid hbw
                clear hb8 hbw hb9
                cases hP : P a
                · have HJ3 := Lib.hid (HJ2.out hP)
                  clear hP HPA HSA HJ2
                  go_wp2
                  go_roundw
                  case rel => exact ⟨i + 1, by omega, by go_num, HBZ.out, HJ3⟩
                  case measure => simp [intOf]; omega
                · have HU := Lib.hid (HSA.out hP)
                  clear hP HPA HSA HJ2
                  go_wp2
                  exact bodyPost_ret (results_tmp3 rfl _ _ _) rfl ⟨by rw [HU.out]; rfl, HBW.out⟩
      · obtain rfl : i = L.length := by omega
        have HU := Lib.hid (HNONE.out HJ.out)
        go_wp2
        exact bodyPost_ret (results_tmp3 rfl _ _ _) rfl ⟨by rw [HU.out]; rfl, hbw⟩
  · have hr : resP g b = none := if_neg he
    rw [hr]
    generalize errT g [b] = X at HV he ⊢
    have dX : (X != 0) = true := by simp [he]
    clear h hr he
    go_enter Try.func28, Try.ntmps28
    go_wp2_with fail
    refine (HV.out _ (Below.refl _ _)).mono ?_
    rintro e w1 ⟨rfl, hb1⟩
    have hb2 := ((Below.refl w.heap.size w).alloc (Nat.le_refl _) (.cells #[.int .i64 b] 3)).trans (hb1.mono (by simp))
    clear hb1
    go_wp2
    exact bodyPost_ret (results_tmp3 rfl _ _ _) rfl ⟨rfl, hb2⟩
end
end Go.Proofs.Ytchkckflpmepkaa
