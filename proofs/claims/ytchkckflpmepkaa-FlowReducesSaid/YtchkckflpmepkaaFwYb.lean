/-
  Critical of the program.
-/
import Derived.Test.YtchkckflpmepkaaFwYa
namespace Go.Proofs.Ytchkckflpmepkaa
open Go.RowKit

/-- Whether an edge is critical, if its first node is reached and the edge is one. -/
def crC (G : List (List Nat)) (b : Nat) : Bool := decide (2 ≤ (setL (befS G b) 10).length)
def crQ (G : List (List Nat)) (a k : Nat) : List Edg := (((setL (sucS G a) 10).take k).filter (crC G)).map fun b => (a, b)
def crF (G : List (List Nat)) (a : Nat) : List Edg := if (setL (sucS G a) 10).length < 2 then [] else crQ G a (setL (sucS G a) 10).length
def crP (G : List (List Nat)) (i : Nat) : List Edg := ((setL (wy G (-1) 0) 10).take i).flatMap (crF G)
def crL (G : List (List Nat)) : List Edg := (setL (wy G (-1) 0) 10).flatMap (crF G)
theorem crP_succ {G : List (List Nat)} {i : Nat} (h : i < (setL (wy G (-1) 0) 10).length) : crP G (i + 1) = crP G i ++ crF G (setL (wy G (-1) 0) 10)[i]! := by
  unfold crP
  rw [take_succ h, List.flatMap_append]
  simp
theorem crQ_succ {G : List (List Nat)} {a k : Nat} (h : k < (setL (sucS G a) 10).length) : crQ G a (k + 1) = crQ G a k ++ (if crC G (setL (sucS G a) 10)[k]! then [(a, (setL (sucS G a) 10)[k]!)] else []) := by
  unfold crQ
  rw [take_succ h, List.filter_append, List.map_append]
  congr 1
  cases hh : crC G (setL (sucS G a) 10)[k]!
  · rw [List.filter_cons, hh]; rfl
  · rw [List.filter_cons, hh]; rfl
theorem crQ_len (G : List (List Nat)) (a k : Nat) : (crQ G a k).length ≤ 10 := by
  unfold crQ
  rw [List.length_map]
  have h1 := List.length_filter_le (crC G) ((setL (sucS G a) 10).take k)
  have h2 := List.length_take_le' k (setL (sucS G a) 10)
  have h3 := setL_le (sucS G a) 10
  omega
theorem crF_len (G : List (List Nat)) (a : Nat) : (crF G a).length ≤ 10 := by
  unfold crF
  split
  · simp
  · exact crQ_len _ _ _
theorem crP_len (G : List (List Nat)) : ∀ i, i ≤ (setL (wy G (-1) 0) 10).length → (crP G i).length ≤ 10 * i
  | 0, _ => by simp [crP]
  | i + 1, hi => by
    have := crP_len G i (by omega)
    have h2 := crF_len G (setL (wy G (-1) 0) 10)[i]!
    rw [crP_succ (by omega), List.length_append]
    omega
def resC (g : List (List Int)) : List Edg := if valF g = 0 then crL (natG g) else []
section
variable {w : World} {A : Option Addr} {n c : Nat} {g : List (List Int)}
set_option maxRecDepth 100000 in
set_option maxHeartbeats 8000000 in
theorem Critical_any (h : RG w A n c g) : Calls Try.prog 36 #[.slice A n c] w fun e w' => ∃ v, e = .returned (.tuple #[v, .int .i64 (valF g)]) ∧ EdgV w' v (resC g) ∧ Below w.heap.size w w' := by
  have HV := Lib.hid (validate_any h)
  by_cases hv : valF g = 0
  · obtain ⟨i0, hi, hz0, hz1, hz2⟩ := info_parts infoE
    have hG := okG_val hv
    have hM := MG_of h hv
    obtain ⟨G, hGE⟩ : ∃ G, G = natG g := ⟨_, rfl⟩
    rw [← hGE] at hG hM
    have HC := Lib.hid (fun w1 (hb : Below w.heap.size w w1) => reached_any hG (hM.below hb))
    have HS := Lib.hid (fun w1 (hb : Below w.heap.size w w1) a ha => successors_any hG (hM.below hb) a ha)
    have HB := Lib.hid (fun w1 (hb : Below w.heap.size w w1) v => before_any hG (hM.below hb) v)
    have HBS := Lib.hid (fun v w1 => size_any (befS G v) w1)
    have HCC := Lib.hid (show ∀ b, crC G b = decide (2 ≤ (setL (befS G b) 10).length) from fun _ => rfl)
    have HRN := Lib.hid (fun i (hi : i < (setL (wy G (-1) 0) 10).length) => show (setL (wy G (-1) 0) 10)[i]! < n by
      have := (mem_setL.1 (at_get hi)).2
      rw [hM.1]
      exact wy_lt hG hG.1 this)
    have HP := Lib.hid (fun i hi => crP_succ (G := G) (i := i) hi)
    have HQ := Lib.hid (fun a k hk => crQ_succ (G := G) (a := a) (k := k) hk)
    have HPL := Lib.hid (crP_len G)
    have HQL := Lib.hid (crQ_len G)
    have HF := Lib.hid (show ∀ a, crF G a = if (setL (sucS G a) 10).length < 2 then [] else crQ G a (setL (sucS G a) 10).length from fun _ => rfl)
    have HE := Lib.hid (show resC g = crP G (setL (wy G (-1) 0) 10).length by
      unfold resC crP
      rw [if_pos hv, List.take_length, ← hGE]
      rfl)
    have hR10 := setL_le (wy G (-1) 0) 10
    have n10 : n ≤ 10 := by rw [hM.1]; exact hG.2.1
    have hP0 : crP G 0 = [] := by simp [crP]
    have hQ0 : ∀ a, crQ G a 0 = [] := fun a => by simp [crQ]
    have hS10 := fun a => setL_le (sucS G a) 10
    have hB10 := fun a => setL_le (befS G a) 10
    have HTN := Lib.hid (fun w1 => list_any (wy G (-1) 0) w1)
    have HTS := Lib.hid (fun a w1 => list_any (sucS G a) w1)
    have HZS := Lib.hid (fun a w1 => size_any (sucS G a) w1)
    rw [hv] at HV ⊢
    generalize resC g = Z at HE ⊢
    generalize crP G = P at HP HPL HE hP0
    generalize crQ G = Q at HQ HF HQL hQ0
    generalize crF G = F at HP HF
    generalize crC G = C at HQ HCC
    have HP0 := Lib.hid hP0
    have HQ0 := Lib.hid hQ0
    have HS10 := Lib.hid hS10
    have HB10 := Lib.hid hB10
    generalize wy G (-1) 0 = T at HC HRN HP HPL HE hR10 HTN
    generalize setL T 10 = R at HRN HP HPL HE hR10 HTN
    generalize sucS G = SU at HS HQ HF HTS HS10 HZS
    generalize befS G = BE at HB HBS HCC HB10
    clear h hM hG hP0 hQ0 hS10 hB10 hv hGE
    go_enter Try.func36, Try.ntmps36
    go_wp2_with fail
    refine HV.out.mono ?_
    rintro e w' ⟨rfl, rfl⟩
    go_wp2_with fail
    refine (HC.out w (Below.refl _ _)).mono ?_
    rintro e w1 ⟨rfl, hb1⟩
    go_wp2_with fail
    refine (HTN.out w1).mono ?_
    rintro e w2 ⟨v, rfl, hownR, hb2⟩
    have hb := hb1.trans (hb2.mono hb1.size)
    obtain ⟨AR, cR, rfl, hNR⟩ := own_nats hownR
    have hcR := hNR.2.1
    have hmR := hNR.2.2.1
    have HNR := Lib.hid hNR
    clear hownR hNR hb1 hb2
    go_wp2
    go_loopw [5, 20] (fun zl zi wr => ∃ i : Nat, i ≤ R.length ∧ zi = .int .i64 (i : Int) ∧ wr.ownsRow w2.heap.size 50 2 zl (P i).length (eV (P i)) ∧ Below w2.heap.size w2 wr) (fun _ zi _ => R.length - (intOf zi).toNat)
    case atStart => exact ⟨0, by omega, rfl, by rw [HP0.out]; exact World.ownsRow_nil _ _ _ _, Below.refl _ _⟩
    case round =>
      obtain ⟨i, hi2, rfl, hown, hb3⟩ := hrel
      by_cases hlt : i < R.length
      · obtain ⟨bR, oR, rfl, hbs, hc⟩ := HNR.out.get hb3 hlt
        have hRn := HRN.out i hlt
        have HP1 := Lib.hid (HP.out i hlt)
        have hPl := HPL.out i hi2
        generalize R[i]! = a at hc hRn HP1
        generalize P i = E0 at hown HP1 hPl
        have HS1 := Lib.hid (HS.out wr (hb.trans (hb3.mono hb.size)) a hRn)
        go_wp2_with fail
        refine HS1.out.mono ?_
        rintro e w3 ⟨rfl, hb4⟩
        have hown4 := own_below hown hb4
        have hb5 := hb3.trans (hb4.mono hb3.size)
        clear hown hc hbs hb4 HS1 hb3
        have hsN := SetB.zero w3
        have hbX := setRow_below ((Below.refl w3.heap.size w3).alloc (Nat.le_refl _) (.cells zV 52)) (Nat.le_refl _) (setA (SU a))
        go_upto_region 9 with (refine wpList_store_row rfl _ _ _ rfl w3.heap.size (setA (SU a)) rfl rfl 52 _ hsN (setA_info (SU a)) (by rw [setA_size, setA_size]) (setA_one (SU a)) ?_)
        have hs4 : SetB ((w3.alloc (.cells zV 52)).setRow w3.heap.size (setA (SU a))) w3.heap.size (SU a) := setRow_get _ _ _ _ _ hsN
        have hb7 := hb5.trans (hbX.mono hb5.size)
        have hown7 := own_below hown4 hbX
        generalize World.setRow (World.alloc w3 _) _ _ = W5 at hs4 hb7 hown7 ⊢
        clear hsN hbX hb5 hown4
        generalize w3.heap.size = SB at hs4 ⊢
        have hs4' := hs4
        unfold SetB at hs4'
        go_wp2_with (refine wpList_load_row rfl 52 (.tmp 8) rfl SB rfl 52 (setA (SU a)) (0, 0) _ hs4' Try.underlying52 rfl (setA_info (SU a)) ?_)
        refine (HZS.out a W5).mono ?_
        rintro e w6 ⟨rfl, hb8⟩
        have hs6 := hs4.below hb8
        have hown8 := own_below hown7 hb8
        have hb9 := hb7.trans (hb8.mono hb7.size)
        clear hs4 hs4' hb7 hb8 hown7
        have HF1 := Lib.hid (HF.out a)
        have hSl := HS10.out a
        have hs6' := hs6
        unfold SetB at hs6'
        by_cases hsz : (setL (SU a) 10).length < 2
        · have HP2 := Lib.hid (show P (i + 1) = E0 by rw [HP1.out, HF1.out, if_pos hsz, List.append_nil])
          have d2 : decide (((setL (SU a) 10).length : Int) < 2) = true := decide_eq_true (by omega)
          generalize (setL (SU a) 10).length = m at d2
          clear hsz hs6 hs6' HF1
          go_wp2
          go_roundw
          case rel => exact ⟨i + 1, by omega, by go_num, by rw [HP2.out]; exact hown8, hb9⟩
          case measure => simp [intOf]; omega
        · have HF2 := Lib.hid (show F a = Q a (setL (SU a) 10).length by rw [HF1.out, if_neg hsz])
          have d2 : decide (((setL (SU a) 10).length : Int) < 2) = false := decide_eq_false (by omega)
          have HTS1 := Lib.hid (HTS.out a w6)
          have HQ1 := Lib.hid (HQ.out a)
          have HQ2 := Lib.hid (HQ0.out a)
          have HQL1 := Lib.hid (HQL.out a)
          generalize Q a = Qa at HQ1 HF2 HQ2 HQL1
          have HSN1 := Lib.hid (show ∀ k, k < (setL (SU a) 10).length → (setL (SU a) 10)[k]! < 10 from fun k hk => (mem_setL.1 (at_get hk)).1)
          clear hsz HF1
          go_wp2_with (refine wpList_load_row rfl 52 (.tmp 8) rfl SB rfl 52 (setA (SU a)) (0, 0) _ hs6' Try.underlying52 rfl (setA_info (SU a)) ?_)
          clear hs6 hs6'
          refine HTS1.out.mono ?_
          rintro e w7 ⟨vS, rfl, hownS, hb10⟩
          have hown9 := own_below hown8 hb10
          have hownS : w7.ownsRow w2.heap.size 3 1 vS (setL (SU a) 10).length (nV (setL (SU a) 10)) := by
            refine ⟨hownS.1, ?_⟩
            rcases hownS.2 with h | ⟨g, cap, cur, q1, q2, q3⟩
            · exact .inl h
            · exact .inr ⟨g, cap, cur, q1, Nat.le_trans hb9.size q2, q3⟩
          have hb11 := hb9.trans (hb10.mono hb9.size)
          obtain ⟨AS, cS, rfl, hNS⟩ := own_nats hownS
          have hcS := hNS.2.1
          have hmS := hNS.2.2.1
          clear HTS1 hown8 hb9 hb10 hNS
          generalize setL (SU a) 10 = L at hownS hcS HSN1 HQ1 HF2 hSl d2
          go_wp2
          go_loopw [5, 33] (fun zl zi wr => ∃ k : Nat, k ≤ L.length ∧ zi = .int .i64 (k : Int) ∧ wr.ownsRow w2.heap.size 50 2 zl (E0 ++ Qa k).length (eV (E0 ++ Qa k)) ∧ wr.ownsRow w2.heap.size 3 1 (.slice AS L.length cS) L.length (nV L) ∧ Below w2.heap.size w2 wr) (fun _ zi _ => L.length - (intOf zi).toNat)
          case atStart => exact ⟨0, by omega, rfl, by rw [HQ2.out, List.append_nil]; exact hown9, hownS, hb11⟩
          case round =>
            clear hown9 hownS hb11
            obtain ⟨k, hk, rfl, hown, hownS, hb8⟩ := hrel
            by_cases hkl : k < L.length
            · obtain ⟨A9, c9, q9, hNS⟩ := own_nats hownS
              injection q9 with q9 _ q10
              subst q9 q10
              obtain ⟨bS, oS, rfl, hbs, hc⟩ := hNS.at_ hkl
              have HQ3 := Lib.hid (HQ1.out k hkl)
              have hQl := HQL1.out k
              generalize L[k]! = b at hc HQ3
              have HB1 := Lib.hid (HB.out wr (hb.trans (hb8.mono hb.size)) b)
              have HB2 := Lib.hid (fun w1 => HBS.out b w1)
              have hbl := HB10.out b
              have HCb := Lib.hid (HCC.out b)
              generalize (setL (BE b) 10).length = m at HB2 hbl HCb
              clear hNS
              go_wp2_with fail
              refine HB1.out.mono ?_
              rintro e w8 ⟨rfl, hb9⟩
              have hown9 := own_below hown hb9
              have hownS9 := own_below hownS hb9
              have hb11 := hb8.trans (hb9.mono hb8.size)
              clear hown hownS hb8 hb9 hc hbs
              go_wp2_with fail
              refine (HB2.out w8).mono ?_
              rintro e w9 ⟨rfl, hb9⟩
              have hown10 := own_below hown9 hb9
              have hownS10 := own_below hownS9 hb9
              have hb12 := hb11.trans (hb9.mono hb11.size)
              clear hown9 hownS9 hb11 hb9 HB1 HB2
              by_cases hm2 : 2 ≤ m
              · have HQ4 := Lib.hid (show Qa (k + 1) = Qa k ++ [(a, b)] by rw [HQ3.out, HCb.out, decide_eq_true hm2]; rfl)
                have d3 : decide ((2 : Int) ≤ (m : Int)) = true := decide_eq_true (by omega)
                clear HQ3 HCb hm2
                have hEl : (E0 ++ Qa k).length ≤ 1000 := by rw [List.length_append]; omega
                have HEQ := Lib.hid (show E0 ++ Qa (k + 1) = (E0 ++ Qa k) ++ [(a, b)] by rw [HQ4.out, List.append_assoc])
                generalize E0 ++ Qa k = E1 at hown10 hEl HEQ
                go_wp2_with (at_builtin; refine wpList_append_own _ rfl _ _ 33 rfl w2.heap.size 50 i0 (.agg #[.int .i64 0, .int .i64 0]) 2 16 Try.underlying33 hi hz0 hz1 hz2 rfl (by decide) _ _ _ rfl (hown10.alloc _) ⟨w9.heap.size, 0, none⟩ 1 1 [.int .i64 (a : Int), .int .i64 (b : Int)] rfl rfl (two_new w9 _ _ _) ?k2 ?k3 ?k4 ?k5 ?_)
                case k2 => intro u hu; simp at hu; rcases hu with rfl | rfl <;> rfl
                case k3 => unfold maxLen; omega
                case k4 => omega
                case k5 => have := hb12.size; simp; omega
                intro v2 w10 hown11 hgrow _
                have hb13 : Below w2.heap.size w2 w10 := (hb12.alloc hb12.size _).grown hgrow (by have := hb12.size; simp; omega) (own_base (hown10.alloc (.cells #[.int .i64 (a : Int), .int .i64 (b : Int)] 50)))
                have hownS12 := own_keep (hownS10.alloc (.cells #[.int .i64 (a : Int), .int .i64 (b : Int)] 50)) (hown10.alloc (.cells #[.int .i64 (a : Int), .int .i64 (b : Int)] 50)) (by decide) hgrow
                have HO8 := Lib.hid (show w10.ownsRow w2.heap.size 50 2 v2 (E0 ++ Qa (k + 1)).length (eV (E0 ++ Qa (k + 1))) by
                  rw [HEQ.out, List.length_append, eV_app]
                  exact hown11)
                clear hown10 hownS10 hb12 hown11 hgrow
                go_wp2
                go_roundw
                case rel => exact ⟨k + 1, by omega, by go_num, HO8.out, hownS12, hb13⟩
                case measure => simp [intOf]; omega
              · have HQ4 := Lib.hid (show Qa (k + 1) = Qa k by rw [HQ3.out, HCb.out, decide_eq_false hm2]; exact List.append_nil _)
                have d3 : decide ((2 : Int) ≤ (m : Int)) = false := decide_eq_false (by omega)
                clear HQ3 HCb hm2
                go_wp2
                go_roundw
                case rel => exact ⟨k + 1, by omega, by go_num, by rw [HQ4.out]; exact hown10, hownS10, hb12⟩
                case measure => simp [intOf]; omega
            · obtain rfl : k = L.length := by omega
              have HO8 := Lib.hid (show wr.ownsRow w2.heap.size 50 2 _ (P (i + 1)).length (eV (P (i + 1))) by
                rw [HP1.out, HF2.out]
                exact hown)
              clear hown hownS
              go_wp2
              go_roundw
              case rel => exact ⟨i + 1, by omega, by go_num, HO8.out, hb8⟩
              case measure => simp [intOf]; omega
      · obtain rfl : i = R.length := by omega
        rw [← HE.out] at hown
        have hV := EdgV.own rfl hown
        have hb4 := hb.trans (hb3.mono hb.size)
        clear hown
        go_wp2
        exact bodyPost_ret (results_tmp2 rfl _ _ _) rfl ⟨_, rfl, hV, hb4⟩
  · have hr : resC g = [] := if_neg hv
    rw [hr]
    generalize valF g = X at HV hv ⊢
    have dX : (X != 0) = true := by simp [hv]
    clear h hv hr
    go_enter Try.func36, Try.ntmps36
    go_wp2_with fail
    refine HV.out.mono ?_
    rintro e w1 ⟨rfl, rfl⟩
    go_wp2
    exact bodyPost_ret (results_tmp2 rfl _ _ _) rfl ⟨_, rfl, EdgV.nil _, Below.refl _ _⟩
end
end Go.Proofs.Ytchkckflpmepkaa
