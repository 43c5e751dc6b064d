/-
  Rename of the program, walked.
-/
import Derived.Test.YtchkckflpmepkaaFwLi
namespace Go.Proofs.Ytchkckflpmepkaa
open Go.RowKit

section
variable {w : World} {A : Option Addr} {n c : Nat} {g : List (List Int)}
set_option maxRecDepth 100000 in
set_option maxHeartbeats 8000000 in
theorem Rename_any (h : RG w A n c g) {T : Option Addr} {m k : Nat} {to : List Int} (ht : Ints w T m k to) : Calls Try.prog 38 #[.slice A n c, .slice T m k] w fun e w' => ∃ v, e = .returned (.tuple #[v, .int .i64 (errR g to)]) ∧ RGV w' v (resRn g to) ∧ Below w.heap.size w w' := by
  have HV := Lib.hid (validate_any h)
  by_cases hv : valF g = 0
  · obtain ⟨i0, hi, hz0, hz1, hz2⟩ := info_parts infoI
    obtain ⟨i1, ki, kz0, kz1, kz2⟩ := info_parts infoL
    rw [hv] at HV
    have HBAD := Lib.hid (fun hp => ren_bad (to := to) hv hp)
    have hcap := h.2.1
    have hmax := h.2.2.1
    have hcapT := ht.2.1
    have hmaxT := ht.2.2.1
    obtain ⟨h1, h10, -, hin⟩ := val_zero hv
    have hn := h.1
    have hm := ht.1
    by_cases hlen : m = n
    · obtain rfl : n = m := hlen.symm
      obtain ⟨bT, oT, rfl, hbT, hcT⟩ := ht.at_ (j := 0) (by omega)
      by_cases h0 : to[0]! = 0
      · rw [h0, Nat.add_zero] at hcT
        have HNT := Lib.hid (fun q (hq : q < n) hb => good_not (g := g) (to := to) (i := q) hb (by rw [← hm]; exact hq))
        have HALL := Lib.hid (fun (hh : ∀ q, q < n → goodTo g to q) => per_iff.2 ⟨by rw [← hm, ← hn], h0, fun i hi => hh i (by rw [hm]; exact hi)⟩)
        have HT := Lib.hid ht
        have HG := Lib.hid h
        have HN := Lib.hid hn
        have n10 : n ≤ 10 := by omega
        have n1 : 1 ≤ n := by omega
        have HIN := Lib.hid (show ∀ v, v < n → ∀ q, q < g[v]!.length → ∃ p : Nat, g[v]![q]! = (p : Int) ∧ p < n from fun v hv' q hq => by
          have := hin v (by omega) q hq
          exact ⟨g[v]![q]!.toNat, by omega, by omega⟩)
        have HGOOD := Lib.hid (fun hp => ren_good (g := g) (to := to) hv hp)
        have HL2 := Lib.hid (show ∀ v, v < n → g[v]!.length ≤ 10 from fun v hv' => by
          have := (val_zero hv).2.2.1 v (by omega)
          omega)
        clear h ht hn hm h1 h10 hin hv h0
        go_enter Try.func38, Try.ntmps38
        go_wp2_with fail
        refine HV.out.mono ?_
        rintro e w1 ⟨rfl, rfl⟩
        clear HV
        go_wp2
        have hb0 : Below w.heap.size w (w.alloc (.cells zV 52)) := (Below.refl _ _).alloc (Nat.le_refl _) _
        have hS := SetB.zero w
        generalize World.alloc w _ = W0 at hb0 hS ⊢
        have HE := Lib.hid hcT
        clear hcT
        go_loopw [34] (fun zi wr => ∃ i : Nat, i ≤ n ∧ zi = .int .i64 (i : Int) ∧ Below w.heap.size w wr ∧ SetB wr w.heap.size (ranU to i) ∧ Hid (∀ q, q < i → goodTo g to q)) (fun zi _ => n - (intOf zi).toNat)
        case atStart => exact ⟨0, by omega, rfl, hb0, hS.congr (fun j _ => (ranU_zero (to := to) j).symm), Lib.hid fun q hq => absurd hq (by omega)⟩
        case round =>
          clear hb0 hS
          obtain ⟨i, hi', rfl, hb, hS, HJ⟩ := hrel
          by_cases hlt : i < n
          · obtain ⟨b', o', q1, hbT', hcT⟩ := (HT.out.below hb).at_ hlt
            injection q1 with q1
            injection q1 with q1 q2 _
            subst q1 q2
            have HB := Lib.hid (fun hb => HBAD.out (HNT.out i hlt hb))
            have HX := Lib.hid (fun B hB w1 => isNode_at to[i]! n B hB A c w1 (by omega))
            have HGN := Lib.hid (fun p (hp : to[i]! = ((p : Nat) : Int)) hs => good_seen (g := g) (i := i) hp hs)
            have HGW := Lib.hid (fun p (hp : to[i]! = ((p : Nat) : Int)) hn' hs => good_new (g := g) (i := i) hp hn' hs)
            have HPU := Lib.hid (fun p (hp : to[i]! = ((p : Nat) : Int)) => ranU_put (k := i) hp)
            have HBN := Lib.hid (show nodeB to[i]! n = false → ¬ goodTo g to i from fun hh hg => by
              have := hg.1
              rw [← HN.out, hh] at this
              cases this)
            have HJ2 := Lib.hid (show goodTo g to i → ∀ q, q < i + 1 → goodTo g to q from fun h q hq => by
              by_cases hqi : q = i
              · rw [hqi]; exact h
              · exact HJ.out q (by omega))
            cases hB : nodeB to[i]! n
            · have HX2 := Lib.hid (HX.out false hB)
              have HE := Lib.hid (HB.out (HBN.out hB))
              generalize to[i]! = z at hcT HX2
              clear HX HB HGN HGW HPU HBN HJ2 hB hS
              go_wp2_with (go_at_call 45; with_reducible refine (HX2.out _).mono ?_; rintro e w' ⟨rfl, rfl⟩)
              exact bodyPost_ret (results_tmp2 rfl _ _ _) rfl ⟨_, ret_t HE.out.1, rgv_nil HE.out.2, hb⟩
            · obtain ⟨p, hp, hpn⟩ := node_nat hB
              have HX2 := Lib.hid (HX.out true hB)
              have hB' := hB
              rw [hp] at hcT HX2
              obtain ⟨hcell, hfree⟩ := hS.cell (j := p) (by omega)
              cases hs : ranU to i p
              · have HJ3 := Lib.hid (HJ2.out (HGW.out p hp (by rw [← HN.out]; exact hB) hs))
                have hS2 := (hS.put (v := p) (by omega)).congr (fun j _ => HPU.out p hp j)
                have hb2 := hb.setCell (p := ⟨w.heap.size, p, none⟩) (Nat.le_refl _) (.bool true)
                rw [hs] at hcell
                clear HX HB HGN HGW HPU HBN HJ2 hB hB' hS hb hp hs
                go_wp2_with (go_at_call 45; with_reducible refine (HX2.out _).mono ?_; rintro e w' ⟨rfl, rfl⟩)
                go_roundw
                case rel => exact ⟨i + 1, by omega, by go_num, hb2, hS2, HJ3⟩
                case measure => simp [intOf]; omega
              · have HE := Lib.hid (HB.out (HGN.out p hp hs))
                rw [hs] at hcell
                clear HX HB HGN HGW HPU HBN HJ2 hB hB' hS hp hs
                go_wp2_with (go_at_call 45; with_reducible refine (HX2.out _).mono ?_; rintro e w' ⟨rfl, rfl⟩)
                exact bodyPost_ret (results_tmp2 rfl _ _ _) rfl ⟨_, ret_t HE.out.1, rgv_nil HE.out.2, hb⟩
          · obtain rfl : i = n := by omega
            have HP := Lib.hid (HALL.out HJ.out)
            have HD := Lib.hid (HGOOD.out HP.out)
            have HU := Lib.hid (fun v (hv : v < i) => node_nat (HJ.out v hv).1)
            clear HALL HJ HNT HBAD HGOOD hS
            go_upto_region 15 with (refine wpList_make_row _ rfl _ _ 22 rfl 25 i1 (.slice none 0 0) Try.underlying22 ki kz0 kz1 rfl .i64 .i64 i rfl rfl (by rw [kz2]; omega) (by omega) ?_)
            have hb1 := hb.alloc hb.size (.cells (madeCells #[.slice none 0 0] i) 25)
            have hR := RowsB.made wr i
            have hB0 := hb.size
            generalize World.alloc wr _ = W1 at hb1 hR ⊢
            generalize wr.heap.size = R at hR hB0 ⊢
            clear hb HE hi' hlt
            go_wp2
            go_loopw [55] (fun zv wv => ∃ v : Nat, v ≤ i ∧ zv = .int .i64 (v : Int) ∧ Below w.heap.size w wv ∧ RowsB wv R i (rnP g to v)) (fun zv _ => i - (intOf zv).toNat)
            case atStart => exact ⟨0, by omega, rfl, hb1, hR.congr (fun j _ => rfl)⟩
            case round =>
              clear hb1 hR
              obtain ⟨v, hv', rfl, hb, hR⟩ := hrel
              rename World => wv
              by_cases hvl : v < i
              · obtain ⟨b, off, A', n', c', rfl, hbs, hc, hr⟩ := (HG.out.below hb).at_ hvl
                obtain ⟨bT', oT', q1, hbT2, hcT⟩ := (HT.out.below hb).at_ hvl
                injection q1 with q1
                injection q1 with q1 q2 _
                subst q1 q2
                obtain ⟨D, hD, hDn⟩ := HU.out v hvl
                have HDD := Lib.hid hD
                rw [hD] at hcT
                rw [← HN.out] at hDn
                have HRS := Lib.hid (fun j => rnP_succ HP.out (k := v) (by rw [← HN.out]; exact hvl) hD j)
                have hr1 := hr.1
                have hr10 := HL2.out v hvl
                rw [← hr1] at hr10
                have hcap' := hr.2.1
                have hmax' := hr.2.2.1
                have HR := Lib.hid hr
                have HR1 := Lib.hid hr1
                obtain ⟨Z, hZ⟩ : ∃ Z, Z = renR g to v := ⟨_, rfl⟩
                have HZ := Lib.hid hZ
                have HZL := Lib.hid (show Z.length = n' by rw [hZ, renR_len, hr1])
                rw [← hZ] at HRS
                have HB2 := Lib.hid hb
                have HRW := Lib.hid hR
                have HCT := Lib.hid hcT
                clear hr hr1 hD hZ hcT hR
                go_wp2
                go_loopw [13, 62] (fun zl zq wq => ∃ q : Nat, q ≤ n' ∧ zq = .int .i64 (q : Int) ∧ wq.ownsRow wv.heap.size 3 1 zl q (iV (Z.take q)) ∧ Below wv.heap.size wv wq) (fun _ zq _ => n' - (intOf zq).toNat)
                case atStart => exact ⟨0, by omega, rfl, World.ownsRow_nil _ _ _ _, Below.refl _ _⟩
                case round =>
                  clear hb
                  obtain ⟨q, hq, rfl, hown, hb3⟩ := hrel
                  by_cases hql : q < n'
                  · obtain ⟨b', off', rfl, hbs', hc'⟩ := (HR.out.below hb3).at_ hql
                    obtain ⟨p, hp, hpn⟩ := HIN.out v hvl q (by rw [← HR1.out]; exact hql)
                    rw [hp] at hc'
                    obtain ⟨bT', oT', q1, hbT2, hcT⟩ := (HT.out.below (HB2.out.trans (hb3.mono HB2.out.size))).at_ hpn
                    injection q1 with q1
                    injection q1 with q1 q2 _
                    subst q1 q2
                    have HS := Lib.hid (show Z.take (q + 1) = Z.take q ++ [to[p]!] by
                      rw [HZ.out]
                      exact renR_take (by rw [← HR1.out]; exact hql) hp)
                    generalize to[p]! = y at hcT HS
                    clear hp
                    go_wp2_with (at_builtin; refine wpList_append_own _ rfl _ _ 25 rfl wv.heap.size 3 i0 (.int .i64 0) 1 8 Try.underlying25 hi hz0 hz1 hz2 rfl (by decide) _ _ _ rfl (hown.alloc _) ⟨wr.heap.size, 0, none⟩ 1 1 [.int .i64 y] rfl rfl (one_new wr _ _) ?k2 ?k3 ?k4 ?k5 ?_)
                    case k2 => simp [Value.oneCell']
                    case k3 => unfold maxLen; omega
                    case k4 => omega
                    case k5 => have := hb3.size; simp; omega
                    intro v2 w7 hown7 hgrow _
                    have hb5 : Below wv.heap.size wv w7 := (hb3.alloc hb3.size _).grown hgrow (by have := hb3.size; simp; omega) (own_base (hown.alloc (.cells #[.int .i64 y] 3)))
                    have HO8 := Lib.hid (show w7.ownsRow wv.heap.size 3 1 v2 (q + 1) (iV (Z.take (q + 1))) by
                      rw [HS.out, iV_app]
                      exact hown7)
                    clear hown hown7 hgrow hb3 hc' hbs' hcT hbT2 hc hbs
                    go_wp2
                    go_roundw
                    case rel => exact ⟨q + 1, by omega, by go_num, HO8.out, hb5⟩
                    case measure => simp [intOf]; omega
                  · obtain rfl : q = n' := by omega
                    rw [← HZL.out, List.take_length, HZL.out] at hown
                    obtain ⟨AZ, cZ, rfl, hIZ, hqZ⟩ := own_ints hown
                    have hlt := HRW.out.lt
                    have hR2 := (HRW.out.below hb3).set (t := rnP g to (v + 1)) (D := D) hIZ (fun x off e => by have := hqZ x off e; omega) (fun j _ => HRS.out j)
                    have hb4 := (HB2.out.trans (hb3.mono HB2.out.size)).setCell (p := ⟨R, D, none⟩) hB0 (.slice AZ q cZ)
                    obtain ⟨bT', oT', q1, hbT2, hcT⟩ := (HT.out.below (HB2.out.trans (hb3.mono HB2.out.size))).at_ hvl
                    injection q1 with q1
                    injection q1 with q1 q2 _
                    subst q1 q2
                    obtain ⟨AY, nY, cY, hcell, hfree, -⟩ := (HRW.out.below hb3).cell hDn
                    rw [HDD.out] at hcT
                    clear hown hqZ hIZ hb3
                    go_wp2
                    go_roundw
                    case rel => exact ⟨v + 1, by omega, by go_num, hb4, hR2⟩
                    case measure => simp [intOf]; omega
              · obtain rfl : v = i := by omega
                have hG2 := hR.graph n10
                have hE : resRn g to = (List.range v).map (rnP g to v) := by
                  rw [HD.out.2, ← HN.out]
                go_wp2
                exact bodyPost_ret (results_tmp2 rfl _ _ _) rfl ⟨_, ret_t HD.out.1, ⟨_, _, _, rfl, by rw [hE]; exact hG2⟩, hb⟩
      · have HE := Lib.hid (HBAD.out fun hp => h0 (per_iff.1 hp).2.1)
        rw [Nat.add_zero] at hcT
        generalize to[0]! = z at hcT h0
        have d0 : (z != 0) = true := by simp [h0]
        have n1 : 0 < n := by omega
        clear h ht hn hm h1 h10 hin hv h0 HBAD
        go_enter Try.func38, Try.ntmps38
        go_wp2_with fail
        refine HV.out.mono ?_
        rintro e w1 ⟨rfl, rfl⟩
        go_wp2
        exact bodyPost_ret (results_tmp2 rfl _ _ _) rfl ⟨_, ret_t HE.out.1, rgv_nil HE.out.2, Below.refl _ _⟩
    · have HE := Lib.hid (HBAD.out fun hp => hlen (by rw [hm, (per_iff.1 hp).1, hn]))
      have d0 : ((m : Int) != (n : Int)) = true := by simp; omega
      clear h ht hn hm h1 h10 hin hv HBAD
      go_enter Try.func38, Try.ntmps38
      go_wp2_with fail
      refine HV.out.mono ?_
      rintro e w1 ⟨rfl, rfl⟩
      go_wp2
      exact bodyPost_ret (results_tmp2 rfl _ _ _) rfl ⟨_, ret_t HE.out.1, rgv_nil HE.out.2, Below.refl _ _⟩
  · have HE := Lib.hid (ren_val1 (to := to) hv)
    generalize valF g = X at HV HE hv
    have dX : (X != 0) = true := by simp [hv]
    clear h ht hv
    go_enter Try.func38, Try.ntmps38
    go_wp2_with fail
    refine HV.out.mono ?_
    rintro e w1 ⟨rfl, rfl⟩
    go_wp2
    exact bodyPost_ret (results_tmp2 rfl _ _ _) rfl ⟨_, ret_t HE.out.1, rgv_nil HE.out.2, Below.refl _ _⟩
end
end Go.Proofs.Ytchkckflpmepkaa
