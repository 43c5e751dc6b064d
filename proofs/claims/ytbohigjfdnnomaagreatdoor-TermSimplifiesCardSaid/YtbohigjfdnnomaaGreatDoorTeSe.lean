/-
  Simplify of the program.
  The walk of TermSimplifies.
-/
import Derived.Test.YtbohigjfdnnomaaGreatDoorTeSb
import Derived.Test.YtbohigjfdnnomaaGreatDoorTeSk
import Derived.Test.YtbohigjfdnnomaaGreatDoorTeR
namespace Go.Proofs.YtbohigjfdnnomaaGreatDoor
section
open Go.RowKit

theorem i64_nat {n : Nat} (h : n < 1000000) : IntKind.i64.wrap (n : Int) = (n : Int) := by
  rw [IntKind.wrap_i64]
  omega
/-- What Simplify makes of shared nodes. -/
structure SimOK (U a : List Nd) : Prop where
  val : valF a = 0
  len : a.length ≤ U.length
  wid : (a[a.length - 1]!).width = (U[U.length - 1]!).width
  ev : ∀ env, EnvU U env → envB a env = true → evT env (tr a (a.length - 1)) = evT env (tr U (U.length - 1))
theorem simOK_of {U out : List Nd} {pl : List Nat} (h : SimM U out pl U.length) (h1 : 1 ≤ U.length) : SimOK U (shF out pl[U.length - 1]!) := by
  have hl := h.lt (U.length - 1) (by omega)
  have hv := h.pv.val (by omega)
  have hs := shF_val hv hl
  have he := shF_end (down_val hv) hl
  have h2 := ins_last (tr out pl[U.length - 1]!)
  have h3 := (ins_ok (tr out pl[U.length - 1]!) [] once_nil).2.2
  have e : (shF out pl[U.length - 1]!).length - 1 = (ins (tr out pl[U.length - 1]!) []).1 := by unfold shF; omega
  have htr : tr (shF out pl[U.length - 1]!) ((shF out pl[U.length - 1]!).length - 1) = tr out pl[U.length - 1]! := by
    rw [e]
    exact tr_has (down_val hs.1) _ _ h3
  refine ⟨hs.1, by have := he.1; have := h.len; omega, ?_, fun env hE _ => ?_⟩
  · have h4 := congrArg wT htr
    rw [wT_tr, wT_tr] at h4
    rw [h4, h.wid _ (by omega)]
  · rw [htr]
    exact h.val _ (by omega) env hE
section
variable {w : World} {A : Option Addr} {n c : Nat} {T : List Nd}
set_option maxRecDepth 100000 in
set_option maxHeartbeats 8000000 in
theorem simplify_any (h : Term w A n c T) (hM : Masks w) :
    Calls Tryz.prog 10 #[.slice A n c] w fun e w' => ∃ nv av a, e = .returned (.tuple #[nv, .int .i64 (valF T)]) ∧ OwnT w' w.heap.size nv av a ∧ Hid ((valF T ≠ 0 → a = []) ∧ (valF T = 0 → SimOK (shF T (T.length - 1)) a)) ∧ Below w.heap.size w w' := by
  obtain ⟨i0, hi, hz0, hz1, hz2⟩ := info_parts infoI
  have hcap := h.2.1
  have hmax := h.2.2.1
  have HS := Lib.hid (share_any h)
  have HM := Lib.hid hM
  by_cases hv : valF T = 0
  · have hUv := shF_val hv (k := T.length - 1) (by have := (val_zero.1 hv).1.1; omega)
    rw [if_pos hv] at HS
    rw [hv] at HS ⊢
    generalize shF T (T.length - 1) = U at HS hUv ⊢
    have hU := hUv.1
    clear h hM hv hUv
    go_enter Tryz.func10, Tryz.ntmps10
    go_wp2_with fail
    refine HS.out.mono ?_
    rintro e w1 ⟨nv, av, rfl, hO, -, hb1⟩
    obtain ⟨Au, cu, rfl, hTU⟩ := own_term hO
    have hUl := (val_zero.1 hU).1
    have hcapU := hTU.2.1
    have hmaxU := hTU.2.2.1
    have HTU := Lib.hid hTU
    have HU := Lib.hid hU
    have HIU := Lib.hid (fun k hk => term_imm hTU k hk)
    obtain ⟨m, hm⟩ : ∃ m, U.length = m := ⟨_, rfl⟩
    have HMU := Lib.hid hm
    rw [hm] at hUl hcapU HTU ⊢
    have HB1 := Lib.hid hb1
    have HPN := Lib.hid (poolNew_any w1)
    clear hO hTU hU hm hb1
    go_wp2_with fail
    refine HPN.out.mono ?_
    rintro e w2 ⟨P, M, F0, rfl, hP0, hb2⟩
    go_upto_region 5 with fail
    have hSb := heap_alloc_new w2 (.cells #[ptr P] 54)
    have hb3 := hb2.alloc hb2.size (.cells #[ptr P] 54)
    have hP3 := hP0.keep (w' := w2.alloc (.cells #[ptr P] 54)) (by simp) (fun b e => heap_alloc_old w2 _ (hP0.lt b e).1)
    have hF0 : ¬ F0 w2.heap.size := fun e => Nat.lt_irrefl _ (hP0.lt _ e).1
    generalize World.alloc w2 _ = w3 at hSb hb3 hP3 ⊢
    obtain ⟨S, hSE⟩ : ∃ S, w2.heap.size = S := ⟨_, rfl⟩
    rw [hSE] at hSb hF0 ⊢
    have HS0 := Lib.hid (show Sml w3 S w1.heap.size P M F0 [] from ⟨hSb, hP3⟩)
    have HF0 := Lib.hid hF0
    have HB3 := Lib.hid hb3
    have HBASE := Lib.hid HB1.out.size
    clear hP0 hb2 hSb hb3 hP3 hF0 hSE HPN
    go_upto_region 6 with fail
    go_wp2
    go_loopw [7, 27] (fun vl zi wr => ∃ (k : Nat) (F : Nat → Prop) (out : List Nd) (pl : List Nat), k ≤ m ∧ zi = .int .i64 (k : Int) ∧ Sml wr S w1.heap.size P M F out ∧ wr.ownsRow w1.heap.size 3 1 vl k (iV (natI pl)) ∧ Hid (SimM U out pl k ∧ ¬ F S ∧ (∀ b, vl.ownBlock = some b → ¬ F b ∧ b ≠ S) ∧ Below w1.heap.size w1 wr)) (fun _ zi _ => m - (intOf zi).toNat)
    case atStart => exact ⟨0, F0, [], [], by omega, rfl, HS0.out, World.ownsRow_nil _ _ _ _, Lib.hid ⟨simM_zero U, HF0.out, fun b hb => by simp [Value.ownBlock] at hb, HB3.out⟩⟩
    case round =>
      clear HS0 HF0 HB3
      obtain ⟨k, F, out, pl, hk, rfl, hS, hown, HH⟩ := hrel
      rename World => wr
      have HSM := Lib.hid hS
      have HOWN := Lib.hid hown
      by_cases hlt : k < m
      · have hkU : k < U.length := by rw [HMU.out]; exact hlt
        obtain ⟨b, off, A', n', c', rfl, hbs, ⟨a0, a1, a2, a3, a4⟩, hIx, -⟩ := (HTU.out.below HH.out.2.2.2).at_ hlt
        have HX := Lib.hid (HH.out.1.argX HU.out HIU.out hkU)
        have HNXT := Lib.hid (fun o2 q (hn : NodeOK U out U[k]! (argP U pl k) q o2) => HH.out.1.next HU.out hkU hn)
        have HDN := Lib.hid (down_val HU.out k hkU)
        have HAP := Lib.hid (fun i (p : Nat) (hi : i < U[k]!.args.length) (hp : U[k]!.args[i]! = (p : Int)) => argP_at (U := U) (pl := pl) hi hp)
        have HAL := Lib.hid (argP_len U pl k)
        have HIX := Lib.hid hIx
        generalize argP U pl k = a at HX HNXT HAP HAL
        generalize U[k]! = x at a0 a1 a2 a3 a4 HX HNXT HDN HAP HAL HIX
        obtain ⟨op, wid, fl, args, imm⟩ := x
        simp only at a0 a1 a2 a3 a4 HX HNXT HDN HAP HAL HIX
        have hcapI := HIX.out.2.1
        have hmaxI := HIX.out.2.2.1
        have HNL := Lib.hid HIX.out.1
        clear hS hown hIx
        go_upto_region 9 with fail
        have hxb := heap_alloc_new wr (.cells #[.int .i64 op, .int .i64 wid, .int .i64 fl, .slice A' n' c', .int .u32 imm] 38)
        have hbn : Below wr.heap.size wr (wr.alloc (.cells #[.int .i64 op, .int .i64 wid, .int .i64 fl, .slice A' n' c', .int .u32 imm] 38)) := (Below.refl _ _).alloc (Nat.le_refl _) _
        generalize World.alloc wr _ = W1 at hxb hbn ⊢
        obtain ⟨D, hDE⟩ : ∃ D, wr.heap.size = D := ⟨_, rfl⟩
        have HDE := Lib.hid hDE
        rw [hDE] at hxb ⊢
        have HBN := Lib.hid hbn
        have HXB := Lib.hid hxb
        have hDl := lt_of_block hxb
        obtain ⟨d0, d1, d2, d3, d4⟩ := cells5 (x := ⟨op, wid, fl, [], imm⟩) hxb
        simp only at d0 d1 d2 d3 d4
        obtain ⟨Ap, cp, hvl, hIp⟩ := own_ints HOWN.out
        have HNUM := Lib.hid HH.out.1.num
        have hcapp := hIp.2.1
        have hmaxp := hIp.2.2.1
        subst hvl
        have HIP := Lib.hid (hIp.below hbn)
        clear hDE hbn hxb hIp a0 a1 a2 a3 a4 hbs
        go_wp2
        go_loopw [10, 34] (fun va zm wi => ∃ q : Nat, q ≤ n' ∧ zm = .int .i64 (q : Int) ∧ wi.ownsRow W1.heap.size 3 1 va q (iV (natI (a.take q))) ∧ Hid (Below W1.heap.size W1 wi ∧ (q = 0 → va = .slice none 0 0))) (fun _ zm _ => n' - (intOf zm).toNat)
        case atStart => exact ⟨0, by omega, rfl, by rw [List.take_zero]; exact World.ownsRow_nil _ _ _ _, Lib.hid ⟨Below.refl _ _, fun _ => rfl⟩⟩
        case round =>
          obtain ⟨q, hq, rfl, hva, HQ⟩ := hrel
          rename World => wi
          have HVA := Lib.hid hva
          have HBI := Lib.hid (show Below wr.heap.size wr wi from HBN.out.trans (HQ.out.1.mono HBN.out.size))
          by_cases hlt2 : q < n'
          · obtain ⟨p, hp, hpk⟩ := HDN.out q (by rw [← HNL.out]; exact hlt2)
            obtain ⟨g, o, rfl, hgl, hgc⟩ := (HIX.out.below HBI.out).at_ hlt2
            rw [hp] at hgc
            have hap := HAP.out q p (by rw [← HNL.out]; exact hlt2) hp
            obtain ⟨gp, op', rfl, hpl, hpc⟩ := (HIP.out.below HQ.out.1).at_ (j := p) hpk
            rw [natI_at (by rw [HNUM.out]; exact hpk)] at hpc
            have HTK := Lib.hid (show a.take (q + 1) = a.take q ++ [pl[p]!] by
              have hqa : q < a.length := by rw [HAL.out, ← HNL.out]; exact hlt2
              rw [List.take_succ_eq_append_getElem hqa, ← hap, getElem!_pos a q hqa])
            have HROWV := Lib.hid (own_below hva ((Below.refl _ _).alloc (Nat.le_refl wi.heap.size) (.cells #[.int .i64 ((pl[p]! : Nat) : Int)] 3)))
            obtain ⟨Av, cv, hvl, hIv⟩ := own_ints hva
            have hcapv := hIv.2.1
            have hmaxv := hIv.2.2.1
            have hbase : W1.heap.size ≤ wi.heap.size := HQ.out.1.size
            subst hvl
            clear hp hap hva hIv
            generalize pl[p]! = z at hpc HTK HROWV
            go_wp2_with (at_builtin; refine wpList_append_own_at _ rfl _ _ 35 rfl W1.heap.size 3 i0 (.int .i64 0) 1 8 Tryz.underlying35 hi hz0 hz1 hz2 rfl (by decide) _ _ _ rfl HROWV.out ⟨wi.heap.size, 0, none⟩ 1 1 [.int .i64 (z : Int)] rfl rfl (one_new wi _ _) ?k2 ?k3 ?k4 ?k5 ?_)
            case k2 => simp [Value.oneCell']
            case k3 => have h1 := HX.out.len; have h2 := HAL.out; have h3 := HNL.out; have h4 := argN_le (op := op); unfold maxLen; simp only at h1; omega
            case k4 => have h1 := HX.out.len; have h2 := HAL.out; have h3 := HNL.out; have h4 := argN_le (op := op); simp only at h1; omega
            case k5 => simp; omega
            intro v6 w6 hrow6 hg6 _ hloc6
            obtain ⟨A6, c6, rfl, hc6, hc6m⟩ := own_slice hrow6
            have hb5 : Below wi.heap.size wi (wi.alloc (.cells #[.int .i64 (z : Int)] 3)) := (Below.refl _ _).alloc (Nat.le_refl _) _
            have HB6 := Lib.hid ((HQ.out.1.trans (hb5.mono HQ.out.1.size)).grown hg6 (Nat.le_trans HQ.out.1.size hb5.size) (fun y hy => own_base HVA.out y hy))
            have HROW6 := Lib.hid (show w6.ownsRow W1.heap.size 3 1 (.slice A6 (q + 1) c6) (q + 1) (iV (natI (a.take (q + 1)))) by
              rw [HTK.out, natI_snoc, iV_app]
              exact hrow6)
            clear hrow6 hg6 hloc6 hb5 hgc hpc
            go_wp2
            go_roundw
            case rel => exact ⟨q + 1, by omega, by go_num, HROW6.out, Lib.hid ⟨HB6.out, fun e => by omega⟩⟩
            case measure => simp [intOf]; omega
          · obtain rfl : q = n' := by omega
            rw [show a.take q = a from List.take_of_length_le (by rw [HAL.out, ← HNL.out]; exact Nat.le_refl _)] at hva
            obtain ⟨Av, cv, hvl, hIv⟩ := own_ints hva
            have hnil : q = 0 → Av = none ∧ cv = 0 := fun e => by
              have h1 := HQ.out.2 e
              rw [hvl] at h1
              injection h1 with e1 _ e3
              exact ⟨e1, e3⟩
            have hwr := HBN.out.size
            have hAF : ∀ b o, Av = some ⟨b, o, none⟩ → ¬ F b := fun b o e e2 => by
              have h1 := own_base hva b (by rw [hvl, e]; rfl)
              have h2 := (HSM.out.pool.lt b e2).1
              omega
            have HBW := Lib.hid (HH.out.2.2.2.trans (HBI.out.mono HH.out.2.2.2.size))
            have HND := Lib.hid (node_any (A' := A') (n' := q) (c' := c') (HSM.out.below HBI.out) HH.out.2.1 HH.out.1.pv HU.out (fun j hj => (HIU.out j hj).1) HX.out hIv hnil hAF (by have := HH.out.1.len; omega) (HM.out.below (HB1.out.trans (HBW.out.mono HB1.out.size)) (Nat.le_refl _)))
            subst hvl
            have hcapv := hIv.2.1
            have hmaxv := hIv.2.2.1
            have hX2 := (HQ.out.1.block D hDl).trans HXB.out
            obtain ⟨d0, d1, d2, d3, d4⟩ := cells5 (x := ⟨op, wid, fl, [], imm⟩) hX2
            simp only at d0 d1 d2 d3 d4
            have hD2l := lt_of_block hX2
            clear hva hIv hnil hAF hX2
            go_wp2_with fail
            refine HND.out.mono ?_
            rintro e w5 ⟨kk, o2, F5, rfl, hS5, hn5, g1, g2, g3⟩
            have HSM5 := Lib.hid (HNXT.out o2 kk hn5)
            have hownI := own_below HOWN.out HBI.out
            have hvlt := own_lt HOWN.out
            have hown5 := ownsRow_keep hownI (fun b e => g3.block b (own_lt hownI b e) (HH.out.2.2.1 b e).1)
            have hv5F : ∀ b, (Value.slice Ap k cp).ownBlock = some b → ¬ F5 b := fun b e e2 => by
              rcases g2 b e2 with e3 | e3
              · exact (HH.out.2.2.1 b e).1 e3
              · have := own_lt hownI b e
                omega
            have hSF5 : ¬ F5 S := fun e => by
              rcases g2 S e with e3 | e3
              · exact HH.out.2.1 e3
              · have h1 := lt_of_block HSM.out.blk
                have h2 := HBI.out.size
                omega
            have hb5 := HBW.out.trans (g3.below (fun b e => (HSM.out.pool.lt b e).2) HBW.out.size)
            have HB5 := Lib.hid (And.intro hb5 (And.intro hS5 (And.intro hv5F hSF5)))
            have HROWV := Lib.hid (own_below hown5 ((Below.refl _ _).alloc (Nat.le_refl w5.heap.size) (.cells #[.int .i64 (kk : Int)] 3)))
            have hbase5 : w1.heap.size ≤ w5.heap.size := hb5.size
            clear g1 g2 g3 hn5 hownI hvlt hown5 hv5F hSF5 hb5 hS5 d0 d1 d2 d3 d4 hD2l
            go_wp2_with (at_builtin; refine wpList_append_own_at _ rfl _ _ 35 rfl w1.heap.size 3 i0 (.int .i64 0) 1 8 Tryz.underlying35 hi hz0 hz1 hz2 rfl (by decide) _ _ _ rfl HROWV.out ⟨w5.heap.size, 0, none⟩ 1 1 [.int .i64 (kk : Int)] rfl rfl (one_new w5 _ _) ?j2 ?j3 ?j4 ?j5 ?_)
            case j2 => simp [Value.oneCell']
            case j3 => unfold maxLen; omega
            case j4 => omega
            case j5 => simp; omega
            intro v6 w6 hrow6 hg6 _ hloc6
            obtain ⟨A6, c6, rfl, hc6, hc6m⟩ := own_slice hrow6
            have hba : Below w5.heap.size w5 (w5.alloc (.cells #[.int .i64 (kk : Int)] 3)) := (Below.refl _ _).alloc (Nat.le_refl _) _
            have hSa := HB5.out.2.1.below hba
            have hs5 : (w5.alloc (.cells #[.int .i64 (kk : Int)] 3)).heap.size = w5.heap.size + 1 := by simp
            have HS6 := Lib.hid (show Sml w6 S w1.heap.size P M F5 o2 from ⟨(hg6.block S (lt_of_block hSa.blk) (fun e => (HH.out.2.2.1 S e.symm).2 rfl)).trans hSa.blk, hSa.pool.keep hg6.size (fun b e => hg6.block b (hSa.pool.lt b e).1 (fun e2 => HB5.out.2.2.1 b e2.symm e))⟩)
            have HF6 := Lib.hid (show ∀ b, (Value.slice A6 (k + 1) c6).ownBlock = some b → ¬ F5 b ∧ b ≠ S from fun b hb => by
              rcases hloc6 with e | e
              · rw [e] at hb
                exact ⟨HB5.out.2.2.1 b hb, (HH.out.2.2.1 b hb).2⟩
              · rw [e] at hb
                injection hb with hb
                refine ⟨fun e2 => ?_, fun e2 => ?_⟩
                · have := (HB5.out.2.1.pool.lt b e2).1
                  rw [← hb] at this
                  omega
                · have := lt_of_block HB5.out.2.1.blk
                  omega)
            have HB6 := Lib.hid ((HB5.out.1.trans (hba.mono HB5.out.1.size)).grown hg6 (Nat.le_trans HB5.out.1.size hba.size) (fun y hy => own_base HOWN.out y hy))
            have HROW6 := Lib.hid (show w6.ownsRow w1.heap.size 3 1 (.slice A6 (k + 1) c6) (k + 1) (iV (natI (pl ++ [kk]))) by
              rw [natI_snoc, iV_app]
              exact hrow6)
            clear hrow6 hg6 hloc6 hba hSa hs5
            go_wp2
            go_roundw
            case rel => exact ⟨k + 1, F5, o2, _, by omega, by go_num, HS6.out, HROW6.out, Lib.hid ⟨HSM5.out, HB5.out.2.2.2, HF6.out, HB6.out⟩⟩
            case measure => simp [intOf]; omega
      · obtain rfl : k = m := by omega
        have hSM : SimM U out pl U.length := by rw [HMU.out]; exact HH.out.1
        have HOK := Lib.hid (simOK_of hSM (by rw [HMU.out]; exact hUl.1))
        have hql := hSM.lt (U.length - 1) (by rw [HMU.out]; omega)
        rw [HMU.out] at HOK hql
        have hov := hSM.pv.val (by omega)
        have hol := hSM.pv.len
        obtain ⟨nv2, av2, hO2, hB2, -⟩ := pool_own hS.pool
        obtain ⟨Ao, co, rfl, hTo⟩ := own_term hO2
        have HFT := Lib.hid (val_fine hov (term_imm hTo))
        have HSH := Lib.hid (fun U2 (hU2 : Below wr.heap.size wr U2) => (poolShare_any (k := pl[k - 1]!) (hTo.below hU2) HFT.out hol hql).mono (R' := fun e w' => ∃ nv av, e = .returned nv ∧ OwnT w' wr.heap.size nv av (shF out pl[k - 1]!) ∧ Below wr.heap.size wr w') (fun e w' ⟨nv, av, h1, h2, _, h4⟩ => ⟨nv, av, h1, h2.mono hU2.size, hU2.trans (h4.mono hU2.size)⟩))
        have HND := Lib.hid (fun U2 (hU2 : Below wr.heap.size wr U2) => nodes_at ((hU2.block _ (lt_of_block hB2)).trans hB2))
        obtain ⟨Ap, cp, hvl, hIp⟩ := own_ints hown
        have hcapp := hIp.2.1
        have hmaxp := hIp.2.2.1
        obtain ⟨gp, op', hAp, hgl, hgc⟩ := hIp.at_ (j := k - 1) (by omega)
        rw [natI_at (by rw [HH.out.1.num]; omega)] at hgc
        subst hvl hAp
        have e9 : ((k : Nat) : Int) - 1 = ((k - 1 : Nat) : Int) := by omega
        have hk1 : k - 1 < k := by omega
        have hSl := lt_of_block hS.blk
        have HSS := Lib.hid (show ∀ U2, Below wr.heap.size wr U2 → U2.cell? ⟨S, 0, none⟩ = some (ptr P) ∧ U2.cell? ⟨gp, op' + (k - 1), none⟩ = some (.int .i64 ((pl[k - 1]! : Nat) : Int)) from fun U2 hU2 => ⟨cell_of_one ((hU2.block _ hSl).trans hS.blk), (hU2.cell (p := ⟨gp, op' + (k - 1), none⟩) hgl).trans hgc⟩)
        have HBW := Lib.hid (HB1.out.trans (HH.out.2.2.2.mono HB1.out.size))
        generalize pl[k - 1]! = z at HOK HSH HSS
        generalize k - 1 = j at e9 hk1 HSS
        have hk2 : (j : Int) < (k : Int) := by omega
        have hk3 : (0 : Int) ≤ (j : Int) := by omega
        have hw2 : IntKind.i64.wrap (j : Int) = (j : Int) := i64_nat (by omega)
        have hw1 : IntKind.i64.wrap ((k : Int) - 1) = (j : Int) := by rw [e9]; exact hw2
        have HM2 := Lib.hid HMU.out
        clear hS hown hSM hql hov hol hO2 hB2 hTo hIp hgc hSl
        go_upto_region 18 with fail
        go_region_held3 (fun U2 => U2.cell? ⟨S, 0, none⟩ = some (ptr P) ∧ U2.cell? ⟨gp, op' + j, none⟩ = some (.int .i64 (z : Int))) (first | exact HSS.out _ (Below.refl _ _) | exact HSS.out _ (drewD (Below.refl _ _)) | exact HSS.out _ hb7) (first | (go_at_call 26; refine (HND.out _ (drewD (Below.refl _ _))).mono ?_; rintro e w7 ⟨rfl, rfl⟩) | (go_at_call 25; refine (HSH.out _ (drewD (Below.refl _ _))).mono ?_; rintro e w7 ⟨nv7, av7, rfl, hO7, hb7⟩))
        have HO7 := Lib.hid (hO7.mono HBW.out.size)
        have HB7 := Lib.hid (HBW.out.trans (hb7.mono HBW.out.size))
        obtain ⟨A7, c7, rfl, -⟩ := own_term hO7
        clear hO7 hb7
        go_wp2
        go_ret2
        exact ⟨_, av7, _, rfl, HO7.out, Lib.hid ⟨fun e => absurd rfl e, fun _ => HOK.out⟩, HB7.out⟩
  · generalize valF T = V at HS hv ⊢
    have e1 : (V != 0) = true := bne_iff_ne.2 hv
    rw [if_neg hv] at HS
    have HV := Lib.hid hv
    clear h hM hv
    go_enter Tryz.func10, Tryz.ntmps10
    go_wp2_with fail
    refine HS.out.mono ?_
    rintro e w1 ⟨nv, av, rfl, hO, -, hb1⟩
    obtain ⟨Au, cu, rfl, -⟩ := own_term hO
    have HB1 := Lib.hid hb1
    clear hO hb1
    go_wp2
    go_ret2
    exact ⟨_, fun _ => undef, [], rfl, ownT_nil _ _ _, Lib.hid ⟨fun _ => rfl, fun e => absurd e HV.out⟩, HB1.out⟩
end
end
section
open Go.RowKit

theorem envU_of {T : List Nd} {env : List Nat} (hv : valF T = 0) (hi : ∀ k, k < T.length → 0 ≤ T[k]!.imm) (he : envB T env = true) : EnvU (shF T (T.length - 1)) env := by
  have h1 := (val_zero.1 hv).1
  obtain ⟨e1, e2⟩ := env_iff.1 he
  refine ⟨e1, fun k hk h33 => ?_⟩
  obtain ⟨x, hx, l, hl, -⟩ := (shF_end (down_val hv) (k := T.length - 1) (by omega)).2 k hk
  rw [hl] at h33 ⊢
  simp only at h33 ⊢
  have h4 := (nod_iff.1 ((val_zero.1 hv).2.1 x hx)).2.2.2.2.2
  have hw := (nod_iff.1 ((val_zero.1 hv).2.1 x hx)).2.2.1
  unfold immB at h4
  rw [if_neg (by omega), if_pos h33] at h4
  have h4 := of_decide_eq_true h4
  have h0 := hi x hx
  obtain ⟨v, hvv⟩ : ∃ v : Nat, T[x]!.imm = (v : Int) := ⟨T[x]!.imm.toNat, by omega⟩
  have h5 := widF_var (val_zero.1 hv).2.2.2 T.length (Nat.le_refl _) x hx h33 v hvv
  rw [hvv, Int.toNat_natCast]
  rcases e2 v (by omega) with h6 | h6
  · omega
  · rw [h5] at h6
    exact h6
theorem sim_val {T a : List Nd} {env : List Nat} (hi : ∀ k, k < T.length → 0 ≤ T[k]!.imm) (hs : valF T = 0 → SimOK (shF T (T.length - 1)) a) (h1 : errV T env = 0) (h2 : errV a env = 0) : evF T env = evF a env := by
  obtain ⟨hv, he⟩ := errV_zero h1
  have hl := (val_zero.1 hv).1
  have hok := hs hv
  rw [evF_tr h1, evF_tr h2, hok.ev env (envU_of hv hi he) (errV_zero h2).2]
  have h3 := ins_last (tr T (T.length - 1))
  have h4 := (ins_ok (tr T (T.length - 1)) [] once_nil).2.2
  have e : (shF T (T.length - 1)).length - 1 = (ins (tr T (T.length - 1)) []).1 := by unfold shF; omega
  rw [e]
  have hsv := shF_val hv (k := T.length - 1) (by omega)
  rw [show tr (shF T (T.length - 1)) (ins (tr T (T.length - 1)) []).1 = tr T (T.length - 1) from tr_has (down_val hsv.1) _ _ h4]
section
variable {w : World} {A E : Option Addr} {n c m cE : Nat} {T : List Nd} {env : List Nat}
set_option maxRecDepth 100000 in
set_option maxHeartbeats 8000000 in
/-- The walk of TermSimplifies. -/
theorem simplifies_walk (h : Term w A n c T) (hM : Masks w) (hE : Ws w E m cE env) (hu : ∀ j, j < m → env[j]! < 4294967296) : Calls Tryz.prog 4 #[.slice A n c, .slice E m cE] w fun e w' => e = .returned (.bool true) ∧ Below w.heap.size w w' := by
  have HK := Lib.hid (fun w1 (hb : Below w.heap.size w w1) => known_any (hM.below hb (Nat.le_refl _)))
  have HL := Lib.hid (long_any h)
  have HSI := Lib.hid (fun w1 (hb : Below w.heap.size w w1) => simplify_any (h.below hb) (hM.below hb (Nat.le_refl _)))
  have HSH := Lib.hid (fun w1 (hb : Below w.heap.size w w1) => refShare_any (h.below hb))
  have HEV := Lib.hid (fun w1 (hb : Below w.heap.size w w1) A3 n3 c3 (N : List Nd) (hN : Term w1 A3 n3 c3 N) => refEval_any hN (hE.below hb) hu)
  have HT := Lib.hid h
  have hEc := hE.2.1
  have hEm := hE.2.2.1
  cases hlg : longB T
  · by_cases hm : 100 < m
    · have e1 : decide (100 < (m : Int)) = true := decide_eq_true (by omega)
      rw [hlg] at HL
      clear h hM hE hu hlg hm HSI HSH HEV
      go_enter Tryz.func4, Tryz.ntmps4
      go_wp2_with fail
      refine HL.out.mono ?_
      rintro e w1 ⟨rfl, hb1⟩
      go_wp2_with fail
      refine (HK.out _ hb1).mono ?_
      rintro e w2 ⟨rfl, hb⟩
      have hb2 := hb1.trans (hb.mono hb1.size)
      go_wp2
      go_ret
      exact ⟨rfl, hb2⟩
    · have e1 : decide (100 < (m : Int)) = false := decide_eq_false (by omega)
      rw [hlg] at HL
      have HSV := Lib.hid (fun (a : List Nd) (hs : valF T = 0 → SimOK (shF T (T.length - 1)) a) => sim_val (env := env) (fun k hk => (term_imm h k hk).1) hs)
      have HSL := Lib.hid (show valF T = 0 → valF (shF T (T.length - 1)) = 0 from fun hv => (shF_val hv (k := T.length - 1) (by have := (val_zero.1 hv).1.1; omega)).1)
      clear h hM hE hu hlg hm
      go_enter Tryz.func4, Tryz.ntmps4
      go_wp2_with fail
      refine HL.out.mono ?_
      rintro e w1 ⟨rfl, hb1⟩
      go_wp2_with fail
      refine (HSI.out _ hb1).mono ?_
      rintro e w2 ⟨na, ava, a, rfl, hOa, HSO, hb⟩
      have hb2 := hb1.trans (hb.mono hb1.size)
      obtain ⟨Aa, ca, rfl, hTa⟩ := own_term hOa
      clear hOa hb
      go_wp2_with fail
      refine (HSH.out _ hb2).mono ?_
      rintro e w3 ⟨nb, avb, rfl, hOb, hb⟩
      have HB3 := Lib.hid (hb2.trans (hb.mono hb2.size))
      obtain ⟨Ab, cb, rfl, hTb⟩ := own_term hOb
      have HTA := Lib.hid (hTa.below hb)
      clear hOb hb hb1 hb2 hTa HSI HSH
      by_cases hv : valF T = 0
      · rw [if_pos hv] at hTb ⊢
        have hok := HSO.out.2 hv
        have HU := Lib.hid (HSL.out hv)
        have HSA := Lib.hid (HSV.out a HSO.out.2)
        have HTE := Lib.hid (fun w4 (hb : Below w.heap.size w w4) => HEV.out w4 hb _ _ _ _ (HT.out.below hb))
        generalize shF T (T.length - 1) = U at hTb hok HU ⊢
        rw [hv]
        have hal := (val_zero.1 hok.val).1
        have hul := (val_zero.1 HU.out).1
        have hlen := hok.len
        have hwid := hok.wid
        have HAV := Lib.hid (fun w4 (hb : Below w3.heap.size w3 w4) => refValidate_any (HTA.out.below hb))
        rw [hok.val] at HAV
        obtain ⟨ba, oa, A1, n1, c1, rfl, hba, ⟨-, x1, -, -, -⟩, -⟩ := HTA.out.at_ (j := a.length - 1) (by omega)
        obtain ⟨bb, ob, A2, n2, c2, rfl, hbb, ⟨-, y1, -, -, -⟩, -⟩ := hTb.at_ (j := U.length - 1) (by omega)
        rw [hwid] at x1
        have hcapa := HTA.out.2.1
        have hmaxa := HTA.out.2.2.1
        have hcapb := hTb.2.1
        have hmaxb := hTb.2.2.1
        have eA : ((a.length : Nat) : Int) - 1 = ((a.length - 1 : Nat) : Int) := by omega
        have eB : ((U.length : Nat) : Int) - 1 = ((U.length - 1 : Nat) : Int) := by omega
        have eC : decide ((U.length : Int) < (a.length : Int)) = false := decide_eq_false (by omega)
        have eD : decide (U.length < a.length) = false := decide_eq_false (by omega)
        have eE : ¬ U.length < a.length := by omega
        have kA : a.length - 1 < a.length := by omega
        have kB : U.length - 1 < U.length := by omega
        have HAL := Lib.hid (show a.length = a.length from rfl)
        clear hTb hok hwid hlen HSO
        generalize (U[U.length - 1]!).width = wd at x1 y1
        generalize U.length - 1 = jb at eB kB y1
        generalize a.length - 1 = ja at eA kA x1
        generalize U.length = lb at *
        have e3 : (wd != wd) = false := by simp
        have T1 := cell_regrown x1
        have T2 := cell_regrown y1
        go_upto_region 9 with fail
        refine wp_region_quiet_below (by kernel_rfl) (by kernel_rfl) ?_
        have HQ := Lib.hid (show ∀ (d : Nat) (os : Array Obj), Calls Tryz.prog 12 #[.slice (some ⟨ba, oa, none⟩) a.length ca] (Sort.grow (redrawn w3 d) os) fun e w'' => e = .returned (.int .i64 0) ∧ ∃ p : Regrown, w'' = Sort.grow (redrawn w3 p.d) p.os from fun d os => Calls.regrown_of (HAV.out _ (below_regrown w3 d os)))
        iterate 27 (go_big_quiet_step ((go_at_call 12; with_reducible exact HQ.out _ _)))
        refine wpQuiet_nil ?_
        intro _ hw'
        obtain ⟨⟨dq, osq⟩, hw''⟩ := hw'
        subst hw''
        have HB9 := Lib.hid (below_regrown w3 dq osq)
        generalize Sort.grow (redrawn w3 dq) osq = w4 at HB9 ⊢
        have HBW := Lib.hid (HB3.out.trans (HB9.out.mono HB3.out.size))
        have HTE4 := Lib.hid (HTE.out w4 HBW.out)
        clear T1 T2 HQ x1 y1
        generalize errV T env = V1 at HTE4 HSA HTE
        generalize evF T env = y1 at HTE4 HSA HTE
        go_wp2_with fail
        refine HTE4.out.mono ?_
        rintro e w5 ⟨rfl, hb⟩
        have HB5 := Lib.hid (HBW.out.trans (hb.mono HBW.out.size))
        have HAE := Lib.hid (HEV.out w5 HB5.out _ _ _ _ (HTA.out.below (HB9.out.trans (hb.mono HB9.out.size))))
        generalize errV a env = V2 at HAE HSA
        generalize evF a env = y2 at HAE HSA
        clear hb
        by_cases hv1 : V1 = 0
        · subst hv1
          go_wp2_with fail
          refine HAE.out.mono ?_
          rintro e w6 ⟨rfl, hb⟩
          have HB6 := Lib.hid (HB5.out.trans (hb.mono HB5.out.size))
          clear hb
          by_cases hv2 : V2 = 0
          · subst hv2
            obtain rfl : y1 = y2 := by first | exact HSA.out trivial rfl | exact HSA.out trivial trivial | exact HSA.out rfl rfl
            have e4 : ((y1 : Int) == (y1 : Int)) = true := beq_self_eq_true _
            go_wp2_with fail
            refine (HK.out _ HB6.out).mono ?_
            rintro e w7 ⟨rfl, hb⟩
            have hb7 := HB6.out.trans (hb.mono HB6.out.size)
            go_wp2
            go_ret
            exact ⟨rfl, hb7⟩
          · have e5 : (V2 != 0) = true := bne_iff_ne.2 hv2
            clear HSA hv2
            go_wp2_with fail
            refine (HK.out _ HB6.out).mono ?_
            rintro e w7 ⟨rfl, hb⟩
            have hb7 := HB6.out.trans (hb.mono HB6.out.size)
            go_wp2
            go_ret
            exact ⟨rfl, hb7⟩
        · have e5 : (V1 != 0) = true := bne_iff_ne.2 hv1
          clear HSA hv1
          go_wp2_with fail
          refine (HK.out _ HB5.out).mono ?_
          rintro e w6 ⟨rfl, hb⟩
          have hb6 := HB5.out.trans (hb.mono HB5.out.size)
          go_wp2
          go_ret
          exact ⟨rfl, hb6⟩
      · have hal := HSO.out.1 hv
        subst hal
        rw [if_neg hv]
        generalize valF T = V at hv ⊢
        have e2 : (V != V) = false := by simp
        have e3 : (V != 0) = true := bne_iff_ne.2 hv
        clear hv hTb HSO HSV HSL HEV
        go_wp2_with fail
        refine (HK.out _ HB3.out).mono ?_
        rintro e w4 ⟨rfl, hb⟩
        have hb4 := HB3.out.trans (hb.mono HB3.out.size)
        go_wp2
        go_ret
        exact ⟨rfl, hb4⟩
  · rw [hlg] at HL
    clear h hM hE hu hlg HSI HSH HEV
    go_enter Tryz.func4, Tryz.ntmps4
    go_wp2_with fail
    refine HL.out.mono ?_
    rintro e w1 ⟨rfl, hb1⟩
    go_wp2_with fail
    refine (HK.out _ hb1).mono ?_
    rintro e w2 ⟨rfl, hb⟩
    have hb2 := hb1.trans (hb.mono hb1.size)
    go_wp2
    go_ret
    exact ⟨rfl, hb2⟩
end
end
end Go.Proofs.YtbohigjfdnnomaaGreatDoor
