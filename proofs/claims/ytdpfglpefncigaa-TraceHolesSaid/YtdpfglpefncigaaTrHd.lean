/-
  Holes of the reference.
-/
import Derived.Test.YtdpfglpefncigaaTrHc
namespace Go.Proofs.Ytdpfglpefncigaa
open Go.RowKit

section
variable {w : World} {A : Option Addr} {n c : Nat} {zs : List Plc}
set_option maxRecDepth 100000 in
set_option maxHeartbeats 1000000 in
theorem refHoles_bad (h : Tab w A n c zs) (v f t : Int) (hX : chkF zs v f t ≠ 0) : Calls Try.prog 37 #[.slice A n c, .int .i64 v, .int .i64 f, .int .i64 t] w fun e w' => e = .returned (.tuple #[.slice none 0 0, .int .i64 (chkF zs v f t)]) ∧ Below w.heap.size w w' := by
  have HC := Lib.hid (fun w1 (hb : Below w.heap.size w w1) => refValidate_tab (h.below hb))
  by_cases hV : valF zs = 0
  · rw [hV] at HC
    cases hv : inB v 0 63
    · have hx : chkF zs v f t = 1 := chk_no hV (by rw [hv]; simp)
      rw [hx]
      have HV := Lib.hid hv
      clear hv hx hX h hV
      go_enter Try.func37, Try.ntmps37
      go_wp2_with fail
      refine (HC.out _ (Below.refl _ _)).mono ?_
      rintro e w1 ⟨rfl, hb1⟩
      go_wp2_with (go_at_call 41; ((with_reducible refine (within_at v 0 63 false _ HV.out).mono ?_); rintro e w' ⟨rfl, rfl⟩))
      refine bodyPost_ret (results_tmp2 rfl _ _ _) rfl ?_
      exact ⟨rfl, hb1⟩
    · have hr : (inB f 0 32768 && inB t 0 32768 && decide (f ≤ t)) = false := by
        cases hr : (inB f 0 32768 && inB t 0 32768 && decide (f ≤ t))
        · rfl
        · exact absurd (chk_yes hV (by rw [hv, Bool.true_and]; exact hr)) hX
      have hx : chkF zs v f t = 1 := chk_no hV (by rw [hv, Bool.true_and]; exact hr)
      rw [hx]
      have HV := Lib.hid hv
      have HR := Lib.hid hr
      clear hv hx hX h hV hr
      go_enter Try.func37, Try.ntmps37
      go_wp2_with fail
      refine (HC.out _ (Below.refl _ _)).mono ?_
      rintro e w1 ⟨rfl, hb1⟩
      go_wp2_with (first | (go_at_call 41; ((with_reducible refine (within_at v 0 63 true _ HV.out).mono ?_); rintro e w' ⟨rfl, rfl⟩)) | (go_at_call 54; ((with_reducible refine (ranged_at f t false _ HR.out).mono ?_); rintro e w' ⟨rfl, rfl⟩)))
      refine bodyPost_ret (results_tmp2 rfl _ _ _) rfl ?_
      exact ⟨rfl, hb1⟩
  · rw [chk_val hV]
    generalize valF zs = X at HC hV
    have dX : (X != 0) = true := by simp [hV]
    clear h hX hV
    go_enter Try.func37, Try.ntmps37
    go_wp2_with fail
    refine (HC.out _ (Below.refl _ _)).mono ?_
    rintro e w1 ⟨rfl, hb1⟩
    go_wp2
    refine bodyPost_ret (results_tmp2 rfl _ _ _) rfl ?_
    exact ⟨rfl, hb1⟩
set_option maxRecDepth 100000 in
set_option maxHeartbeats 4000000 in
theorem refHoles_good (h : Tab w A n c zs) (v f t : Int) (hX : chkF zs v f t = 0) : Calls Try.prog 37 #[.slice A n c, .int .i64 v, .int .i64 f, .int .i64 t] w fun e w' => ∃ V, e = .returned (.tuple #[V, .int .i64 0]) ∧ w'.ownsRow w.heap.size 57 2 V (holesL zs v f t).length (strV (holesL zs v f t)) ∧ Below w.heap.size w w' := by
  obtain ⟨i0, hi, hz0, hz1, hz2⟩ := info_parts infoSt
  obtain ⟨hval, hvb, hfb, htb, hft⟩ := chk_ok hX
  obtain ⟨h64, hok⟩ := valF_ok hval
  have HC := Lib.hid (fun w1 (hb : Below w.heap.size w w1) => hval ▸ refValidate_tab (h.below hb))
  have HF := Lib.hid (fun (x : Int) w1 (hb : Below w.heap.size w w1) => refFind_tab (h.below hb) v x h64)
  have hL : holesL zs v f t = (hoF zs v f (t - f).toNat).1 := (if_pos hX).trans (hpEnd_eq hok hft)
  rw [hL]
  have HV := Lib.hid hvb
  have HR := Lib.hid (show (inB f 0 32768 && inB t 0 32768 && decide (f ≤ t)) = true by rw [hfb, htb, decide_eq_true hft]; rfl)
  have hf2 := inB_iff.1 hfb
  have ht2 := inB_iff.1 htb
  obtain ⟨F, rfl⟩ : ∃ F : Nat, f = (F : Int) := ⟨f.toNat, by omega⟩
  obtain ⟨M, rfl⟩ : ∃ M : Nat, t = ((F + M : Nat) : Int) := ⟨(t - F).toNat, by omega⟩
  rw [show (((F + M : Nat) : Int) - (F : Int)).toNat = M by omega]
  have hFM : F + M ≤ 32768 := by omega
  clear hval hok h64 hX hL h hvb hfb htb hft hf2 ht2
  go_enter Try.func37, Try.ntmps37
  go_wp2_with fail
  refine (HC.out _ (Below.refl _ _)).mono ?_
  rintro e w1 ⟨rfl, hb1⟩
  clear HC
  go_wp2_with (first | (go_at_call 41; ((with_reducible refine (within_at v 0 63 true _ HV.out).mono ?_); rintro e w' ⟨rfl, rfl⟩)) | (go_at_call 54; ((refine (ranged_at F (F + M : Nat) true _ HR.out).mono ?_); rintro e w' ⟨rfl, rfl⟩)))
  go_loopw [11, 12, 13] (fun vl zo za wr => ∃ k : Nat, k ≤ M ∧ za = .int .i64 ((F + k : Nat) : Int) ∧ zo = .bool (hoF zs v F k).2 ∧ wr.ownsRow w.heap.size 57 2 vl (hoF zs v F k).1.length (strV (hoF zs v F k).1) ∧ Below w.heap.size w wr) (fun _ _ za _ => F + M - (intOf za).toNat)
  case atStart => exact ⟨0, by omega, rfl, rfl, World.ownsRow_nil _ _ _ _, hb1⟩
  case round =>
    clear hb1
    obtain ⟨k, hk, rfl, rfl, hown, hb⟩ := hrel
    have hlen := ho_len zs v F k
    by_cases hlt : k < M
    · have HY := Lib.hid (fun h => ho_yes (zs := zs) (v := v) (f := F) (k := k) h)
      have HO := Lib.hid (fun h1 h2 => ho_on (zs := zs) (v := v) (f := F) (k := k) h1 h2)
      have HN := Lib.hid (fun h1 h2 => ho_new (zs := zs) (v := v) (f := F) (k := k) h1 h2)
      have HFi := Lib.hid (fun w1 hb => HF.out ((F + k : Nat) : Int) w1 hb)
      rw [show ((F : Int) + (k : Int)) = ((F + k : Nat) : Int) by push_cast; rfl] at HY HO HN
      generalize (fnd zs v ((F + k : Nat) : Int)).getD zeroP = P at HFi
      generalize (fnd zs v ((F + k : Nat) : Int)).isSome = B at HFi HY HO HN
      obtain ⟨nx, hnx⟩ : ∃ nx, nx = hoF zs v F (k + 1) := ⟨_, rfl⟩
      have HNX := Lib.hid hnx
      rw [← hnx] at HY HO HN
      generalize hoF zs v F k = S at HY HO HN hown hlen ⊢
      obtain ⟨ls, oo⟩ := S
      simp only at HY HO HN hown hlen ⊢
      obtain ⟨pa, pz, pv, pk, pn⟩ := P
      clear hnx
      have HOW := Lib.hid hown
      clear hown
      cases B
      · cases oo
        · have e := HN.out rfl rfl
          subst e
          clear HY HO HN
          go_wp2_with fail
          refine (HFi.out _ hb).mono ?_
          rintro e w2 ⟨rfl, hb2⟩
          have hown := own_below HOW.out hb2
          have hb3 := hb.trans (hb2.mono hb.size)
          clear HOW hb hb2 HFi
          have hl1 := hlen.1
          go_wp2_with (at_builtin; refine wpList_append_own _ rfl _ _ 58 rfl w.heap.size 57 i0 (.agg #[.int .i64 0, .int .i64 0]) 2 16 Try.underlying58 hi hz0 hz1 hz2 rfl (by decide) _ _ _ rfl ((hown.alloc (.cells #[.int .i64 pa, .int .i64 pz, .int .i64 pv, .int .i64 pk, .int .i64 pn] 33)).alloc _) ⟨w2.heap.size + 1, 0, none⟩ 1 1 [.int .i64 ((F : Int) + (k : Int)), .int .i64 ((F : Int) + (k : Int) + 1)] rfl rfl ?c1 ?c2 ?c3 ?c4 ?c5 ?_)
          case c1 => exact news2 (by have := heap_alloc_new (w2.alloc (.cells #[.int .i64 pa, .int .i64 pz, .int .i64 pv, .int .i64 pk, .int .i64 pn] 33)) (.cells #[.int .i64 ((F : Int) + (k : Int)), .int .i64 ((F : Int) + (k : Int) + 1)] 57); simpa using this)
          case c2 => intro u hu; simp at hu; rcases hu with rfl | rfl <;> rfl
          case c3 => unfold maxLen; omega
          case c4 => omega
          case c5 => have := hb3.size; simp; omega
          intro v2 w7 hown7 hgrow _
          have hb4 : Below w.heap.size w ((w2.alloc (.cells #[.int .i64 pa, .int .i64 pz, .int .i64 pv, .int .i64 pk, .int .i64 pn] 33)).alloc (.cells #[.int .i64 ((F : Int) + (k : Int)), .int .i64 ((F : Int) + (k : Int) + 1)] 57)) := (hb3.alloc hb3.size _).alloc (by have := hb3.size; simp; omega) _
          have hb5 : Below w.heap.size w w7 := hb4.grown hgrow hb4.size (own_base ((hown.alloc (.cells #[.int .i64 pa, .int .i64 pz, .int .i64 pv, .int .i64 pk, .int .i64 pn] 33)).alloc (.cells #[.int .i64 ((F : Int) + (k : Int)), .int .i64 ((F : Int) + (k : Int) + 1)] 57)))
          have HO2 := Lib.hid (show w7.ownsRow w.heap.size 57 2 v2 (hoF zs v F (k + 1)).1.length (strV (hoF zs v F (k + 1)).1) by
            rw [← HNX.out, List.length_append, strV_append]
            exact hown7)
          clear hown hown7 hgrow hb4 hb3
          go_wp2
          go_roundw
          case rel => exact ⟨k + 1, by omega, by go_num, by rw [← HNX.out], HO2.out, hb5⟩
          case measure => simp [intOf]; omega
        · have e := HO.out rfl rfl
          subst e
          clear HY HO HN
          go_wp2_with fail
          refine (HFi.out _ hb).mono ?_
          rintro e w2 ⟨rfl, hb2⟩
          have hown := own_below HOW.out hb2
          have hb3 := hb.trans (hb2.mono hb.size)
          clear HOW hb hb2 HFi
          obtain ⟨l1, p, rfl⟩ : ∃ l1 p, ls = l1 ++ [p] := by
            rcases List.eq_nil_or_concat ls with h | ⟨l1, p, h⟩
            · rw [h] at hlen
              exact absurd (hlen.2 (by simp)) (by simp)
            · exact ⟨l1, p, by rw [h, List.concat_eq_append]⟩
          have hown' := hown
          rw [List.length_append, List.length_singleton] at hown'
          obtain ⟨g, cap, rfl⟩ := own_shape hown'
          have hs := strV_last l1 p
          have hss := strV_set l1 p (((F + k : Nat) : Int) + 1)
          rw [List.length_append, List.length_singleton, show (l1.length + 1) * 2 - 1 = l1.length * 2 + 1 by omega] at hs hss
          obtain ⟨sc, sf, sg, so⟩ := own_set (hown'.alloc (.cells #[.int .i64 pa, .int .i64 pz, .int .i64 pv, .int .i64 pk, .int .i64 pn] 33)) hs (.int .i64 (((F + k : Nat) : Int) + 1))
          rw [hss] at so
          rw [setEnd_snoc] at HNX
          have hl4 : l1.length ≤ k := by
            have := hlen.1
            rw [List.length_append, List.length_singleton] at this
            omega
          have hb5 : Below w.heap.size w ((w2.alloc (.cells #[.int .i64 pa, .int .i64 pz, .int .i64 pv, .int .i64 pk, .int .i64 pn] 33)).setCell ⟨g, l1.length * 2 + 1, none⟩ (.int .i64 (((F + k : Nat) : Int) + 1))) := (hb3.alloc hb3.size _).setCell sg _
          have hnl : (hoF zs v F (k + 1)).1 = l1 ++ [(p.1, ((F + k : Nat) : Int) + 1)] := by rw [← HNX.out]
          have hnn : l1.length + 1 = (hoF zs v F (k + 1)).1.length := by rw [hnl, List.length_append, List.length_singleton]
          rw [← hnl] at so
          have so2 := hnn ▸ so
          have HSO := Lib.hid so2
          clear so2 hnl
          have HNN := Lib.hid hnn
          clear hnn
          rw [show ((F + k : Nat) : Int) + 1 = (F : Int) + (k : Int) + 1 by push_cast; rfl] at HSO hb5
          clear hown hown' hs hss so hlen
          generalize l1.length = q at sc sf HSO hb5 hl4 HNN ⊢
          go_wp2
          go_roundw
          case rel => exact ⟨k + 1, by omega, by go_num, by rw [← HNX.out], by rw [← HNN.out]; rw [← HNN.out] at HSO; exact HSO.out, hb5⟩
          case measure => simp [intOf]; omega
      · have e := HY.out rfl
        subst e
        clear HY HO HN
        go_wp2_with fail
        refine (HFi.out _ hb).mono ?_
        rintro e w2 ⟨rfl, hb2⟩
        have hb3 := hb.trans (hb2.mono hb.size)
        have HO2 := Lib.hid ((own_below HOW.out hb2).alloc (.cells #[.int .i64 pa, .int .i64 pz, .int .i64 pv, .int .i64 pk, .int .i64 pn] 33))
        clear HOW hb hb2 HFi
        cases oo
        · go_wp2
          go_roundw
          case rel => exact ⟨k + 1, by omega, by go_num, by rw [← HNX.out], by rw [← HNX.out]; exact HO2.out, hb3.alloc hb3.size _⟩
          case measure => simp [intOf]; omega
        · go_wp2
          go_roundw
          case rel => exact ⟨k + 1, by omega, by go_num, by rw [← HNX.out], by rw [← HNX.out]; exact HO2.out, hb3.alloc hb3.size _⟩
          case measure => simp [intOf]; omega
    · obtain rfl : k = M := by omega
      have HOW := Lib.hid hown
      clear hown
      go_wp2
      refine bodyPost_ret (results_tmp2 rfl _ _ _) rfl ?_
      exact ⟨_, rfl, HOW.out, hb⟩
end
end Go.Proofs.Ytdpfglpefncigaa
