/-
  Cut of package trace.
-/
import Derived.Test.YtdpfglpefncigaaTrCc
import Derived.Test.YtdpfglpefncigaaTrCd
namespace Go.Proofs.Ytdpfglpefncigaa
open Go.RowKit

/-- What Cut answers. -/
def cutT (zs : List Plc) (f t : Int) : List Plc := if chkF zs 0 f t = 0 then srt (cutL zs f t) else []
section
variable {w : World} {A : Option Addr} {n c : Nat} {zs : List Plc}
set_option maxRecDepth 100000 in
set_option maxHeartbeats 4000000 in
theorem cut_tab (h : Tab w A n c zs) (f t : Int) : Calls Try.prog 30 #[.slice A n c, .int .i64 f, .int .i64 t] w fun e w' => ∃ V, e = .returned (.tuple #[V, .int .i64 (chkF zs 0 f t)]) ∧ w'.ownsRow w.heap.size 33 5 V (cutT zs f t).length (placesV (cutT zs f t)) ∧ Below w.heap.size w w' := by
  obtain ⟨i0, hi, hz0, hz1, hz2⟩ := info_parts infoPl
  have HC := Lib.hid (fun w1 (hb : Below w.heap.size w w1) => check_tab (h.below hb) 0 f t)
  have HT := Lib.hid h
  by_cases hX : chkF zs 0 f t = 0
  · have hv := (chk_ok hX).1
    have hn : n = zs.length := h.shape
    have h64 := (valF_ok hv).1
    rw [hX] at HC
    rw [hX, show cutT zs f t = srt (cutL zs f t) from if_pos hX]
    have HNN := Lib.hid hn
    have n64 : n ≤ 64 := by omega
    clear hv hn h64 h hX
    go_enter Try.func30, Try.ntmps30
    go_wp2_with fail
    refine (HC.out _ (Below.refl _ _)).mono ?_
    rintro e w1 ⟨rfl, hb1⟩
    clear HC
    go_wp2
    go_loopw [9, 21] (fun vl zi wr => ∃ i : Nat, i ≤ n ∧ zi = .int .i64 (i : Int) ∧ wr.ownsRow w.heap.size 33 5 vl (cutU zs f t i).length (placesV (cutU zs f t i)) ∧ Below w.heap.size w wr) (fun _ zi _ => n - (intOf zi).toNat)
    case atStart => exact ⟨0, by omega, rfl, World.ownsRow_nil _ _ _ _, hb1⟩
    case round =>
      clear hb1
      obtain ⟨i, hi', rfl, hown, hb⟩ := hrel
      have hlen := cutU_len zs f t i
      by_cases hlt : i < n
      · have hilt : i < zs.length := by have := HNN.out; omega
        rcases HT.out.parts with ⟨h0, -⟩ | ⟨-, hnc, hcm, bb, oo, rfl, hL⟩
        · omega
        have ht := (hL.below hb).at_ hilt
        have HUS := Lib.hid (cutU_succ (f := f) (t := t) hilt)
        generalize zs[i]! = p at ht HUS
        obtain ⟨P, Z, V, K, N⟩ := p
        clear hL
        obtain ⟨c0, c1, c2, c3, c4⟩ := ht
        simp only at c0 c1 c2 c3 c4
        have hb4 : Below w.heap.size w (wr.alloc (.cells #[.int .i64 (max P f), .int .i64 (min Z t), .int .i64 V, .int .i64 K, .int .i64 N] 33)) := hb.alloc hb.size _
        have hown4 := hown.alloc (.cells #[.int .i64 (max P f), .int .i64 (min Z t), .int .i64 V, .int .i64 K, .int .i64 N] 33)
        by_cases hs : max P f < min Z t
        · have HU := Lib.hid (show cutU zs f t (i + 1) = cutU zs f t i ++ [⟨max P f, min Z t, V, K, N⟩] by rw [HUS.out, if_pos (show someP (cutP f t ⟨P, Z, V, K, N⟩) = true from decide_eq_true hs)]; rfl)
          have ds : decide (max P f < min Z t) = true := decide_eq_true hs
          clear HUS
          go_wp2_with (at_builtin; refine wpList_append_own _ rfl _ _ 22 rfl w.heap.size 33 i0 (.agg #[.int .i64 0, .int .i64 0, .int .i64 0, .int .i64 0, .int .i64 0]) 5 40 Try.underlying22 hi hz0 hz1 hz2 rfl (by decide) _ _ _ rfl (hown4.alloc _) ⟨wr.heap.size + 1, 0, none⟩ 1 1 [.int .i64 (max P f), .int .i64 (min Z t), .int .i64 V, .int .i64 K, .int .i64 N] rfl rfl ?c1 ?c2 ?c3 ?c4 ?c5 ?_)
          case c1 => exact news5 (by have := heap_alloc_new (wr.alloc (.cells #[.int .i64 (max P f), .int .i64 (min Z t), .int .i64 V, .int .i64 K, .int .i64 N] 33)) (.cells #[.int .i64 (max P f), .int .i64 (min Z t), .int .i64 V, .int .i64 K, .int .i64 N] 33); simpa using this)
          case c2 => intro u hu; simp at hu; rcases hu with rfl | rfl | rfl | rfl | rfl <;> rfl
          case c3 => unfold maxLen; omega
          case c4 => omega
          case c5 => have := hb.size; simp; omega
          intro v2' w7 hown7 hgrow _
          have hb5 : Below w.heap.size w w7 := (hb4.alloc hb4.size _).grown hgrow (by have := hb4.size; simp at this ⊢; omega) (own_base (hown4.alloc (.cells #[.int .i64 (max P f), .int .i64 (min Z t), .int .i64 V, .int .i64 K, .int .i64 N] 33)))
          have HO2 := Lib.hid (show w7.ownsRow w.heap.size 33 5 v2' (cutU zs f t (i + 1)).length (placesV (cutU zs f t (i + 1))) by
            rw [HU.out, placesV_append, List.length_append]
            exact hown7)
          clear hown hown4 hown7 hgrow hb4 hb HU c0 c1 c2 c3 c4
          go_wp2
          go_roundw
          case rel => exact ⟨i + 1, by omega, by go_num, HO2.out, hb5⟩
          case measure => simp [intOf]; omega
        · have HU := Lib.hid (show cutU zs f t (i + 1) = cutU zs f t i by rw [HUS.out, if_neg (by rw [show someP (cutP f t ⟨P, Z, V, K, N⟩) = false from decide_eq_false hs]; simp)])
          have ds : decide (max P f < min Z t) = false := decide_eq_false hs
          have HO2 := Lib.hid hown4
          clear HUS hown hown4 hs
          go_wp2
          go_roundw
          case rel => exact ⟨i + 1, by omega, by go_num, by rw [HU.out]; exact HO2.out, hb4⟩
          case measure => simp [intOf]; omega
      · obtain rfl : i = n := by omega
        have hown' : wr.ownsRow w.heap.size 33 5 u9 (cutL zs f t).length (placesV (cutL zs f t)) := by
          unfold cutL
          rw [← HNN.out]
          exact hown
        have HSO := Lib.hid (sort_own hown' (by have h2 := cutU_len zs f t zs.length; unfold cutL; have := HNN.out; omega))
        clear hown hown'
        go_wp2_with fail
        refine HSO.out.mono ?_
        rintro e w2 ⟨rfl, ho, hk⟩
        have hb2 := hk w _ hb (Nat.le_refl _) (Nat.le_refl _)
        have HO := Lib.hid (show w2.ownsRow w.heap.size 33 5 u9 (srt (cutL zs f t)).length (placesV (srt (cutL zs f t))) by rw [(srt_perm _).length_eq]; exact ho)
        clear ho hk hb
        go_wp2
        refine bodyPost_ret (results_tmp2 rfl _ _ _) rfl ?_
        exact ⟨_, rfl, HO.out, hb2⟩
  · rw [show cutT zs f t = [] from if_neg hX]
    generalize chkF zs 0 f t = X at HC hX
    have dX : (X != 0) = true := by simp [hX]
    clear h HT hX
    go_enter Try.func30, Try.ntmps30
    go_wp2_with fail
    refine (HC.out _ (Below.refl _ _)).mono ?_
    rintro e w1 ⟨rfl, hb1⟩
    go_wp2
    refine bodyPost_ret (results_tmp2 rfl _ _ _) rfl ?_
    exact ⟨_, rfl, World.ownsRow_nil _ _ _ _, hb1⟩
theorem refSorted_tab (h : Tab w A n c zs) (hl : zs.length ≤ 1000) : Calls Try.prog 55 #[.slice A n c] w fun e w' => ∃ v, e = .returned v ∧ w'.ownsRow w.heap.size 33 5 v (srt zs).length (placesV (srt zs)) ∧ Below w.heap.size w w' := by
  rcases h.parts with ⟨rfl, rfl⟩ | ⟨hn, hnc, hcm, b, off, rfl, hL⟩
  · refine (refSorted_empty A c w).mono ?_
    rintro e w' ⟨rfl, hb⟩
    rw [show srt [] = [] by simp [srt]]
    exact ⟨_, rfl, World.ownsRow_nil _ _ _ _, hb⟩
  · exact refSorted_any b off n c zs w hL hn (by omega)
theorem own_lower {w : World} {base base2 e size k : Nat} {v : Value} {xs : List Value} (h : w.ownsRow base e size v k xs) (hb : base2 ≤ base) : w.ownsRow base2 e size v k xs := by
  refine ⟨h.1, ?_⟩
  rcases h.2 with h2 | ⟨g, cap, cur, h1, h2, h3⟩
  · exact .inl h2
  · exact .inr ⟨g, cap, cur, h1, by omega, h3⟩
set_option maxRecDepth 100000 in
set_option maxHeartbeats 4000000 in
theorem refCut_tab (h : Tab w A n c zs) (f t : Int) : Calls Try.prog 31 #[.slice A n c, .int .i64 f, .int .i64 t] w fun e w' => ∃ V, e = .returned (.tuple #[V, .int .i64 (chkF zs 0 f t)]) ∧ w'.ownsRow w.heap.size 33 5 V (cutT zs f t).length (placesV (cutT zs f t)) ∧ Below w.heap.size w w' := by
  obtain ⟨i0, hi, hz0, hz1, hz2⟩ := info_parts infoPl
  have HC := Lib.hid (fun w1 (hb : Below w.heap.size w w1) => refValidate_tab (h.below hb))
  have HT := Lib.hid h
  by_cases hX : chkF zs 0 f t = 0
  · obtain ⟨hv, -, hfb, htb, hft⟩ := chk_ok hX
    have HRG := Lib.hid (show (inB f 0 32768 && inB t 0 32768 && decide (f ≤ t)) = true by rw [hfb, htb, decide_eq_true hft]; rfl)
    have hn : n = zs.length := h.shape
    have h64 := (valF_ok hv).1
    rw [hv] at HC
    rw [hX, show cutT zs f t = srt (cutL zs f t) from if_pos hX]
    have HNN := Lib.hid hn
    have n64 : n ≤ 64 := by omega
    clear hv hn h64 h hX hfb htb hft
    go_enter Try.func31, Try.ntmps31
    go_wp2_with fail
    refine (HC.out _ (Below.refl _ _)).mono ?_
    rintro e w1 ⟨rfl, hb1⟩
    clear HC
    go_wp2_with (go_at_call 54; ((with_reducible refine (ranged_at f t true _ HRG.out).mono ?_); rintro e w' ⟨rfl, rfl⟩))
    go_loopw [9, 10] (fun vl zi wr => ∃ i : Nat, i ≤ n ∧ zi = .int .i64 (i : Int) ∧ wr.ownsRow w.heap.size 33 5 vl (cutU zs f t i).length (placesV (cutU zs f t i)) ∧ Below w.heap.size w wr) (fun _ zi _ => n - (intOf zi).toNat)
    case atStart => exact ⟨0, by omega, rfl, World.ownsRow_nil _ _ _ _, hb1⟩
    case round =>
      clear hb1
      obtain ⟨i, hi', rfl, hown, hb⟩ := hrel
      have hlen := cutU_len zs f t i
      by_cases hlt : i < n
      · have hilt : i < zs.length := by have := HNN.out; omega
        rcases HT.out.parts with ⟨h0, -⟩ | ⟨-, hnc, hcm, bb, oo, rfl, hL⟩
        · omega
        have ht := (hL.below hb).at_ hilt
        have HUS := Lib.hid (cutU_succ (f := f) (t := t) hilt)
        generalize zs[i]! = p at ht HUS
        obtain ⟨P, Z, V, K, N⟩ := p
        clear hL
        obtain ⟨c0, c1, c2, c3, c4⟩ := ht
        simp only at c0 c1 c2 c3 c4
        have hb4 : Below w.heap.size w (wr.alloc (.cells #[.int .i64 (max P f), .int .i64 (min Z t), .int .i64 V, .int .i64 K, .int .i64 N] 33)) := hb.alloc hb.size _
        have hown4 := hown.alloc (.cells #[.int .i64 (max P f), .int .i64 (min Z t), .int .i64 V, .int .i64 K, .int .i64 N] 33)
        by_cases hs : max P f < min Z t
        · have HU := Lib.hid (show cutU zs f t (i + 1) = cutU zs f t i ++ [⟨max P f, min Z t, V, K, N⟩] by rw [HUS.out, if_pos (show someP (cutP f t ⟨P, Z, V, K, N⟩) = true from decide_eq_true hs)]; rfl)
          have ds : decide (max P f < min Z t) = true := decide_eq_true hs
          clear HUS
          go_wp2_with (at_builtin; refine wpList_append_own _ rfl _ _ 22 rfl w.heap.size 33 i0 (.agg #[.int .i64 0, .int .i64 0, .int .i64 0, .int .i64 0, .int .i64 0]) 5 40 Try.underlying22 hi hz0 hz1 hz2 rfl (by decide) _ _ _ rfl (hown4.alloc _) ⟨wr.heap.size + 1, 0, none⟩ 1 1 [.int .i64 (max P f), .int .i64 (min Z t), .int .i64 V, .int .i64 K, .int .i64 N] rfl rfl ?c1 ?c2 ?c3 ?c4 ?c5 ?_)
          case c1 => exact news5 (by have := heap_alloc_new (wr.alloc (.cells #[.int .i64 (max P f), .int .i64 (min Z t), .int .i64 V, .int .i64 K, .int .i64 N] 33)) (.cells #[.int .i64 (max P f), .int .i64 (min Z t), .int .i64 V, .int .i64 K, .int .i64 N] 33); simpa using this)
          case c2 => intro u hu; simp at hu; rcases hu with rfl | rfl | rfl | rfl | rfl <;> rfl
          case c3 => unfold maxLen; omega
          case c4 => omega
          case c5 => have := hb.size; simp; omega
          intro v2' w7 hown7 hgrow _
          have hb5 : Below w.heap.size w w7 := (hb4.alloc hb4.size _).grown hgrow (by have := hb4.size; simp at this ⊢; omega) (own_base (hown4.alloc (.cells #[.int .i64 (max P f), .int .i64 (min Z t), .int .i64 V, .int .i64 K, .int .i64 N] 33)))
          have HO2 := Lib.hid (show w7.ownsRow w.heap.size 33 5 v2' (cutU zs f t (i + 1)).length (placesV (cutU zs f t (i + 1))) by
            rw [HU.out, placesV_append, List.length_append]
            exact hown7)
          clear hown hown4 hown7 hgrow hb4 hb HU c0 c1 c2 c3 c4
          go_wp2
          go_roundw
          case rel => exact ⟨i + 1, by omega, by go_num, HO2.out, hb5⟩
          case measure => simp [intOf]; omega
        · have HU := Lib.hid (show cutU zs f t (i + 1) = cutU zs f t i by rw [HUS.out, if_neg (by rw [show someP (cutP f t ⟨P, Z, V, K, N⟩) = false from decide_eq_false hs]; simp)])
          have ds : decide (max P f < min Z t) = false := decide_eq_false hs
          have HO2 := Lib.hid hown4
          clear HUS hown hown4 hs
          go_wp2
          go_roundw
          case rel => exact ⟨i + 1, by omega, by go_num, by rw [HU.out]; exact HO2.out, hb4⟩
          case measure => simp [intOf]; omega
      · obtain rfl : i = n := by omega
        have hown' : wr.ownsRow w.heap.size 33 5 u9 (cutL zs f t).length (placesV (cutL zs f t)) := by
          unfold cutL
          rw [← HNN.out]
          exact hown
        obtain ⟨A', c', rfl, hT⟩ := tab_own hown'
        have HSO := Lib.hid (refSorted_tab hT (by have h2 := cutU_len zs f t zs.length; unfold cutL; have := HNN.out; omega))
        have hq : (cutU zs f t i).length = (cutL zs f t).length := by unfold cutL; rw [← HNN.out]
        clear hown hown' hT
        go_wp2_with fail
        refine HSO.out.mono ?_
        rintro e w2 ⟨v2, rfl, ho, hb2⟩
        have hb3 := hb.trans (hb2.mono hb.size)
        have HO := Lib.hid (own_lower ho hb.size)
        clear ho hb hb2
        go_wp2
        refine bodyPost_ret (results_tmp2 rfl _ _ _) rfl ?_
        exact ⟨_, rfl, HO.out, hb3⟩
  · rw [show cutT zs f t = [] from if_neg hX]
    by_cases hV : valF zs = 0
    · have hr : (inB f 0 32768 && inB t 0 32768 && decide (f ≤ t)) = false := by
        cases hr : (inB f 0 32768 && inB t 0 32768 && decide (f ≤ t))
        · rfl
        · exact absurd (chk_yes hV (by rw [show inB 0 0 63 = true from rfl, Bool.true_and]; exact hr)) hX
      have hx : chkF zs 0 f t = 1 := chk_no hV (by rw [show inB 0 0 63 = true from rfl, Bool.true_and]; exact hr)
      rw [hx]
      rw [hV] at HC
      have HRG := Lib.hid hr
      clear h HT hX hV hx hr
      go_enter Try.func31, Try.ntmps31
      go_wp2_with fail
      refine (HC.out _ (Below.refl _ _)).mono ?_
      rintro e w1 ⟨rfl, hb1⟩
      go_wp2_with (go_at_call 54; ((with_reducible refine (ranged_at f t false _ HRG.out).mono ?_); rintro e w' ⟨rfl, rfl⟩))
      refine bodyPost_ret (results_tmp2 rfl _ _ _) rfl ?_
      exact ⟨_, rfl, World.ownsRow_nil _ _ _ _, hb1⟩
    · rw [chk_val hV]
      generalize valF zs = X at HC hV
      have dX : (X != 0) = true := by simp [hV]
      clear h HT hX hV
      go_enter Try.func31, Try.ntmps31
      go_wp2_with fail
      refine (HC.out _ (Below.refl _ _)).mono ?_
      rintro e w1 ⟨rfl, hb1⟩
      go_wp2
      refine bodyPost_ret (results_tmp2 rfl _ _ _) rfl ?_
      exact ⟨_, rfl, World.ownsRow_nil _ _ _ _, hb1⟩
end
end Go.Proofs.Ytdpfglpefncigaa
