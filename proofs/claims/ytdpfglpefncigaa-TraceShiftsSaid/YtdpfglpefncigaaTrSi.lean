/-
  Shift of the reference; the law of Shift.
-/
import Derived.Test.YtdpfglpefncigaaTrSh
namespace Go.Proofs.Ytdpfglpefncigaa
open Go.RowKit

section
variable {w : World} {A : Option Addr} {n c : Nat} {zs : List Plc}
set_option maxRecDepth 100000 in
set_option maxHeartbeats 4000000 in
theorem refShift_tab (h : Tab w A n c zs) (t : Int) : Calls Try.prog 33 #[.slice A n c, .int .i64 t] w fun e w' => ∃ A' n' c', e = .returned (.tuple #[.slice A' n' c', .int .i64 (shX zs t)]) ∧ Tab w' A' n' c' (shT zs t) ∧ Below w.heap.size w w' := by
  obtain ⟨i0, hi, hz0, hz1, hz2⟩ := info_parts infoPl
  have HC := Lib.hid (fun w1 (hb : Below w.heap.size w w1) => refValidate_tab (h.below hb))
  have HT := Lib.hid h
  by_cases hv : valF zs = 0
  · obtain ⟨h64, hok⟩ := valF_ok hv
    have hn : n = zs.length := h.shape
    rw [hv] at HC
    have HN := Lib.hid (fun i (hi : i < zs.length) (h : shOk t zs[i]! = false) => (show shX zs t = 1 ∧ shT zs t = [] by
      have := shAll_no hi h
      unfold shX shT
      rw [if_pos hv, this]
      simp))
    have HY := Lib.hid (fun (h : ∀ j, j < zs.length → shOk t zs[j]! = true) => (show shX zs t = 0 ∧ shT zs t = shUp zs t zs.length by
      have := shAll_yes h
      unfold shX shT
      rw [if_pos hv, this]
      simp [hv]))
    generalize shX zs t = X at HN HY ⊢
    generalize shT zs t = T at HN HY ⊢
    have HOK := Lib.hid hok
    have HNN := Lib.hid hn
    have n64 : n ≤ 64 := by omega
    clear hv hok hn h64 h
    go_enter Try.func33, Try.ntmps33
    go_wp2_with fail
    refine (HC.out _ (Below.refl _ _)).mono ?_
    rintro e w1 ⟨rfl, hb1⟩
    clear HC
    go_wp2
    go_loopw [7, 8] (fun vl zi wr => ∃ i : Nat, i ≤ n ∧ zi = .int .i64 (i : Int) ∧ wr.ownsRow w.heap.size 33 5 vl i (placesV (shUp zs t i)) ∧ Below w.heap.size w wr ∧ Hid (∀ j, j < i → shOk t zs[j]! = true)) (fun _ zi _ => n - (intOf zi).toNat)
    case atStart => exact ⟨0, by omega, rfl, World.ownsRow_nil _ _ _ _, hb1, Lib.hid (fun j hj => absurd hj (by omega))⟩
    case round =>
      clear hb1
      obtain ⟨i, hi', rfl, hown, hb, HJ⟩ := hrel
      by_cases hlt : i < n
      · have hilt : i < zs.length := by have := HNN.out; omega
        rcases HT.out.parts with ⟨h0, -⟩ | ⟨-, hnc, hcm, bb, oo, rfl, hL⟩
        · omega
        have ht := (hL.below hb).at_ hilt
        obtain ⟨P, Z, V, K, N, hp, hAZ, hZ, hV, hK, hN⟩ := place_nums (okAt_place (okAll_at HOK.out hilt))
        have HNi := Lib.hid (HN.out i hilt)
        have HUS := Lib.hid (shUp_succ zs t i)
        have HJ2 := Lib.hid (show shOk t zs[i]! = true → ∀ j, j < i + 1 → shOk t zs[j]! = true from fun h j hj => by
          by_cases hji : j = i
          · rw [hji]; exact h
          · exact HJ.out j (by omega))
        rw [hp] at ht HNi HUS HJ2
        clear hp hL HJ
        obtain ⟨c0, c1, c2, c3, c4⟩ := ht
        simp only at c0 c1 c2 c3 c4
        cases hB : inB t (-(P : Int)) (32768 - (Z : Int))
        · obtain ⟨hX, hT⟩ := HNi.out hB
          subst hX hT
          have HB := Lib.hid hB
          clear HJ2 HNi hown HUS hB
          go_wp2_with (first | (go_at_call 41; ((with_reducible refine (within_at t (-(P : Int)) (32768 - (Z : Int)) false _ HB.out).mono ?_); rintro e w' ⟨rfl, rfl⟩)))
          refine bodyPost_ret (results_tmp2 rfl _ _ _) rfl ?_
          exact ⟨none, 0, 0, rfl, tab_nil _, hb.alloc hb.size _⟩
        · have HJ3 := Lib.hid (HJ2.out hB)
          have htb := inB_iff.1 hB
          have HB := Lib.hid hB
          clear HJ2 HNi hB
          go_wp2_with (first | (go_at_call 41; ((with_reducible refine (within_at t (-(P : Int)) (32768 - (Z : Int)) true _ HB.out).mono ?_); rintro e w' ⟨rfl, rfl⟩)) | (at_builtin; refine wpList_append_own _ rfl _ _ 22 rfl w.heap.size 33 i0 (.agg #[.int .i64 0, .int .i64 0, .int .i64 0, .int .i64 0, .int .i64 0]) 5 40 Try.underlying22 hi hz0 hz1 hz2 rfl (by decide) _ i _ rfl ((hown.alloc (.cells #[.int .i64 ((P : Int) + t), .int .i64 ((Z : Int) + t), .int .i64 (V : Int), .int .i64 (K : Int), .int .i64 (N : Int)] 33)).alloc _) ⟨wr.heap.size + 1, 0, none⟩ 1 1 [.int .i64 ((P : Int) + t), .int .i64 ((Z : Int) + t), .int .i64 (V : Int), .int .i64 (K : Int), .int .i64 (N : Int)] rfl rfl ?c1 ?c2 ?c3 ?c4 ?c5 ?_))
          case c1 => exact news5 (by have := heap_alloc_new (wr.alloc (.cells #[.int .i64 ((P : Int) + t), .int .i64 ((Z : Int) + t), .int .i64 (V : Int), .int .i64 (K : Int), .int .i64 (N : Int)] 33)) (.cells #[.int .i64 ((P : Int) + t), .int .i64 ((Z : Int) + t), .int .i64 (V : Int), .int .i64 (K : Int), .int .i64 (N : Int)] 33); simpa using this)
          case c2 => intro u hu; simp at hu; rcases hu with rfl | rfl | rfl | rfl | rfl <;> rfl
          case c3 => unfold maxLen; omega
          case c4 => omega
          case c5 => have := hb.size; simp; omega
          intro v2' w7 hown7 hgrow _
          have hb4 : Below w.heap.size w ((wr.alloc (.cells #[.int .i64 ((P : Int) + t), .int .i64 ((Z : Int) + t), .int .i64 (V : Int), .int .i64 (K : Int), .int .i64 (N : Int)] 33)).alloc (.cells #[.int .i64 ((P : Int) + t), .int .i64 ((Z : Int) + t), .int .i64 (V : Int), .int .i64 (K : Int), .int .i64 (N : Int)] 33)) := (hb.alloc hb.size _).alloc (by have := hb.size; simp; omega) _
          have hb5 : Below w.heap.size w w7 := hb4.grown hgrow hb4.size (own_base ((hown.alloc (.cells #[.int .i64 ((P : Int) + t), .int .i64 ((Z : Int) + t), .int .i64 (V : Int), .int .i64 (K : Int), .int .i64 (N : Int)] 33)).alloc (.cells #[.int .i64 ((P : Int) + t), .int .i64 ((Z : Int) + t), .int .i64 (V : Int), .int .i64 (K : Int), .int .i64 (N : Int)] 33)))
          have HO2 := Lib.hid (show w7.ownsRow w.heap.size 33 5 v2' (i + 1) (placesV (shUp zs t (i + 1))) by
            rw [HUS.out, placesV_append]
            exact hown7)
          clear hown hown7 hgrow hb4 hb HUS c0 c1 c2 c3 c4
          go_wp2
          go_roundw
          case rel => exact ⟨i + 1, by omega, by go_num, HO2.out, hb5, HJ3⟩
          case measure => simp [intOf]; omega
      · obtain rfl : i = n := by omega
        obtain ⟨hX, hT⟩ := HY.out (fun j hj => HJ.out j (by have := HNN.out; omega))
        subst hX hT
        have hown' : wr.ownsRow w.heap.size 33 5 u7 (shUp zs t zs.length).length (placesV (shUp zs t zs.length)) := by
          rw [shUp_length, ← HNN.out]
          exact hown
        obtain ⟨A', c', rfl, hT⟩ := tab_own hown'
        have HTT := Lib.hid hT
        clear hT hown hown'
        go_wp2
        refine bodyPost_ret (results_tmp2 rfl _ _ _) rfl ?_
        exact ⟨A', _, c', rfl, HTT.out, hb⟩
  · have hX : shX zs t = valF zs := if_neg hv
    have hT : shT zs t = [] := if_neg (fun h => hv h.1)
    rw [hX, hT]
    generalize valF zs = X at HC hv
    have dX : (X != 0) = true := by simp [hv]
    clear hX hT h HT
    go_enter Try.func33, Try.ntmps33
    go_wp2_with fail
    refine (HC.out _ (Below.refl _ _)).mono ?_
    rintro e w1 ⟨rfl, hb1⟩
    go_wp2
    refine bodyPost_ret (results_tmp2 rfl _ _ _) rfl ?_
    exact ⟨none, 0, 0, rfl, tab_nil _, hb1⟩
end
theorem shT_len (zs : List Plc) (t : Int) : (shT zs t).length ≤ 64 := by
  unfold shT
  split
  · rename_i h
    rw [shUp_length]
    exact (valF_ok h.1).1
  · simp
set_option maxRecDepth 100000 in
set_option maxHeartbeats 1000000 in
theorem shifts_walk {w : World} {A : Option Addr} {n c : Nat} {zs : List Plc} (h : Tab w A n c zs) {t : Int} (ht : (Lit.int .i64 t).wf = true) :
    Calls Try.prog 10 #[.slice A n c, .int .i64 t] w fun e w' => e = .returned (.bool true) ∧ Below w.heap.size w w' := by
  by_cases hn : 100 < n
  · clear h
    have HN := Lib.hid hn
    clear hn
    go_enter Try.func10, Try.ntmps10
    go_wp2_with (first | (go_at_call 14; ((with_reducible refine (long_yes _ _ _ _ HN.out).mono ?_); rintro e w' ⟨rfl, rfl⟩)) | (go_at_call 15; ((with_reducible refine (known_any _).mono ?_); rintro e w' ⟨rfl, hb⟩)))
    go_ret
    exact ⟨rfl, hb⟩
  · have HF := Lib.hid (fun w1 (hb : Below w.heap.size w w1) => shift_tab (h.below hb) t)
    have HR := Lib.hid (fun w1 (hb : Below w.heap.size w w1) => refShift_tab (h.below hb) t)
    have HT := Lib.hid h
    have HN := Lib.hid hn
    have HL := Lib.hid (show zs.length ≤ 1000 by have := h.shape; omega)
    have HL2 := Lib.hid (show (shT zs t).length ≤ 1000 by have := shT_len zs t; omega)
    by_cases hX : shX zs t = 0
    · obtain ⟨hx2, ht2⟩ := sh_back hX
      have HB := Lib.hid (fun w1 A1 n1 c1 (h1 : Tab w1 A1 n1 c1 (shT zs t)) => ht2 ▸ hx2 ▸ shift_tab h1 (wrap64 (-t)))
      rw [hX] at HF HR
      generalize shT zs t = T at HF HR HL2 HB
      clear hx2 ht2 hX hn h
      go_enter Try.func10, Try.ntmps10
      go_wp2_with (first | (go_at_call 14; ((with_reducible refine (long_no _ _ _ _ HN.out).mono ?_); rintro e w' ⟨rfl, rfl⟩)))
      refine (HF.out _ (Below.refl _ _)).mono ?_
      rintro e w1 ⟨A1, n1, c1, rfl, h1, hb1⟩
      have H1 := Lib.hid h1
      clear h1
      go_wp2_with fail
      refine (HR.out _ hb1).mono ?_
      rintro e w2 ⟨A2, n2, c2, rfl, h2, hb2⟩
      have H2 := Lib.hid h2
      have H1' := Lib.hid (H1.out.below hb2)
      have hc2 := hb1.trans (hb2.mono hb1.size)
      clear h2 hb1 hb2 H1
      go_wp2_with fail
      refine (same_any H1'.out H2.out HL2.out).mono ?_
      rintro e w3 ⟨rfl, hb3⟩
      have hT : decide (T = T) = true := decide_eq_true rfl
      rw [hT]
      have H3 := Lib.hid (H1'.out.below hb3)
      have hc3 := hc2.trans (hb3.mono hc2.size)
      clear hT hb3 hc2 H1' H2
      go_wp2_with fail
      refine (HB.out _ _ _ _ H3.out).mono ?_
      rintro e w4 ⟨A4, n4, c4, rfl, h4, hb4⟩
      have H4 := Lib.hid h4
      have hc4 := hc3.trans (hb4.mono hc3.size)
      clear h4 hb4 hc3 H3 HB
      go_wp2_with fail
      refine (same_any H4.out (HT.out.below hc4) HL.out).mono ?_
      rintro e w5 ⟨rfl, hb5⟩
      have hT : decide (zs = zs) = true := decide_eq_true rfl
      rw [hT]
      have hc5 := hc4.trans (hb5.mono hc4.size)
      clear hT hb5 hc4 H4
      go_wp2_with fail
      refine (calls_known hc5).mono ?_
      rintro e w' ⟨rfl, hb⟩
      go_wp2
      go_ret
      exact ⟨rfl, hb⟩
    · have HB := Lib.hid (fun w1 A1 n1 c1 (h1 : Tab w1 A1 n1 c1 (shT zs t)) => shift_tab h1 (wrap64 (-t)))
      generalize shX zs t = X at HF HR hX
      generalize shT zs t = T at HF HR HL2 HB
      have dX : (X != 0) = true := by simp [hX]
      clear hX hn h
      go_enter Try.func10, Try.ntmps10
      go_wp2_with (first | (go_at_call 14; ((with_reducible refine (long_no _ _ _ _ HN.out).mono ?_); rintro e w' ⟨rfl, rfl⟩)))
      refine (HF.out _ (Below.refl _ _)).mono ?_
      rintro e w1 ⟨A1, n1, c1, rfl, h1, hb1⟩
      have H1 := Lib.hid h1
      clear h1
      go_wp2_with fail
      refine (HR.out _ hb1).mono ?_
      rintro e w2 ⟨A2, n2, c2, rfl, h2, hb2⟩
      have H2 := Lib.hid h2
      have H1' := Lib.hid (H1.out.below hb2)
      have hc2 := hb1.trans (hb2.mono hb1.size)
      clear h2 hb1 hb2 H1
      go_wp2_with fail
      refine (same_any H1'.out H2.out HL2.out).mono ?_
      rintro e w3 ⟨rfl, hb3⟩
      have hT : decide (T = T) = true := decide_eq_true rfl
      rw [hT]
      have H3 := Lib.hid (H1'.out.below hb3)
      have hc3 := hc2.trans (hb3.mono hc2.size)
      clear hT hb3 hc2 H1' H2
      go_wp2_with fail
      refine (HB.out _ _ _ _ H3.out).mono ?_
      rintro e w4 ⟨A4, n4, c4, rfl, -, hb4⟩
      have hc4 := hc3.trans (hb4.mono hc3.size)
      clear hb4 hc3 H3 HB
      go_wp2_with fail
      refine (calls_known hc4).mono ?_
      rintro e w' ⟨rfl, hb⟩
      go_wp2
      go_ret
      exact ⟨rfl, hb⟩
end Go.Proofs.Ytdpfglpefncigaa
