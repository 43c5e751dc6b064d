/-
  List of both.
-/
import Derived.Test.YthkaclmnbahieaaDoorRvW
namespace Go.Proofs.YthkaclmnbahieaaDoor
open Go.RowKit

theorem slice_four (w : World) (A : Option Addr) (n c p : Nat) (hp : p + 4 ≤ n) (hn : n ≤ c) : (Instr.slice 35 (.slice A n c) (some (.int .i64 (p : Int))) (some (.int .i64 ((p : Int) + 4))) none).run Tryd.prog w = .ok (.slice (dropA A c p) 4 (c - p)) w := by
  rw [run_slice_lh w 35 A n c (by rw [Tryd.underlying35]; kernel_rfl) .i64 .i64 (p : Int) ((p : Int) + 4) (by omega) (by omega) (by omega)]
  have hs : (sizeOf (Tryd.prog.elem 35)).run Tryd.prog w = .ok 1 w := by
    rw [show Tryd.prog.elem 35 = 5 by kernel_rfl]
    obtain ⟨i0, hi, -⟩ := info_parts infoBy
    rw [run_sizeOf _ hi, cellsU8]
  have e1 : ((p : Int) + 4 - (p : Int)).toNat = 4 := by omega
  simp [sliced, dropA, Result.andThen, hs]
  try omega
theorem byt_four {w : World} {A : Option Addr} {n c p : Nat} {l : List Int} (h : Byt w A n c l) (hp : p + 4 ≤ n) : Byt w (dropA A c p) 4 (c - p) ((l.drop p).take 4) :=
  Byt.take (byt_drop h (by omega)) (by omega)
theorem decI_of {N : Nat} : (∀ x, decF N = some x → decI N = x ∧ decB N = true) ∧ (decF N = none → decB N = false) := by
  unfold decI decB
  exact ⟨fun x h => by rw [h]; exact ⟨rfl, rfl⟩, fun h => by rw [h]; rfl⟩
set_option maxRecDepth 100000 in
set_option maxHeartbeats 8000000 in
theorem List_any {w : World} {A : Option Addr} {n c : Nat} {l : List Int} (hL : Laid w) (hB : Byt w A n c l) (hn : n ≤ 10000) :
    Calls Tryd.prog 21 #[.slice A n c] w fun e w' => ∃ V, e = .returned (.tuple #[V, .int .i64 (4 * ((listR n l 0).length : Int))]) ∧ w'.ownsRow w.heap.size 23 5 V (listR n l 0).length (inssV (listR n l 0)) ∧ Below w.heap.size w w' := by
  obtain ⟨i0, hi, hz0, hz1, hz2⟩ := info_parts infoIns
  have HB := Lib.hid hB
  have HLL := Lib.hid hB.1
  have HBY := Lib.hid hB.isBy
  have hcap := hB.2.1
  have hmax := hB.2.2.1
  have HLD := Lib.hid hL
  have HO := Lib.hid (fun w1 h1 => newOps_any w1 h1)
  clear hB
  go_enter Tryd.func21, Tryd.ntmps21
  go_wp2_with fail
  refine (HO.out _ hL).mono ?_
  rintro e w1 ⟨M, rfl, hM, -, hb1⟩
  obtain ⟨B1, hB1⟩ : ∃ B1, B1 = w1.heap.size := ⟨_, rfl⟩
  have HMB := Lib.hid (show M < B1 by rw [hB1]; exact hM.lt)
  have HB1 := Lib.hid (show w.heap.size ≤ B1 by rw [hB1]; exact hb1.size)
  have hBs : B1 ≤ w1.heap.size := by omega
  clear hL HO hB1
  go_upto_region 4 with fail
  go_loopw [5, 6] (fun vl za wr => ∃ (ys : List Rv) (p : Nat), Hid (listR n l 0 = ys ++ listR (n - ys.length) l p) ∧ Hid (p = 4 * ys.length) ∧ p ≤ n ∧ za = .int .i64 (p : Int) ∧ wr.ownsRow B1 23 5 vl ys.length (inssV ys) ∧ MapN wr M 41 ∧ Below w.heap.size w wr ∧ B1 ≤ wr.heap.size) (fun _ za _ => n - (intOf za).toNat)
  case atStart => exact ⟨[], 0, Lib.hid (by simp), Lib.hid rfl, by omega, rfl, World.ownsRow_nil _ _ _ _, hM, hb1, hBs⟩
  case round =>
    clear hM hb1 hBs
    obtain ⟨ys, p, HE, HP, hp, rfl, hown, hM, hb, hBs⟩ := hrel
    have hyl : ys.length ≤ 10000 := by have := HP.out; omega
    obtain ⟨AV, cV, rfl, -⟩ := tabI_own hown
    by_cases hlt : p + 4 ≤ n
    · have hs := fun W => slice_four W A n c p hlt hcap
      have hNN := Lib.hid (callsSym (number_any (byt_four (HB.out.below hb) hlt) (by decide)))
      rw [num_take (by rw [← HLL.out]; exact hlt)] at hNN
      have hN4 := num4_lt HBY.out (p := p) (by rw [← HLL.out]; exact hlt)
      have HD := Lib.hid (fun w1 h1 h2 => decode_any (num4 l p) M hN4 w1 h1 h2)
      rw [decV_eq] at HD
      have HDD := Lib.hid (decI_of (N := num4 l p))
      have hlt' : (p : Int) + 4 ≤ (n : Int) := by omega
      rcases hF : decF (num4 l p) with _ | x
      · rw [HDD.out.2 hF] at HD
        have HR := Lib.hid (show listR n l 0 = ys by rw [HE.out, listR_stop (.inr hF), List.append_nil])
        clear hF HE HDD
        generalize decI (num4 l p) = x at HD
        generalize num4 l p = N at hNN HD hN4
        obtain ⟨op, d, a, b, imm⟩ := x
        go_wp2_with (with_reducible refine hNN.out.mono ?_; rintro e w' ⟨rfl, rfl⟩)
        refine (HD.out _ (HLD.out.below hb) hM).mono ?_
        rintro e w2 ⟨rfl, hw⟩
        have hown2 := own_below hown hw
        replace hb := hb.trans (hw.mono hb.size)
        have hown3 := own_below hown2 (below_one (rfl : w2.alloc (.cells #[.int .i64 op, .int .i64 d, .int .i64 a, .int .i64 b, .int .i64 imm] 23) = _))
        have hb3 := hb.alloc hb.size (.cells #[.int .i64 op, .int .i64 d, .int .i64 a, .int .i64 b, .int .i64 imm] 23)
        have HO2 := Lib.hid hown3
        clear hown hown2 hown3 hw hb HD hs hNN
        go_wp2
        refine bodyPost_ret (res2 rfl _ _) rfl ⟨_, ?_, by rw [HR.out]; exact own_lower HO2.out HB1.out, hb3⟩
        rw [HR.out]
        rfl
      · obtain ⟨e1, e2⟩ := HDD.out.1 x hF
        rw [e1, e2] at HD
        obtain ⟨m, hm⟩ : ∃ m, n - ys.length = m + 1 := ⟨n - ys.length - 1, by have := HP.out; omega⟩
        have HE2 := Lib.hid (show listR n l 0 = (ys ++ [x]) ++ listR (n - (ys ++ [x]).length) l (p + 4) by
          rw [HE.out, hm, listR_go (by rw [← HLL.out]; exact hlt) hF, List.length_append, List.length_singleton, show n - (ys.length + 1) = m by omega]
          simp)
        have HP2 := Lib.hid (show p + 4 = 4 * (ys ++ [x]).length by have := HP.out; simp; omega)
        have HIV := Lib.hid (show inssV (ys ++ [x]) = inssV ys ++ insV x by rw [inssV_append]; simp [inssV])
        clear e1 e2 hm hF HE HP HDD
        generalize num4 l p = N at hNN HD hN4
        obtain ⟨op, d, a, b, imm⟩ := x
        go_wp2_with (with_reducible refine hNN.out.mono ?_; rintro e w' ⟨rfl, rfl⟩)
        refine (HD.out _ (HLD.out.below hb) hM).mono ?_
        rintro e w2 ⟨rfl, hw⟩
        have hown2 := own_below hown hw
        replace hb := hb.trans (hw.mono hb.size)
        replace hM := hM.below hw
        have hown3 := own_below hown2 (below_one (rfl : w2.alloc (.cells #[.int .i64 op, .int .i64 d, .int .i64 a, .int .i64 b, .int .i64 imm] 23) = _))
        have hb3 := hb.alloc hb.size (.cells #[.int .i64 op, .int .i64 d, .int .i64 a, .int .i64 b, .int .i64 imm] 23)
        have hM3 := hM.below (below_one (rfl : w2.alloc (.cells #[.int .i64 op, .int .i64 d, .int .i64 a, .int .i64 b, .int .i64 imm] 23) = _))
        have hBw := Nat.le_trans hBs hw.size
        clear hown hown2 hw hb HD hs hNN hM
        have hb4 := hb3.size
        have hzz : (w2.alloc (.cells #[.int .i64 op, .int .i64 d, .int .i64 a, .int .i64 b, .int .i64 imm] 23)).heap.size = w2.heap.size + 1 := by simp
        have hnw := heap_alloc_new (w2.alloc (.cells #[.int .i64 op, .int .i64 d, .int .i64 a, .int .i64 b, .int .i64 imm] 23)) (.cells #[.int .i64 op, .int .i64 d, .int .i64 a, .int .i64 b, .int .i64 imm] 23)
        rw [hzz] at hb4 hnw
        have HNW := Lib.hid hnw
        have HZZ := Lib.hid hzz
        clear hnw hzz
        have HMM := Lib.hid (hM3.below (below_one (rfl : (w2.alloc (.cells #[.int .i64 op, .int .i64 d, .int .i64 a, .int .i64 b, .int .i64 imm] 23)).alloc (.cells #[.int .i64 op, .int .i64 d, .int .i64 a, .int .i64 b, .int .i64 imm] 23) = _)))
        clear hM3
        go_wp2_with (at_builtin; refine wpList_append_own _ rfl _ _ 34 rfl B1 23 i0 (.agg #[.int .i64 0, .int .i64 0, .int .i64 0, .int .i64 0, .int .i64 0]) 5 40 Tryd.underlying34 hi hz0 hz1 hz2 rfl (by decide) _ ys.length _ rfl (hown3.alloc _) ⟨w2.heap.size + 1, 0, none⟩ 1 1 [.int .i64 op, .int .i64 d, .int .i64 a, .int .i64 b, .int .i64 imm] rfl rfl ?k1 ?k2 ?k3 ?k4 ?k5 ?_)
        case k1 => exact news5 HNW.out
        case k2 => intro u hu; simp at hu; rcases hu with rfl | rfl | rfl | rfl | rfl <;> rfl
        case k3 => unfold maxLen; omega
        case k4 => omega
        case k5 => simp; omega
        intro v5 w5 ho5 hgr _
        have hb5 : Below w.heap.size w w5 := (hb3.alloc (by rw [HZZ.out]; exact hb4) _).grown hgr (by simp; omega) (fun g hg => Nat.le_trans HB1.out (own_base hown3 g hg))
        have HO5 := Lib.hid (show w5.ownsRow B1 23 5 v5 (ys ++ [(⟨op, d, a, b, imm⟩ : Rv)]).length (inssV (ys ++ [(⟨op, d, a, b, imm⟩ : Rv)])) by
          rw [HIV.out, List.length_append]
          exact ho5)
        have hM5 : MapN w5 M 41 := HMM.out.block (hgr.block M HMM.out.lt (fun e => by
          have h1 := own_base hown3 M e.symm
          have h2 := HMB.out
          omega))
        have hBs5 : B1 ≤ w5.heap.size := by
          have h1 := hgr.size
          simp at h1
          omega
        clear ho5 hgr hown3 hb3 hb4 HNW HZZ HMM
        go_wp2
        go_roundw
        case rel => exact ⟨_, p + 4, HE2, HP2, by omega, by go_num, HO5.out, hM5, hb5, hBs5⟩
        case measure => simp [intOf]; omega
    · have HR := Lib.hid (show listR n l 0 = ys by rw [HE.out, listR_stop (.inl (by rw [← HLL.out]; exact hlt)), List.append_nil])
      have HO2 := Lib.hid hown
      have hlt' : ¬ ((p : Int) + 4 ≤ (n : Int)) := by omega
      clear hown HE
      go_wp2
      refine bodyPost_ret (res2 rfl _ _) rfl ⟨_, ?_, by rw [HR.out]; exact own_lower HO2.out HB1.out, hb⟩
      rw [HR.out]
      rfl
set_option maxRecDepth 100000 in
set_option maxHeartbeats 8000000 in
theorem RList_any {w : World} {A : Option Addr} {n c : Nat} {l : List Int} (hB : Byt w A n c l) (hn : n ≤ 10000) :
    Calls Tryd.prog 23 #[.slice A n c] w fun e w' => ∃ V, e = .returned (.tuple #[V, .int .i64 (4 * ((listR n l 0).length : Int))]) ∧ w'.ownsRow w.heap.size 23 5 V (listR n l 0).length (inssV (listR n l 0)) ∧ Below w.heap.size w w' := by
  obtain ⟨i0, hi, hz0, hz1, hz2⟩ := info_parts infoIns
  have HB := Lib.hid hB
  have HLL := Lib.hid hB.1
  have HBY := Lib.hid hB.isBy
  have hcap := hB.2.1
  have hmax := hB.2.2.1
  clear hB
  go_enter Tryd.func23, Tryd.ntmps23
  go_upto_region 3 with fail
  go_loopw [4, 5] (fun vl za wr => ∃ (ys : List Rv) (p : Nat), Hid (listR n l 0 = ys ++ listR (n - ys.length) l p) ∧ Hid (p = 4 * ys.length) ∧ p ≤ n ∧ za = .int .i64 (p : Int) ∧ wr.ownsRow w.heap.size 23 5 vl ys.length (inssV ys) ∧ Below w.heap.size w wr) (fun _ za _ => n - (intOf za).toNat)
  case atStart => exact ⟨[], 0, Lib.hid (by simp), Lib.hid rfl, by omega, rfl, World.ownsRow_nil _ _ _ _, Below.refl _ _⟩
  case round =>
    obtain ⟨ys, p, HE, HP, hp, rfl, hown, hb⟩ := hrel
    have hyl : ys.length ≤ 10000 := by have := HP.out; omega
    by_cases hlt : p + 4 ≤ n
    · have hNN := read_any (HB.out.below hb) p 4 (by decide) hlt
      rw [rd_num] at hNN
      have hNN2 : Calls Tryd.prog 48 #[.slice A n c, .int .i64 (p : Int), .int .i64 4] wr fun e w' => e = .returned (.int .u32 (num4 l p : Nat)) ∧ wr = w' := callsSym hNN
      replace hNN2 := Lib.hid hNN2
      have hN4 := num4_lt HBY.out (p := p) (by rw [← HLL.out]; exact hlt)
      have HD := Lib.hid (fun w1 => RDecode_any (num4 l p) hN4 w1)
      have HDD := Lib.hid (decI_of (N := num4 l p))
      have hlt' : (p : Int) + 4 ≤ (n : Int) := by omega
      clear hNN
      rcases hF : decF (num4 l p) with _ | x
      · rw [HDD.out.2 hF] at HD
        have HR := Lib.hid (show listR n l 0 = ys by rw [HE.out, listR_stop (.inr hF), List.append_nil])
        clear hF HE HDD
        generalize decI (num4 l p) = x at HD
        generalize num4 l p = N at hNN2 HD hN4
        obtain ⟨op, d, a, b, imm⟩ := x
        go_wp2_with (with_reducible refine hNN2.out.mono ?_; rintro e w' ⟨rfl, rfl⟩)
        refine (HD.out _).mono ?_
        rintro e w2 ⟨rfl, hw⟩
        have hown2 := own_below hown hw
        replace hb := hb.trans (hw.mono hb.size)
        have hown3 := own_below hown2 (below_one (rfl : w2.alloc (.cells #[.int .i64 op, .int .i64 d, .int .i64 a, .int .i64 b, .int .i64 imm] 23) = _))
        have hb3 := hb.alloc hb.size (.cells #[.int .i64 op, .int .i64 d, .int .i64 a, .int .i64 b, .int .i64 imm] 23)
        have HO2 := Lib.hid hown3
        clear hown hown2 hown3 hw hb HD hNN2
        go_wp2
        refine bodyPost_ret (res2 rfl _ _) rfl ⟨_, ?_, by rw [HR.out]; exact HO2.out, hb3⟩
        have hp4 := HP.out
        rw [HR.out, show (4 : Int) * (ys.length : Int) = (p : Int) by omega]
        rfl
      · obtain ⟨e1, e2⟩ := HDD.out.1 x hF
        rw [e1, e2] at HD
        obtain ⟨m, hm⟩ : ∃ m, n - ys.length = m + 1 := ⟨n - ys.length - 1, by have := HP.out; omega⟩
        have HE2 := Lib.hid (show listR n l 0 = (ys ++ [x]) ++ listR (n - (ys ++ [x]).length) l (p + 4) by
          rw [HE.out, hm, listR_go (by rw [← HLL.out]; exact hlt) hF, List.length_append, List.length_singleton, show n - (ys.length + 1) = m by omega]
          simp)
        have HP2 := Lib.hid (show p + 4 = 4 * (ys ++ [x]).length by have := HP.out; simp; omega)
        have HIV := Lib.hid (show inssV (ys ++ [x]) = inssV ys ++ insV x by rw [inssV_append]; simp [inssV])
        clear e1 e2 hm hF HE HP HDD
        generalize num4 l p = N at hNN2 HD hN4
        obtain ⟨op, d, a, b, imm⟩ := x
        go_wp2_with (with_reducible refine hNN2.out.mono ?_; rintro e w' ⟨rfl, rfl⟩)
        refine (HD.out _).mono ?_
        rintro e w2 ⟨rfl, hw⟩
        have hown2 := own_below hown hw
        replace hb := hb.trans (hw.mono hb.size)
        have hown3 := own_below hown2 (below_one (rfl : w2.alloc (.cells #[.int .i64 op, .int .i64 d, .int .i64 a, .int .i64 b, .int .i64 imm] 23) = _))
        have hb3 := hb.alloc hb.size (.cells #[.int .i64 op, .int .i64 d, .int .i64 a, .int .i64 b, .int .i64 imm] 23)
        clear hown hown2 hw hb HD hNN2
        have hb4 := hb3.size
        have hzz : (w2.alloc (.cells #[.int .i64 op, .int .i64 d, .int .i64 a, .int .i64 b, .int .i64 imm] 23)).heap.size = w2.heap.size + 1 := by simp
        have hnw := heap_alloc_new (w2.alloc (.cells #[.int .i64 op, .int .i64 d, .int .i64 a, .int .i64 b, .int .i64 imm] 23)) (.cells #[.int .i64 op, .int .i64 d, .int .i64 a, .int .i64 b, .int .i64 imm] 23)
        rw [hzz] at hb4 hnw
        have HNW := Lib.hid hnw
        have HZZ := Lib.hid hzz
        clear hnw hzz
        go_wp2_with (at_builtin; refine wpList_append_own _ rfl _ _ 34 rfl w.heap.size 23 i0 (.agg #[.int .i64 0, .int .i64 0, .int .i64 0, .int .i64 0, .int .i64 0]) 5 40 Tryd.underlying34 hi hz0 hz1 hz2 rfl (by decide) _ ys.length _ rfl (hown3.alloc _) ⟨w2.heap.size + 1, 0, none⟩ 1 1 [.int .i64 op, .int .i64 d, .int .i64 a, .int .i64 b, .int .i64 imm] rfl rfl ?k1 ?k2 ?k3 ?k4 ?k5 ?_)
        case k1 => exact news5 HNW.out
        case k2 => intro u hu; simp at hu; rcases hu with rfl | rfl | rfl | rfl | rfl <;> rfl
        case k3 => unfold maxLen; omega
        case k4 => omega
        case k5 => simp; omega
        intro v5 w5 ho5 hgr _
        have hb5 : Below w.heap.size w w5 := (hb3.alloc (by rw [HZZ.out]; exact hb4) _).grown hgr (by simp; omega) (own_base hown3)
        have HO5 := Lib.hid (show w5.ownsRow w.heap.size 23 5 v5 (ys ++ [(⟨op, d, a, b, imm⟩ : Rv)]).length (inssV (ys ++ [(⟨op, d, a, b, imm⟩ : Rv)])) by
          rw [HIV.out, List.length_append]
          exact ho5)
        clear ho5 hgr hown3 hb3 hb4 HNW HZZ
        go_wp2
        go_roundw
        case rel => exact ⟨_, p + 4, HE2, HP2, by omega, by go_num, HO5.out, hb5⟩
        case measure => simp [intOf]; omega
    · have HR := Lib.hid (show listR n l 0 = ys by rw [HE.out, listR_stop (.inl (by rw [← HLL.out]; exact hlt)), List.append_nil])
      have HO2 := Lib.hid hown
      have hlt' : ¬ ((p : Int) + 4 ≤ (n : Int)) := by omega
      clear hown HE
      go_wp2
      refine bodyPost_ret (res2 rfl _ _) rfl ⟨_, ?_, by rw [HR.out]; exact HO2.out, hb⟩
      have hp4 := HP.out
      rw [HR.out, show (4 : Int) * (ys.length : Int) = (p : Int) by omega]
      rfl
end Go.Proofs.YthkaclmnbahieaaDoor
