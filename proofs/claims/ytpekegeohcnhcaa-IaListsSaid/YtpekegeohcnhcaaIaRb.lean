/-
  The reference: moves.
-/
import Derived.Test.YtpekegeohcnhcaaIaGe
namespace Go.Proofs.Ytpekegeohcnhcaa
open Go.RowKit

set_option maxRecDepth 100000 in
set_option maxHeartbeats 8000000 in
theorem mov_4 (d s sz imm : Int) (w : World) (h1 : -9223372036854775808 ≤ imm) (h2 : imm ≤ 9223372036854775807) : Calls Try.prog 40 #[aggI ⟨4, d, s, sz, imm⟩] w (REnd w (((((sz == 32) && (isR d && isR s)) && (s != 4)) && isS imm 2147483648)) (15 :: 182 :: (128 + 8 * d + s) :: le4 imm)) := by
  obtain ⟨i0, hi, hz0, hz1, hz2⟩ := info_parts infoBy
  obtain ⟨Z, hZ⟩ : ∃ b, (decide (sz = 32) || decide (sz = 16)) = b := ⟨_, rfl⟩
  try rw [hZ]
  have HZ0 := Lib.hid hZ
  clear hZ
  obtain ⟨R, hR⟩ : ∃ b, (isR d && isR s) = b := ⟨_, rfl⟩
  try rw [hR]
  have HR0 := Lib.hid hR
  clear hR
  obtain ⟨F, hF⟩ : ∃ b, isS imm 2147483648 = b := ⟨_, rfl⟩
  try rw [hF]
  have HF0 := Lib.hid hF
  clear hF
  obtain ⟨q, hq⟩ : ∃ b, (sz == 32) = b := ⟨_, rfl⟩
  try rw [hq]
  have Hq := Lib.hid hq
  obtain ⟨S4, hS4⟩ : ∃ b, (s != 4) = b := ⟨_, rfl⟩
  try rw [hS4]
  have HS4 := Lib.hid hS4
  have HF := Lib.hid (fun w1 => rBetween32_at imm F w1 HF0.out)
  have HD := Lib.hid (fun b h w1 => rIsReg_at d b w1 h)
  have HS := Lib.hid (fun b h w1 => rIsReg_at s b w1 h)
  go_enter Try.func40, Try.ntmps40
  go_upto_region 2 with fail
  have hx := heap_alloc_new w (.cells #[.int .i64 4, .int .i64 d, .int .i64 s, .int .i64 sz, .int .i64 imm] 23)
  have hb : Below w.heap.size w (w.alloc (.cells #[.int .i64 4, .int .i64 d, .int .i64 s, .int .i64 sz, .int .i64 imm] 23)) := (Below.refl _ _).alloc (Nat.le_refl _) _
  generalize World.alloc w _ = W at hx hb ⊢
  obtain ⟨X, hX⟩ : ∃ X, X = w.heap.size := ⟨_, rfl⟩
  rw [← hX] at hx ⊢
  have HX := Lib.hid hX
  have lX := lt_of_block hx
  obtain ⟨x0, x1, x2, x3, x4⟩ := cells5 hx
  have HXX := Lib.hid hx
  clear hX hx
  go_cut [5] from 8 (fun s5 wx => s5 = .bool Z ∧ W = wx)
  case first =>
    cases q
    · have a1 : sz ≠ 32 := ne_of_beq_false Hq.out
      by_cases a3 : sz = 16
      · subst a3
        go_wp2_with fail
        go_meet
        exact ⟨by rw [← HZ0.out]; rfl, rfl⟩
      · have a4 : (sz == 16) = false := beq_false_of_ne a3
        go_wp2_with fail
        go_meet
        exact ⟨by rw [← HZ0.out, decide_eq_false a1, decide_eq_false a3]; rfl, rfl⟩
    · obtain rfl : sz = 32 := eq_of_beq Hq.out
      go_wp2_with fail
      go_meet
      exact ⟨by rw [← HZ0.out]; rfl, rfl⟩
  case rest =>
    obtain ⟨rfl, rfl⟩ := hcut
    go_upto_region 3 with fail
    go_cut [6] from 8 (fun s6 wx => s6 = .bool R ∧ W = wx)
    case first =>
      cases r1 : isR d
      · replace HD := Lib.hid (HD.out _ r1)
        go_wp2_with fail
        refine (HD.out _).mono ?_
        rintro e w2 ⟨rfl, rfl⟩
        go_wp2_with fail
        go_meet
        exact ⟨by rw [← HR0.out, r1]; rfl, rfl⟩
      · replace HD := Lib.hid (HD.out _ r1)
        go_wp2_with fail
        refine (HD.out _).mono ?_
        rintro e w2 ⟨rfl, rfl⟩
        cases r2 : isR s
        all_goals
          replace HS := Lib.hid (HS.out _ r2)
          go_wp2_with fail
          refine (HS.out _).mono ?_
          rintro e w2 ⟨rfl, rfl⟩
          go_wp2_with fail
          go_meet
          exact ⟨by rw [← HR0.out, r1, r2]; rfl, rfl⟩
    case rest =>
      obtain ⟨rfl, rfl⟩ := hcut
      clear HD HS
      go_wp2_with fail
      refine (HF.out _).mono ?_
      rintro e w2 ⟨rfl, rfl⟩
      clear HF
      have HS5 := Lib.hid (show ∀ W', Below W.heap.size W W' → (fun W' => W'.cell? ⟨X, 0, none⟩ = some (.int .i64 4) ∧ W'.cell? ⟨X, 1, none⟩ = some (.int .i64 d) ∧ W'.cell? ⟨X, 2, none⟩ = some (.int .i64 s) ∧ W'.cell? ⟨X, 3, none⟩ = some (.int .i64 sz) ∧ W'.cell? ⟨X, 4, none⟩ = some (.int .i64 imm)) W' from fun W' h => ⟨(h.cell (p := ⟨X, 0, none⟩) lX).trans x0, (h.cell (p := ⟨X, 1, none⟩) lX).trans x1, (h.cell (p := ⟨X, 2, none⟩) lX).trans x2, (h.cell (p := ⟨X, 3, none⟩) lX).trans x3, (h.cell (p := ⟨X, 4, none⟩) lX).trans x4⟩)
      go_wp2_with fail
      generalize hA1 : World.alloc _ _ = wn1
      have hb1 := below_new hA1 (Below.refl W.heap.size W)
      have ho1 := own_new2 hA1 (Below.refl W.heap.size W)
      clear hA1
      refine (rMm_sym _ _ _ _ h1 h2).mono ?_
      rintro e wn2 ⟨v2, g2, c2, rfl, ho2, hv2, hw2⟩
      have hb2 := hb1.trans (hw2.mono hb1.size)
      have ho1x := own_below ho1 hw2
      replace ho2 := own_lower ho2 hb1.size
      clear hw2 ho1
      go_wp2_with (at_builtin; refine wpList_append_own _ rfl _ _ 24 rfl W.heap.size 5 i0 (.int .u8 0) 1 1 Try.underlying24 hi hz0 hz1 hz2 rfl (by decide) _ _ _ rfl ho1x ⟨g2, 0, none⟩ 5 c2 (byV (v2 :: le4 imm)) rfl ?c0 ?c1 ?c2 ?c3 ?c4 ?c5 ?_)
      case c0 => rfl
      case c1 => exact ho2.cells rfl
      case c2 => exact byV_one _
      case c3 => unfold maxLen; simp
      case c4 => simp
      case c5 => exact hb2.size
      intro v3 wn3 ho3 hgr3 _
      have hb3 := hb2.grown hgr3 hb2.size (own_base ho1x)
      clear hgr3 ho2 ho1x
      rw [← byV_append] at ho3
      obtain ⟨g3, c3, hv3⟩ := own_form ho3 (by simp)
      subst hv3
      obtain ⟨y3_0, y3_1, y3_2, y3_3, y3_4⟩ := HS5.out _ hb3
      cases q
      · go_wp2
        refine bodyPost_ret (res2 rfl _ _) rfl ?_
        refine ⟨_, rfl, fun hB => ?_, hb.trans (hb3.mono (by have := HX.out; omega))⟩
        exact absurd hB (by simp)
      · cases R
        · go_wp2
          refine bodyPost_ret (res2 rfl _ _) rfl ?_
          refine ⟨_, rfl, fun hB => ?_, hb.trans (hb3.mono (by have := HX.out; omega))⟩
          exact absurd hB (by simp)
        · cases S4
          · go_wp2
            refine bodyPost_ret (res2 rfl _ _) rfl ?_
            refine ⟨_, rfl, fun hB => ?_, hb.trans (hb3.mono (by have := HX.out; omega))⟩
            exact absurd hB (by simp)
          · go_wp2
            refine bodyPost_ret (res2 rfl _ _) rfl ?_
            refine ⟨_, rfl, fun hB => ?_, hb.trans (hb3.mono (by have := HX.out; omega))⟩
            have hR2 := HR0.out
            simp only [Bool.and_eq_true] at hR2
            obtain ⟨hd, hs⟩ := hR2
            try rw [← byV_append] at ho3
            have e := own_lower (b2 := w.heap.size) ho3 (by have := HX.out; omega)
            rw [hv2.out hd hs] at e
            exact e
set_option maxRecDepth 100000 in
set_option maxHeartbeats 8000000 in
theorem mov_5 (d s sz imm : Int) (w : World) (h1 : -9223372036854775808 ≤ imm) (h2 : imm ≤ 9223372036854775807) : Calls Try.prog 40 #[aggI ⟨5, d, s, sz, imm⟩] w (REnd w (((((sz == 32) && (isR d && isR s)) && (s != 4)) && isS imm 2147483648)) (15 :: 183 :: (128 + 8 * d + s) :: le4 imm)) := by
  obtain ⟨i0, hi, hz0, hz1, hz2⟩ := info_parts infoBy
  obtain ⟨Z, hZ⟩ : ∃ b, (decide (sz = 32) || decide (sz = 16)) = b := ⟨_, rfl⟩
  try rw [hZ]
  have HZ0 := Lib.hid hZ
  clear hZ
  obtain ⟨R, hR⟩ : ∃ b, (isR d && isR s) = b := ⟨_, rfl⟩
  try rw [hR]
  have HR0 := Lib.hid hR
  clear hR
  obtain ⟨F, hF⟩ : ∃ b, isS imm 2147483648 = b := ⟨_, rfl⟩
  try rw [hF]
  have HF0 := Lib.hid hF
  clear hF
  obtain ⟨q, hq⟩ : ∃ b, (sz == 32) = b := ⟨_, rfl⟩
  try rw [hq]
  have Hq := Lib.hid hq
  obtain ⟨S4, hS4⟩ : ∃ b, (s != 4) = b := ⟨_, rfl⟩
  try rw [hS4]
  have HS4 := Lib.hid hS4
  have HF := Lib.hid (fun w1 => rBetween32_at imm F w1 HF0.out)
  have HD := Lib.hid (fun b h w1 => rIsReg_at d b w1 h)
  have HS := Lib.hid (fun b h w1 => rIsReg_at s b w1 h)
  go_enter Try.func40, Try.ntmps40
  go_upto_region 2 with fail
  have hx := heap_alloc_new w (.cells #[.int .i64 5, .int .i64 d, .int .i64 s, .int .i64 sz, .int .i64 imm] 23)
  have hb : Below w.heap.size w (w.alloc (.cells #[.int .i64 5, .int .i64 d, .int .i64 s, .int .i64 sz, .int .i64 imm] 23)) := (Below.refl _ _).alloc (Nat.le_refl _) _
  generalize World.alloc w _ = W at hx hb ⊢
  obtain ⟨X, hX⟩ : ∃ X, X = w.heap.size := ⟨_, rfl⟩
  rw [← hX] at hx ⊢
  have HX := Lib.hid hX
  have lX := lt_of_block hx
  obtain ⟨x0, x1, x2, x3, x4⟩ := cells5 hx
  have HXX := Lib.hid hx
  clear hX hx
  go_cut [5] from 8 (fun s5 wx => s5 = .bool Z ∧ W = wx)
  case first =>
    cases q
    · have a1 : sz ≠ 32 := ne_of_beq_false Hq.out
      by_cases a3 : sz = 16
      · subst a3
        go_wp2_with fail
        go_meet
        exact ⟨by rw [← HZ0.out]; rfl, rfl⟩
      · have a4 : (sz == 16) = false := beq_false_of_ne a3
        go_wp2_with fail
        go_meet
        exact ⟨by rw [← HZ0.out, decide_eq_false a1, decide_eq_false a3]; rfl, rfl⟩
    · obtain rfl : sz = 32 := eq_of_beq Hq.out
      go_wp2_with fail
      go_meet
      exact ⟨by rw [← HZ0.out]; rfl, rfl⟩
  case rest =>
    obtain ⟨rfl, rfl⟩ := hcut
    go_upto_region 3 with fail
    go_cut [6] from 8 (fun s6 wx => s6 = .bool R ∧ W = wx)
    case first =>
      cases r1 : isR d
      · replace HD := Lib.hid (HD.out _ r1)
        go_wp2_with fail
        refine (HD.out _).mono ?_
        rintro e w2 ⟨rfl, rfl⟩
        go_wp2_with fail
        go_meet
        exact ⟨by rw [← HR0.out, r1]; rfl, rfl⟩
      · replace HD := Lib.hid (HD.out _ r1)
        go_wp2_with fail
        refine (HD.out _).mono ?_
        rintro e w2 ⟨rfl, rfl⟩
        cases r2 : isR s
        all_goals
          replace HS := Lib.hid (HS.out _ r2)
          go_wp2_with fail
          refine (HS.out _).mono ?_
          rintro e w2 ⟨rfl, rfl⟩
          go_wp2_with fail
          go_meet
          exact ⟨by rw [← HR0.out, r1, r2]; rfl, rfl⟩
    case rest =>
      obtain ⟨rfl, rfl⟩ := hcut
      clear HD HS
      go_wp2_with fail
      refine (HF.out _).mono ?_
      rintro e w2 ⟨rfl, rfl⟩
      clear HF
      have HS5 := Lib.hid (show ∀ W', Below W.heap.size W W' → (fun W' => W'.cell? ⟨X, 0, none⟩ = some (.int .i64 5) ∧ W'.cell? ⟨X, 1, none⟩ = some (.int .i64 d) ∧ W'.cell? ⟨X, 2, none⟩ = some (.int .i64 s) ∧ W'.cell? ⟨X, 3, none⟩ = some (.int .i64 sz) ∧ W'.cell? ⟨X, 4, none⟩ = some (.int .i64 imm)) W' from fun W' h => ⟨(h.cell (p := ⟨X, 0, none⟩) lX).trans x0, (h.cell (p := ⟨X, 1, none⟩) lX).trans x1, (h.cell (p := ⟨X, 2, none⟩) lX).trans x2, (h.cell (p := ⟨X, 3, none⟩) lX).trans x3, (h.cell (p := ⟨X, 4, none⟩) lX).trans x4⟩)
      go_wp2_with fail
      generalize hA1 : World.alloc _ _ = wn1
      have hb1 := below_new hA1 (Below.refl W.heap.size W)
      have ho1 := own_new2 hA1 (Below.refl W.heap.size W)
      clear hA1
      refine (rMm_sym _ _ _ _ h1 h2).mono ?_
      rintro e wn2 ⟨v2, g2, c2, rfl, ho2, hv2, hw2⟩
      have hb2 := hb1.trans (hw2.mono hb1.size)
      have ho1x := own_below ho1 hw2
      replace ho2 := own_lower ho2 hb1.size
      clear hw2 ho1
      go_wp2_with (at_builtin; refine wpList_append_own _ rfl _ _ 24 rfl W.heap.size 5 i0 (.int .u8 0) 1 1 Try.underlying24 hi hz0 hz1 hz2 rfl (by decide) _ _ _ rfl ho1x ⟨g2, 0, none⟩ 5 c2 (byV (v2 :: le4 imm)) rfl ?c0 ?c1 ?c2 ?c3 ?c4 ?c5 ?_)
      case c0 => rfl
      case c1 => exact ho2.cells rfl
      case c2 => exact byV_one _
      case c3 => unfold maxLen; simp
      case c4 => simp
      case c5 => exact hb2.size
      intro v3 wn3 ho3 hgr3 _
      have hb3 := hb2.grown hgr3 hb2.size (own_base ho1x)
      clear hgr3 ho2 ho1x
      rw [← byV_append] at ho3
      obtain ⟨g3, c3, hv3⟩ := own_form ho3 (by simp)
      subst hv3
      obtain ⟨y3_0, y3_1, y3_2, y3_3, y3_4⟩ := HS5.out _ hb3
      cases q
      · go_wp2
        refine bodyPost_ret (res2 rfl _ _) rfl ?_
        refine ⟨_, rfl, fun hB => ?_, hb.trans (hb3.mono (by have := HX.out; omega))⟩
        exact absurd hB (by simp)
      · cases R
        · go_wp2
          refine bodyPost_ret (res2 rfl _ _) rfl ?_
          refine ⟨_, rfl, fun hB => ?_, hb.trans (hb3.mono (by have := HX.out; omega))⟩
          exact absurd hB (by simp)
        · cases S4
          · go_wp2
            refine bodyPost_ret (res2 rfl _ _) rfl ?_
            refine ⟨_, rfl, fun hB => ?_, hb.trans (hb3.mono (by have := HX.out; omega))⟩
            exact absurd hB (by simp)
          · go_wp2
            refine bodyPost_ret (res2 rfl _ _) rfl ?_
            refine ⟨_, rfl, fun hB => ?_, hb.trans (hb3.mono (by have := HX.out; omega))⟩
            have hR2 := HR0.out
            simp only [Bool.and_eq_true] at hR2
            obtain ⟨hd, hs⟩ := hR2
            try rw [← byV_append] at ho3
            have e := own_lower (b2 := w.heap.size) ho3 (by have := HX.out; omega)
            rw [hv2.out hd hs] at e
            exact e
set_option maxRecDepth 100000 in
set_option maxHeartbeats 8000000 in
theorem mov_6 (d s sz imm : Int) (w : World) (h1 : -9223372036854775808 ≤ imm) (h2 : imm ≤ 9223372036854775807) : Calls Try.prog 40 #[aggI ⟨6, d, s, sz, imm⟩] w (REnd w ((((((sz == 32) && (isR d && isR s)) && isL s) && (d != 4)) && isS imm 2147483648)) (136 :: (128 + 8 * s + d) :: le4 imm)) := by
  obtain ⟨i0, hi, hz0, hz1, hz2⟩ := info_parts infoBy
  obtain ⟨Z, hZ⟩ : ∃ b, (decide (sz = 32) || decide (sz = 16)) = b := ⟨_, rfl⟩
  try rw [hZ]
  have HZ0 := Lib.hid hZ
  clear hZ
  obtain ⟨R, hR⟩ : ∃ b, (isR d && isR s) = b := ⟨_, rfl⟩
  try rw [hR]
  have HR0 := Lib.hid hR
  clear hR
  obtain ⟨F, hF⟩ : ∃ b, isS imm 2147483648 = b := ⟨_, rfl⟩
  try rw [hF]
  have HF0 := Lib.hid hF
  clear hF
  obtain ⟨q, hq⟩ : ∃ b, (sz == 32) = b := ⟨_, rfl⟩
  try rw [hq]
  have Hq := Lib.hid hq
  obtain ⟨D4, hD4⟩ : ∃ b, (d != 4) = b := ⟨_, rfl⟩
  try rw [hD4]
  have HD4 := Lib.hid hD4
  obtain ⟨LB, hLB⟩ : ∃ b, isL s = b := ⟨_, rfl⟩
  try rw [hLB]
  have HLB := Lib.hid hLB
  clear hLB
  have HF := Lib.hid (fun w1 => rBetween32_at imm F w1 HF0.out)
  have HD := Lib.hid (fun b h w1 => rIsReg_at d b w1 h)
  have HS := Lib.hid (fun b h w1 => rIsReg_at s b w1 h)
  go_enter Try.func40, Try.ntmps40
  go_upto_region 2 with fail
  have hx := heap_alloc_new w (.cells #[.int .i64 6, .int .i64 d, .int .i64 s, .int .i64 sz, .int .i64 imm] 23)
  have hb : Below w.heap.size w (w.alloc (.cells #[.int .i64 6, .int .i64 d, .int .i64 s, .int .i64 sz, .int .i64 imm] 23)) := (Below.refl _ _).alloc (Nat.le_refl _) _
  generalize World.alloc w _ = W at hx hb ⊢
  obtain ⟨X, hX⟩ : ∃ X, X = w.heap.size := ⟨_, rfl⟩
  rw [← hX] at hx ⊢
  have HX := Lib.hid hX
  have lX := lt_of_block hx
  obtain ⟨x0, x1, x2, x3, x4⟩ := cells5 hx
  have HXX := Lib.hid hx
  clear hX hx
  go_cut [5] from 8 (fun s5 wx => s5 = .bool Z ∧ W = wx)
  case first =>
    cases q
    · have a1 : sz ≠ 32 := ne_of_beq_false Hq.out
      by_cases a3 : sz = 16
      · subst a3
        go_wp2_with fail
        go_meet
        exact ⟨by rw [← HZ0.out]; rfl, rfl⟩
      · have a4 : (sz == 16) = false := beq_false_of_ne a3
        go_wp2_with fail
        go_meet
        exact ⟨by rw [← HZ0.out, decide_eq_false a1, decide_eq_false a3]; rfl, rfl⟩
    · obtain rfl : sz = 32 := eq_of_beq Hq.out
      go_wp2_with fail
      go_meet
      exact ⟨by rw [← HZ0.out]; rfl, rfl⟩
  case rest =>
    obtain ⟨rfl, rfl⟩ := hcut
    go_upto_region 3 with fail
    go_cut [6] from 8 (fun s6 wx => s6 = .bool R ∧ W = wx)
    case first =>
      cases r1 : isR d
      · replace HD := Lib.hid (HD.out _ r1)
        go_wp2_with fail
        refine (HD.out _).mono ?_
        rintro e w2 ⟨rfl, rfl⟩
        go_wp2_with fail
        go_meet
        exact ⟨by rw [← HR0.out, r1]; rfl, rfl⟩
      · replace HD := Lib.hid (HD.out _ r1)
        go_wp2_with fail
        refine (HD.out _).mono ?_
        rintro e w2 ⟨rfl, rfl⟩
        cases r2 : isR s
        all_goals
          replace HS := Lib.hid (HS.out _ r2)
          go_wp2_with fail
          refine (HS.out _).mono ?_
          rintro e w2 ⟨rfl, rfl⟩
          go_wp2_with fail
          go_meet
          exact ⟨by rw [← HR0.out, r1, r2]; rfl, rfl⟩
    case rest =>
      obtain ⟨rfl, rfl⟩ := hcut
      clear HD HS
      go_wp2_with fail
      refine (HF.out _).mono ?_
      rintro e w2 ⟨rfl, rfl⟩
      clear HF
      have HS5 := Lib.hid (show ∀ W', Below W.heap.size W W' → (fun W' => W'.cell? ⟨X, 0, none⟩ = some (.int .i64 6) ∧ W'.cell? ⟨X, 1, none⟩ = some (.int .i64 d) ∧ W'.cell? ⟨X, 2, none⟩ = some (.int .i64 s) ∧ W'.cell? ⟨X, 3, none⟩ = some (.int .i64 sz) ∧ W'.cell? ⟨X, 4, none⟩ = some (.int .i64 imm)) W' from fun W' h => ⟨(h.cell (p := ⟨X, 0, none⟩) lX).trans x0, (h.cell (p := ⟨X, 1, none⟩) lX).trans x1, (h.cell (p := ⟨X, 2, none⟩) lX).trans x2, (h.cell (p := ⟨X, 3, none⟩) lX).trans x3, (h.cell (p := ⟨X, 4, none⟩) lX).trans x4⟩)
      go_wp2_with fail
      generalize hA1 : World.alloc _ _ = wn1
      have hb1 := below_new hA1 (Below.refl W.heap.size W)
      have ho1 := own_new1 hA1 (Below.refl W.heap.size W)
      clear hA1
      refine (rMm_sym _ _ _ _ h1 h2).mono ?_
      rintro e wn2 ⟨v2, g2, c2, rfl, ho2, hv2, hw2⟩
      have hb2 := hb1.trans (hw2.mono hb1.size)
      have ho1x := own_below ho1 hw2
      replace ho2 := own_lower ho2 hb1.size
      clear hw2 ho1
      go_wp2_with (at_builtin; refine wpList_append_own _ rfl _ _ 24 rfl W.heap.size 5 i0 (.int .u8 0) 1 1 Try.underlying24 hi hz0 hz1 hz2 rfl (by decide) _ _ _ rfl ho1x ⟨g2, 0, none⟩ 5 c2 (byV (v2 :: le4 imm)) rfl ?c0 ?c1 ?c2 ?c3 ?c4 ?c5 ?_)
      case c0 => rfl
      case c1 => exact ho2.cells rfl
      case c2 => exact byV_one _
      case c3 => unfold maxLen; simp
      case c4 => simp
      case c5 => exact hb2.size
      intro v3 wn3 ho3 hgr3 _
      have hb3 := hb2.grown hgr3 hb2.size (own_base ho1x)
      clear hgr3 ho2 ho1x
      rw [← byV_append] at ho3
      obtain ⟨g3, c3, hv3⟩ := own_form ho3 (by simp)
      subst hv3
      obtain ⟨y3_0, y3_1, y3_2, y3_3, y3_4⟩ := HS5.out _ hb3
      cases q
      · go_wp2
        refine bodyPost_ret (res2 rfl _ _) rfl ?_
        refine ⟨_, rfl, fun hB => ?_, hb.trans (hb3.mono (by have := HX.out; omega))⟩
        exact absurd hB (by simp)
      · cases R
        · go_wp2
          refine bodyPost_ret (res2 rfl _ _) rfl ?_
          refine ⟨_, rfl, fun hB => ?_, hb.trans (hb3.mono (by have := HX.out; omega))⟩
          exact absurd hB (by simp)
        · go_wp2_with fail
          refine (rLow_at s _ _ HLB.out).mono ?_
          rintro e w' ⟨rfl, rfl⟩
          cases LB
          · go_wp2
            refine bodyPost_ret (res2 rfl _ _) rfl ?_
            refine ⟨_, rfl, fun hB => ?_, hb.trans (hb3.mono (by have := HX.out; omega))⟩
            exact absurd hB (by simp)
          · cases D4
            · go_wp2
              refine bodyPost_ret (res2 rfl _ _) rfl ?_
              refine ⟨_, rfl, fun hB => ?_, hb.trans (hb3.mono (by have := HX.out; omega))⟩
              exact absurd hB (by simp)
            · go_wp2
              refine bodyPost_ret (res2 rfl _ _) rfl ?_
              refine ⟨_, rfl, fun hB => ?_, hb.trans (hb3.mono (by have := HX.out; omega))⟩
              have hR2 := HR0.out
              simp only [Bool.and_eq_true] at hR2
              obtain ⟨hd, hs⟩ := hR2
              try rw [← byV_append] at ho3
              have e := own_lower (b2 := w.heap.size) ho3 (by have := HX.out; omega)
              rw [hv2.out hs hd] at e
              exact e
set_option maxRecDepth 100000 in
set_option maxHeartbeats 8000000 in
theorem mov_none (op d s sz imm : Int) (w : World) (_ : -9223372036854775808 ≤ imm) (_ : imm ≤ 9223372036854775807) (hg : op < 0 ∨ 6 < op) : Calls Try.prog 40 #[aggI ⟨op, d, s, sz, imm⟩] w (REnd w (false) ([])) := by
  have f0 : (op == 0) = false := beq_false_of_ne (by omega)
  have f1 : (op == 1) = false := beq_false_of_ne (by omega)
  have f2 : (op == 2) = false := beq_false_of_ne (by omega)
  have f3 : (op == 3) = false := beq_false_of_ne (by omega)
  have f4 : (op == 4) = false := beq_false_of_ne (by omega)
  have f5 : (op == 5) = false := beq_false_of_ne (by omega)
  have f6 : (op == 6) = false := beq_false_of_ne (by omega)
  clear hg
  obtain ⟨Z, hZ⟩ : ∃ b, (decide (sz = 32) || decide (sz = 16)) = b := ⟨_, rfl⟩
  try rw [hZ]
  have HZ0 := Lib.hid hZ
  clear hZ
  obtain ⟨R, hR⟩ : ∃ b, (isR d && isR s) = b := ⟨_, rfl⟩
  try rw [hR]
  have HR0 := Lib.hid hR
  clear hR
  obtain ⟨F, hF⟩ : ∃ b, isS imm 2147483648 = b := ⟨_, rfl⟩
  try rw [hF]
  have HF0 := Lib.hid hF
  clear hF
  obtain ⟨q, hq⟩ : ∃ b, (sz == 32) = b := ⟨_, rfl⟩
  try rw [hq]
  have Hq := Lib.hid hq
  have HF := Lib.hid (fun w1 => rBetween32_at imm F w1 HF0.out)
  have HD := Lib.hid (fun b h w1 => rIsReg_at d b w1 h)
  have HS := Lib.hid (fun b h w1 => rIsReg_at s b w1 h)
  go_enter Try.func40, Try.ntmps40
  go_upto_region 2 with fail
  have hx := heap_alloc_new w (.cells #[.int .i64 op, .int .i64 d, .int .i64 s, .int .i64 sz, .int .i64 imm] 23)
  have hb : Below w.heap.size w (w.alloc (.cells #[.int .i64 op, .int .i64 d, .int .i64 s, .int .i64 sz, .int .i64 imm] 23)) := (Below.refl _ _).alloc (Nat.le_refl _) _
  generalize World.alloc w _ = W at hx hb ⊢
  obtain ⟨X, hX⟩ : ∃ X, X = w.heap.size := ⟨_, rfl⟩
  rw [← hX] at hx ⊢
  have HX := Lib.hid hX
  have lX := lt_of_block hx
  obtain ⟨x0, x1, x2, x3, x4⟩ := cells5 hx
  have HXX := Lib.hid hx
  clear hX hx
  go_cut [5] from 8 (fun s5 wx => s5 = .bool Z ∧ W = wx)
  case first =>
    cases q
    · have a1 : sz ≠ 32 := ne_of_beq_false Hq.out
      by_cases a3 : sz = 16
      · subst a3
        go_wp2_with fail
        go_meet
        exact ⟨by rw [← HZ0.out]; rfl, rfl⟩
      · have a4 : (sz == 16) = false := beq_false_of_ne a3
        go_wp2_with fail
        go_meet
        exact ⟨by rw [← HZ0.out, decide_eq_false a1, decide_eq_false a3]; rfl, rfl⟩
    · obtain rfl : sz = 32 := eq_of_beq Hq.out
      go_wp2_with fail
      go_meet
      exact ⟨by rw [← HZ0.out]; rfl, rfl⟩
  case rest =>
    obtain ⟨rfl, rfl⟩ := hcut
    go_upto_region 3 with fail
    go_cut [6] from 8 (fun s6 wx => s6 = .bool R ∧ W = wx)
    case first =>
      cases r1 : isR d
      · replace HD := Lib.hid (HD.out _ r1)
        go_wp2_with fail
        refine (HD.out _).mono ?_
        rintro e w2 ⟨rfl, rfl⟩
        go_wp2_with fail
        go_meet
        exact ⟨by rw [← HR0.out, r1]; rfl, rfl⟩
      · replace HD := Lib.hid (HD.out _ r1)
        go_wp2_with fail
        refine (HD.out _).mono ?_
        rintro e w2 ⟨rfl, rfl⟩
        cases r2 : isR s
        all_goals
          replace HS := Lib.hid (HS.out _ r2)
          go_wp2_with fail
          refine (HS.out _).mono ?_
          rintro e w2 ⟨rfl, rfl⟩
          go_wp2_with fail
          go_meet
          exact ⟨by rw [← HR0.out, r1, r2]; rfl, rfl⟩
    case rest =>
      obtain ⟨rfl, rfl⟩ := hcut
      clear HD HS
      go_wp2_with fail
      refine (HF.out _).mono ?_
      rintro e w2 ⟨rfl, rfl⟩
      clear HF
      have HS5 := Lib.hid (show ∀ W', Below W.heap.size W W' → (fun W' => W'.cell? ⟨X, 0, none⟩ = some (.int .i64 op) ∧ W'.cell? ⟨X, 1, none⟩ = some (.int .i64 d) ∧ W'.cell? ⟨X, 2, none⟩ = some (.int .i64 s) ∧ W'.cell? ⟨X, 3, none⟩ = some (.int .i64 sz) ∧ W'.cell? ⟨X, 4, none⟩ = some (.int .i64 imm)) W' from fun W' h => ⟨(h.cell (p := ⟨X, 0, none⟩) lX).trans x0, (h.cell (p := ⟨X, 1, none⟩) lX).trans x1, (h.cell (p := ⟨X, 2, none⟩) lX).trans x2, (h.cell (p := ⟨X, 3, none⟩) lX).trans x3, (h.cell (p := ⟨X, 4, none⟩) lX).trans x4⟩)
      go_wp2_with fail
      refine bodyPost_ret (res2 rfl _ _) rfl ?_
      exact ⟨_, rfl, fun hB => absurd hB (by simp), hb⟩
end Go.Proofs.Ytpekegeohcnhcaa
