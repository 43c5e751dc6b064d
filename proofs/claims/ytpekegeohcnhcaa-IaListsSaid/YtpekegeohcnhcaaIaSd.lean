/-
  The reference: counts.
-/
import Derived.Test.YtpekegeohcnhcaaIaSw
namespace Go.Proofs.Ytpekegeohcnhcaa
open Go.RowKit

set_option maxRecDepth 100000 in
set_option maxHeartbeats 8000000 in
theorem cnt_C (op n d s sz imm : Int) (w : World) (_ : -9223372036854775808 ≤ imm) (_ : imm ≤ 9223372036854775807) (hop : 21 ≤ op ∧ op ≤ 23) (hg : ∀ w1, Calls Try.prog 85 #[.int .i64 op] w1 fun e w' => e = .returned (.int .i64 n) ∧ w1 = w') (hn : isR n = true) : Calls Try.prog 41 #[aggI ⟨op, d, s, sz, imm⟩] w (REnd w (((decide (sz = 32) || decide (sz = 16)) && ((isR d && (s == 0)) && (imm == 0)))) ([211, 192 + 8 * n + d])) := by
  obtain ⟨i0, hi, hz0, hz1, hz2⟩ := info_parts infoBy
  have HG := Lib.hid hg
  clear hg
  have f7 : (op == 7) = false := beq_false_of_ne (by omega)
  have f8 : (op == 8) = false := beq_false_of_ne (by omega)
  have f9 : (op == 9) = false := beq_false_of_ne (by omega)
  have f10 : (op == 10) = false := beq_false_of_ne (by omega)
  have f11 : (op == 11) = false := beq_false_of_ne (by omega)
  have f12 : (op == 12) = false := beq_false_of_ne (by omega)
  have f13 : (op == 13) = false := beq_false_of_ne (by omega)
  have f14 : (op == 14) = false := beq_false_of_ne (by omega)
  have f15 : (op == 15) = false := beq_false_of_ne (by omega)
  have f16 : (op == 16) = false := beq_false_of_ne (by omega)
  have f17 : (op == 17) = false := beq_false_of_ne (by omega)
  have f18 : (op == 18) = false := beq_false_of_ne (by omega)
  have f19 : (op == 19) = false := beq_false_of_ne (by omega)
  have f20 : (op == 20) = false := beq_false_of_ne (by omega)
  have HSW := Lib.hid (sw_21_23 op hop)
  clear hop
  obtain ⟨q, hq⟩ : ∃ b, (sz == 32) = b := ⟨_, rfl⟩
  try rw [hq]
  have Hq := Lib.hid hq
  obtain ⟨Z, hZ⟩ : ∃ b, (decide (sz = 32) || decide (sz = 16)) = b := ⟨_, rfl⟩
  try rw [hZ]
  have HZ := Lib.hid hZ
  clear hZ
  obtain ⟨RD, hRD⟩ : ∃ b, isR d = b := ⟨_, rfl⟩
  try rw [hRD]
  have HRD := Lib.hid hRD
  clear hRD
  obtain ⟨RS, hRS⟩ : ∃ b, isR s = b := ⟨_, rfl⟩
  try rw [hRS]
  have HRS := Lib.hid hRS
  clear hRS
  obtain ⟨S0, hS0⟩ : ∃ b, (s == 0) = b := ⟨_, rfl⟩
  try rw [hS0]
  have HS0 := Lib.hid hS0
  obtain ⟨I0, hI0⟩ : ∃ b, (imm == 0) = b := ⟨_, rfl⟩
  try rw [hI0]
  have HI0 := Lib.hid hI0
  obtain ⟨R, hR⟩ : ∃ b, ((RD && RS) && I0) = b := ⟨_, rfl⟩
  try rw [hR]
  have HR := Lib.hid hR
  clear hR
  obtain ⟨O, hO⟩ : ∃ b, ((RD && S0) && I0) = b := ⟨_, rfl⟩
  try rw [hO]
  have HO := Lib.hid hO
  clear hO
  have HD := Lib.hid (fun w1 => rIsReg_at d RD w1 HRD.out)
  have HE := Lib.hid (fun w1 => rIsReg_at s RS w1 HRS.out)
  go_enter Try.func41, Try.ntmps41
  go_upto_region 2 with fail
  have hx := heap_alloc_new w (.cells #[.int .i64 op, .int .i64 d, .int .i64 s, .int .i64 sz, .int .i64 imm] 23)
  have hb : Below w.heap.size w (w.alloc (.cells #[.int .i64 op, .int .i64 d, .int .i64 s, .int .i64 sz, .int .i64 imm] 23)) := (Below.refl _ _).alloc (Nat.le_refl _) _
  generalize World.alloc w _ = W at hx hb ⊢
  obtain ⟨X, hX⟩ : ∃ X, X = w.heap.size := ⟨_, rfl⟩
  rw [← hX] at hx ⊢
  have HX := Lib.hid hX
  have lX := lt_of_block hx
  obtain ⟨x0, x1, x2, x3, x4⟩ := cells5 hx
  have HXX := Lib.hid hx
  clear hX hx
  go_cut [5] from 10 (fun s5 wx => s5 = .bool Z ∧ W = wx)
  case first =>
    cases q
    · have a1 : sz ≠ 32 := ne_of_beq_false Hq.out
      by_cases a3 : sz = 16
      · subst a3
        go_wp2_with fail
        go_meet
        exact ⟨by rw [← HZ.out]; rfl, rfl⟩
      · have a4 : (sz == 16) = false := beq_false_of_ne a3
        go_wp2_with fail
        go_meet
        exact ⟨by rw [← HZ.out, decide_eq_false a1, decide_eq_false a3]; rfl, rfl⟩
    · obtain rfl : sz = 32 := eq_of_beq Hq.out
      go_wp2_with fail
      go_meet
      exact ⟨by rw [← HZ.out]; rfl, rfl⟩
  case rest =>
    obtain ⟨rfl, rfl⟩ := hcut
    go_upto_region 3 with fail
    go_cut [6] from 10 (fun s6 wx => s6 = .bool R ∧ W = wx)
    case first =>
      go_wp2_with fail
      refine (HD.out _).mono ?_
      rintro e w2 ⟨rfl, rfl⟩
      cases RD
      · go_wp2_with fail
        go_meet
        exact ⟨by rw [← HR.out]; rfl, rfl⟩
      · go_wp2_with fail
        refine (HE.out _).mono ?_
        rintro e w2 ⟨rfl, rfl⟩
        cases RS
        all_goals
          go_wp2_with fail
          go_meet
          exact ⟨by rw [← HR.out]; rfl, rfl⟩
    case rest =>
      obtain ⟨rfl, rfl⟩ := hcut
      go_upto_region 4 with fail
      go_cut [7] from 10 (fun s7 wx => s7 = .bool O ∧ W = wx)
      case first =>
        go_wp2_with fail
        refine (HD.out _).mono ?_
        rintro e w2 ⟨rfl, rfl⟩
        cases RD
        · go_wp2_with fail
          go_meet
          exact ⟨by rw [← HO.out]; rfl, rfl⟩
        · cases S0
          all_goals
            go_wp2_with fail
            go_meet
            exact ⟨by rw [← HO.out]; rfl, rfl⟩
      case rest =>
        obtain ⟨rfl, rfl⟩ := hcut
        go_wp2_with fail
        refine (HG.out _).mono ?_
        rintro e w2 ⟨rfl, rfl⟩
        have HS5 := Lib.hid (show ∀ W', Below W.heap.size W W' → (fun W' => W'.cell? ⟨X, 0, none⟩ = some (.int .i64 op) ∧ W'.cell? ⟨X, 1, none⟩ = some (.int .i64 d) ∧ W'.cell? ⟨X, 2, none⟩ = some (.int .i64 s) ∧ W'.cell? ⟨X, 3, none⟩ = some (.int .i64 sz) ∧ W'.cell? ⟨X, 4, none⟩ = some (.int .i64 imm)) W' from fun W' h => ⟨(h.cell (p := ⟨X, 0, none⟩) lX).trans x0, (h.cell (p := ⟨X, 1, none⟩) lX).trans x1, (h.cell (p := ⟨X, 2, none⟩) lX).trans x2, (h.cell (p := ⟨X, 3, none⟩) lX).trans x3, (h.cell (p := ⟨X, 4, none⟩) lX).trans x4⟩)
        rcases HSW.out with f21 | ⟨f21, f22⟩ | ⟨f21, f22, f23⟩
        all_goals
          go_wp2_with fail
          refine (rMr_sym _ _ _).mono ?_
          rintro e w' ⟨v2, rfl, hv2, rfl⟩
          cases Z
          · go_wp2
            refine bodyPost_ret (res2 rfl _ _) rfl ?_
            refine ⟨_, rfl, fun hB => ?_, hb.trans ((below_new rfl (Below.refl W.heap.size W)).mono (by have := HX.out; omega))⟩
            exact absurd hB (by simp)
          · go_wp2
            refine bodyPost_ret (res2 rfl _ _) rfl ?_
            refine ⟨_, rfl, fun hB => ?_, hb.trans ((below_new rfl (Below.refl W.heap.size W)).mono (by have := HX.out; omega))⟩
            have hR2 := HO.out.trans (show O = true by revert hB; cases O <;> simp)
            simp only [Bool.and_eq_true] at hR2
            obtain ⟨⟨hd, -⟩, -⟩ := hR2
            replace hd := HRD.out.trans hd
            have hh := hv2.out hn hd
            subst hh
            exact own_lower (own_new2 rfl (Below.refl W.heap.size W)) (by have := HX.out; omega)
set_option maxRecDepth 100000 in
set_option maxHeartbeats 8000000 in
theorem cnt_D (op n d s sz imm : Int) (w : World) (_ : -9223372036854775808 ≤ imm) (_ : imm ≤ 9223372036854775807) (hop : 24 ≤ op ∧ op ≤ 25) (hg : ∀ w1, Calls Try.prog 85 #[.int .i64 op] w1 fun e w' => e = .returned (.int .i64 n) ∧ w1 = w') (hn : isR n = true) : Calls Try.prog 41 #[aggI ⟨op, d, s, sz, imm⟩] w (REnd w (((decide (sz = 32) || decide (sz = 16)) && ((isR d && (s == 0)) && (imm == 0)))) ([247, 192 + 8 * n + d])) := by
  obtain ⟨i0, hi, hz0, hz1, hz2⟩ := info_parts infoBy
  have HG := Lib.hid hg
  clear hg
  have f7 : (op == 7) = false := beq_false_of_ne (by omega)
  have f8 : (op == 8) = false := beq_false_of_ne (by omega)
  have f9 : (op == 9) = false := beq_false_of_ne (by omega)
  have f10 : (op == 10) = false := beq_false_of_ne (by omega)
  have f11 : (op == 11) = false := beq_false_of_ne (by omega)
  have f12 : (op == 12) = false := beq_false_of_ne (by omega)
  have f13 : (op == 13) = false := beq_false_of_ne (by omega)
  have f14 : (op == 14) = false := beq_false_of_ne (by omega)
  have f15 : (op == 15) = false := beq_false_of_ne (by omega)
  have f16 : (op == 16) = false := beq_false_of_ne (by omega)
  have f17 : (op == 17) = false := beq_false_of_ne (by omega)
  have f18 : (op == 18) = false := beq_false_of_ne (by omega)
  have f19 : (op == 19) = false := beq_false_of_ne (by omega)
  have f20 : (op == 20) = false := beq_false_of_ne (by omega)
  have f21 : (op == 21) = false := beq_false_of_ne (by omega)
  have f22 : (op == 22) = false := beq_false_of_ne (by omega)
  have f23 : (op == 23) = false := beq_false_of_ne (by omega)
  have HSW := Lib.hid (sw_24_25 op hop)
  clear hop
  obtain ⟨q, hq⟩ : ∃ b, (sz == 32) = b := ⟨_, rfl⟩
  try rw [hq]
  have Hq := Lib.hid hq
  obtain ⟨Z, hZ⟩ : ∃ b, (decide (sz = 32) || decide (sz = 16)) = b := ⟨_, rfl⟩
  try rw [hZ]
  have HZ := Lib.hid hZ
  clear hZ
  obtain ⟨RD, hRD⟩ : ∃ b, isR d = b := ⟨_, rfl⟩
  try rw [hRD]
  have HRD := Lib.hid hRD
  clear hRD
  obtain ⟨RS, hRS⟩ : ∃ b, isR s = b := ⟨_, rfl⟩
  try rw [hRS]
  have HRS := Lib.hid hRS
  clear hRS
  obtain ⟨S0, hS0⟩ : ∃ b, (s == 0) = b := ⟨_, rfl⟩
  try rw [hS0]
  have HS0 := Lib.hid hS0
  obtain ⟨I0, hI0⟩ : ∃ b, (imm == 0) = b := ⟨_, rfl⟩
  try rw [hI0]
  have HI0 := Lib.hid hI0
  obtain ⟨R, hR⟩ : ∃ b, ((RD && RS) && I0) = b := ⟨_, rfl⟩
  try rw [hR]
  have HR := Lib.hid hR
  clear hR
  obtain ⟨O, hO⟩ : ∃ b, ((RD && S0) && I0) = b := ⟨_, rfl⟩
  try rw [hO]
  have HO := Lib.hid hO
  clear hO
  have HD := Lib.hid (fun w1 => rIsReg_at d RD w1 HRD.out)
  have HE := Lib.hid (fun w1 => rIsReg_at s RS w1 HRS.out)
  go_enter Try.func41, Try.ntmps41
  go_upto_region 2 with fail
  have hx := heap_alloc_new w (.cells #[.int .i64 op, .int .i64 d, .int .i64 s, .int .i64 sz, .int .i64 imm] 23)
  have hb : Below w.heap.size w (w.alloc (.cells #[.int .i64 op, .int .i64 d, .int .i64 s, .int .i64 sz, .int .i64 imm] 23)) := (Below.refl _ _).alloc (Nat.le_refl _) _
  generalize World.alloc w _ = W at hx hb ⊢
  obtain ⟨X, hX⟩ : ∃ X, X = w.heap.size := ⟨_, rfl⟩
  rw [← hX] at hx ⊢
  have HX := Lib.hid hX
  have lX := lt_of_block hx
  obtain ⟨x0, x1, x2, x3, x4⟩ := cells5 hx
  have HXX := Lib.hid hx
  clear hX hx
  go_cut [5] from 10 (fun s5 wx => s5 = .bool Z ∧ W = wx)
  case first =>
    cases q
    · have a1 : sz ≠ 32 := ne_of_beq_false Hq.out
      by_cases a3 : sz = 16
      · subst a3
        go_wp2_with fail
        go_meet
        exact ⟨by rw [← HZ.out]; rfl, rfl⟩
      · have a4 : (sz == 16) = false := beq_false_of_ne a3
        go_wp2_with fail
        go_meet
        exact ⟨by rw [← HZ.out, decide_eq_false a1, decide_eq_false a3]; rfl, rfl⟩
    · obtain rfl : sz = 32 := eq_of_beq Hq.out
      go_wp2_with fail
      go_meet
      exact ⟨by rw [← HZ.out]; rfl, rfl⟩
  case rest =>
    obtain ⟨rfl, rfl⟩ := hcut
    go_upto_region 3 with fail
    go_cut [6] from 10 (fun s6 wx => s6 = .bool R ∧ W = wx)
    case first =>
      go_wp2_with fail
      refine (HD.out _).mono ?_
      rintro e w2 ⟨rfl, rfl⟩
      cases RD
      · go_wp2_with fail
        go_meet
        exact ⟨by rw [← HR.out]; rfl, rfl⟩
      · go_wp2_with fail
        refine (HE.out _).mono ?_
        rintro e w2 ⟨rfl, rfl⟩
        cases RS
        all_goals
          go_wp2_with fail
          go_meet
          exact ⟨by rw [← HR.out]; rfl, rfl⟩
    case rest =>
      obtain ⟨rfl, rfl⟩ := hcut
      go_upto_region 4 with fail
      go_cut [7] from 10 (fun s7 wx => s7 = .bool O ∧ W = wx)
      case first =>
        go_wp2_with fail
        refine (HD.out _).mono ?_
        rintro e w2 ⟨rfl, rfl⟩
        cases RD
        · go_wp2_with fail
          go_meet
          exact ⟨by rw [← HO.out]; rfl, rfl⟩
        · cases S0
          all_goals
            go_wp2_with fail
            go_meet
            exact ⟨by rw [← HO.out]; rfl, rfl⟩
      case rest =>
        obtain ⟨rfl, rfl⟩ := hcut
        go_wp2_with fail
        refine (HG.out _).mono ?_
        rintro e w2 ⟨rfl, rfl⟩
        have HS5 := Lib.hid (show ∀ W', Below W.heap.size W W' → (fun W' => W'.cell? ⟨X, 0, none⟩ = some (.int .i64 op) ∧ W'.cell? ⟨X, 1, none⟩ = some (.int .i64 d) ∧ W'.cell? ⟨X, 2, none⟩ = some (.int .i64 s) ∧ W'.cell? ⟨X, 3, none⟩ = some (.int .i64 sz) ∧ W'.cell? ⟨X, 4, none⟩ = some (.int .i64 imm)) W' from fun W' h => ⟨(h.cell (p := ⟨X, 0, none⟩) lX).trans x0, (h.cell (p := ⟨X, 1, none⟩) lX).trans x1, (h.cell (p := ⟨X, 2, none⟩) lX).trans x2, (h.cell (p := ⟨X, 3, none⟩) lX).trans x3, (h.cell (p := ⟨X, 4, none⟩) lX).trans x4⟩)
        rcases HSW.out with f24 | ⟨f24, f25⟩
        all_goals
          go_wp2_with fail
          refine (rMr_sym _ _ _).mono ?_
          rintro e w' ⟨v2, rfl, hv2, rfl⟩
          cases Z
          · go_wp2
            refine bodyPost_ret (res2 rfl _ _) rfl ?_
            refine ⟨_, rfl, fun hB => ?_, hb.trans ((below_new rfl (Below.refl W.heap.size W)).mono (by have := HX.out; omega))⟩
            exact absurd hB (by simp)
          · go_wp2
            refine bodyPost_ret (res2 rfl _ _) rfl ?_
            refine ⟨_, rfl, fun hB => ?_, hb.trans ((below_new rfl (Below.refl W.heap.size W)).mono (by have := HX.out; omega))⟩
            have hR2 := HO.out.trans (show O = true by revert hB; cases O <;> simp)
            simp only [Bool.and_eq_true] at hR2
            obtain ⟨⟨hd, -⟩, -⟩ := hR2
            replace hd := HRD.out.trans hd
            have hh := hv2.out hn hd
            subst hh
            exact own_lower (own_new2 rfl (Below.refl W.heap.size W)) (by have := HX.out; omega)
set_option maxRecDepth 100000 in
set_option maxHeartbeats 8000000 in
theorem cnt_20 (op n d s sz imm : Int) (w : World) (_ : -9223372036854775808 ≤ imm) (_ : imm ≤ 9223372036854775807) (hop : 20 ≤ op ∧ op ≤ 20) (hg : ∀ w1, Calls Try.prog 85 #[.int .i64 op] w1 fun e w' => e = .returned (.int .i64 n) ∧ w1 = w') : Calls Try.prog 41 #[aggI ⟨op, d, s, sz, imm⟩] w (REnd w (((sz == 32) && ((isR d && isR s) && (imm == 0)))) ([15, 175, 192 + 8 * d + s])) := by
  obtain ⟨i0, hi, hz0, hz1, hz2⟩ := info_parts infoBy
  have HG := Lib.hid hg
  clear hg
  have f7 : (op == 7) = false := beq_false_of_ne (by omega)
  have f8 : (op == 8) = false := beq_false_of_ne (by omega)
  have f9 : (op == 9) = false := beq_false_of_ne (by omega)
  have f10 : (op == 10) = false := beq_false_of_ne (by omega)
  have f11 : (op == 11) = false := beq_false_of_ne (by omega)
  have f12 : (op == 12) = false := beq_false_of_ne (by omega)
  have f13 : (op == 13) = false := beq_false_of_ne (by omega)
  have f14 : (op == 14) = false := beq_false_of_ne (by omega)
  have f15 : (op == 15) = false := beq_false_of_ne (by omega)
  have f16 : (op == 16) = false := beq_false_of_ne (by omega)
  have f17 : (op == 17) = false := beq_false_of_ne (by omega)
  have f18 : (op == 18) = false := beq_false_of_ne (by omega)
  have f19 : (op == 19) = false := beq_false_of_ne (by omega)
  have HSW := Lib.hid (sw_20_20 op hop)
  clear hop
  obtain ⟨q, hq⟩ : ∃ b, (sz == 32) = b := ⟨_, rfl⟩
  try rw [hq]
  have Hq := Lib.hid hq
  obtain ⟨Z, hZ⟩ : ∃ b, (decide (sz = 32) || decide (sz = 16)) = b := ⟨_, rfl⟩
  try rw [hZ]
  have HZ := Lib.hid hZ
  clear hZ
  obtain ⟨RD, hRD⟩ : ∃ b, isR d = b := ⟨_, rfl⟩
  try rw [hRD]
  have HRD := Lib.hid hRD
  clear hRD
  obtain ⟨RS, hRS⟩ : ∃ b, isR s = b := ⟨_, rfl⟩
  try rw [hRS]
  have HRS := Lib.hid hRS
  clear hRS
  obtain ⟨S0, hS0⟩ : ∃ b, (s == 0) = b := ⟨_, rfl⟩
  try rw [hS0]
  have HS0 := Lib.hid hS0
  obtain ⟨I0, hI0⟩ : ∃ b, (imm == 0) = b := ⟨_, rfl⟩
  try rw [hI0]
  have HI0 := Lib.hid hI0
  obtain ⟨R, hR⟩ : ∃ b, ((RD && RS) && I0) = b := ⟨_, rfl⟩
  try rw [hR]
  have HR := Lib.hid hR
  clear hR
  obtain ⟨O, hO⟩ : ∃ b, ((RD && S0) && I0) = b := ⟨_, rfl⟩
  try rw [hO]
  have HO := Lib.hid hO
  clear hO
  have HD := Lib.hid (fun w1 => rIsReg_at d RD w1 HRD.out)
  have HE := Lib.hid (fun w1 => rIsReg_at s RS w1 HRS.out)
  go_enter Try.func41, Try.ntmps41
  go_upto_region 2 with fail
  have hx := heap_alloc_new w (.cells #[.int .i64 op, .int .i64 d, .int .i64 s, .int .i64 sz, .int .i64 imm] 23)
  have hb : Below w.heap.size w (w.alloc (.cells #[.int .i64 op, .int .i64 d, .int .i64 s, .int .i64 sz, .int .i64 imm] 23)) := (Below.refl _ _).alloc (Nat.le_refl _) _
  generalize World.alloc w _ = W at hx hb ⊢
  obtain ⟨X, hX⟩ : ∃ X, X = w.heap.size := ⟨_, rfl⟩
  rw [← hX] at hx ⊢
  have HX := Lib.hid hX
  have lX := lt_of_block hx
  obtain ⟨x0, x1, x2, x3, x4⟩ := cells5 hx
  have HXX := Lib.hid hx
  clear hX hx
  go_cut [5] from 10 (fun s5 wx => s5 = .bool Z ∧ W = wx)
  case first =>
    cases q
    · have a1 : sz ≠ 32 := ne_of_beq_false Hq.out
      by_cases a3 : sz = 16
      · subst a3
        go_wp2_with fail
        go_meet
        exact ⟨by rw [← HZ.out]; rfl, rfl⟩
      · have a4 : (sz == 16) = false := beq_false_of_ne a3
        go_wp2_with fail
        go_meet
        exact ⟨by rw [← HZ.out, decide_eq_false a1, decide_eq_false a3]; rfl, rfl⟩
    · obtain rfl : sz = 32 := eq_of_beq Hq.out
      go_wp2_with fail
      go_meet
      exact ⟨by rw [← HZ.out]; rfl, rfl⟩
  case rest =>
    obtain ⟨rfl, rfl⟩ := hcut
    go_upto_region 3 with fail
    go_cut [6] from 10 (fun s6 wx => s6 = .bool R ∧ W = wx)
    case first =>
      go_wp2_with fail
      refine (HD.out _).mono ?_
      rintro e w2 ⟨rfl, rfl⟩
      cases RD
      · go_wp2_with fail
        go_meet
        exact ⟨by rw [← HR.out]; rfl, rfl⟩
      · go_wp2_with fail
        refine (HE.out _).mono ?_
        rintro e w2 ⟨rfl, rfl⟩
        cases RS
        all_goals
          go_wp2_with fail
          go_meet
          exact ⟨by rw [← HR.out]; rfl, rfl⟩
    case rest =>
      obtain ⟨rfl, rfl⟩ := hcut
      go_upto_region 4 with fail
      go_cut [7] from 10 (fun s7 wx => s7 = .bool O ∧ W = wx)
      case first =>
        go_wp2_with fail
        refine (HD.out _).mono ?_
        rintro e w2 ⟨rfl, rfl⟩
        cases RD
        · go_wp2_with fail
          go_meet
          exact ⟨by rw [← HO.out]; rfl, rfl⟩
        · cases S0
          all_goals
            go_wp2_with fail
            go_meet
            exact ⟨by rw [← HO.out]; rfl, rfl⟩
      case rest =>
        obtain ⟨rfl, rfl⟩ := hcut
        go_wp2_with fail
        refine (HG.out _).mono ?_
        rintro e w2 ⟨rfl, rfl⟩
        have HS5 := Lib.hid (show ∀ W', Below W.heap.size W W' → (fun W' => W'.cell? ⟨X, 0, none⟩ = some (.int .i64 op) ∧ W'.cell? ⟨X, 1, none⟩ = some (.int .i64 d) ∧ W'.cell? ⟨X, 2, none⟩ = some (.int .i64 s) ∧ W'.cell? ⟨X, 3, none⟩ = some (.int .i64 sz) ∧ W'.cell? ⟨X, 4, none⟩ = some (.int .i64 imm)) W' from fun W' h => ⟨(h.cell (p := ⟨X, 0, none⟩) lX).trans x0, (h.cell (p := ⟨X, 1, none⟩) lX).trans x1, (h.cell (p := ⟨X, 2, none⟩) lX).trans x2, (h.cell (p := ⟨X, 3, none⟩) lX).trans x3, (h.cell (p := ⟨X, 4, none⟩) lX).trans x4⟩)
        rcases HSW.out with f20
        all_goals
          go_wp2_with fail
          refine (rMr_sym _ _ _).mono ?_
          rintro e w' ⟨v2, rfl, hv2, rfl⟩
          cases q
          · go_wp2
            refine bodyPost_ret (res2 rfl _ _) rfl ?_
            refine ⟨_, rfl, fun hB => ?_, hb.trans ((below_new rfl (Below.refl W.heap.size W)).mono (by have := HX.out; omega))⟩
            exact absurd hB (by simp)
          · go_wp2
            refine bodyPost_ret (res2 rfl _ _) rfl ?_
            refine ⟨_, rfl, fun hB => ?_, hb.trans ((below_new rfl (Below.refl W.heap.size W)).mono (by have := HX.out; omega))⟩
            have hR2 := HR.out.trans (show R = true by revert hB; cases R <;> simp)
            simp only [Bool.and_eq_true] at hR2
            obtain ⟨⟨hd, hs⟩, -⟩ := hR2
            replace hd := HRD.out.trans hd
            replace hs := HRS.out.trans hs
            have hh := hv2.out hd hs
            subst hh
            exact own_lower (own_new3 rfl (Below.refl W.heap.size W)) (by have := HX.out; omega)
end Go.Proofs.Ytpekegeohcnhcaa
