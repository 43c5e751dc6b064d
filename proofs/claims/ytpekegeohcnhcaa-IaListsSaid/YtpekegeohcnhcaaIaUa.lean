/-
  The reference: others.
-/
import Derived.Test.YtpekegeohcnhcaaIaGe
namespace Go.Proofs.Ytpekegeohcnhcaa
open Go.RowKit

set_option maxRecDepth 100000 in
set_option maxHeartbeats 8000000 in
theorem oth_28 (d s sz imm : Int) (w : World) (_ : -9223372036854775808 ≤ imm) (_ : imm ≤ 9223372036854775807) : Calls Try.prog 42 #[aggI ⟨28, d, s, sz, imm⟩] w (REnd w ((((d == 0) && (s == 0)) && (imm == 0)) && (sz == 32)) ([153])) := by
  obtain ⟨i0, hi, hz0, hz1, hz2⟩ := info_parts infoBy
  obtain ⟨q, hq⟩ : ∃ b, (sz == 32) = b := ⟨_, rfl⟩
  try rw [hq]
  have Hq := Lib.hid hq
  obtain ⟨D0, hD0⟩ : ∃ b, (d == 0) = b := ⟨_, rfl⟩
  try rw [hD0]
  have HD0 := Lib.hid hD0
  obtain ⟨S0, hS0⟩ : ∃ b, (s == 0) = b := ⟨_, rfl⟩
  try rw [hS0]
  have HS0 := Lib.hid hS0
  obtain ⟨I0, hI0⟩ : ∃ b, (imm == 0) = b := ⟨_, rfl⟩
  try rw [hI0]
  have HI0 := Lib.hid hI0
  obtain ⟨N, hN⟩ : ∃ b, (((D0 && S0) && I0) && q) = b := ⟨_, rfl⟩
  try rw [hN]
  have HN := Lib.hid hN
  clear hN
  go_enter Try.func42, Try.ntmps42
  go_upto_region 2 with fail
  have hx := heap_alloc_new w (.cells #[.int .i64 28, .int .i64 d, .int .i64 s, .int .i64 sz, .int .i64 imm] 23)
  have hb : Below w.heap.size w (w.alloc (.cells #[.int .i64 28, .int .i64 d, .int .i64 s, .int .i64 sz, .int .i64 imm] 23)) := (Below.refl _ _).alloc (Nat.le_refl _) _
  generalize World.alloc w _ = W at hx hb ⊢
  obtain ⟨X, hX⟩ : ∃ X, X = w.heap.size := ⟨_, rfl⟩
  rw [← hX] at hx ⊢
  have HX := Lib.hid hX
  have lX := lt_of_block hx
  obtain ⟨x0, x1, x2, x3, x4⟩ := cells5 hx
  have HXX := Lib.hid hx
  clear hX hx
  go_cut [5] from 6 (fun s5 wx => s5 = .bool N ∧ W = wx)
  case first =>
    cases D0
    · go_wp2_with fail
      go_meet
      exact ⟨by rw [← HN.out]; rfl, rfl⟩
    · cases S0
      · go_wp2_with fail
        go_meet
        exact ⟨by rw [← HN.out]; rfl, rfl⟩
      · cases I0
        all_goals
          go_wp2_with fail
          go_meet
          exact ⟨by rw [← HN.out]; rfl, rfl⟩
  case rest =>
    obtain ⟨rfl, rfl⟩ := hcut
    have HS5 := Lib.hid (show ∀ W', Below W.heap.size W W' → (fun W' => W'.cell? ⟨X, 0, none⟩ = some (.int .i64 28) ∧ W'.cell? ⟨X, 1, none⟩ = some (.int .i64 d) ∧ W'.cell? ⟨X, 2, none⟩ = some (.int .i64 s) ∧ W'.cell? ⟨X, 3, none⟩ = some (.int .i64 sz) ∧ W'.cell? ⟨X, 4, none⟩ = some (.int .i64 imm)) W' from fun W' h => ⟨(h.cell (p := ⟨X, 0, none⟩) lX).trans x0, (h.cell (p := ⟨X, 1, none⟩) lX).trans x1, (h.cell (p := ⟨X, 2, none⟩) lX).trans x2, (h.cell (p := ⟨X, 3, none⟩) lX).trans x3, (h.cell (p := ⟨X, 4, none⟩) lX).trans x4⟩)
    go_wp2
    refine bodyPost_ret (res2 rfl _ _) rfl ?_
    refine ⟨_, rfl, fun hB => ?_, hb.trans ((below_new rfl (Below.refl W.heap.size W)).mono (by have := HX.out; omega))⟩
    exact own_lower (own_new1 rfl (Below.refl W.heap.size W)) (by have := HX.out; omega)
set_option maxRecDepth 100000 in
set_option maxHeartbeats 8000000 in
theorem oth_34 (d s sz imm : Int) (w : World) (_ : -9223372036854775808 ≤ imm) (_ : imm ≤ 9223372036854775807) : Calls Try.prog 42 #[aggI ⟨34, d, s, sz, imm⟩] w (REnd w ((((d == 0) && (s == 0)) && (imm == 0)) && (sz == 32)) ([244])) := by
  obtain ⟨i0, hi, hz0, hz1, hz2⟩ := info_parts infoBy
  obtain ⟨q, hq⟩ : ∃ b, (sz == 32) = b := ⟨_, rfl⟩
  try rw [hq]
  have Hq := Lib.hid hq
  obtain ⟨D0, hD0⟩ : ∃ b, (d == 0) = b := ⟨_, rfl⟩
  try rw [hD0]
  have HD0 := Lib.hid hD0
  obtain ⟨S0, hS0⟩ : ∃ b, (s == 0) = b := ⟨_, rfl⟩
  try rw [hS0]
  have HS0 := Lib.hid hS0
  obtain ⟨I0, hI0⟩ : ∃ b, (imm == 0) = b := ⟨_, rfl⟩
  try rw [hI0]
  have HI0 := Lib.hid hI0
  obtain ⟨N, hN⟩ : ∃ b, (((D0 && S0) && I0) && q) = b := ⟨_, rfl⟩
  try rw [hN]
  have HN := Lib.hid hN
  clear hN
  go_enter Try.func42, Try.ntmps42
  go_upto_region 2 with fail
  have hx := heap_alloc_new w (.cells #[.int .i64 34, .int .i64 d, .int .i64 s, .int .i64 sz, .int .i64 imm] 23)
  have hb : Below w.heap.size w (w.alloc (.cells #[.int .i64 34, .int .i64 d, .int .i64 s, .int .i64 sz, .int .i64 imm] 23)) := (Below.refl _ _).alloc (Nat.le_refl _) _
  generalize World.alloc w _ = W at hx hb ⊢
  obtain ⟨X, hX⟩ : ∃ X, X = w.heap.size := ⟨_, rfl⟩
  rw [← hX] at hx ⊢
  have HX := Lib.hid hX
  have lX := lt_of_block hx
  obtain ⟨x0, x1, x2, x3, x4⟩ := cells5 hx
  have HXX := Lib.hid hx
  clear hX hx
  go_cut [5] from 6 (fun s5 wx => s5 = .bool N ∧ W = wx)
  case first =>
    cases D0
    · go_wp2_with fail
      go_meet
      exact ⟨by rw [← HN.out]; rfl, rfl⟩
    · cases S0
      · go_wp2_with fail
        go_meet
        exact ⟨by rw [← HN.out]; rfl, rfl⟩
      · cases I0
        all_goals
          go_wp2_with fail
          go_meet
          exact ⟨by rw [← HN.out]; rfl, rfl⟩
  case rest =>
    obtain ⟨rfl, rfl⟩ := hcut
    have HS5 := Lib.hid (show ∀ W', Below W.heap.size W W' → (fun W' => W'.cell? ⟨X, 0, none⟩ = some (.int .i64 34) ∧ W'.cell? ⟨X, 1, none⟩ = some (.int .i64 d) ∧ W'.cell? ⟨X, 2, none⟩ = some (.int .i64 s) ∧ W'.cell? ⟨X, 3, none⟩ = some (.int .i64 sz) ∧ W'.cell? ⟨X, 4, none⟩ = some (.int .i64 imm)) W' from fun W' h => ⟨(h.cell (p := ⟨X, 0, none⟩) lX).trans x0, (h.cell (p := ⟨X, 1, none⟩) lX).trans x1, (h.cell (p := ⟨X, 2, none⟩) lX).trans x2, (h.cell (p := ⟨X, 3, none⟩) lX).trans x3, (h.cell (p := ⟨X, 4, none⟩) lX).trans x4⟩)
    go_wp2
    refine bodyPost_ret (res2 rfl _ _) rfl ?_
    refine ⟨_, rfl, fun hB => ?_, hb.trans ((below_new rfl (Below.refl W.heap.size W)).mono (by have := HX.out; omega))⟩
    exact own_lower (own_new1 rfl (Below.refl W.heap.size W)) (by have := HX.out; omega)
set_option maxRecDepth 100000 in
set_option maxHeartbeats 8000000 in
theorem oth_35 (d s sz imm : Int) (w : World) (_ : -9223372036854775808 ≤ imm) (_ : imm ≤ 9223372036854775807) : Calls Try.prog 42 #[aggI ⟨35, d, s, sz, imm⟩] w (REnd w ((((d == 0) && (s == 0)) && (imm == 0)) && (sz == 32)) ([15, 11])) := by
  obtain ⟨i0, hi, hz0, hz1, hz2⟩ := info_parts infoBy
  obtain ⟨q, hq⟩ : ∃ b, (sz == 32) = b := ⟨_, rfl⟩
  try rw [hq]
  have Hq := Lib.hid hq
  obtain ⟨D0, hD0⟩ : ∃ b, (d == 0) = b := ⟨_, rfl⟩
  try rw [hD0]
  have HD0 := Lib.hid hD0
  obtain ⟨S0, hS0⟩ : ∃ b, (s == 0) = b := ⟨_, rfl⟩
  try rw [hS0]
  have HS0 := Lib.hid hS0
  obtain ⟨I0, hI0⟩ : ∃ b, (imm == 0) = b := ⟨_, rfl⟩
  try rw [hI0]
  have HI0 := Lib.hid hI0
  obtain ⟨N, hN⟩ : ∃ b, (((D0 && S0) && I0) && q) = b := ⟨_, rfl⟩
  try rw [hN]
  have HN := Lib.hid hN
  clear hN
  go_enter Try.func42, Try.ntmps42
  go_upto_region 2 with fail
  have hx := heap_alloc_new w (.cells #[.int .i64 35, .int .i64 d, .int .i64 s, .int .i64 sz, .int .i64 imm] 23)
  have hb : Below w.heap.size w (w.alloc (.cells #[.int .i64 35, .int .i64 d, .int .i64 s, .int .i64 sz, .int .i64 imm] 23)) := (Below.refl _ _).alloc (Nat.le_refl _) _
  generalize World.alloc w _ = W at hx hb ⊢
  obtain ⟨X, hX⟩ : ∃ X, X = w.heap.size := ⟨_, rfl⟩
  rw [← hX] at hx ⊢
  have HX := Lib.hid hX
  have lX := lt_of_block hx
  obtain ⟨x0, x1, x2, x3, x4⟩ := cells5 hx
  have HXX := Lib.hid hx
  clear hX hx
  go_cut [5] from 6 (fun s5 wx => s5 = .bool N ∧ W = wx)
  case first =>
    cases D0
    · go_wp2_with fail
      go_meet
      exact ⟨by rw [← HN.out]; rfl, rfl⟩
    · cases S0
      · go_wp2_with fail
        go_meet
        exact ⟨by rw [← HN.out]; rfl, rfl⟩
      · cases I0
        all_goals
          go_wp2_with fail
          go_meet
          exact ⟨by rw [← HN.out]; rfl, rfl⟩
  case rest =>
    obtain ⟨rfl, rfl⟩ := hcut
    have HS5 := Lib.hid (show ∀ W', Below W.heap.size W W' → (fun W' => W'.cell? ⟨X, 0, none⟩ = some (.int .i64 35) ∧ W'.cell? ⟨X, 1, none⟩ = some (.int .i64 d) ∧ W'.cell? ⟨X, 2, none⟩ = some (.int .i64 s) ∧ W'.cell? ⟨X, 3, none⟩ = some (.int .i64 sz) ∧ W'.cell? ⟨X, 4, none⟩ = some (.int .i64 imm)) W' from fun W' h => ⟨(h.cell (p := ⟨X, 0, none⟩) lX).trans x0, (h.cell (p := ⟨X, 1, none⟩) lX).trans x1, (h.cell (p := ⟨X, 2, none⟩) lX).trans x2, (h.cell (p := ⟨X, 3, none⟩) lX).trans x3, (h.cell (p := ⟨X, 4, none⟩) lX).trans x4⟩)
    go_wp2
    refine bodyPost_ret (res2 rfl _ _) rfl ?_
    refine ⟨_, rfl, fun hB => ?_, hb.trans ((below_new rfl (Below.refl W.heap.size W)).mono (by have := HX.out; omega))⟩
    exact own_lower (own_new2 rfl (Below.refl W.heap.size W)) (by have := HX.out; omega)
set_option maxRecDepth 100000 in
set_option maxHeartbeats 8000000 in
theorem oth_36 (d s sz imm : Int) (w : World) (_ : -9223372036854775808 ≤ imm) (_ : imm ≤ 9223372036854775807) : Calls Try.prog 42 #[aggI ⟨36, d, s, sz, imm⟩] w (REnd w ((((d == 0) && (s == 0)) && (imm == 0)) && (sz == 32)) ([144])) := by
  obtain ⟨i0, hi, hz0, hz1, hz2⟩ := info_parts infoBy
  obtain ⟨q, hq⟩ : ∃ b, (sz == 32) = b := ⟨_, rfl⟩
  try rw [hq]
  have Hq := Lib.hid hq
  obtain ⟨D0, hD0⟩ : ∃ b, (d == 0) = b := ⟨_, rfl⟩
  try rw [hD0]
  have HD0 := Lib.hid hD0
  obtain ⟨S0, hS0⟩ : ∃ b, (s == 0) = b := ⟨_, rfl⟩
  try rw [hS0]
  have HS0 := Lib.hid hS0
  obtain ⟨I0, hI0⟩ : ∃ b, (imm == 0) = b := ⟨_, rfl⟩
  try rw [hI0]
  have HI0 := Lib.hid hI0
  obtain ⟨N, hN⟩ : ∃ b, (((D0 && S0) && I0) && q) = b := ⟨_, rfl⟩
  try rw [hN]
  have HN := Lib.hid hN
  clear hN
  go_enter Try.func42, Try.ntmps42
  go_upto_region 2 with fail
  have hx := heap_alloc_new w (.cells #[.int .i64 36, .int .i64 d, .int .i64 s, .int .i64 sz, .int .i64 imm] 23)
  have hb : Below w.heap.size w (w.alloc (.cells #[.int .i64 36, .int .i64 d, .int .i64 s, .int .i64 sz, .int .i64 imm] 23)) := (Below.refl _ _).alloc (Nat.le_refl _) _
  generalize World.alloc w _ = W at hx hb ⊢
  obtain ⟨X, hX⟩ : ∃ X, X = w.heap.size := ⟨_, rfl⟩
  rw [← hX] at hx ⊢
  have HX := Lib.hid hX
  have lX := lt_of_block hx
  obtain ⟨x0, x1, x2, x3, x4⟩ := cells5 hx
  have HXX := Lib.hid hx
  clear hX hx
  go_cut [5] from 6 (fun s5 wx => s5 = .bool N ∧ W = wx)
  case first =>
    cases D0
    · go_wp2_with fail
      go_meet
      exact ⟨by rw [← HN.out]; rfl, rfl⟩
    · cases S0
      · go_wp2_with fail
        go_meet
        exact ⟨by rw [← HN.out]; rfl, rfl⟩
      · cases I0
        all_goals
          go_wp2_with fail
          go_meet
          exact ⟨by rw [← HN.out]; rfl, rfl⟩
  case rest =>
    obtain ⟨rfl, rfl⟩ := hcut
    have HS5 := Lib.hid (show ∀ W', Below W.heap.size W W' → (fun W' => W'.cell? ⟨X, 0, none⟩ = some (.int .i64 36) ∧ W'.cell? ⟨X, 1, none⟩ = some (.int .i64 d) ∧ W'.cell? ⟨X, 2, none⟩ = some (.int .i64 s) ∧ W'.cell? ⟨X, 3, none⟩ = some (.int .i64 sz) ∧ W'.cell? ⟨X, 4, none⟩ = some (.int .i64 imm)) W' from fun W' h => ⟨(h.cell (p := ⟨X, 0, none⟩) lX).trans x0, (h.cell (p := ⟨X, 1, none⟩) lX).trans x1, (h.cell (p := ⟨X, 2, none⟩) lX).trans x2, (h.cell (p := ⟨X, 3, none⟩) lX).trans x3, (h.cell (p := ⟨X, 4, none⟩) lX).trans x4⟩)
    go_wp2
    refine bodyPost_ret (res2 rfl _ _) rfl ?_
    refine ⟨_, rfl, fun hB => ?_, hb.trans ((below_new rfl (Below.refl W.heap.size W)).mono (by have := HX.out; omega))⟩
    exact own_lower (own_new1 rfl (Below.refl W.heap.size W)) (by have := HX.out; omega)
set_option maxRecDepth 100000 in
set_option maxHeartbeats 8000000 in
theorem oth_none (op d s sz imm : Int) (w : World) (_ : -9223372036854775808 ≤ imm) (_ : imm ≤ 9223372036854775807) (hg : op < 28 ∨ 36 < op) : Calls Try.prog 42 #[aggI ⟨op, d, s, sz, imm⟩] w (REnd w (false) ([])) := by
  obtain ⟨i0, hi, hz0, hz1, hz2⟩ := info_parts infoBy
  have f28 : (op == 28) = false := beq_false_of_ne (by omega)
  have f29 : (op == 29) = false := beq_false_of_ne (by omega)
  have f30 : (op == 30) = false := beq_false_of_ne (by omega)
  have f31 : (op == 31) = false := beq_false_of_ne (by omega)
  have f32 : (op == 32) = false := beq_false_of_ne (by omega)
  have f33 : (op == 33) = false := beq_false_of_ne (by omega)
  have f34 : (op == 34) = false := beq_false_of_ne (by omega)
  have f35 : (op == 35) = false := beq_false_of_ne (by omega)
  have f36 : (op == 36) = false := beq_false_of_ne (by omega)
  clear hg
  obtain ⟨q, hq⟩ : ∃ b, (sz == 32) = b := ⟨_, rfl⟩
  try rw [hq]
  have Hq := Lib.hid hq
  obtain ⟨D0, hD0⟩ : ∃ b, (d == 0) = b := ⟨_, rfl⟩
  try rw [hD0]
  have HD0 := Lib.hid hD0
  obtain ⟨S0, hS0⟩ : ∃ b, (s == 0) = b := ⟨_, rfl⟩
  try rw [hS0]
  have HS0 := Lib.hid hS0
  obtain ⟨I0, hI0⟩ : ∃ b, (imm == 0) = b := ⟨_, rfl⟩
  try rw [hI0]
  have HI0 := Lib.hid hI0
  obtain ⟨N, hN⟩ : ∃ b, (((D0 && S0) && I0) && q) = b := ⟨_, rfl⟩
  try rw [hN]
  have HN := Lib.hid hN
  clear hN
  go_enter Try.func42, Try.ntmps42
  go_upto_region 2 with fail
  have hx := heap_alloc_new w (.cells #[.int .i64 op, .int .i64 d, .int .i64 s, .int .i64 sz, .int .i64 imm] 23)
  have hb : Below w.heap.size w (w.alloc (.cells #[.int .i64 op, .int .i64 d, .int .i64 s, .int .i64 sz, .int .i64 imm] 23)) := (Below.refl _ _).alloc (Nat.le_refl _) _
  generalize World.alloc w _ = W at hx hb ⊢
  obtain ⟨X, hX⟩ : ∃ X, X = w.heap.size := ⟨_, rfl⟩
  rw [← hX] at hx ⊢
  have HX := Lib.hid hX
  have lX := lt_of_block hx
  obtain ⟨x0, x1, x2, x3, x4⟩ := cells5 hx
  have HXX := Lib.hid hx
  clear hX hx
  go_cut [5] from 6 (fun s5 wx => s5 = .bool N ∧ W = wx)
  case first =>
    cases D0
    · go_wp2_with fail
      go_meet
      exact ⟨by rw [← HN.out]; rfl, rfl⟩
    · cases S0
      · go_wp2_with fail
        go_meet
        exact ⟨by rw [← HN.out]; rfl, rfl⟩
      · cases I0
        all_goals
          go_wp2_with fail
          go_meet
          exact ⟨by rw [← HN.out]; rfl, rfl⟩
  case rest =>
    obtain ⟨rfl, rfl⟩ := hcut
    have HS5 := Lib.hid (show ∀ W', Below W.heap.size W W' → (fun W' => W'.cell? ⟨X, 0, none⟩ = some (.int .i64 op) ∧ W'.cell? ⟨X, 1, none⟩ = some (.int .i64 d) ∧ W'.cell? ⟨X, 2, none⟩ = some (.int .i64 s) ∧ W'.cell? ⟨X, 3, none⟩ = some (.int .i64 sz) ∧ W'.cell? ⟨X, 4, none⟩ = some (.int .i64 imm)) W' from fun W' h => ⟨(h.cell (p := ⟨X, 0, none⟩) lX).trans x0, (h.cell (p := ⟨X, 1, none⟩) lX).trans x1, (h.cell (p := ⟨X, 2, none⟩) lX).trans x2, (h.cell (p := ⟨X, 3, none⟩) lX).trans x3, (h.cell (p := ⟨X, 4, none⟩) lX).trans x4⟩)
    go_wp2_with fail
    refine bodyPost_ret (res2 rfl _ _) rfl ?_
    exact ⟨_, rfl, fun hB => absurd hB (by simp), hb⟩
set_option maxRecDepth 100000 in
set_option maxHeartbeats 8000000 in
theorem oth_33 (d s sz imm : Int) (w : World) (h1 : -9223372036854775808 ≤ imm) (h2 : imm ≤ 9223372036854775807) (h8 : (sz == 8) = false) : Calls Try.prog 42 #[aggI ⟨33, d, s, sz, imm⟩] w (REnd w (((((sz == 32) && (d == 0)) && (s == 0)) && isS imm 2147483648)) (233 :: le4 imm)) := by
  obtain ⟨i0, hi, hz0, hz1, hz2⟩ := info_parts infoBy
  obtain ⟨q, hq⟩ : ∃ b, (sz == 32) = b := ⟨_, rfl⟩
  try rw [hq]
  have Hq := Lib.hid hq
  obtain ⟨D0, hD0⟩ : ∃ b, (d == 0) = b := ⟨_, rfl⟩
  try rw [hD0]
  have HD0 := Lib.hid hD0
  obtain ⟨S0, hS0⟩ : ∃ b, (s == 0) = b := ⟨_, rfl⟩
  try rw [hS0]
  have HS0 := Lib.hid hS0
  obtain ⟨I0, hI0⟩ : ∃ b, (imm == 0) = b := ⟨_, rfl⟩
  try rw [hI0]
  have HI0 := Lib.hid hI0
  obtain ⟨F32, hF32⟩ : ∃ b, isS imm 2147483648 = b := ⟨_, rfl⟩
  try rw [hF32]
  have HF32 := Lib.hid hF32
  clear hF32
  obtain ⟨N, hN⟩ : ∃ b, (((D0 && S0) && I0) && q) = b := ⟨_, rfl⟩
  try rw [hN]
  have HN := Lib.hid hN
  clear hN
  go_enter Try.func42, Try.ntmps42
  go_upto_region 2 with fail
  have hx := heap_alloc_new w (.cells #[.int .i64 33, .int .i64 d, .int .i64 s, .int .i64 sz, .int .i64 imm] 23)
  have hb : Below w.heap.size w (w.alloc (.cells #[.int .i64 33, .int .i64 d, .int .i64 s, .int .i64 sz, .int .i64 imm] 23)) := (Below.refl _ _).alloc (Nat.le_refl _) _
  generalize World.alloc w _ = W at hx hb ⊢
  obtain ⟨X, hX⟩ : ∃ X, X = w.heap.size := ⟨_, rfl⟩
  rw [← hX] at hx ⊢
  have HX := Lib.hid hX
  have lX := lt_of_block hx
  obtain ⟨x0, x1, x2, x3, x4⟩ := cells5 hx
  have HXX := Lib.hid hx
  clear hX hx
  go_cut [5] from 6 (fun s5 wx => s5 = .bool N ∧ W = wx)
  case first =>
    cases D0
    · go_wp2_with fail
      go_meet
      exact ⟨by rw [← HN.out]; rfl, rfl⟩
    · cases S0
      · go_wp2_with fail
        go_meet
        exact ⟨by rw [← HN.out]; rfl, rfl⟩
      · cases I0
        all_goals
          go_wp2_with fail
          go_meet
          exact ⟨by rw [← HN.out]; rfl, rfl⟩
  case rest =>
    obtain ⟨rfl, rfl⟩ := hcut
    have HS5 := Lib.hid (show ∀ W', Below W.heap.size W W' → (fun W' => W'.cell? ⟨X, 0, none⟩ = some (.int .i64 33) ∧ W'.cell? ⟨X, 1, none⟩ = some (.int .i64 d) ∧ W'.cell? ⟨X, 2, none⟩ = some (.int .i64 s) ∧ W'.cell? ⟨X, 3, none⟩ = some (.int .i64 sz) ∧ W'.cell? ⟨X, 4, none⟩ = some (.int .i64 imm)) W' from fun W' h => ⟨(h.cell (p := ⟨X, 0, none⟩) lX).trans x0, (h.cell (p := ⟨X, 1, none⟩) lX).trans x1, (h.cell (p := ⟨X, 2, none⟩) lX).trans x2, (h.cell (p := ⟨X, 3, none⟩) lX).trans x3, (h.cell (p := ⟨X, 4, none⟩) lX).trans x4⟩)
    go_wp2_with fail
    generalize hA1 : World.alloc _ _ = wn1
    have hb1 := below_new hA1 (Below.refl W.heap.size W)
    have ho1 := own_new1 hA1 (Below.refl W.heap.size W)
    clear hA1
    refine (rLittle4_any _ _ h1 h2).mono ?_
    rintro e wn2 ⟨g2, c2, rfl, ho2, hw2⟩
    have hb2 := hb1.trans (hw2.mono hb1.size)
    have ho1x := own_below ho1 hw2
    replace ho2 := own_lower ho2 hb1.size
    clear hw2 ho1
    go_wp2_with (at_builtin; refine wpList_append_own _ rfl _ _ 24 rfl W.heap.size 5 i0 (.int .u8 0) 1 1 Try.underlying24 hi hz0 hz1 hz2 rfl (by decide) _ _ _ rfl ho1x ⟨g2, 0, none⟩ 4 c2 (byV (le4 imm)) rfl ?c0 ?c1 ?c2 ?c3 ?c4 ?c5 ?_)
    case c0 => rfl
    case c1 => exact ho2.cells rfl
    case c2 => exact byV_one _
    case c3 => unfold maxLen; simp
    case c4 => simp
    case c5 => exact hb2.size
    intro v3 wn3 ho3 hgr3 _
    have hb3 := hb2.grown hgr3 hb2.size (own_base ho1x)
    clear hgr3 ho2 ho1x
    rw [← byV_append] at ho3
    obtain ⟨g3, c3, hv3⟩ := own_form ho3 (by simp)
    subst hv3
    obtain ⟨y3_0, y3_1, y3_2, y3_3, y3_4⟩ := HS5.out _ hb3
    cases q
    · go_wp2
      refine bodyPost_ret (res2 rfl _ _) rfl ?_
      refine ⟨_, rfl, fun hB => ?_, hb.trans (hb3.mono (by have := HX.out; omega))⟩
      exact absurd hB (by simp)
    · cases D0
      · go_wp2
        refine bodyPost_ret (res2 rfl _ _) rfl ?_
        refine ⟨_, rfl, fun hB => ?_, hb.trans (hb3.mono (by have := HX.out; omega))⟩
        exact absurd hB (by simp)
      · cases S0
        · go_wp2
          refine bodyPost_ret (res2 rfl _ _) rfl ?_
          refine ⟨_, rfl, fun hB => ?_, hb.trans (hb3.mono (by have := HX.out; omega))⟩
          exact absurd hB (by simp)
        · go_wp2_with fail
          refine (rBetween32_at imm F32 _ HF32.out).mono ?_
          rintro e w' ⟨rfl, rfl⟩
          go_wp2
          refine bodyPost_ret (res2 rfl _ _) rfl ?_
          refine ⟨_, rfl, fun hB => ?_, hb.trans (hb3.mono (by have := HX.out; omega))⟩
          try rw [← byV_append] at ho3
          have e := own_lower (b2 := w.heap.size) ho3 (by have := HX.out; omega)
          exact e
end Go.Proofs.Ytpekegeohcnhcaa
