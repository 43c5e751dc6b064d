/-
  How instructions with a number are written.
-/
import Derived.Test.YtpekegeohcnhcaaIaD
namespace Go.Proofs.Ytpekegeohcnhcaa
open Go.RowKit

theorem signed8_any (n : Int) (w : World) : Calls Try.prog 70 #[.int .i64 n, .int .i64 8] w fun e w' => e = .returned (.int .i64 (sgn 128 n)) ∧ w = w' := by
  have hm : bits .and .i64 n 255 = n % 256 := i64_mask n 8 (by omega)
  have HX := Lib.hid (show sgn 128 n = if 128 ≤ n % 256 then n % 256 - 256 else n % 256 from rfl)
  have h0 := Int.emod_nonneg n (show (256 : Int) ≠ 0 by decide)
  have h1 := Int.emod_lt_of_pos n (show (0 : Int) < 256 by decide)
  generalize n % 256 = q at hm HX h0 h1
  by_cases hq : 128 ≤ q
  · have d0 : decide (128 ≤ q) = true := decide_eq_true hq
    go_enter Try.func70, Try.ntmps70
    go_wp2
    go_ret
    exact ⟨ret_i (by rw [HX.out, if_pos hq]), rfl⟩
  · have d0 : decide (128 ≤ q) = false := decide_eq_false hq
    go_enter Try.func70, Try.ntmps70
    go_wp2
    go_ret
    exact ⟨ret_i (by rw [HX.out, if_neg (by omega)]), rfl⟩
theorem signed16_any (n : Int) (w : World) : Calls Try.prog 70 #[.int .i64 n, .int .i64 16] w fun e w' => e = .returned (.int .i64 (sgn 32768 n)) ∧ w = w' := by
  have hm : bits .and .i64 n 65535 = n % 65536 := i64_mask n 16 (by omega)
  have HX := Lib.hid (show sgn 32768 n = if 32768 ≤ n % 65536 then n % 65536 - 65536 else n % 65536 from rfl)
  have h0 := Int.emod_nonneg n (show (65536 : Int) ≠ 0 by decide)
  have h1 := Int.emod_lt_of_pos n (show (0 : Int) < 65536 by decide)
  generalize n % 65536 = q at hm HX h0 h1
  by_cases hq : 32768 ≤ q
  · have d0 : decide (32768 ≤ q) = true := decide_eq_true hq
    go_enter Try.func70, Try.ntmps70
    go_wp2
    go_ret
    exact ⟨ret_i (by rw [HX.out, if_pos hq]), rfl⟩
  · have d0 : decide (32768 ≤ q) = false := decide_eq_false hq
    go_enter Try.func70, Try.ntmps70
    go_wp2
    go_ret
    exact ⟨ret_i (by rw [HX.out, if_neg (by omega)]), rfl⟩
theorem signed32_any (n : Int) (w : World) : Calls Try.prog 70 #[.int .i64 n, .int .i64 32] w fun e w' => e = .returned (.int .i64 (sgn 2147483648 n)) ∧ w = w' := by
  have hm : bits .and .i64 n 4294967295 = n % 4294967296 := i64_mask n 32 (by omega)
  have HX := Lib.hid (show sgn 2147483648 n = if 2147483648 ≤ n % 4294967296 then n % 4294967296 - 4294967296 else n % 4294967296 from rfl)
  have h0 := Int.emod_nonneg n (show (4294967296 : Int) ≠ 0 by decide)
  have h1 := Int.emod_lt_of_pos n (show (0 : Int) < 4294967296 by decide)
  generalize n % 4294967296 = q at hm HX h0 h1
  by_cases hq : 2147483648 ≤ q
  · have d0 : decide (2147483648 ≤ q) = true := decide_eq_true hq
    go_enter Try.func70, Try.ntmps70
    go_wp2
    go_ret
    exact ⟨ret_i (by rw [HX.out, if_pos hq]), rfl⟩
  · have d0 : decide (2147483648 ≤ q) = false := decide_eq_false hq
    go_enter Try.func70, Try.ntmps70
    go_wp2
    go_ret
    exact ⟨ret_i (by rw [HX.out, if_neg (by omega)]), rfl⟩
set_option maxRecDepth 100000 in
set_option maxHeartbeats 4000000 in
theorem wr9_16_true (o n z : Int) (ff wf : Nat) (op d s imm : Int) (w : World) (_ : 0 ≤ o ∧ o < 256) (hn : 0 ≤ n ∧ n < 8) (hd : 0 ≤ d ∧ d < 8) (_ : -9223372036854775808 ≤ imm) (_ : imm ≤ 9223372036854775807) (hB : isS (sgn 32768 imm) 128 = true) : Calls Try.prog 53 #[.agg (fmC ⟨o, n, z, 0, 0⟩ ff wf), aggI ⟨op, d, s, 16, imm⟩] w fun e w' => ∃ v, e = .returned v ∧ w'.ownsRow w.heap.size 5 1 v ([131, 192 + 8 * n + d, imm % 256] : List Int).length (byV ([131, 192 + 8 * n + d, imm % 256] : List Int)) ∧ Below w.heap.size w w' := by
  obtain ⟨i0, hi, hz0, hz1, hz2⟩ := info_parts infoBy
  have HBB := Lib.hid hB
  clear hB
  go_enter Try.func53, Try.ntmps53
  go_wp2_with fail
  have hf0 := heap_alloc_new w (.cells #[.int .i64 o, .int .i64 n, .int .i64 z, fv ff, fv wf] 59)
  have hf := (heap_alloc_old (w.alloc (.cells #[.int .i64 o, .int .i64 n, .int .i64 z, fv ff, fv wf] 59)) (.cells #[.int .i64 op, .int .i64 d, .int .i64 s, .int .i64 16, .int .i64 imm] 23) (lt_of_block hf0)).trans hf0
  have hx := heap_alloc_new (w.alloc (.cells #[.int .i64 o, .int .i64 n, .int .i64 z, fv ff, fv wf] 59)) (.cells #[.int .i64 op, .int .i64 d, .int .i64 s, .int .i64 16, .int .i64 imm] 23)
  rw [show (w.alloc (.cells #[.int .i64 o, .int .i64 n, .int .i64 z, fv ff, fv wf] 59)).heap.size = w.heap.size + 1 by simp] at hx
  have hb : Below w.heap.size w ((w.alloc (.cells #[.int .i64 o, .int .i64 n, .int .i64 z, fv ff, fv wf] 59)).alloc (.cells #[.int .i64 op, .int .i64 d, .int .i64 s, .int .i64 16, .int .i64 imm] 23)) := ((Below.refl _ _).alloc (Nat.le_refl _) _).alloc (by simp) _
  have hWS : ((w.alloc (.cells #[.int .i64 o, .int .i64 n, .int .i64 z, fv ff, fv wf] 59)).alloc (.cells #[.int .i64 op, .int .i64 d, .int .i64 s, .int .i64 16, .int .i64 imm] 23)).heap.size = w.heap.size + 1 + 1 := by simp
  generalize hW : ((w.alloc (.cells #[.int .i64 o, .int .i64 n, .int .i64 z, fv ff, fv wf] 59)).alloc (.cells #[.int .i64 op, .int .i64 d, .int .i64 s, .int .i64 16, .int .i64 imm] 23)) = W at hf hx hb hWS ⊢
  clear hW hf0
  obtain ⟨f0, f1, -, -, -⟩ := cells5 hf
  obtain ⟨-, x1, x2, x3, x4⟩ := cells5 hx
  generalize w.heap.size + 1 = Y at hx x1 x2 x3 x4 hWS ⊢
  have HWS := Lib.hid hWS
  clear hWS
  obtain ⟨X, hX⟩ : ∃ X, X = w.heap.size := ⟨_, rfl⟩
  rw [← hX] at hf f0 f1 hb ⊢
  have lX := lt_of_block hf
  have lY := lt_of_block hx
  have HX := Lib.hid hX
  clear hX hf hx
  go_wp2_with (first | (go_at_call 70; ((with_reducible refine (signed16_any _ _).mono ?_); rintro e w' ⟨rfl, rfl⟩)) | (go_at_call 91; ((with_reducible refine (isSigned8_at _ _ _ HBB.out).mono ?_); rintro e w' ⟨rfl, rfl⟩)))
  have HS := Lib.hid (show ∀ W', Below W.heap.size W W' → W'.cell? ⟨X, 1, none⟩ = some (.int .i64 n) ∧ W'.cell? ⟨Y, 1, none⟩ = some (.int .i64 d) ∧ W'.cell? ⟨Y, 4, none⟩ = some (.int .i64 imm) from fun W' h => ⟨(h.cell (p := ⟨X, 1, none⟩) lX).trans f1, (h.cell (p := ⟨Y, 1, none⟩) lY).trans x1, (h.cell (p := ⟨Y, 4, none⟩) lY).trans x4⟩)
  have hwi : IntKind.u8.wrap imm = imm % 256 := IntKind.wrap_u8 _
  go_region_held3 (fun W' => W'.cell? ⟨X, 1, none⟩ = some (.int .i64 n) ∧ W'.cell? ⟨Y, 1, none⟩ = some (.int .i64 d) ∧ W'.cell? ⟨Y, 4, none⟩ = some (.int .i64 imm)) (first | exact HS.out _ (Below.refl _ _) | exact HS.out _ (drewR (Below.refl _ _)) | exact HS.out _ ((Below.refl _ _).alloc (Nat.le_refl _) _) | exact HS.out _ (drewR ((Below.refl _ _).alloc (Nat.le_refl _) _)) | exact HS.out _ (by assumption) | exact HS.out _ (drewR (by assumption)) | exact HS.out _ ((by assumption : Below W.heap.size W _).alloc (by assumption : Below W.heap.size W _).size _) | exact HS.out _ (drewR ((by assumption : Below W.heap.size W _).alloc (by assumption : Below W.heap.size W _).size _))) ((go_at_call 89; ((with_reducible refine (registers_at _ _ _ hn hd).mono ?_); rintro e w' ⟨rfl, rfl⟩)))
  go_wp2
  go_ret
  exact ⟨_, rfl, own_below (own_lit (l := [131, 192 + 8 * n + d, imm % 256]) (by have := HX.out; omega) (heap_alloc_new W _) (by simp)) (drewR (Below.refl _ _)), by rw [← HX.out]; exact drewR (hb.alloc (Nat.le_of_lt lX) _)⟩
set_option maxRecDepth 100000 in
set_option maxHeartbeats 4000000 in
theorem wr9_16_false (o n z : Int) (ff wf : Nat) (op d s imm : Int) (w : World) (ho : 0 ≤ o ∧ o < 256) (hn : 0 ≤ n ∧ n < 8) (hd : 0 ≤ d ∧ d < 8) (h1 : -9223372036854775808 ≤ imm) (h2 : imm ≤ 9223372036854775807) (hB : isS (sgn 32768 imm) 128 = false) : Calls Try.prog 53 #[.agg (fmC ⟨o, n, z, 0, 0⟩ ff wf), aggI ⟨op, d, s, 16, imm⟩] w fun e w' => ∃ v, e = .returned v ∧ w'.ownsRow w.heap.size 5 1 v (o :: (192 + 8 * n + d) :: le2 imm : List Int).length (byV (o :: (192 + 8 * n + d) :: le2 imm : List Int)) ∧ Below w.heap.size w w' := by
  obtain ⟨i0, hi, hz0, hz1, hz2⟩ := info_parts infoBy
  have HBB := Lib.hid hB
  clear hB
  go_enter Try.func53, Try.ntmps53
  go_wp2_with fail
  have hf0 := heap_alloc_new w (.cells #[.int .i64 o, .int .i64 n, .int .i64 z, fv ff, fv wf] 59)
  have hf := (heap_alloc_old (w.alloc (.cells #[.int .i64 o, .int .i64 n, .int .i64 z, fv ff, fv wf] 59)) (.cells #[.int .i64 op, .int .i64 d, .int .i64 s, .int .i64 16, .int .i64 imm] 23) (lt_of_block hf0)).trans hf0
  have hx := heap_alloc_new (w.alloc (.cells #[.int .i64 o, .int .i64 n, .int .i64 z, fv ff, fv wf] 59)) (.cells #[.int .i64 op, .int .i64 d, .int .i64 s, .int .i64 16, .int .i64 imm] 23)
  rw [show (w.alloc (.cells #[.int .i64 o, .int .i64 n, .int .i64 z, fv ff, fv wf] 59)).heap.size = w.heap.size + 1 by simp] at hx
  have hb : Below w.heap.size w ((w.alloc (.cells #[.int .i64 o, .int .i64 n, .int .i64 z, fv ff, fv wf] 59)).alloc (.cells #[.int .i64 op, .int .i64 d, .int .i64 s, .int .i64 16, .int .i64 imm] 23)) := ((Below.refl _ _).alloc (Nat.le_refl _) _).alloc (by simp) _
  have hWS : ((w.alloc (.cells #[.int .i64 o, .int .i64 n, .int .i64 z, fv ff, fv wf] 59)).alloc (.cells #[.int .i64 op, .int .i64 d, .int .i64 s, .int .i64 16, .int .i64 imm] 23)).heap.size = w.heap.size + 1 + 1 := by simp
  generalize hW : ((w.alloc (.cells #[.int .i64 o, .int .i64 n, .int .i64 z, fv ff, fv wf] 59)).alloc (.cells #[.int .i64 op, .int .i64 d, .int .i64 s, .int .i64 16, .int .i64 imm] 23)) = W at hf hx hb hWS ⊢
  clear hW hf0
  obtain ⟨f0, f1, -, -, -⟩ := cells5 hf
  obtain ⟨-, x1, x2, x3, x4⟩ := cells5 hx
  generalize w.heap.size + 1 = Y at hx x1 x2 x3 x4 hWS ⊢
  have HWS := Lib.hid hWS
  clear hWS
  obtain ⟨X, hX⟩ : ∃ X, X = w.heap.size := ⟨_, rfl⟩
  rw [← hX] at hf f0 f1 hb ⊢
  have lX := lt_of_block hf
  have lY := lt_of_block hx
  have HX := Lib.hid hX
  clear hX hf hx
  go_wp2_with (first | (go_at_call 70; ((with_reducible refine (signed16_any _ _).mono ?_); rintro e w' ⟨rfl, rfl⟩)) | (go_at_call 91; ((with_reducible refine (isSigned8_at _ _ _ HBB.out).mono ?_); rintro e w' ⟨rfl, rfl⟩)))
  have HS := Lib.hid (show ∀ W', Below W.heap.size W W' → W'.cell? ⟨X, 0, none⟩ = some (.int .i64 o) ∧ W'.cell? ⟨X, 1, none⟩ = some (.int .i64 n) ∧ W'.cell? ⟨Y, 1, none⟩ = some (.int .i64 d) ∧ W'.cell? ⟨Y, 3, none⟩ = some (.int .i64 16) ∧ W'.cell? ⟨Y, 4, none⟩ = some (.int .i64 imm) from fun W' h => ⟨(h.cell (p := ⟨X, 0, none⟩) lX).trans f0, (h.cell (p := ⟨X, 1, none⟩) lX).trans f1, (h.cell (p := ⟨Y, 1, none⟩) lY).trans x1, (h.cell (p := ⟨Y, 3, none⟩) lY).trans x3, (h.cell (p := ⟨Y, 4, none⟩) lY).trans x4⟩)
  have HM := Lib.hid (fun (W' : World) (hw : Below W.heap.size W W') => (little16_any imm W' h1 h2).mono fun e w' h => (show ∃ g cap, e = .returned (.slice (some ⟨g, 0, none⟩) 2 cap) ∧ w'.ownsRow W.heap.size 5 1 (.slice (some ⟨g, 0, none⟩) 2 cap) 2 (byV (le2 imm)) ∧ Below W'.heap.size W' w' ∧ Below W.heap.size W w' from by
    obtain ⟨g, cap, e1, e2, e3⟩ := h
    exact ⟨g, cap, e1, own_lower e2 hw.size, e3, hw.trans (e3.mono hw.size)⟩))
  have hwo : IntKind.u8.wrap o = o := u8_in ho.1 ho.2
  have HLA := Lib.hid (show ∀ W', Below (W.alloc (.cells #[.int .u8 o, .int .u8 (192 + 8 * n + d)] 5)).heap.size (W.alloc (.cells #[.int .u8 o, .int .u8 (192 + 8 * n + d)] 5)) W' → W'.ownsRow W.heap.size 5 1 (.slice (some ⟨W.heap.size, 0, none⟩) 2 2) 2 (byV [o, 192 + 8 * n + d]) from fun W' h => own_below (own_lit (Nat.le_refl _) (heap_alloc_new W _) (by simp)) h)
  have HLB := Lib.hid (show ∀ W', W.heap.size ≤ W'.heap.size → (W'.alloc (.cells #[.int .u8 o, .int .u8 (192 + 8 * n + d)] 5)).ownsRow W.heap.size 5 1 (.slice (some ⟨W'.heap.size, 0, none⟩) 2 2) 2 (byV [o, 192 + 8 * n + d]) from fun W' h => own_lit h (heap_alloc_new W' _) (by simp))
  go_region_held3 (fun W' => W'.cell? ⟨X, 0, none⟩ = some (.int .i64 o) ∧ W'.cell? ⟨X, 1, none⟩ = some (.int .i64 n) ∧ W'.cell? ⟨Y, 1, none⟩ = some (.int .i64 d) ∧ W'.cell? ⟨Y, 3, none⟩ = some (.int .i64 16) ∧ W'.cell? ⟨Y, 4, none⟩ = some (.int .i64 imm)) (first | exact HS.out _ (Below.refl _ _) | exact HS.out _ (drewR (Below.refl _ _)) | exact HS.out _ ((Below.refl _ _).alloc (Nat.le_refl _) _) | exact HS.out _ (drewR ((Below.refl _ _).alloc (Nat.le_refl _) _)) | exact HS.out _ (by assumption) | exact HS.out _ (drewR (by assumption)) | exact HS.out _ ((by assumption : Below W.heap.size W _).alloc (by assumption : Below W.heap.size W _).size _) | exact HS.out _ (drewR ((by assumption : Below W.heap.size W _).alloc (by assumption : Below W.heap.size W _).size _))) (first | ((go_at_call 89; ((with_reducible refine (registers_at _ _ _ hn hd).mono ?_); rintro e w' ⟨rfl, rfl⟩))) | ((go_at_call 90; refine (HM.out _ (by first | exact Below.refl _ _ | exact drewR (Below.refl _ _) | exact (Below.refl _ _).alloc (Nat.le_refl _) _ | exact drewR ((Below.refl _ _).alloc (Nat.le_refl _) _))).mono ?_; rintro e w2 ⟨g, cap, rfl, hG, hb2, hb3⟩)) | (have gA := (hb2 : Below (W.alloc (.cells #[.int .u8 o, .int .u8 (192 + 8 * n + d)] 5)).drew.heap.size (W.alloc (.cells #[.int .u8 o, .int .u8 (192 + 8 * n + d)] 5)).drew w2); refine step_append_lies _ (by rfl) _ _ _ (by rfl) W.heap.size 5 i0 (.int .u8 0) 1 1 Try.underlying24 hi hz0 hz1 hz2 rfl (by decide) (.slice (some ⟨W.heap.size, 0, none⟩) 2 2) 2 (byV [o, 192 + 8 * n + d]) (by rfl) (HLA.out _ (undrew hb2)) ⟨g, 0, none⟩ 2 cap (byV (le2 imm)) (by rfl) (by simp [byV, le2]) (hG.cells rfl) (byV_one _) (by omega) (by unfold maxLen; omega) (by omega) (hb3.size) _ rfl ?_; intro gg cap9 w1 hown1 hgrow hat hlt; have hk : Below W.heap.size W w1 := (hb3).grown hgrow (hb3.size) (own_base (HLA.out _ (undrew hb2)))) | (refine step_append_lies _ (by rfl) _ _ _ (by rfl) W.heap.size 5 i0 (.int .u8 0) 1 1 Try.underlying24 hi hz0 hz1 hz2 rfl (by decide) (.slice (some ⟨w2.heap.size, 0, none⟩) 2 2) 2 (byV [o, 192 + 8 * n + d]) (by rfl) (HLB.out _ hb3.size) ⟨g, 0, none⟩ 2 cap (byV (le2 imm)) (by rfl) (by simp [byV, le2]) ((hG.alloc _).cells rfl) (byV_one _) (by omega) (by unfold maxLen; omega) (by omega) ((hb3.alloc hb3.size _).size) _ rfl ?_; intro gg cap9 w1 hown1 hgrow hat hlt; have hk : Below W.heap.size W w1 := (hb3.alloc hb3.size _).grown hgrow ((hb3.alloc hb3.size _).size) (own_base (HLB.out _ hb3.size))))
  all_goals (go_wp2; go_ret; exact ⟨_, rfl, own_lower (by rw [← byV_append] at hown1; exact hown1) (by have := HX.out; omega), by rw [← HX.out]; exact hb.trans (hk.mono (Nat.le_of_lt lX))⟩)
set_option maxRecDepth 100000 in
set_option maxHeartbeats 4000000 in
theorem wr9_32_true (o n z : Int) (ff wf : Nat) (op d s imm : Int) (w : World) (_ : 0 ≤ o ∧ o < 256) (hn : 0 ≤ n ∧ n < 8) (hd : 0 ≤ d ∧ d < 8) (_ : -9223372036854775808 ≤ imm) (_ : imm ≤ 9223372036854775807) (hB : isS (sgn 2147483648 imm) 128 = true) : Calls Try.prog 53 #[.agg (fmC ⟨o, n, z, 0, 0⟩ ff wf), aggI ⟨op, d, s, 32, imm⟩] w fun e w' => ∃ v, e = .returned v ∧ w'.ownsRow w.heap.size 5 1 v ([131, 192 + 8 * n + d, imm % 256] : List Int).length (byV ([131, 192 + 8 * n + d, imm % 256] : List Int)) ∧ Below w.heap.size w w' := by
  obtain ⟨i0, hi, hz0, hz1, hz2⟩ := info_parts infoBy
  have HBB := Lib.hid hB
  clear hB
  go_enter Try.func53, Try.ntmps53
  go_wp2_with fail
  have hf0 := heap_alloc_new w (.cells #[.int .i64 o, .int .i64 n, .int .i64 z, fv ff, fv wf] 59)
  have hf := (heap_alloc_old (w.alloc (.cells #[.int .i64 o, .int .i64 n, .int .i64 z, fv ff, fv wf] 59)) (.cells #[.int .i64 op, .int .i64 d, .int .i64 s, .int .i64 32, .int .i64 imm] 23) (lt_of_block hf0)).trans hf0
  have hx := heap_alloc_new (w.alloc (.cells #[.int .i64 o, .int .i64 n, .int .i64 z, fv ff, fv wf] 59)) (.cells #[.int .i64 op, .int .i64 d, .int .i64 s, .int .i64 32, .int .i64 imm] 23)
  rw [show (w.alloc (.cells #[.int .i64 o, .int .i64 n, .int .i64 z, fv ff, fv wf] 59)).heap.size = w.heap.size + 1 by simp] at hx
  have hb : Below w.heap.size w ((w.alloc (.cells #[.int .i64 o, .int .i64 n, .int .i64 z, fv ff, fv wf] 59)).alloc (.cells #[.int .i64 op, .int .i64 d, .int .i64 s, .int .i64 32, .int .i64 imm] 23)) := ((Below.refl _ _).alloc (Nat.le_refl _) _).alloc (by simp) _
  have hWS : ((w.alloc (.cells #[.int .i64 o, .int .i64 n, .int .i64 z, fv ff, fv wf] 59)).alloc (.cells #[.int .i64 op, .int .i64 d, .int .i64 s, .int .i64 32, .int .i64 imm] 23)).heap.size = w.heap.size + 1 + 1 := by simp
  generalize hW : ((w.alloc (.cells #[.int .i64 o, .int .i64 n, .int .i64 z, fv ff, fv wf] 59)).alloc (.cells #[.int .i64 op, .int .i64 d, .int .i64 s, .int .i64 32, .int .i64 imm] 23)) = W at hf hx hb hWS ⊢
  clear hW hf0
  obtain ⟨f0, f1, -, -, -⟩ := cells5 hf
  obtain ⟨-, x1, x2, x3, x4⟩ := cells5 hx
  generalize w.heap.size + 1 = Y at hx x1 x2 x3 x4 hWS ⊢
  have HWS := Lib.hid hWS
  clear hWS
  obtain ⟨X, hX⟩ : ∃ X, X = w.heap.size := ⟨_, rfl⟩
  rw [← hX] at hf f0 f1 hb ⊢
  have lX := lt_of_block hf
  have lY := lt_of_block hx
  have HX := Lib.hid hX
  clear hX hf hx
  go_wp2_with (first | (go_at_call 70; ((with_reducible refine (signed32_any _ _).mono ?_); rintro e w' ⟨rfl, rfl⟩)) | (go_at_call 91; ((with_reducible refine (isSigned8_at _ _ _ HBB.out).mono ?_); rintro e w' ⟨rfl, rfl⟩)))
  have HS := Lib.hid (show ∀ W', Below W.heap.size W W' → W'.cell? ⟨X, 1, none⟩ = some (.int .i64 n) ∧ W'.cell? ⟨Y, 1, none⟩ = some (.int .i64 d) ∧ W'.cell? ⟨Y, 4, none⟩ = some (.int .i64 imm) from fun W' h => ⟨(h.cell (p := ⟨X, 1, none⟩) lX).trans f1, (h.cell (p := ⟨Y, 1, none⟩) lY).trans x1, (h.cell (p := ⟨Y, 4, none⟩) lY).trans x4⟩)
  have hwi : IntKind.u8.wrap imm = imm % 256 := IntKind.wrap_u8 _
  go_region_held3 (fun W' => W'.cell? ⟨X, 1, none⟩ = some (.int .i64 n) ∧ W'.cell? ⟨Y, 1, none⟩ = some (.int .i64 d) ∧ W'.cell? ⟨Y, 4, none⟩ = some (.int .i64 imm)) (first | exact HS.out _ (Below.refl _ _) | exact HS.out _ (drewR (Below.refl _ _)) | exact HS.out _ ((Below.refl _ _).alloc (Nat.le_refl _) _) | exact HS.out _ (drewR ((Below.refl _ _).alloc (Nat.le_refl _) _)) | exact HS.out _ (by assumption) | exact HS.out _ (drewR (by assumption)) | exact HS.out _ ((by assumption : Below W.heap.size W _).alloc (by assumption : Below W.heap.size W _).size _) | exact HS.out _ (drewR ((by assumption : Below W.heap.size W _).alloc (by assumption : Below W.heap.size W _).size _))) ((go_at_call 89; ((with_reducible refine (registers_at _ _ _ hn hd).mono ?_); rintro e w' ⟨rfl, rfl⟩)))
  go_wp2
  go_ret
  exact ⟨_, rfl, own_below (own_lit (l := [131, 192 + 8 * n + d, imm % 256]) (by have := HX.out; omega) (heap_alloc_new W _) (by simp)) (drewR (Below.refl _ _)), by rw [← HX.out]; exact drewR (hb.alloc (Nat.le_of_lt lX) _)⟩
set_option maxRecDepth 100000 in
set_option maxHeartbeats 4000000 in
theorem wr9_32_false (o n z : Int) (ff wf : Nat) (op d s imm : Int) (w : World) (ho : 0 ≤ o ∧ o < 256) (hn : 0 ≤ n ∧ n < 8) (hd : 0 ≤ d ∧ d < 8) (h1 : -9223372036854775808 ≤ imm) (h2 : imm ≤ 9223372036854775807) (hB : isS (sgn 2147483648 imm) 128 = false) : Calls Try.prog 53 #[.agg (fmC ⟨o, n, z, 0, 0⟩ ff wf), aggI ⟨op, d, s, 32, imm⟩] w fun e w' => ∃ v, e = .returned v ∧ w'.ownsRow w.heap.size 5 1 v (o :: (192 + 8 * n + d) :: le4 imm : List Int).length (byV (o :: (192 + 8 * n + d) :: le4 imm : List Int)) ∧ Below w.heap.size w w' := by
  obtain ⟨i0, hi, hz0, hz1, hz2⟩ := info_parts infoBy
  have HBB := Lib.hid hB
  clear hB
  go_enter Try.func53, Try.ntmps53
  go_wp2_with fail
  have hf0 := heap_alloc_new w (.cells #[.int .i64 o, .int .i64 n, .int .i64 z, fv ff, fv wf] 59)
  have hf := (heap_alloc_old (w.alloc (.cells #[.int .i64 o, .int .i64 n, .int .i64 z, fv ff, fv wf] 59)) (.cells #[.int .i64 op, .int .i64 d, .int .i64 s, .int .i64 32, .int .i64 imm] 23) (lt_of_block hf0)).trans hf0
  have hx := heap_alloc_new (w.alloc (.cells #[.int .i64 o, .int .i64 n, .int .i64 z, fv ff, fv wf] 59)) (.cells #[.int .i64 op, .int .i64 d, .int .i64 s, .int .i64 32, .int .i64 imm] 23)
  rw [show (w.alloc (.cells #[.int .i64 o, .int .i64 n, .int .i64 z, fv ff, fv wf] 59)).heap.size = w.heap.size + 1 by simp] at hx
  have hb : Below w.heap.size w ((w.alloc (.cells #[.int .i64 o, .int .i64 n, .int .i64 z, fv ff, fv wf] 59)).alloc (.cells #[.int .i64 op, .int .i64 d, .int .i64 s, .int .i64 32, .int .i64 imm] 23)) := ((Below.refl _ _).alloc (Nat.le_refl _) _).alloc (by simp) _
  have hWS : ((w.alloc (.cells #[.int .i64 o, .int .i64 n, .int .i64 z, fv ff, fv wf] 59)).alloc (.cells #[.int .i64 op, .int .i64 d, .int .i64 s, .int .i64 32, .int .i64 imm] 23)).heap.size = w.heap.size + 1 + 1 := by simp
  generalize hW : ((w.alloc (.cells #[.int .i64 o, .int .i64 n, .int .i64 z, fv ff, fv wf] 59)).alloc (.cells #[.int .i64 op, .int .i64 d, .int .i64 s, .int .i64 32, .int .i64 imm] 23)) = W at hf hx hb hWS ⊢
  clear hW hf0
  obtain ⟨f0, f1, -, -, -⟩ := cells5 hf
  obtain ⟨-, x1, x2, x3, x4⟩ := cells5 hx
  generalize w.heap.size + 1 = Y at hx x1 x2 x3 x4 hWS ⊢
  have HWS := Lib.hid hWS
  clear hWS
  obtain ⟨X, hX⟩ : ∃ X, X = w.heap.size := ⟨_, rfl⟩
  rw [← hX] at hf f0 f1 hb ⊢
  have lX := lt_of_block hf
  have lY := lt_of_block hx
  have HX := Lib.hid hX
  clear hX hf hx
  go_wp2_with (first | (go_at_call 70; ((with_reducible refine (signed32_any _ _).mono ?_); rintro e w' ⟨rfl, rfl⟩)) | (go_at_call 91; ((with_reducible refine (isSigned8_at _ _ _ HBB.out).mono ?_); rintro e w' ⟨rfl, rfl⟩)))
  have HS := Lib.hid (show ∀ W', Below W.heap.size W W' → W'.cell? ⟨X, 0, none⟩ = some (.int .i64 o) ∧ W'.cell? ⟨X, 1, none⟩ = some (.int .i64 n) ∧ W'.cell? ⟨Y, 1, none⟩ = some (.int .i64 d) ∧ W'.cell? ⟨Y, 3, none⟩ = some (.int .i64 32) ∧ W'.cell? ⟨Y, 4, none⟩ = some (.int .i64 imm) from fun W' h => ⟨(h.cell (p := ⟨X, 0, none⟩) lX).trans f0, (h.cell (p := ⟨X, 1, none⟩) lX).trans f1, (h.cell (p := ⟨Y, 1, none⟩) lY).trans x1, (h.cell (p := ⟨Y, 3, none⟩) lY).trans x3, (h.cell (p := ⟨Y, 4, none⟩) lY).trans x4⟩)
  have HM := Lib.hid (fun (W' : World) (hw : Below W.heap.size W W') => (little32_any imm W' h1 h2).mono fun e w' h => (show ∃ g cap, e = .returned (.slice (some ⟨g, 0, none⟩) 4 cap) ∧ w'.ownsRow W.heap.size 5 1 (.slice (some ⟨g, 0, none⟩) 4 cap) 4 (byV (le4 imm)) ∧ Below W'.heap.size W' w' ∧ Below W.heap.size W w' from by
    obtain ⟨g, cap, e1, e2, e3⟩ := h
    exact ⟨g, cap, e1, own_lower e2 hw.size, e3, hw.trans (e3.mono hw.size)⟩))
  have hwo : IntKind.u8.wrap o = o := u8_in ho.1 ho.2
  have HLA := Lib.hid (show ∀ W', Below (W.alloc (.cells #[.int .u8 o, .int .u8 (192 + 8 * n + d)] 5)).heap.size (W.alloc (.cells #[.int .u8 o, .int .u8 (192 + 8 * n + d)] 5)) W' → W'.ownsRow W.heap.size 5 1 (.slice (some ⟨W.heap.size, 0, none⟩) 2 2) 2 (byV [o, 192 + 8 * n + d]) from fun W' h => own_below (own_lit (Nat.le_refl _) (heap_alloc_new W _) (by simp)) h)
  have HLB := Lib.hid (show ∀ W', W.heap.size ≤ W'.heap.size → (W'.alloc (.cells #[.int .u8 o, .int .u8 (192 + 8 * n + d)] 5)).ownsRow W.heap.size 5 1 (.slice (some ⟨W'.heap.size, 0, none⟩) 2 2) 2 (byV [o, 192 + 8 * n + d]) from fun W' h => own_lit h (heap_alloc_new W' _) (by simp))
  go_region_held3 (fun W' => W'.cell? ⟨X, 0, none⟩ = some (.int .i64 o) ∧ W'.cell? ⟨X, 1, none⟩ = some (.int .i64 n) ∧ W'.cell? ⟨Y, 1, none⟩ = some (.int .i64 d) ∧ W'.cell? ⟨Y, 3, none⟩ = some (.int .i64 32) ∧ W'.cell? ⟨Y, 4, none⟩ = some (.int .i64 imm)) (first | exact HS.out _ (Below.refl _ _) | exact HS.out _ (drewR (Below.refl _ _)) | exact HS.out _ ((Below.refl _ _).alloc (Nat.le_refl _) _) | exact HS.out _ (drewR ((Below.refl _ _).alloc (Nat.le_refl _) _)) | exact HS.out _ (by assumption) | exact HS.out _ (drewR (by assumption)) | exact HS.out _ ((by assumption : Below W.heap.size W _).alloc (by assumption : Below W.heap.size W _).size _) | exact HS.out _ (drewR ((by assumption : Below W.heap.size W _).alloc (by assumption : Below W.heap.size W _).size _))) (first | ((go_at_call 89; ((with_reducible refine (registers_at _ _ _ hn hd).mono ?_); rintro e w' ⟨rfl, rfl⟩))) | ((go_at_call 90; refine (HM.out _ (by first | exact Below.refl _ _ | exact drewR (Below.refl _ _) | exact (Below.refl _ _).alloc (Nat.le_refl _) _ | exact drewR ((Below.refl _ _).alloc (Nat.le_refl _) _))).mono ?_; rintro e w2 ⟨g, cap, rfl, hG, hb2, hb3⟩)) | (have gA := (hb2 : Below (W.alloc (.cells #[.int .u8 o, .int .u8 (192 + 8 * n + d)] 5)).drew.heap.size (W.alloc (.cells #[.int .u8 o, .int .u8 (192 + 8 * n + d)] 5)).drew w2); refine step_append_lies _ (by rfl) _ _ _ (by rfl) W.heap.size 5 i0 (.int .u8 0) 1 1 Try.underlying24 hi hz0 hz1 hz2 rfl (by decide) (.slice (some ⟨W.heap.size, 0, none⟩) 2 2) 2 (byV [o, 192 + 8 * n + d]) (by rfl) (HLA.out _ (undrew hb2)) ⟨g, 0, none⟩ 4 cap (byV (le4 imm)) (by rfl) (by simp [byV, le4]) (hG.cells rfl) (byV_one _) (by omega) (by unfold maxLen; omega) (by omega) (hb3.size) _ rfl ?_; intro gg cap9 w1 hown1 hgrow hat hlt; have hk : Below W.heap.size W w1 := (hb3).grown hgrow (hb3.size) (own_base (HLA.out _ (undrew hb2)))) | (refine step_append_lies _ (by rfl) _ _ _ (by rfl) W.heap.size 5 i0 (.int .u8 0) 1 1 Try.underlying24 hi hz0 hz1 hz2 rfl (by decide) (.slice (some ⟨w2.heap.size, 0, none⟩) 2 2) 2 (byV [o, 192 + 8 * n + d]) (by rfl) (HLB.out _ hb3.size) ⟨g, 0, none⟩ 4 cap (byV (le4 imm)) (by rfl) (by simp [byV, le4]) ((hG.alloc _).cells rfl) (byV_one _) (by omega) (by unfold maxLen; omega) (by omega) ((hb3.alloc hb3.size _).size) _ rfl ?_; intro gg cap9 w1 hown1 hgrow hat hlt; have hk : Below W.heap.size W w1 := (hb3.alloc hb3.size _).grown hgrow ((hb3.alloc hb3.size _).size) (own_base (HLB.out _ hb3.size))))
  all_goals (go_wp2; go_ret; exact ⟨_, rfl, own_lower (by rw [← byV_append] at hown1; exact hown1) (by have := HX.out; omega), by rw [← HX.out]; exact hb.trans (hk.mono (Nat.le_of_lt lX))⟩)
end Go.Proofs.Ytpekegeohcnhcaa
