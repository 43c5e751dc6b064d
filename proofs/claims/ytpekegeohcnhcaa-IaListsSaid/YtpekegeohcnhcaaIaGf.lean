/-
  The reference's digit, arith and signed.
-/
import Derived.Test.YtpekegeohcnhcaaIaGe
namespace Go.Proofs.Ytpekegeohcnhcaa
open Go.RowKit

theorem rDigit_7 (w : World) : Calls Try.prog 85 #[.int .i64 7] w fun e w' => e = .returned (.int .i64 (-1)) ∧ w = w' := by
  go_enter Try.func85, Try.ntmps85
  go_wp2
  go_ret
  exact ⟨rfl, rfl⟩
theorem rDigit_8 (w : World) : Calls Try.prog 85 #[.int .i64 8] w fun e w' => e = .returned (.int .i64 (-1)) ∧ w = w' := by
  go_enter Try.func85, Try.ntmps85
  go_wp2
  go_ret
  exact ⟨rfl, rfl⟩
theorem rDigit_9 (w : World) : Calls Try.prog 85 #[.int .i64 9] w fun e w' => e = .returned (.int .i64 (-1)) ∧ w = w' := by
  go_enter Try.func85, Try.ntmps85
  go_wp2
  go_ret
  exact ⟨rfl, rfl⟩
theorem rDigit_10 (w : World) : Calls Try.prog 85 #[.int .i64 10] w fun e w' => e = .returned (.int .i64 (-1)) ∧ w = w' := by
  go_enter Try.func85, Try.ntmps85
  go_wp2
  go_ret
  exact ⟨rfl, rfl⟩
theorem rDigit_11 (w : World) : Calls Try.prog 85 #[.int .i64 11] w fun e w' => e = .returned (.int .i64 (-1)) ∧ w = w' := by
  go_enter Try.func85, Try.ntmps85
  go_wp2
  go_ret
  exact ⟨rfl, rfl⟩
theorem rDigit_12 (w : World) : Calls Try.prog 85 #[.int .i64 12] w fun e w' => e = .returned (.int .i64 (-1)) ∧ w = w' := by
  go_enter Try.func85, Try.ntmps85
  go_wp2
  go_ret
  exact ⟨rfl, rfl⟩
theorem rDigit_13 (w : World) : Calls Try.prog 85 #[.int .i64 13] w fun e w' => e = .returned (.int .i64 (-1)) ∧ w = w' := by
  go_enter Try.func85, Try.ntmps85
  go_wp2
  go_ret
  exact ⟨rfl, rfl⟩
theorem rDigit_14 (w : World) : Calls Try.prog 85 #[.int .i64 14] w fun e w' => e = .returned (.int .i64 (0)) ∧ w = w' := by
  go_enter Try.func85, Try.ntmps85
  go_wp2
  go_ret
  exact ⟨rfl, rfl⟩
theorem rDigit_15 (w : World) : Calls Try.prog 85 #[.int .i64 15] w fun e w' => e = .returned (.int .i64 (1)) ∧ w = w' := by
  go_enter Try.func85, Try.ntmps85
  go_wp2
  go_ret
  exact ⟨rfl, rfl⟩
theorem rDigit_16 (w : World) : Calls Try.prog 85 #[.int .i64 16] w fun e w' => e = .returned (.int .i64 (4)) ∧ w = w' := by
  go_enter Try.func85, Try.ntmps85
  go_wp2
  go_ret
  exact ⟨rfl, rfl⟩
theorem rDigit_17 (w : World) : Calls Try.prog 85 #[.int .i64 17] w fun e w' => e = .returned (.int .i64 (5)) ∧ w = w' := by
  go_enter Try.func85, Try.ntmps85
  go_wp2
  go_ret
  exact ⟨rfl, rfl⟩
theorem rDigit_18 (w : World) : Calls Try.prog 85 #[.int .i64 18] w fun e w' => e = .returned (.int .i64 (6)) ∧ w = w' := by
  go_enter Try.func85, Try.ntmps85
  go_wp2
  go_ret
  exact ⟨rfl, rfl⟩
theorem rDigit_19 (w : World) : Calls Try.prog 85 #[.int .i64 19] w fun e w' => e = .returned (.int .i64 (7)) ∧ w = w' := by
  go_enter Try.func85, Try.ntmps85
  go_wp2
  go_ret
  exact ⟨rfl, rfl⟩
theorem rDigit_20 (w : World) : Calls Try.prog 85 #[.int .i64 20] w fun e w' => e = .returned (.int .i64 (-1)) ∧ w = w' := by
  go_enter Try.func85, Try.ntmps85
  go_wp2
  go_ret
  exact ⟨rfl, rfl⟩
theorem rDigit_21 (w : World) : Calls Try.prog 85 #[.int .i64 21] w fun e w' => e = .returned (.int .i64 (4)) ∧ w = w' := by
  go_enter Try.func85, Try.ntmps85
  go_wp2
  go_ret
  exact ⟨rfl, rfl⟩
theorem rDigit_22 (w : World) : Calls Try.prog 85 #[.int .i64 22] w fun e w' => e = .returned (.int .i64 (5)) ∧ w = w' := by
  go_enter Try.func85, Try.ntmps85
  go_wp2
  go_ret
  exact ⟨rfl, rfl⟩
theorem rDigit_23 (w : World) : Calls Try.prog 85 #[.int .i64 23] w fun e w' => e = .returned (.int .i64 (7)) ∧ w = w' := by
  go_enter Try.func85, Try.ntmps85
  go_wp2
  go_ret
  exact ⟨rfl, rfl⟩
theorem rDigit_24 (w : World) : Calls Try.prog 85 #[.int .i64 24] w fun e w' => e = .returned (.int .i64 (2)) ∧ w = w' := by
  go_enter Try.func85, Try.ntmps85
  go_wp2
  go_ret
  exact ⟨rfl, rfl⟩
theorem rDigit_25 (w : World) : Calls Try.prog 85 #[.int .i64 25] w fun e w' => e = .returned (.int .i64 (3)) ∧ w = w' := by
  go_enter Try.func85, Try.ntmps85
  go_wp2
  go_ret
  exact ⟨rfl, rfl⟩
theorem rDigit_26 (w : World) : Calls Try.prog 85 #[.int .i64 26] w fun e w' => e = .returned (.int .i64 (6)) ∧ w = w' := by
  go_enter Try.func85, Try.ntmps85
  go_wp2
  go_ret
  exact ⟨rfl, rfl⟩
theorem rDigit_27 (w : World) : Calls Try.prog 85 #[.int .i64 27] w fun e w' => e = .returned (.int .i64 (7)) ∧ w = w' := by
  go_enter Try.func85, Try.ntmps85
  go_wp2
  go_ret
  exact ⟨rfl, rfl⟩
theorem rDigit_none (op : Int) (w : World) (h : op < 14 ∨ 27 < op) : Calls Try.prog 85 #[.int .i64 op] w fun e w' => e = .returned (.int .i64 (-1)) ∧ w = w' := by
  have f14 : (op == 14) = false := beq_false_of_ne (by omega)
  have f15 : (op == 15) = false := beq_false_of_ne (by omega)
  have f16 : (op == 16) = false := beq_false_of_ne (by omega)
  have f17 : (op == 17) = false := beq_false_of_ne (by omega)
  have f18 : (op == 18) = false := beq_false_of_ne (by omega)
  have f19 : (op == 19) = false := beq_false_of_ne (by omega)
  have f20 : (op == 20) = false := beq_false_of_ne (by omega)
  have f21 : (op == 21) = false := beq_false_of_ne (by omega)
  have f22 : (op == 22) = false := beq_false_of_ne (by omega)
  have f23 : (op == 23) = false := beq_false_of_ne (by omega)
  have f24 : (op == 24) = false := beq_false_of_ne (by omega)
  have f25 : (op == 25) = false := beq_false_of_ne (by omega)
  have f26 : (op == 26) = false := beq_false_of_ne (by omega)
  have f27 : (op == 27) = false := beq_false_of_ne (by omega)
  clear h
  go_enter Try.func85, Try.ntmps85
  go_wp2
  go_ret
  exact ⟨rfl, rfl⟩
theorem rArith_7 (w : World) : Calls Try.prog 86 #[.int .i64 7] w fun e w' => e = .returned (.int .u8 1) ∧ w = w' := by
  go_enter Try.func86, Try.ntmps86
  go_wp2
  go_ret
  exact ⟨rfl, rfl⟩
theorem rArith_8 (w : World) : Calls Try.prog 86 #[.int .i64 8] w fun e w' => e = .returned (.int .u8 9) ∧ w = w' := by
  go_enter Try.func86, Try.ntmps86
  go_wp2
  go_ret
  exact ⟨rfl, rfl⟩
theorem rArith_9 (w : World) : Calls Try.prog 86 #[.int .i64 9] w fun e w' => e = .returned (.int .u8 33) ∧ w = w' := by
  go_enter Try.func86, Try.ntmps86
  go_wp2
  go_ret
  exact ⟨rfl, rfl⟩
theorem rArith_10 (w : World) : Calls Try.prog 86 #[.int .i64 10] w fun e w' => e = .returned (.int .u8 41) ∧ w = w' := by
  go_enter Try.func86, Try.ntmps86
  go_wp2
  go_ret
  exact ⟨rfl, rfl⟩
theorem rArith_11 (w : World) : Calls Try.prog 86 #[.int .i64 11] w fun e w' => e = .returned (.int .u8 49) ∧ w = w' := by
  go_enter Try.func86, Try.ntmps86
  go_wp2
  go_ret
  exact ⟨rfl, rfl⟩
theorem rArith_12 (w : World) : Calls Try.prog 86 #[.int .i64 12] w fun e w' => e = .returned (.int .u8 57) ∧ w = w' := by
  go_enter Try.func86, Try.ntmps86
  go_wp2
  go_ret
  exact ⟨rfl, rfl⟩
theorem rArith_13 (w : World) : Calls Try.prog 86 #[.int .i64 13] w fun e w' => e = .returned (.int .u8 133) ∧ w = w' := by
  go_enter Try.func86, Try.ntmps86
  go_wp2
  go_ret
  exact ⟨rfl, rfl⟩
theorem rSigned8_at (n v : Int) (w : World) (h : sgnR 128 n = v) (h1 : 0 ≤ n) (h2 : n < 256) : Calls Try.prog 87 #[.int .i64 n, .int .i64 8] w fun e w' => e = .returned (.int .i64 v) ∧ w = w' := by
  unfold sgnR at h
  by_cases h0 : 128 ≤ n
  · rw [if_pos h0] at h
    have H := Lib.hid h
    clear h
    go_enter Try.func87, Try.ntmps87
    go_wp2
    go_ret
    exact ⟨ret_i (by have := H.out; omega), rfl⟩
  · rw [if_neg h0] at h
    have H := Lib.hid h
    clear h
    have h3 : n < 128 := by omega
    go_enter Try.func87, Try.ntmps87
    go_wp2
    go_ret
    exact ⟨ret_i (by have := H.out; omega), rfl⟩
theorem rSigned16_at (n v : Int) (w : World) (h : sgnR 32768 n = v) (h1 : 0 ≤ n) (h2 : n < 65536) : Calls Try.prog 87 #[.int .i64 n, .int .i64 16] w fun e w' => e = .returned (.int .i64 v) ∧ w = w' := by
  unfold sgnR at h
  by_cases h0 : 32768 ≤ n
  · rw [if_pos h0] at h
    have H := Lib.hid h
    clear h
    go_enter Try.func87, Try.ntmps87
    go_wp2
    go_ret
    exact ⟨ret_i (by have := H.out; omega), rfl⟩
  · rw [if_neg h0] at h
    have H := Lib.hid h
    clear h
    have h3 : n < 32768 := by omega
    go_enter Try.func87, Try.ntmps87
    go_wp2
    go_ret
    exact ⟨ret_i (by have := H.out; omega), rfl⟩
theorem rSigned32_at (n v : Int) (w : World) (h : sgnR 2147483648 n = v) (h1 : 0 ≤ n) (h2 : n < 4294967296) : Calls Try.prog 87 #[.int .i64 n, .int .i64 32] w fun e w' => e = .returned (.int .i64 v) ∧ w = w' := by
  unfold sgnR at h
  by_cases h0 : 2147483648 ≤ n
  · rw [if_pos h0] at h
    have H := Lib.hid h
    clear h
    go_enter Try.func87, Try.ntmps87
    go_wp2
    go_ret
    exact ⟨ret_i (by have := H.out; omega), rfl⟩
  · rw [if_neg h0] at h
    have H := Lib.hid h
    clear h
    have h3 : n < 2147483648 := by omega
    go_enter Try.func87, Try.ntmps87
    go_wp2
    go_ret
    exact ⟨ret_i (by have := H.out; omega), rfl⟩
end Go.Proofs.Ytpekegeohcnhcaa
