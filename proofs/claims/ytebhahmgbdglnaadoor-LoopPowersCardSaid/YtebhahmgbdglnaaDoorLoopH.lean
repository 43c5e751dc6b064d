/-
  Power of package loop.
-/
import Derived.Test.YtebhahmgbdglnaaDoorLoopG
namespace Go.Proofs.YtebhahmgbdglnaaDoor
open Go.RowKit

section
variable (n b : Nat) (w : World) (T : Nat)
theorem lw1_yes (hM : Masks w) (h1 : 1 ≤ n) (h2 : n ≤ 32) (hb : b < pw n) :
    Calls Tryd.prog 73 #[.int .i64 n, .slice (some ⟨w.heap.size, 0, none⟩) 1 1] (w.alloc (.cells #[.int .u32 b] T)) fun e w' => e = .returned (.bool true) ∧ w.alloc (.cells #[.int .u32 b] T) = w' :=
  lw_yes n 1 w.heap.size (fun _ => b) _ (hM.alloc _) h1 h2 (by omega) (one_cell w b T) (fun _ _ => hb)
theorem lw1_no (m : Int) (hM : Masks w) (h : m < 1 ∨ 32 < m ∨ pw m.toNat ≤ b) :
    Calls Tryd.prog 73 #[.int .i64 m, .slice (some ⟨w.heap.size, 0, none⟩) 1 1] (w.alloc (.cells #[.int .u32 b] T)) fun e w' => e = .returned (.bool false) ∧ w.alloc (.cells #[.int .u32 b] T) = w' := by
  by_cases hw : m < 1 ∨ 32 < m
  · exact lw_width m 1 w.heap.size (fun _ => b) _ hw (by omega) (one_cell w b T)
  obtain ⟨n, rfl⟩ : ∃ n : Nat, m = n := ⟨m.toNat, by omega⟩
  have hb : pw n ≤ b := by
    rcases h with h | h | h
    · omega
    · omega
    · simpa using h
  exact lw_no n 1 w.heap.size 0 (fun _ => b) _ (hM.alloc _) (by omega) (by omega) (by omega) (one_cell w b T) (by omega) hb
theorem wd1_yes (c : Int) (h1 : 1 ≤ n) (h2 : n ≤ 32) (hc0 : 0 ≤ c) (hc1 : c ≤ 4294967296) (hb : b < pw n) :
    Calls Tryd.prog 76 #[.int .i64 n, .int .i64 c, .slice (some ⟨w.heap.size, 0, none⟩) 1 1] (w.alloc (.cells #[.int .u32 b] T)) fun e w' => e = .returned (.int .i64 0) ∧ w.alloc (.cells #[.int .u32 b] T) = w' :=
  worded_yes n 1 w.heap.size c (fun _ => b) _ h1 h2 hc0 hc1 (by omega) (one_cell w b T) (fun _ _ => hb)
theorem wd1_no (m c : Int) (b32 : b < 4294967296) (h : (m < 1 ∨ 32 < m ∨ c < 0 ∨ 4294967296 < c) ∨ pw m.toNat ≤ b) :
    Calls Tryd.prog 76 #[.int .i64 m, .int .i64 c, .slice (some ⟨w.heap.size, 0, none⟩) 1 1] (w.alloc (.cells #[.int .u32 b] T)) fun e w' => e = .returned (.int .i64 1) ∧ w.alloc (.cells #[.int .u32 b] T) = w' := by
  by_cases hw : m < 1 ∨ 32 < m ∨ c < 0 ∨ 4294967296 < c
  · exact worded_bad m c _ _ hw
  have hb := h.resolve_left hw
  obtain ⟨n, rfl⟩ : ∃ n : Nat, m = n := ⟨m.toNat, by omega⟩
  exact worded_no n 1 w.heap.size 0 c (fun _ => b) _ (by omega) (by omega) (by omega) (by omega) (by omega) (one_cell w b T) (fun _ _ => b32) (by omega) (by simpa using hb)
end
/-- A word times itself, n times. -/
def mulp (b : Nat) : Nat → Nat
  | 0 => 1
  | n + 1 => mulp b n * b
theorem mulp_eq (b : Nat) : ∀ n, mulp b n = b ^ n
  | 0 => rfl
  | n + 1 => by rw [mulp, mulp_eq b n, Nat.pow_succ]
theorem mulp_double (b c : Nat) : mulp b (2 * c) = mulp b c * mulp b c := by
  rw [mulp_eq, mulp_eq, Nat.two_mul, Nat.pow_add]
theorem mulp_sq (b c : Nat) : mulp (b * b) c = mulp b (2 * c) := by
  rw [mulp_eq, mulp_eq, Nat.mul_pow, Nat.two_mul, Nat.pow_add]
theorem mulp_mod (b c M : Nat) : mulp (b % M) c % M = mulp b c % M := by
  rw [mulp_eq, mulp_eq, ← Nat.pow_mod]
theorem pow_even (P : Nat) : IntKind.u64.wrap ((P : Int) * (P : Int)) = ((P * P % 18446744073709551616 : Nat) : Int) := by
  rw [IntKind.wrap_u64, ← Int.natCast_mul]; omega
theorem pow_odd (P b : Nat) : IntKind.u64.wrap (IntKind.u64.wrap ((P : Int) * (P : Int)) * (b : Int)) = ((P * P % 18446744073709551616 * b % 18446744073709551616 : Nat) : Int) := by
  rw [pow_even, IntKind.wrap_u64, ← Int.natCast_mul]; omega
theorem pow_e2 (b C : Nat) : (mulp b C % 18446744073709551616) * (mulp b C % 18446744073709551616) % 18446744073709551616 = mulp b (2 * C) % 18446744073709551616 := by
  rw [mulp_double, ← Nat.mul_mod]
theorem pow_o2 (b C : Nat) : (mulp b C % 18446744073709551616) * (mulp b C % 18446744073709551616) % 18446744073709551616 * b % 18446744073709551616 = mulp b (2 * C + 1) % 18446744073709551616 := by
  rw [pow_e2, mulp, Nat.mod_mul_mod]
set_option maxHeartbeats 1000000 in
theorem power_ok (n b c : Nat) (w : World) (hM : Masks w) (h1 : 1 ≤ n) (h2 : n ≤ 32) (hb : b < pw n) (hc : c ≤ 4294967296) :
    Calls Tryd.prog 49 #[.int .i64 n, .int .u32 b, .int .i64 c] w fun e w' => e = .returned (.tuple #[.int .u32 (mulp b c % 18446744073709551616 % pw n : Nat), .int .i64 0]) ∧ Below w.heap.size w w' := by
  have hp := pw_le h2
  have hM1 := fun o => hM.alloc o
  have h33 : c < pw (33 - 0) := by
    have : pw 33 = 8589934592 := by decide
    show c < pw 33
    omega
  go_enter Tryd.func49, Tryd.ntmps49
  go_wp2_with (first
    | (go_at_call 73; refine (lw1_yes n b w _ hM h1 h2 hb).mono ?_; rintro e w' ⟨rfl, rfl⟩)
    | (go_at_call 74; refine (isCount_yes _ _ (by omega)).mono ?_; rintro e w' ⟨rfl, rfl⟩))
  go_loop [8, 20] (fun s i => ∃ k C S : Nat, k ≤ 33 ∧ i = .int .i64 (k : Int) ∧ s = .int .u64 (S : Int) ∧ C = c / pw (33 - k) ∧ S = mulp b C % 18446744073709551616) (fun _ i => 33 - (intOf i).toNat)
  case atStart => exact ⟨0, 0, 1, by omega, rfl, rfl, (Nat.div_eq_of_lt h33).symm, by simp [mulp]⟩
  case round =>
    obtain ⟨k, C, S, hk, rfl, rfl, hC, hS⟩ := hrel
    have hCle : C ≤ 4294967296 := by rw [hC]; exact Nat.le_trans (Nat.div_le_self _ _) hc
    have HC := Lib.hid hC
    have HS := Lib.hid hS
    have hS1 : S < 18446744073709551616 := by rw [hS]; exact Nat.mod_lt _ (by omega)
    clear hC hS
    by_cases hlt : k < 33
    · have hup := bit_up c k hlt
      have e32 : (32 : Int) - (k : Int) = ((32 - k : Nat) : Int) := by omega
      have eb := bit_i64 c (32 - k) hc
      have HU := Lib.hid hup
      have EB := Lib.hid eb
      clear hup eb
      go_wp2
      · have hbit : (bits .and .i64 ((c : Int) / 2 ^ (32 - k)) 1 == 1) = true := by assumption
        go_round
        case rel =>
          rw [EB.out] at hbit
          have hb1 : c / pw (32 - k) % 2 = 1 := by
            have h5 := eq_of_beq hbit
            generalize c / pw (32 - k) % 2 = z at *
            omega
          have e1 := HU.out
          rw [hb1, ← HC.out] at e1
          refine ⟨k + 1, 2 * C + 1, S * S % 18446744073709551616 * b % 18446744073709551616, by omega, by go_num, by rw [pow_odd], e1.symm, ?_⟩
          rw [HS.out]
          exact pow_o2 b C
        case measure => simp [intOf]; omega
      · have hbit : (bits .and .i64 ((c : Int) / 2 ^ (32 - k)) 1 == 1) = false := by assumption
        go_round
        case rel =>
          rw [EB.out] at hbit
          have hb0 : c / pw (32 - k) % 2 = 0 := by
            have h5 := ne_of_beq_false hbit
            have h6 := Nat.mod_two_eq_zero_or_one (c / pw (32 - k))
            generalize c / pw (32 - k) % 2 = z at *
            omega
          have e1 := HU.out
          rw [hb0, ← HC.out] at e1
          refine ⟨k + 1, 2 * C, S * S % 18446744073709551616, by omega, by go_num, by rw [pow_even], e1.symm, ?_⟩
          rw [HS.out]
          exact pow_e2 b C
        case measure => simp [intOf]; omega
    · go_wp2_with (go_at_call 75; refine (cut_any n S _ (hM1 _) h1 h2).mono ?_; rintro e w' ⟨rfl, rfl⟩)
      go_ret2
      obtain rfl : k = 33 := by omega
      have e0 : c / pw (33 - 33) = c := by simp [pw]
      have hC := HC.out
      have hS := HS.out
      rw [e0] at hC
      subst hC
      rw [← hS]
      exact ⟨rfl, (Below.refl _ _).alloc (Nat.le_refl _) _⟩
end Go.Proofs.YtebhahmgbdglnaaDoor
