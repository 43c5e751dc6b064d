/-
  Total of package loop and of its reference.
-/
import Derived.Test.YtgnaohhopbhihaaDoorLoopB
import Derived.Test.YtgnaohhopbhihaaDoorBitsN
namespace Go.Proofs.YtgnaohhopbhihaaDoor
open Go.RowKit

theorem i64_and1 (x : Int) (h0 : 0 ≤ x) (h1 : x < 9223372036854775808) : bits .and .i64 x 1 = x % 2 :=
  bits_mask .i64 63 (by decide) (fun n a b => by rw [IntKind.wrap_i64]; omega) 1 (by decide) x h0 (by omega)
def tri : Nat → Nat
  | 0 => 0
  | c + 1 => tri c + c
theorem tri_double : ∀ c, tri (2 * c) = 2 * tri c + c * c
  | 0 => rfl
  | c + 1 => by
    have ih := tri_double c
    rw [show 2 * (c + 1) = 2 * c + 1 + 1 by omega]
    simp only [tri]
    rw [ih, show (c + 1) * (c + 1) = c * c + 2 * c + 1 by rw [Nat.add_mul, Nat.mul_add]; omega]
    omega
def sumS (a b c : Nat) : Nat := c * a + tri c * b
theorem sumS_double (a b c : Nat) : sumS a b (2 * c) = 2 * sumS a b c + c * c * b := by
  unfold sumS
  rw [tri_double, Nat.add_mul, Nat.mul_add, Nat.mul_assoc 2 c a, Nat.mul_assoc 2 (tri c) b]
  omega
theorem sumS_succ (a b c : Nat) : sumS a b (c + 1) = sumS a b c + (a + c * b) := by
  unfold sumS
  simp only [tri]
  rw [Nat.add_mul, Nat.add_mul]
  omega
theorem bit_up (N k : Nat) (hk : k < 33) : N / pw (33 - (k + 1)) = 2 * (N / pw (33 - k)) + N / pw (32 - k) % 2 := by
  have e : N / pw (32 - k + 1) = N / pw (32 - k) / 2 := by rw [pw_succ, Nat.mul_comm, Nat.div_div_eq_div_mul]
  rw [show 33 - (k + 1) = 32 - k by omega, show 33 - k = 32 - k + 1 by omega, e]
  generalize N / pw (32 - k) = q
  omega
theorem bit_i64 (c j : Nat) (hc : c ≤ 4294967296) : bits .and .i64 ((c : Int) / 2 ^ j) 1 = ((c / pw j % 2 : Nat) : Int) := by
  have h := Nat.div_le_self c (pw j)
  rw [div_pow_cast]
  generalize c / pw j = q at *
  rw [i64_and1 _ (by omega) (by omega)]
  rfl
theorem mml (x y p : Int) : x % p * y % p = x * y % p := by rw [Int.mul_emod, Int.emod_emod_of_dvd _ (Int.dvd_refl p), ← Int.mul_emod]
theorem tot_even (S C b : Nat) : IntKind.u64.wrap (IntKind.u64.wrap (2 * (S : Int)) + IntKind.u64.wrap (IntKind.u64.wrap ((C : Int) * (C : Int)) * (b : Int))) = (((2 * S + C * C * b) % 18446744073709551616 : Nat) : Int) := by
  have e : ((2 * S + C * C * b : Nat) : Int) = 2 * (S : Int) + (C : Int) * (C : Int) * (b : Int) := by
    rw [Int.natCast_add, Int.natCast_mul, Int.natCast_mul, Int.natCast_mul]; rfl
  rw [IntKind.wrap_u64, IntKind.wrap_u64, IntKind.wrap_u64, IntKind.wrap_u64, mml, Int.emod_add_emod, Int.add_emod_emod, Int.natCast_emod, e]
  rfl
theorem tot_odd (S C a b : Nat) : IntKind.u64.wrap (IntKind.u64.wrap (IntKind.u64.wrap (2 * (S : Int)) + IntKind.u64.wrap (IntKind.u64.wrap ((C : Int) * (C : Int)) * (b : Int))) + IntKind.u64.wrap ((a : Int) + IntKind.u64.wrap ((C : Int) * 2 * (b : Int)))) = (((2 * S + C * C * b + (a + 2 * C * b)) % 18446744073709551616 : Nat) : Int) := by
  have e2 : (C : Int) * 2 * (b : Int) = ((2 * C * b : Nat) : Int) := by
    rw [Int.natCast_mul, Int.natCast_mul, Int.mul_comm (C : Int) 2]; rfl
  rw [tot_even, e2, IntKind.wrap_u64, IntKind.wrap_u64, IntKind.wrap_u64]
  generalize C * C * b = x
  generalize 2 * C * b = y
  omega
theorem sum_even (a b C : Nat) : (2 * (sumS a b C % 18446744073709551616) + C * C * b) % 18446744073709551616 = sumS a b (2 * C) % 18446744073709551616 := by
  rw [sumS_double]
  generalize C * C * b = x
  omega
theorem sum_odd (a b C : Nat) : (2 * (sumS a b C % 18446744073709551616) + C * C * b + (a + 2 * C * b)) % 18446744073709551616 = sumS a b (2 * C + 1) % 18446744073709551616 := by
  rw [sumS_succ, sumS_double]
  generalize C * C * b = x
  generalize 2 * C * b = y
  omega
set_option maxHeartbeats 1000000 in
theorem total_ok (n a b c : Nat) (w : World) (hM : Masks w) (h1 : 1 ≤ n) (h2 : n ≤ 32) (ha : a < pw n) (hb : b < pw n) (hc : c ≤ 4294967296) :
    Calls Tryd.prog 60 #[.int .i64 n, .int .u32 a, .int .u32 b, .int .i64 c] w fun e w' => e = .returned (.tuple #[.int .u32 (sumS a b c % 18446744073709551616 % pw n : Nat), .int .i64 0]) ∧ Below w.heap.size w w' := by
  have hp := pw_le h2
  have hM1 := fun o => hM.alloc o
  have h33 : c < pw (33 - 0) := by
    have : pw 33 = 8589934592 := by decide
    show c < pw 33
    omega
  go_enter Tryd.func60, Tryd.ntmps60
  go_wp2_with (first
    | (go_at_call 61; refine (lw2_yes n a b w _ hM h1 h2 ha hb).mono ?_; rintro e w' ⟨rfl, rfl⟩)
    | (go_at_call 69; refine (isCount_yes _ _ (by omega)).mono ?_; rintro e w' ⟨rfl, rfl⟩))
  go_loop [10, 11, 24] (fun s z i => ∃ k C S : Nat, k ≤ 33 ∧ i = .int .i64 (k : Int) ∧ z = .int .u64 (C : Int) ∧ s = .int .u64 (S : Int) ∧ C = c / pw (33 - k) ∧ S = sumS a b C % 18446744073709551616) (fun _ _ i => 33 - (intOf i).toNat)
  case atStart => exact ⟨0, 0, 0, by omega, rfl, rfl, rfl, (Nat.div_eq_of_lt h33).symm, by simp [sumS, tri]⟩
  case round =>
    obtain ⟨k, C, S, hk, rfl, rfl, rfl, hC, hS⟩ := hrel
    have hCle : C ≤ 4294967296 := by rw [hC]; exact Nat.le_trans (Nat.div_le_self _ _) hc
    have HC := Lib.hid hC
    have HS := Lib.hid hS
    have hS1 : S < 18446744073709551616 := by rw [hS]; exact Nat.mod_lt _ (by omega)
    clear hC hS
    by_cases hlt : k < 33
    · have hup := bit_up c k hlt
      have hC2 : 2 * C ≤ 4294967296 := by
        have h3 : c / pw (33 - (k + 1)) ≤ c := Nat.div_le_self _ _
        rw [hup, ← HC.out] at h3
        omega
      have e32 : (32 : Int) - (k : Int) = ((32 - k : Nat) : Int) := by omega
      have eb := bit_i64 c (32 - k) hc
      have HU := Lib.hid hup
      have EB := Lib.hid eb
      clear hup eb
      go_wp2
      · have hbit : (bits .and .i64 ((c : Int) / 2 ^ (32 - k)) 1 == 1) = true := by assumption
        go_round
        case rel =>
          rw [EB.out] at hbit
          have hb1 : c / pw (32 - k) % 2 = 1 := by
            have h5 := eq_of_beq hbit
            generalize c / pw (32 - k) % 2 = z at *
            omega
          have e1 := HU.out
          rw [hb1, ← HC.out] at e1
          refine ⟨k + 1, 2 * C + 1, (2 * S + C * C * b + (a + 2 * C * b)) % 18446744073709551616, by omega, by go_num, by rw [show ((2 * C + 1 : Nat) : Int) = (C : Int) * 2 + 1 by omega], by rw [tot_odd], e1.symm, ?_⟩
          rw [HS.out]
          exact sum_odd a b C
        case measure => simp [intOf]; omega
      · have hbit : (bits .and .i64 ((c : Int) / 2 ^ (32 - k)) 1 == 1) = false := by assumption
        go_round
        case rel =>
          rw [EB.out] at hbit
          have hb0 : c / pw (32 - k) % 2 = 0 := by
            have h5 := ne_of_beq_false hbit
            have h6 := Nat.mod_two_eq_zero_or_one (c / pw (32 - k))
            generalize c / pw (32 - k) % 2 = z at *
            omega
          have e1 := HU.out
          rw [hb0, ← HC.out] at e1
          refine ⟨k + 1, 2 * C, (2 * S + C * C * b) % 18446744073709551616, by omega, by go_num, by rw [show ((2 * C : Nat) : Int) = (C : Int) * 2 by omega], by rw [tot_even], e1.symm, ?_⟩
          rw [HS.out]
          exact sum_even a b C
        case measure => simp [intOf]; omega
    · go_wp2_with (go_at_call 70; refine (cut_any n S _ (hM1 _) h1 h2).mono ?_; rintro e w' ⟨rfl, rfl⟩)
      go_ret2
      obtain rfl : k = 33 := by omega
      have e0 : c / pw (33 - 33) = c := by simp [pw]
      have hC := HC.out
      have hS := HS.out
      rw [e0] at hC
      subst hC
      rw [← hS]
      exact ⟨rfl, (Below.refl _ _).alloc (Nat.le_refl _) _⟩
end Go.Proofs.YtgnaohhopbhihaaDoor
