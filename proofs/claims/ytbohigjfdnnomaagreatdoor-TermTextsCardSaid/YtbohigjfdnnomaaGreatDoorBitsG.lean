/-
  The reference's operations on bits: down, bitwise.
-/
import Derived.Test.YtbohigjfdnnomaaGreatDoorBitsD
import Derived.Test.YtbohigjfdnnomaaGreatDoorBitsQ
namespace Go.Proofs.YtbohigjfdnnomaaGreatDoor
open Go.RowKit

theorem floor_step (x : Int) (j : Nat) : x / (pw j : Int) / 2 = x / (pw (j + 1) : Int) := by
  rw [Int.ediv_ediv_of_nonneg (by omega), pw_succ, Int.natCast_mul, Int.mul_comm]
  rfl
theorem down_any (x : Int) (k : Nat) (w : World) (hx : -2147483648 ≤ x ∧ x ≤ 4294967295) (hk : k ≤ 64) :
    Calls Tryz.prog 135 #[.int .i64 x, .int .i64 k] w fun e w' => e = .returned (.int .i64 (x / (pw k : Int))) ∧ w = w' := by
  go_enter Tryz.func135, Tryz.ntmps135
  go_wp2
  go_loop [0, 5] (fun y i => ∃ j : Nat, ∃ z : Int, j ≤ k ∧ i = .int .i64 (j : Int) ∧ y = .int .i64 z ∧ z = x / (pw j : Int) ∧ -2147483648 ≤ z ∧ z ≤ 4294967295) (fun _ i => k - (intOf i).toNat)
  case atStart => exact ⟨0, x, by omega, rfl, rfl, by simp [pw], by omega, by omega⟩
  case round =>
    obtain ⟨j, z, hj, rfl, rfl, hz, z1, z2⟩ := hrel
    have Z := Lib.hid hz
    clear hz
    by_cases hlt : j < k
    · by_cases hneg : z < 0
      · go_wp2
        go_round
        case rel =>
          have e := Z.out
          have e2 := floor_step x j
          rw [← e] at e2
          exact ⟨j + 1, z / 2, by omega, by go_num, by go_num, e2, by omega, by omega⟩
        case measure => simp [intOf]; omega
      · go_wp2
        go_round
        case rel =>
          have e := Z.out
          have e2 := floor_step x j
          rw [← e] at e2
          exact ⟨j + 1, z / 2, by omega, by go_num, by go_num, e2, by omega, by omega⟩
        case measure => simp [intOf]; omega
    · go_wp2
      go_ret
      have e := Z.out
      obtain rfl : j = k := by omega
      exact ⟨ret_i e, rfl⟩
/-- The bit that And, Or and Xor make of two bits. -/
def bitF (op p q : Nat) : Nat := if op = 8 then p * q else if op = 9 then max p q else (p + q) % 2
def bwF (op a b : Nat) : Nat := if op = 8 then a &&& b else if op = 9 then a ||| b else a ^^^ b
theorem bw_mod (op a b : Nat) : bwF op a b % 2 = bwF op (a % 2) (b % 2) := by
  have h1 := Nat.and_mod_two_pow (a := a) (b := b) (n := 1)
  have h2 := Nat.or_mod_two_pow (a := a) (b := b) (n := 1)
  have h3 := Nat.xor_mod_two_pow (a := a) (b := b) (n := 1)
  unfold bwF
  split
  · exact h1
  split
  · exact h2
  · exact h3
theorem bw_low (op a b : Nat) (h : op = 8 ∨ op = 9 ∨ op = 10) : bwF op a b % 2 = bitF op (a % 2) (b % 2) := by
  rw [bw_mod]
  rcases h with rfl | rfl | rfl <;> rcases Nat.mod_two_eq_zero_or_one a with ha | ha <;> rcases Nat.mod_two_eq_zero_or_one b with hb | hb <;> rw [ha, hb] <;> decide
theorem bw_div (op a b i : Nat) : bwF op a b / pw i = bwF op (a / pw i) (b / pw i) := by
  unfold bwF pw
  simp only [← Nat.shiftRight_eq_div_pow]
  split
  · exact Nat.shiftRight_and_distrib
  split
  · exact Nat.shiftRight_or_distrib
  · exact Nat.shiftRight_xor_distrib
theorem bw_bit (op a b i : Nat) (h : op = 8 ∨ op = 9 ∨ op = 10) : bwF op a b / pw i % 2 = bitF op (a / pw i % 2) (b / pw i % 2) := by
  rw [bw_div, bw_low _ _ _ h]
theorem bw_step (op a b i : Nat) (h : op = 8 ∨ op = 9 ∨ op = 10) : bwF op a b % pw (i + 1) = bwF op a b % pw i + bitF op (a / pw i % 2) (b / pw i % 2) * pw i := by
  rw [pw_succ, Nat.mul_comm 2, Nat.mod_mul, bw_bit _ _ _ _ h, Nat.mul_comm (pw i)]
theorem bw_lt (op n a b : Nat) (ha : a < pw n) (hb : b < pw n) : bwF op a b < pw n := by
  unfold bwF
  split
  · exact Nat.and_lt_two_pow _ hb
  split
  · exact Nat.or_lt_two_pow ha hb
  · exact Nat.xor_lt_two_pow ha hb
theorem bit_cast (a i : Nat) : (a : Int) / (pw i : Int) % 2 = ((a / pw i % 2 : Nat) : Int) := by
  rw [Int.natCast_emod, Int.natCast_ediv]; rfl
set_option maxHeartbeats 1000000 in
theorem bitwise_8 (n a b : Nat) (w : World) (h2 : n ≤ 32) (ha : a < pw n) (hb : b < pw n) :
    Calls Tryz.prog 103 #[.int .i64 8, .int .i64 n, .int .u32 a, .int .u32 b] w fun e w' => e = .returned (.tuple #[.int .u32 (bwF 8 a b), .bool true]) ∧ ∃ m, w' = w.drewN m := by
  have hp := pw_le h2
  go_enter Tryz.func103, Tryz.ntmps103
  go_wp2
  go_loopw [10, 11] (fun s t wr => ∃ i S : Nat, i ≤ n ∧ t = .int .i64 (i : Int) ∧ s = .int .i64 (S : Int) ∧ S = bwF 8 a b % pw i ∧ ∃ m, wr = w.drewN m) (fun _ t _ => n - (intOf t).toNat)
  case atStart => exact ⟨0, 0, by omega, rfl, rfl, by simp [pw, Nat.mod_one], 0, rfl⟩
  case round =>
    obtain ⟨i, S, hi, rfl, rfl, hS, m, rfl⟩ := hrel
    have hpi := pw_le (n := i) (by omega)
    have hS1 : S < pw i := by rw [hS]; exact Nat.mod_lt _ (by omega)
    have HS := Lib.hid hS
    clear hS
    by_cases hlt : i < n
    · have hpi1 := pw_le (n := i + 1) (by omega)
      have hstep := bw_step 8 a b i (by omega)
      have hlow : bwF 8 a b % pw (i + 1) < pw (i + 1) := Nat.mod_lt _ (by omega)
      rw [hstep, ← HS.out] at hlow
      have hbit : bitF 8 (a / pw i % 2) (b / pw i % 2) = (a / pw i % 2) * (b / pw i % 2) := by rfl
      have es := fun W => size_any i W (by omega)
      obtain ⟨qa0, qa1⟩ := quo_bounds a i (by omega)
      obtain ⟨qb0, qb1⟩ := quo_bounds b i (by omega)
      have ea := bit_cast a i
      have eb := bit_cast b i
      have pa : a / pw i % 2 ≤ 1 := by omega
      have pb : b / pw i % 2 ≤ 1 := by omega
      rw [hbit] at hstep hlow
      clear hbit
      generalize a / pw i % 2 = p at *
      generalize b / pw i % 2 = q at *
      have ST := Lib.hid hstep
      clear hstep
      obtain rfl | rfl : p = 0 ∨ p = 1 := by omega
      all_goals
        obtain rfl | rfl : q = 0 ∨ q = 1 := by omega
        all_goals
          try simp at hlow
          go_wp2
          go_quiet ((first | (go_at_call 87; with_reducible exact quietly_add es) | (go_at_call 87; with_reducible exact quietly es)))
          go_wp2_with (go_at_call 87; refine (es _).mono ?_; rintro e w' ⟨rfl, rfl⟩)
          go_roundw
          case rel =>
            have e1 := ST.out
            rw [← HS.out] at e1
            exact ⟨i + 1, _, by omega, by go_num, by first | rfl | go_num, by rw [e1]; simp, _, rfl⟩
          case measure => simp [intOf]; omega
    · have e1 := HS.out
      obtain rfl : i = n := by omega
      rw [Nat.mod_eq_of_lt (bw_lt 8 i a b ha hb)] at e1
      have HE := Lib.hid e1
      clear e1
      go_wp2
      go_ret2
      rw [← HE.out]
      exact ⟨rfl, m, rfl⟩
set_option maxHeartbeats 1000000 in
theorem bitwise_9 (n a b : Nat) (w : World) (h2 : n ≤ 32) (ha : a < pw n) (hb : b < pw n) :
    Calls Tryz.prog 103 #[.int .i64 9, .int .i64 n, .int .u32 a, .int .u32 b] w fun e w' => e = .returned (.tuple #[.int .u32 (bwF 9 a b), .bool true]) ∧ ∃ m, w' = w.drewN m := by
  have hp := pw_le h2
  go_enter Tryz.func103, Tryz.ntmps103
  go_wp2
  go_loopw [10, 11] (fun s t wr => ∃ i S : Nat, i ≤ n ∧ t = .int .i64 (i : Int) ∧ s = .int .i64 (S : Int) ∧ S = bwF 9 a b % pw i ∧ ∃ m, wr = w.drewN m) (fun _ t _ => n - (intOf t).toNat)
  case atStart => exact ⟨0, 0, by omega, rfl, rfl, by simp [pw, Nat.mod_one], 0, rfl⟩
  case round =>
    obtain ⟨i, S, hi, rfl, rfl, hS, m, rfl⟩ := hrel
    have hpi := pw_le (n := i) (by omega)
    have hS1 : S < pw i := by rw [hS]; exact Nat.mod_lt _ (by omega)
    have HS := Lib.hid hS
    clear hS
    by_cases hlt : i < n
    · have hpi1 := pw_le (n := i + 1) (by omega)
      have hstep := bw_step 9 a b i (by omega)
      have hlow : bwF 9 a b % pw (i + 1) < pw (i + 1) := Nat.mod_lt _ (by omega)
      rw [hstep, ← HS.out] at hlow
      have hbit : bitF 9 (a / pw i % 2) (b / pw i % 2) = max (a / pw i % 2) (b / pw i % 2) := by rfl
      have es := fun W => size_any i W (by omega)
      obtain ⟨qa0, qa1⟩ := quo_bounds a i (by omega)
      obtain ⟨qb0, qb1⟩ := quo_bounds b i (by omega)
      have ea := bit_cast a i
      have eb := bit_cast b i
      have pa : a / pw i % 2 ≤ 1 := by omega
      have pb : b / pw i % 2 ≤ 1 := by omega
      rw [hbit] at hstep hlow
      clear hbit
      generalize a / pw i % 2 = p at *
      generalize b / pw i % 2 = q at *
      have ST := Lib.hid hstep
      clear hstep
      obtain rfl | rfl : p = 0 ∨ p = 1 := by omega
      all_goals
        obtain rfl | rfl : q = 0 ∨ q = 1 := by omega
        all_goals
          try simp at hlow
          go_wp2
          go_quiet ((first | (go_at_call 87; with_reducible exact quietly_add es) | (go_at_call 87; with_reducible exact quietly es)))
          go_wp2_with (go_at_call 87; refine (es _).mono ?_; rintro e w' ⟨rfl, rfl⟩)
          go_roundw
          case rel =>
            have e1 := ST.out
            rw [← HS.out] at e1
            exact ⟨i + 1, _, by omega, by go_num, by first | rfl | go_num, by rw [e1]; simp, _, rfl⟩
          case measure => simp [intOf]; omega
    · have e1 := HS.out
      obtain rfl : i = n := by omega
      rw [Nat.mod_eq_of_lt (bw_lt 9 i a b ha hb)] at e1
      have HE := Lib.hid e1
      clear e1
      go_wp2
      go_ret2
      rw [← HE.out]
      exact ⟨rfl, m, rfl⟩
set_option maxHeartbeats 1000000 in
theorem bitwise_10 (n a b : Nat) (w : World) (h2 : n ≤ 32) (ha : a < pw n) (hb : b < pw n) :
    Calls Tryz.prog 103 #[.int .i64 10, .int .i64 n, .int .u32 a, .int .u32 b] w fun e w' => e = .returned (.tuple #[.int .u32 (bwF 10 a b), .bool true]) ∧ ∃ m, w' = w.drewN m := by
  have hp := pw_le h2
  go_enter Tryz.func103, Tryz.ntmps103
  go_wp2
  go_loopw [10, 11] (fun s t wr => ∃ i S : Nat, i ≤ n ∧ t = .int .i64 (i : Int) ∧ s = .int .i64 (S : Int) ∧ S = bwF 10 a b % pw i ∧ ∃ m, wr = w.drewN m) (fun _ t _ => n - (intOf t).toNat)
  case atStart => exact ⟨0, 0, by omega, rfl, rfl, by simp [pw, Nat.mod_one], 0, rfl⟩
  case round =>
    obtain ⟨i, S, hi, rfl, rfl, hS, m, rfl⟩ := hrel
    have hpi := pw_le (n := i) (by omega)
    have hS1 : S < pw i := by rw [hS]; exact Nat.mod_lt _ (by omega)
    have HS := Lib.hid hS
    clear hS
    by_cases hlt : i < n
    · have hpi1 := pw_le (n := i + 1) (by omega)
      have hstep := bw_step 10 a b i (by omega)
      have hlow : bwF 10 a b % pw (i + 1) < pw (i + 1) := Nat.mod_lt _ (by omega)
      rw [hstep, ← HS.out] at hlow
      have hbit : bitF 10 (a / pw i % 2) (b / pw i % 2) = (a / pw i % 2 + b / pw i % 2) % 2 := by rfl
      have es := fun W => size_any i W (by omega)
      obtain ⟨qa0, qa1⟩ := quo_bounds a i (by omega)
      obtain ⟨qb0, qb1⟩ := quo_bounds b i (by omega)
      have ea := bit_cast a i
      have eb := bit_cast b i
      have pa : a / pw i % 2 ≤ 1 := by omega
      have pb : b / pw i % 2 ≤ 1 := by omega
      rw [hbit] at hstep hlow
      clear hbit
      generalize a / pw i % 2 = p at *
      generalize b / pw i % 2 = q at *
      have ST := Lib.hid hstep
      clear hstep
      obtain rfl | rfl : p = 0 ∨ p = 1 := by omega
      all_goals
        obtain rfl | rfl : q = 0 ∨ q = 1 := by omega
        all_goals
          try simp at hlow
          go_wp2
          go_quiet ((first | (go_at_call 87; with_reducible exact quietly_add es) | (go_at_call 87; with_reducible exact quietly es)))
          go_wp2_with (go_at_call 87; refine (es _).mono ?_; rintro e w' ⟨rfl, rfl⟩)
          go_roundw
          case rel =>
            have e1 := ST.out
            rw [← HS.out] at e1
            exact ⟨i + 1, _, by omega, by go_num, by first | rfl | go_num, by rw [e1]; simp, _, rfl⟩
          case measure => simp [intOf]; omega
    · have e1 := HS.out
      obtain rfl : i = n := by omega
      rw [Nat.mod_eq_of_lt (bw_lt 10 i a b ha hb)] at e1
      have HE := Lib.hid e1
      clear e1
      go_wp2
      go_ret2
      rw [← HE.out]
      exact ⟨rfl, m, rfl⟩
end Go.Proofs.YtbohigjfdnnomaaGreatDoor
