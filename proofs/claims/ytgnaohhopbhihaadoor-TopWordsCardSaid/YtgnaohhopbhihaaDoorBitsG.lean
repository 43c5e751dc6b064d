/-
  The reference's operations on bits: down, bitwise.
-/
import Derived.Test.YtgnaohhopbhihaaDoorBitsD
import Derived.Test.YtgnaohhopbhihaaDoorBitsQ
namespace Go.Proofs.YtgnaohhopbhihaaDoor
open Go.RowKit

theorem floor_step (x : Int) (j : Nat) : x / (pw j : Int) / 2 = x / (pw (j + 1) : Int) := by
  rw [Int.ediv_ediv_of_nonneg (by omega), pw_succ, Int.natCast_mul, Int.mul_comm]
  rfl
/-- The bit that And, Or and Xor make of two bits. -/
def bitF (op p q : Nat) : Nat := if op = 8 then p * q else if op = 9 then max p q else (p + q) % 2
def bwF (op a b : Nat) : Nat := if op = 8 then a &&& b else if op = 9 then a ||| b else a ^^^ b
theorem bw_mod (op a b : Nat) : bwF op a b % 2 = bwF op (a % 2) (b % 2) := by
  have h1 := Nat.and_mod_two_pow (a := a) (b := b) (n := 1)
  have h2 := Nat.or_mod_two_pow (a := a) (b := b) (n := 1)
  have h3 := Nat.xor_mod_two_pow (a := a) (b := b) (n := 1)
  unfold bwF
  split
  · exact h1
  split
  · exact h2
  · exact h3
theorem bw_low (op a b : Nat) (h : op = 8 ∨ op = 9 ∨ op = 10) : bwF op a b % 2 = bitF op (a % 2) (b % 2) := by
  rw [bw_mod]
  rcases h with rfl | rfl | rfl <;> rcases Nat.mod_two_eq_zero_or_one a with ha | ha <;> rcases Nat.mod_two_eq_zero_or_one b with hb | hb <;> rw [ha, hb] <;> decide
theorem bw_div (op a b i : Nat) : bwF op a b / pw i = bwF op (a / pw i) (b / pw i) := by
  unfold bwF pw
  simp only [← Nat.shiftRight_eq_div_pow]
  split
  · exact Nat.shiftRight_and_distrib
  split
  · exact Nat.shiftRight_or_distrib
  · exact Nat.shiftRight_xor_distrib
theorem bw_bit (op a b i : Nat) (h : op = 8 ∨ op = 9 ∨ op = 10) : bwF op a b / pw i % 2 = bitF op (a / pw i % 2) (b / pw i % 2) := by
  rw [bw_div, bw_low _ _ _ h]
theorem bw_step (op a b i : Nat) (h : op = 8 ∨ op = 9 ∨ op = 10) : bwF op a b % pw (i + 1) = bwF op a b % pw i + bitF op (a / pw i % 2) (b / pw i % 2) * pw i := by
  rw [pw_succ, Nat.mul_comm 2, Nat.mod_mul, bw_bit _ _ _ _ h, Nat.mul_comm (pw i)]
theorem bw_lt (op n a b : Nat) (ha : a < pw n) (hb : b < pw n) : bwF op a b < pw n := by
  unfold bwF
  split
  · exact Nat.and_lt_two_pow _ hb
  split
  · exact Nat.or_lt_two_pow ha hb
  · exact Nat.xor_lt_two_pow ha hb
theorem bit_cast (a i : Nat) : (a : Int) / (pw i : Int) % 2 = ((a / pw i % 2 : Nat) : Int) := by
  rw [Int.natCast_emod, Int.natCast_ediv]; rfl
end Go.Proofs.YtgnaohhopbhihaaDoor
