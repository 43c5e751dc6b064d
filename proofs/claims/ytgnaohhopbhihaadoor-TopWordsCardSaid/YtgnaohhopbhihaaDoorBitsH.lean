/-
  The reference's do: what each operation makes.
-/
import Derived.Test.YtgnaohhopbhihaaDoorBitsG2
namespace Go.Proofs.YtgnaohhopbhihaaDoor
open Go.RowKit

theorem sgn_mod (n x : Nat) : sgn n x % (pw n : Int) = (x : Int) % (pw n : Int) := by
  unfold sgn
  split
  · rw [Int.sub_emod_right]
  · rfl
theorem wr_mul (n a b : Nat) : wr n (sgn n a * sgn n b) = wr n ((a : Int) * b) := by
  have : ((wr n (sgn n a * sgn n b) : Nat) : Int) = wr n ((a : Int) * b) := by
    rw [wr_cast, wr_cast, Int.mul_emod, sgn_mod, sgn_mod, ← Int.mul_emod]
  omega
theorem mul_bounds {x y : Int} (hx : -2147483648 ≤ x ∧ x ≤ 2147483647) (hy : -2147483648 ≤ y ∧ y ≤ 2147483647) : -4611686018427387904 ≤ x * y ∧ x * y ≤ 4611686018427387904 := by
  have h : (x * y).natAbs ≤ 2147483648 * 2147483648 := by
    rw [Int.natAbs_mul]
    exact Nat.mul_le_mul (by omega) (by omega)
  omega
theorem sgn_low {n x : Nat} (h1 : 1 ≤ n) : sgn n x = -(pw (n - 1) : Int) ↔ x = pw (n - 1) := by
  have hh := pw_half h1
  have h0 : 0 < pw (n - 1) := Nat.two_pow_pos _
  unfold sgn
  split <;> omega
theorem sgn_minus {n x : Nat} (h1 : 1 ≤ n) : sgn n x = -1 ↔ x = pw n - 1 := by
  have hh := pw_half h1
  have h0 : 0 < pw (n - 1) := Nat.two_pow_pos _
  unfold sgn
  split <;> omega
theorem tdiv_mul_bounds (x y : Int) (hx : -2147483648 ≤ x ∧ x ≤ 2147483647) : -2147483648 ≤ x.tdiv y * y ∧ x.tdiv y * y ≤ 2147483648 := by
  have h : (x.tdiv y * y).natAbs ≤ x.natAbs := by
    rw [Int.natAbs_mul, Int.natAbs_tdiv]
    exact Nat.div_mul_le_self _ _
  omega
section
variable (n a b : Nat) (w : World) (h1 : 1 ≤ n) (h2 : n ≤ 32) (ha : a < pw n) (hb : b < pw n)
include h1 h2 ha hb
end
section
variable (n a b : Nat) (w : World) (h1 : 1 ≤ n) (h2 : n ≤ 32) (ha : a < pw n) (hb : b < pw n)
include h1 h2 ha hb
end
end Go.Proofs.YtgnaohhopbhihaaDoor
