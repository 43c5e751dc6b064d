/-
  The reference's shifts, do, two, Do and Total.
-/
import Derived.Test.YtgnaohhopbhihaaDoorBitsG
namespace Go.Proofs.YtgnaohhopbhihaaDoor
open Go.RowKit

theorem shl_step (n a j : Nat) : 2 * (a * pw j % pw n) % pw n = a * pw (j + 1) % pw n := by
  rw [Nat.mul_mod_mod, pw_succ, ← Nat.mul_assoc, Nat.mul_comm 2 a, Nat.mul_assoc a 2]
def TwoBad (op n : Int) (a b : Nat) : Prop := (op < 1 ∨ 13 < op) ∨ (1 ≤ op ∧ op ≤ 13) ∧ (n < 1 ∨ 32 < n ∨ pw n.toNat ≤ a ∨ pw n.toNat ≤ b)
end Go.Proofs.YtgnaohhopbhihaaDoor
