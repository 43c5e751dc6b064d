/-
  Breaks of the reference at shifts to the left.
-/
import Derived.Test.YtgnaohhopbhihaaDoorBitsV1
namespace Go.Proofs.YtgnaohhopbhihaaDoor
open Go.RowKit

theorem shl_sgn2 {y : Int} {b : Nat} (hy : -2147483648 ≤ y ∧ y ≤ 2147483647) (hb : b < 32) : -4611686018427387904 ≤ y * (pw b : Int) ∧ y * (pw b : Int) ≤ 4611686018427387904 := by
  have h := shl_sgn hy hb
  have e : y * (2 : Int) ^ b = y * (pw b : Int) := by simp [pw]
  rwa [e] at h
end Go.Proofs.YtgnaohhopbhihaaDoor
