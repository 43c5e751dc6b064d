/-
  The walk of BitsCompares.
-/
import Derived.Test.YtgnaohhopbhihaaDoorBitsM
namespace Go.Proofs.YtgnaohhopbhihaaDoor
open Go.RowKit

theorem oppF_lt (p : Nat) (h : p < 10) : oppF p < 10 := by
  rcases pred_cases h with rfl | rfl | rfl | rfl | rfl | rfl | rfl | rfl | rfl | rfl <;> decide
theorem mirF_lt (p : Nat) (h : p < 10) : mirF p < 10 := by
  rcases pred_cases h with rfl | rfl | rfl | rfl | rfl | rfl | rfl | rfl | rfl | rfl <;> decide
end Go.Proofs.YtgnaohhopbhihaaDoor
