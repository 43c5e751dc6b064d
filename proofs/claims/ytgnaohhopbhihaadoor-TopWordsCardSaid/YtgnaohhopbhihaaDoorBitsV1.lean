/-
  Breaks of the reference; Breaks of package bits at whatever operation; the walk of BitsBreaks.
-/
import Derived.Test.YtgnaohhopbhihaaDoorBitsV
namespace Go.Proofs.YtgnaohhopbhihaaDoor
open Go.RowKit

theorem rflag1 {f : Nat} (h : f < 8) : ((f : Int) % 2 == 1) = fB 1 f := by
  rcases flag_cases h with rfl | rfl | rfl | rfl | rfl | rfl | rfl | rfl <;> rfl
theorem rflag2 {f : Nat} (h : f < 8) : ((f : Int) / 2 % 2 == 1) = fB 2 f := by
  rcases flag_cases h with rfl | rfl | rfl | rfl | rfl | rfl | rfl | rfl <;> rfl
theorem rflag4 {f : Nat} (h : f < 8) : ((f : Int) / 4 % 2 == 1) = fB 4 f := by
  rcases flag_cases h with rfl | rfl | rfl | rfl | rfl | rfl | rfl | rfl <;> rfl
end Go.Proofs.YtgnaohhopbhihaaDoor
