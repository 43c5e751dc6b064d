/-
  The reference's guess, all its ways.
-/
import Derived.Test.YtpekegeohcnhcaaIaGx
import Derived.Test.YtpekegeohcnhcaaIaGy
namespace Go.Proofs.Ytpekegeohcnhcaa
open Go.RowKit

theorem rGuess_32 {w : World} {A : Option Addr} {n c : Nat} {l : List Int} (hB : Byt w A n c l) (hl : 0 < l.length) :
    Calls Try.prog 74 #[.slice A n c, .int .i64 0, .int .i64 32] w fun e w' => e = .returned (aggI (gueF 32 l 0)) ∧ Below w.heap.size w w' := by
  have hk := kindG_le (bt l 0) (byTwoF (bt l 0))
  by_cases h0 : 0 ≤ kindG (bt l 0) (byTwoF (bt l 0)) ∧ kindG (bt l 0) (byTwoF (bt l 0)) ≤ 8
  · exact rGuess_32_0 hB hl h0
  exact rGuess_32_9 hB hl (by omega)
theorem rGuess_16 {w : World} {A : Option Addr} {n c : Nat} {l : List Int} (hB : Byt w A n c l) (hl : 1 < l.length) :
    Calls Try.prog 74 #[.slice A n c, .int .i64 1, .int .i64 16] w fun e w' => e = .returned (aggI (gueF 16 l 1)) ∧ Below w.heap.size w w' := by
  have hk := kindG_le (bt l 1) (byTwoF (bt l 1))
  by_cases h0 : 0 ≤ kindG (bt l 1) (byTwoF (bt l 1)) ∧ kindG (bt l 1) (byTwoF (bt l 1)) ≤ 8
  · exact rGuess_16_0 hB hl h0
  exact rGuess_16_9 hB hl (by omega)
end Go.Proofs.Ytpekegeohcnhcaa
