/-
  What is not broken is the number itself; the two flags at once.
-/
import Derived.Test.YtgnaohhopbhihaaDoorTopB
namespace Go.Proofs.YtgnaohhopbhihaaDoor
open Go.RowKit

theorem br_1 (op n a b : Nat) : brF op 1 n a b = uB op n a b := by
  unfold brF
  rw [show fB 1 1 = true by decide, show fB 2 1 = false by decide, show fB 4 1 = false by decide]
  simp
theorem br_2 (op n a b : Nat) : brF op 2 n a b = sB op n a b := by
  unfold brF
  rw [show fB 1 2 = false by decide, show fB 2 2 = true by decide, show fB 4 2 = false by decide]
  simp
theorem br_3 (op n a b : Nat) : brF op 3 n a b = (brF op 1 n a b || brF op 2 n a b) := by
  rw [br_1, br_2]
  unfold brF
  rw [show fB 1 3 = true by decide, show fB 2 3 = true by decide, show fB 4 3 = false by decide]
  simp
theorem wr_in {n : Nat} {y : Int} (h : outU n y = false) : (wr n y : Int) = y := by
  have h' := of_decide_eq_false h
  obtain ⟨k, rfl⟩ : ∃ k : Nat, y = k := ⟨y.toNat, by omega⟩
  rw [wr_of_lt (by omega)]
theorem wr_ins {n : Nat} {y : Int} (h1 : 1 ≤ n) (h : outS n y = false) : sgn n (wr n y) = y := by
  have h' := of_decide_eq_false h
  exact sgn_wr h1 (by omega) (by omega)
section
variable (n a b : Nat) (h1 : 1 ≤ n) (ha : a < pw n) (hb : b < pw n)
theorem top_u1 (h : brF 1 1 n a b = false) : (doF 1 n a b : Int) = (a : Int) + b := by
  rw [br_1] at h
  exact wr_in h
include ha in
theorem top_u2 (h : brF 2 1 n a b = false) : (doF 2 n a b : Int) = (a : Int) - b := by
  rw [br_1] at h
  have h' : ¬ a < b := of_decide_eq_false h
  show (wr n ((a : Int) - b) : Int) = _
  exact wr_in (decide_eq_false (by omega))
theorem top_u3 (h : brF 3 1 n a b = false) : (doF 3 n a b : Int) = (a : Int) * b := by
  rw [br_1] at h
  exact wr_in h
include h1
theorem top_s1 (h : brF 1 2 n a b = false) : sgn n (doF 1 n a b) = sgn n a + sgn n b := by
  rw [br_2] at h
  show sgn n (wr n ((a : Int) + b)) = _
  rw [wr_sadd]
  exact wr_ins h1 h
theorem top_s2 (h : brF 2 2 n a b = false) : sgn n (doF 2 n a b) = sgn n a - sgn n b := by
  rw [br_2] at h
  show sgn n (wr n ((a : Int) - b)) = _
  rw [wr_ssub]
  exact wr_ins h1 h
theorem top_s3 (h : brF 3 2 n a b = false) : sgn n (doF 3 n a b) = sgn n a * sgn n b := by
  rw [br_2] at h
  show sgn n (wr n ((a : Int) * b)) = _
  have e : wr n ((a : Int) * b) = wr n (sgn n a * sgn n b) := by
    apply wr_congr
    rw [Int.mul_emod, ← sgn_mod n a, ← sgn_mod n b, ← Int.mul_emod]
  rw [e]
  exact wr_ins h1 h
end
end Go.Proofs.YtgnaohhopbhihaaDoor
