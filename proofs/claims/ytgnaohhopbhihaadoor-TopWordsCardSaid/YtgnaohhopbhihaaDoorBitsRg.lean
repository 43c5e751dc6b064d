/-
  The walk of BitsRing.
-/
import Derived.Test.YtgnaohhopbhihaaDoorBitsS
namespace Go.Proofs.YtgnaohhopbhihaaDoor
open Go.RowKit

theorem and_add_or : ∀ a b : Nat, (a &&& b) + (a ||| b) = a + b := by
  intro a
  induction a using Nat.strongRecOn with
  | _ a ih =>
    intro b
    by_cases h0 : a = 0
    · subst h0; simp
    have i1 := ih (a / 2) (by omega) (b / 2)
    have m1 := bw_low 8 a b (by omega)
    have m2 := bw_low 9 a b (by omega)
    have d1 : (a &&& b) / 2 = (a / 2) &&& (b / 2) := Nat.and_div_two
    have d2 : (a ||| b) / 2 = (a / 2) ||| (b / 2) := Nat.or_div_two
    have m1' : (a &&& b) % 2 = (a % 2) * (b % 2) := m1
    have m2' : (a ||| b) % 2 = max (a % 2) (b % 2) := m2
    rw [← d1, ← d2] at i1
    rcases Nat.mod_two_eq_zero_or_one a with ha | ha <;> rcases Nat.mod_two_eq_zero_or_one b with hb | hb <;> rw [ha, hb] at m1' m2' <;> omega
theorem doF_lt (op n a b : Nat) (ha : a < pw n) (hb : b < pw n) : doF op n a b < pw n := by
  unfold doF
  by_cases c0 : op = 1
  · rw [if_pos c0]; exact wr_lt _
  rw [if_neg c0]
  by_cases c1 : op = 2
  · rw [if_pos c1]; exact wr_lt _
  rw [if_neg c1]
  by_cases c2 : op = 3
  · rw [if_pos c2]; exact wr_lt _
  rw [if_neg c2]
  by_cases c3 : op = 4
  · rw [if_pos c3]; exact Nat.lt_of_le_of_lt (Nat.div_le_self _ _) ha
  rw [if_neg c3]
  by_cases c4 : op = 5
  · rw [if_pos c4]; exact Nat.lt_of_le_of_lt (Nat.mod_le _ _) ha
  rw [if_neg c4]
  by_cases c5 : op = 6
  · rw [if_pos c5]; exact wr_lt _
  rw [if_neg c5]
  by_cases c6 : op = 7
  · rw [if_pos c6]; exact wr_lt _
  rw [if_neg c6]
  by_cases c7 : op = 8
  · rw [if_pos c7]; exact Nat.and_lt_two_pow _ hb
  rw [if_neg c7]
  by_cases c8 : op = 9
  · rw [if_pos c8]; exact Nat.or_lt_two_pow ha hb
  rw [if_neg c8]
  by_cases c9 : op = 10
  · rw [if_pos c9]; exact Nat.xor_lt_two_pow ha hb
  rw [if_neg c9]
  by_cases c10 : op = 11
  · rw [if_pos c10]; exact wr_lt _
  rw [if_neg c10]
  by_cases c11 : op = 12
  · rw [if_pos c11]; exact Nat.lt_of_le_of_lt (Nat.div_le_self _ _) ha
  rw [if_neg c11]
  exact wr_lt _
theorem wr_congr {n : Nat} {x y : Int} (h : x % (pw n : Int) = y % (pw n : Int)) : wr n x = wr n y := by
  unfold wr; rw [h]
theorem mul_mod_right (x y p : Int) : x * (y % p) % p = x * y % p := by rw [Int.mul_emod, Int.emod_emod_of_dvd _ (Int.dvd_refl p), ← Int.mul_emod]
theorem mod_mul_left (x y p : Int) : x % p * y % p = x * y % p := by rw [Int.mul_comm, mul_mod_right, Int.mul_comm]
theorem ring1 (n a b : Nat) (ha : a < pw n) : doF 2 n (doF 1 n a b) b = a := by
  have h := wr_of_lt ha
  show wr n ((wr n ((a : Int) + b) : Int) - b) = a
  rw [← h]
  apply wr_congr
  rw [wr_cast, Int.sub_eq_add_neg, Int.emod_add_emod, h]
  congr 1; omega
theorem ring2 (n a b : Nat) : doF 1 n b a = doF 1 n a b := by
  show wr n ((b : Int) + a) = wr n ((a : Int) + b)
  rw [Int.add_comm]
theorem ring3 (n a b : Nat) : doF 3 n b a = doF 3 n a b := by
  show wr n ((b : Int) * a) = wr n ((a : Int) * b)
  rw [Int.mul_comm]
theorem ring4 (n a b c : Nat) : doF 3 n a (doF 1 n b c) = doF 1 n (doF 3 n a b) (doF 3 n a c) := by
  show wr n ((a : Int) * (wr n ((b : Int) + c) : Nat)) = wr n ((wr n ((a : Int) * b) : Nat) + ((wr n ((a : Int) * c) : Nat) : Int))
  apply wr_congr
  rw [wr_cast, wr_cast, wr_cast, ← Int.add_emod, mul_mod_right, Int.mul_add]
theorem ring5 (n a b : Nat) : doF 1 n (doF 8 n a b) (doF 9 n a b) = doF 1 n a b := by
  show wr n (((a &&& b : Nat) : Int) + ((a ||| b : Nat) : Int)) = wr n ((a : Int) + b)
  have := and_add_or a b
  congr 1
  omega
theorem ring6 (n a b : Nat) : doF 10 n (doF 10 n a b) b = a := by
  show (a ^^^ b) ^^^ b = a
  rw [Nat.xor_assoc, Nat.xor_self, Nat.xor_zero]
theorem ring7 (n a b : Nat) (ha : a < pw n) : doF 1 n (doF 3 n (doF 4 n a b) b) (doF 5 n a b) = a := by
  show wr n ((wr n (((a / b : Nat) : Int) * b) : Nat) + ((a % b : Nat) : Int)) = a
  have h := wr_of_lt ha
  have e := Nat.div_add_mod a b
  have e2 : ((a / b : Nat) : Int) * b + ((a % b : Nat) : Int) = a := by
    rw [← Int.natCast_mul, Nat.mul_comm, ← Int.natCast_add, e]
  refine Eq.trans (wr_congr ?_) h
  rw [wr_cast, Int.emod_add_emod, e2]
theorem ring8 (n a b : Nat) (ha : a < pw n) : doF 1 n (doF 3 n (doF 6 n a b) b) (doF 7 n a b) = a := by
  show wr n ((wr n ((wr n ((sgn n a).tdiv (sgn n b)) : Nat) * (b : Int)) : Nat) + ((wr n ((sgn n a).tmod (sgn n b)) : Nat) : Int)) = a
  have h := wr_of_lt ha
  have e : (sgn n a).tdiv (sgn n b) * sgn n b + (sgn n a).tmod (sgn n b) = sgn n a := by
    rw [Int.mul_comm]; exact Int.mul_tdiv_add_tmod _ _
  refine Eq.trans (wr_congr ?_) h
  rw [wr_cast, wr_cast, wr_cast, ← Int.add_emod, ← Int.emod_add_emod, mod_mul_left, ← mul_mod_right, ← sgn_mod n b, mul_mod_right, Int.emod_add_emod, e, sgn_mod]
/-- What holds of every world on the way. -/
def Way (w0 w : World) : Prop := Masks w ∧ Below w0.heap.size w0 w
theorem Way.next {w0 w w1 : World} (h : Way w0 w) (hb : Below w.heap.size w w1) : Way w0 w1 := ⟨h.1.below hb (Nat.le_refl _), h.2.trans (hb.mono h.2.size)⟩
end Go.Proofs.YtgnaohhopbhihaaDoor
