/-
  What each operation makes: plain functions; the small functions of package bits as contracts.
-/
import Derived.Test.YtbohigjfdnnomaaGreatDoorBitsE
namespace Go.Proofs.YtbohigjfdnnomaaGreatDoor
open Go.RowKit

def doF (op n a b : Nat) : Nat :=
  if op = 1 then wr n ((a : Int) + b) else if op = 2 then wr n ((a : Int) - b) else if op = 3 then wr n ((a : Int) * b) else if op = 4 then a / b else if op = 5 then a % b
  else if op = 6 then wr n ((sgn n a).tdiv (sgn n b)) else if op = 7 then wr n ((sgn n a).tmod (sgn n b))
  else if op = 8 then a &&& b else if op = 9 then a ||| b else if op = 10 then a ^^^ b
  else if op = 11 then wr n ((a : Int) * pw b) else if op = 12 then a / pw b else wr n (sgn n a / (pw b : Int))
def hasF (op n a b : Nat) : Bool :=
  if op = 4 ∨ op = 5 then decide (b ≠ 0) else if op = 6 ∨ op = 7 then decide (b ≠ 0 ∧ ¬ (a = pw (n - 1) ∧ b = pw n - 1)) else if 11 ≤ op then decide (b < n) else true
theorem sgn_bounds {n x : Nat} (h1 : 1 ≤ n) (h2 : n ≤ 32) (hx : x < pw n) : -(pw (n - 1) : Int) ≤ sgn n x ∧ sgn n x < (pw (n - 1) : Int) ∧ (pw (n - 1) : Int) ≤ 2147483648 := by
  have hh := pw_half h1
  have hp := pw_le h2
  unfold sgn
  split <;> omega
theorem sgn_zero {n x : Nat} (h1 : 1 ≤ n) (hx : x < pw n) : sgn n x = 0 ↔ x = 0 := by
  have hh := pw_half h1
  have h0 : 0 < pw (n - 1) := Nat.two_pow_pos _
  unfold sgn
  split <;> omega
theorem tdiv_bounds (x y : Int) (hx : -2147483648 ≤ x ∧ x ≤ 2147483647) : -2147483648 ≤ x.tdiv y ∧ x.tdiv y ≤ 2147483648 := by
  have h : (x.tdiv y).natAbs ≤ x.natAbs := by
    rw [Int.natAbs_tdiv]
    exact Nat.div_le_self _ _
  omega
theorem tmod_bounds (x y : Int) (hx : -2147483648 ≤ x ∧ x ≤ 2147483647) : -2147483648 ≤ x.tmod y ∧ x.tmod y ≤ 2147483648 := by
  have h : (x.tmod y).natAbs ≤ x.natAbs := by
    rw [Int.natAbs_tmod]
    exact Nat.mod_le _ _
  omega

theorem zero_any (n a b : Nat) : OpFn 106 n a b (.int .u32 0) := fun w _ => by
  go_enter Tryz.func106, Tryz.ntmps106
  go_wp2
  go_ret
  exact ⟨rfl, rfl⟩
theorem first_any (n a b : Nat) : OpFn 117 n a b (.int .u32 a) := fun w _ => by
  go_enter Tryz.func117, Tryz.ntmps117
  go_wp2
  go_ret
  exact ⟨rfl, rfl⟩
theorem greatest_any (n a b : Nat) (h2 : n ≤ 32) : OpFn 114 n a b (.int .u32 (pw n - 1 : Nat)) := fun w hM => by
  have hc := hM n h2
  go_enter Tryz.func114, Tryz.ntmps114
  go_wp2
  go_ret
  exact ⟨rfl, rfl⟩
theorem divides_any (n a b : Nat) : OpFn 112 n a b (.bool (decide (b ≠ 0))) := fun w _ => by
  go_enter Tryz.func112, Tryz.ntmps112
  go_wp2
  go_ret
  exact ⟨ret_b (by first | rfl | (rw [Bool.eq_iff_iff]; simp)), rfl⟩
theorem shifts_any (n a b : Nat) (h2 : n ≤ 32) : OpFn 128 n a b (.bool (decide (b < n))) := fun w _ => by
  go_enter Tryz.func128, Tryz.ntmps128
  go_wp2
  go_ret
  exact ⟨ret_b (by first | rfl | (rw [Bool.eq_iff_iff]; simp)), rfl⟩
theorem dividesSigned_any (n a b : Nat) (h1 : 1 ≤ n) (h2 : n ≤ 32) : OpFn 119 n a b (.bool (decide (b ≠ 0 ∧ ¬ (a = pw (n - 1) ∧ b = pw n - 1)))) := fun w hM => by
  have hc := hM n h2
  have hp := pw_le h2
  have hh := pw_half h1
  have hq1 : pw n ≤ 2 * pw (n - 1) := by omega
  have hq2 : 2 * pw (n - 1) ≤ pw n := by omega
  clear hh
  by_cases hb : b = 0
  · subst hb
    go_enter Tryz.func119, Tryz.ntmps119
    go_wp2
    go_ret
    exact ⟨ret_b (by simp), rfl⟩
  have D := Lib.hid hb
  by_cases ht : (b : Int) = ((pw n - 1 : Nat) : Int)
  · have ht' : ((b : Int) == ((pw n - 1 : Nat) : Int)) = true := by simpa using ht
    have T := Lib.hid ht
    clear ht
    go_enter Tryz.func119, Tryz.ntmps119
    go_wp2
    go_ret
    have e1 := T.out
    have e2 : b = pw n - 1 := by omega
    exact ⟨ret_b (by rw [Bool.eq_iff_iff]; simp [e2]; omega), rfl⟩
  · have ht' : ((b : Int) == ((pw n - 1 : Nat) : Int)) = false := by simpa using ht
    have T := Lib.hid ht
    clear ht
    go_enter Tryz.func119, Tryz.ntmps119
    go_wp2
    go_ret
    have e1 := T.out
    have e2 : b ≠ pw n - 1 := by omega
    exact ⟨ret_b (by simp [e2, hb]), rfl⟩
theorem sub_any (n a b : Nat) (h2 : n ≤ 32) : OpFn 108 n a b (.int .u32 (wr n ((a : Int) - b))) := fun w hM => by
  have hc := hM n h2
  go_enter Tryz.func108, Tryz.ntmps108
  go_wp2
  go_ret
  exact ⟨ret_i (wrap_eq n _ h2), rfl⟩
theorem mul_any (n a b : Nat) (h2 : n ≤ 32) : OpFn 110 n a b (.int .u32 (wr n ((a : Int) * b))) := fun w hM => by
  have hc := hM n h2
  go_enter Tryz.func110, Tryz.ntmps110
  go_wp2
  go_ret
  exact ⟨ret_i (wrap_eq n _ h2), rfl⟩
theorem udiv_any (n a b : Nat) (a32 : a < 4294967296) (h : b ≠ 0) : OpFn 113 n a b (.int .u32 (a / b : Nat)) := fun w _ => by
  have hb : 1 ≤ b := by omega
  have hq := Nat.div_le_self a b
  go_enter Tryz.func113, Tryz.ntmps113
  go_wp2
  go_ret
  refine ⟨ret_i ?_, rfl⟩
  have e : (a : Int) / (b : Int) = ((a / b : Nat) : Int) := (Int.natCast_ediv a b).symm
  rw [e]
  generalize a / b = q at *
  omega
theorem urem_any (n a b : Nat) (a32 : a < 4294967296) (h : b ≠ 0) : OpFn 116 n a b (.int .u32 (a % b : Nat)) := fun w _ => by
  have hb : 1 ≤ b := by omega
  have hq := Nat.mod_le a b
  go_enter Tryz.func116, Tryz.ntmps116
  go_wp2
  go_ret
  exact ⟨ret_i (by simp), rfl⟩
theorem sdiv_any (n a b : Nat) (h1 : 1 ≤ n) (h2 : n ≤ 32) (ha : a < pw n) (hb : b < pw n) (h : b ≠ 0) : OpFn 120 n a b (.int .u32 (wr n ((sgn n a).tdiv (sgn n b)))) := fun w hM => by
  obtain ⟨s1, s2, s3⟩ := sgn_bounds h1 h2 ha
  obtain ⟨t1, t2, t3⟩ := sgn_bounds h1 h2 hb
  obtain ⟨d1, d2⟩ := tdiv_bounds (sgn n a) (sgn n b) (by omega)
  have hz : ¬ sgn n b = 0 := fun e => h ((sgn_zero h1 hb).1 e)
  go_enter Tryz.func120, Tryz.ntmps120
  go_wp2_with (first
    | (go_at_call 96; ((with_reducible refine (signed_any n a _ hM h1 h2 ha).mono ?_); rintro e w' ⟨rfl, rfl⟩))
    | (go_at_call 96; ((with_reducible refine (signed_any n b _ hM h1 h2 hb).mono ?_); rintro e w' ⟨rfl, rfl⟩))
    | (go_at_call 98; refine (wrap_any n _ _ hM h2).mono ?_; rintro e w' ⟨rfl, rfl⟩))
  go_ret
  exact ⟨rfl, rfl⟩
theorem srem_any (n a b : Nat) (h1 : 1 ≤ n) (h2 : n ≤ 32) (ha : a < pw n) (hb : b < pw n) (h : b ≠ 0) : OpFn 123 n a b (.int .u32 (wr n ((sgn n a).tmod (sgn n b)))) := fun w hM => by
  obtain ⟨s1, s2, s3⟩ := sgn_bounds h1 h2 ha
  obtain ⟨t1, t2, t3⟩ := sgn_bounds h1 h2 hb
  obtain ⟨d1, d2⟩ := tmod_bounds (sgn n a) (sgn n b) (by omega)
  have hz : ¬ sgn n b = 0 := fun e => h ((sgn_zero h1 hb).1 e)
  go_enter Tryz.func123, Tryz.ntmps123
  go_wp2_with (first
    | (go_at_call 96; ((with_reducible refine (signed_any n a _ hM h1 h2 ha).mono ?_); rintro e w' ⟨rfl, rfl⟩))
    | (go_at_call 96; ((with_reducible refine (signed_any n b _ hM h1 h2 hb).mono ?_); rintro e w' ⟨rfl, rfl⟩))
    | (go_at_call 98; refine (wrap_any n _ _ hM h2).mono ?_; rintro e w' ⟨rfl, rfl⟩))
  go_ret
  exact ⟨rfl, rfl⟩
theorem and_any (n a b : Nat) (a32 : a < 4294967296) (b32 : b < 4294967296) : OpFn 125 n a b (.int .u32 (a &&& b : Nat)) := fun w _ => by
  go_enter Tryz.func125, Tryz.ntmps125
  go_wp2
  go_ret
  exact ⟨ret_i (u32_and_nat a b a32 b32), rfl⟩
theorem or_any (n a b : Nat) (a32 : a < 4294967296) (b32 : b < 4294967296) : OpFn 126 n a b (.int .u32 (a ||| b : Nat)) := fun w _ => by
  go_enter Tryz.func126, Tryz.ntmps126
  go_wp2
  go_ret
  exact ⟨ret_i (u32_or_nat a b a32 b32), rfl⟩
theorem xor_any (n a b : Nat) (a32 : a < 4294967296) (b32 : b < 4294967296) : OpFn 127 n a b (.int .u32 (a ^^^ b : Nat)) := fun w _ => by
  go_enter Tryz.func127, Tryz.ntmps127
  go_wp2
  go_ret
  exact ⟨ret_i (u32_xor_nat a b a32 b32), rfl⟩
theorem shl_any (n a b : Nat) (h2 : n ≤ 32) (hb : b < 32) : OpFn 129 n a b (.int .u32 (wr n ((a : Int) * pw b))) := fun w hM => by
  have hc := hM n h2
  go_enter Tryz.func129, Tryz.ntmps129
  go_wp2
  go_ret
  refine ⟨ret_i ?_, rfl⟩
  have := wrap_eq n ((a : Int) * pw b) h2
  simpa [pw] using this
theorem lshr_any (n a b : Nat) (hb : b < 32) : OpFn 131 n a b (.int .u32 (a / pw b : Nat)) := fun w hM => by
  go_enter Tryz.func131, Tryz.ntmps131
  go_wp2
  go_ret
  exact ⟨ret_i (div_pow_cast a b), rfl⟩
theorem floor_bounds (x : Int) (b : Nat) (hx : -2147483648 ≤ x ∧ x ≤ 2147483647) : -2147483648 ≤ x / (pw b : Int) ∧ x / (pw b : Int) ≤ 2147483647 := by
  have hp : 1 ≤ (pw b : Int) := by have : 1 ≤ pw b := Nat.one_le_two_pow
                                   omega
  constructor
  · rw [Int.le_ediv_iff_mul_le (by omega)]
    omega
  · have := Int.ediv_le_ediv (c := (pw b : Int)) (by omega) hx.2
    have h2 : (2147483647 : Int) / (pw b : Int) ≤ 2147483647 := Int.ediv_le_self _ (by omega)
    omega
theorem ashr_any (n a b : Nat) (h1 : 1 ≤ n) (h2 : n ≤ 32) (ha : a < pw n) (hb : b < 32) : OpFn 133 n a b (.int .u32 (wr n (sgn n a / (pw b : Int)))) := fun w hM => by
  obtain ⟨s1, s2, s3⟩ := sgn_bounds h1 h2 ha
  have e : sgn n a / (2 : Int) ^ b = sgn n a / (pw b : Int) := by simp [pw]
  obtain ⟨f1, f2⟩ := floor_bounds (sgn n a) b (by omega)
  go_enter Tryz.func133, Tryz.ntmps133
  go_wp2_with (first
    | (go_at_call 96; ((with_reducible refine (signed_any n a _ hM h1 h2 ha).mono ?_); rintro e w' ⟨rfl, rfl⟩))
    | (go_at_call 98; refine (wrap_any n _ _ hM h2).mono ?_; rintro e w' ⟨rfl, rfl⟩))
  go_ret
  exact ⟨rfl, rfl⟩
end Go.Proofs.YtbohigjfdnnomaaGreatDoor
