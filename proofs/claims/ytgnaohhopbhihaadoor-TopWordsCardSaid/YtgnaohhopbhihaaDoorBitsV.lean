/-
  Which flags are broken: plain functions, and package bits' side as contracts.
-/
import Derived.Test.YtgnaohhopbhihaaDoorBitsS
namespace Go.Proofs.YtgnaohhopbhihaaDoor
open Go.RowKit

def fB (k flags : Nat) : Bool := decide (flags / k % 2 = 1)
def outS (n : Nat) (y : Int) : Bool := decide (y < -(pw (n - 1) : Int) ∨ (pw (n - 1) : Int) - 1 < y)
def outU (n : Nat) (y : Int) : Bool := decide (y < 0 ∨ (pw n : Int) - 1 < y)
def uB (op n a b : Nat) : Bool := if op = 1 then outU n ((a : Int) + b) else if op = 2 then decide (a < b) else if op = 3 then outU n ((a : Int) * b) else if op = 11 then outU n ((a : Int) * pw b) else false
def sB (op n a b : Nat) : Bool := if op = 1 then outS n (sgn n a + sgn n b) else if op = 2 then outS n (sgn n a - sgn n b) else if op = 3 then outS n (sgn n a * sgn n b) else if op = 11 then outS n (sgn n a * pw b) else false
def eB (op n a b : Nat) : Bool := if op = 4 then decide (a % b ≠ 0) else if op = 6 then decide ((sgn n a).tmod (sgn n b) ≠ 0) else if op = 12 ∨ op = 13 then decide (a % pw b ≠ 0) else false
def brF (op flags n a b : Nat) : Bool := (fB 1 flags && uB op n a b) || (fB 2 flags && sB op n a b) || (fB 4 flags && eB op n a b)
theorem flag_cases {f : Nat} (h : f < 8) : f = 0 ∨ f = 1 ∨ f = 2 ∨ f = 3 ∨ f = 4 ∨ f = 5 ∨ f = 6 ∨ f = 7 := by omega
theorem flag1 {f : Nat} (h : f < 8) : (bits .and .i64 (f : Int) 1 != 0) = fB 1 f := by
  rcases flag_cases h with rfl | rfl | rfl | rfl | rfl | rfl | rfl | rfl <;> kernel_rfl
theorem flag2 {f : Nat} (h : f < 8) : (bits .and .i64 (f : Int) 2 != 0) = fB 2 f := by
  rcases flag_cases h with rfl | rfl | rfl | rfl | rfl | rfl | rfl | rfl <;> kernel_rfl
theorem flag4 {f : Nat} (h : f < 8) : (bits .and .i64 (f : Int) 4 != 0) = fB 4 f := by
  rcases flag_cases h with rfl | rfl | rfl | rfl | rfl | rfl | rfl | rfl <;> kernel_rfl
theorem leavesWords_any (n : Nat) (y : Int) (w : World) (hM : Masks w) (h2 : n ≤ 32) :
    Calls Tryd.prog 142 #[.int .i64 n, .int .i64 y] w fun e w' => e = .returned (.bool (outU n y)) ∧ w = w' := by
  have hc := hM n h2
  have hp := pw_le h2
  by_cases hy : y < 0
  · have E := Lib.hid (show outU n y = true by simp [outU, hy])
    rw [E.out]
    go_enter Tryd.func142, Tryd.ntmps142
    go_wp2
    go_ret
    exact ⟨rfl, rfl⟩
  · have E := Lib.hid (show outU n y = decide ((pw n : Int) - 1 < y) by simp [outU, hy])
    rw [E.out]
    go_enter Tryd.func142, Tryd.ntmps142
    go_wp2
    go_ret
    exact ⟨ret_b (by rw [Bool.eq_iff_iff]; simp; omega), rfl⟩
theorem leavesSigned_any (n : Nat) (y : Int) (w : World) (hM : Masks w) (h1 : 1 ≤ n) (h2 : n ≤ 32) :
    Calls Tryd.prog 143 #[.int .i64 n, .int .i64 y] w fun e w' => e = .returned (.bool (outS n y)) ∧ w = w' := by
  have hc := hM n h2
  have hp := pw_le h2
  have hh := pw_half h1
  have hq1 : pw n ≤ 2 * pw (n - 1) := by omega
  have hq2 : 2 * pw (n - 1) ≤ pw n := by omega
  clear hh
  by_cases hy : (pw (n - 1) : Int) - 1 < y
  · have E := Lib.hid (show outS n y = true by simp [outS, hy])
    rw [E.out]
    have hy2 : ((pw n - 1 : Nat) : Int) / 2 < y := by omega
    go_enter Tryd.func143, Tryd.ntmps143
    go_wp2
    go_ret
    exact ⟨rfl, rfl⟩
  · have E := Lib.hid (show outS n y = decide (y < -(pw (n - 1) : Int)) by simp [outS, hy])
    rw [E.out]
    have hy2 : ¬ ((pw n - 1 : Nat) : Int) / 2 < y := by omega
    go_enter Tryd.func143, Tryd.ntmps143
    go_wp2
    go_ret
    exact ⟨ret_b (by rw [Bool.eq_iff_iff]; simp; omega), rfl⟩
theorem never_any (flags n a b : Nat) : BrFn 109 flags n a b (.bool false) := fun w _ => by
  go_enter Tryd.func109, Tryd.ntmps109
  go_wp2
  go_ret
  exact ⟨rfl, rfl⟩
set_option maxHeartbeats 2000000 in
theorem addBreaks_any (flags n a b : Nat) (hf : flags < 8) (h1 : 1 ≤ n) (h2 : n ≤ 32) (ha : a < pw n) (hb : b < pw n) : BrFn 98 flags n a b (.bool (brF 1 flags n a b)) := fun w hM => by
  have hp := pw_le h2
  have hU := flag1 hf
  have hS := flag2 hf
  obtain ⟨s1, s2, s3⟩ := sgn_bounds h1 h2 ha
  obtain ⟨t1, t2, t3⟩ := sgn_bounds h1 h2 hb
  have K := Lib.hid (show brF 1 flags n a b = ((fB 1 flags && uB 1 n a b) || (fB 2 flags && sB 1 n a b)) by simp [brF, eB])
  have c1 := leavesSigned_any n (sgn n a + sgn n b) w hM h1 h2
  rw [show outS n (sgn n a + sgn n b) = sB 1 n a b by simp [sB]] at c1
  have c2 := leavesWords_any n ((a : Int) + (b : Int)) w hM h2
  rw [show outU n ((a : Int) + (b : Int)) = uB 1 n a b by simp [uB]] at c2
  rw [K.out]
  cases hu : fB 1 flags <;> cases hs : fB 2 flags <;> cases hub : uB 1 n a b <;> cases hsb : sB 1 n a b
  all_goals
    rw [hu] at hU
    rw [hs] at hS
    rw [hsb] at c1
    rw [hub] at c2
    clear hu hs hsb hub
    go_enter Tryd.func98, Tryd.ntmps98
    go_wp2_with (first
      | (go_at_call 59; ((with_reducible refine (signed_any n a _ hM h1 h2 ha).mono ?_); rintro e w' ⟨rfl, rfl⟩))
      | (go_at_call 59; ((with_reducible refine (signed_any n b _ hM h1 h2 hb).mono ?_); rintro e w' ⟨rfl, rfl⟩))
      | (go_at_call 143; refine c1.mono ?_; rintro e w' ⟨rfl, rfl⟩)
      | (go_at_call 142; refine c2.mono ?_; rintro e w' ⟨rfl, rfl⟩))
    go_ret
    first | exact ⟨rfl, rfl⟩ | exact ⟨ret_b (by simp; omega), rfl⟩
set_option maxHeartbeats 2000000 in
theorem subBreaks_any (flags n a b : Nat) (hf : flags < 8) (h1 : 1 ≤ n) (h2 : n ≤ 32) (ha : a < pw n) (hb : b < pw n) : BrFn 100 flags n a b (.bool (brF 2 flags n a b)) := fun w hM => by
  have hp := pw_le h2
  have hU := flag1 hf
  have hS := flag2 hf
  obtain ⟨s1, s2, s3⟩ := sgn_bounds h1 h2 ha
  obtain ⟨t1, t2, t3⟩ := sgn_bounds h1 h2 hb
  have K := Lib.hid (show brF 2 flags n a b = ((fB 1 flags && uB 2 n a b) || (fB 2 flags && sB 2 n a b)) by simp [brF, eB])
  have c1 := leavesSigned_any n (sgn n a - sgn n b) w hM h1 h2
  rw [show outS n (sgn n a - sgn n b) = sB 2 n a b by simp [sB]] at c1
  rw [K.out]
  cases hu : fB 1 flags <;> cases hs : fB 2 flags <;> cases hub : uB 2 n a b <;> cases hsb : sB 2 n a b
  all_goals
    rw [hu] at hU
    rw [hs] at hS
    rw [hsb] at c1
    have hlt : decide (a < b) = _ := hub
    simp at hlt
    clear hu hs hsb hub
    go_enter Tryd.func100, Tryd.ntmps100
    go_wp2_with (first
      | (go_at_call 59; ((with_reducible refine (signed_any n a _ hM h1 h2 ha).mono ?_); rintro e w' ⟨rfl, rfl⟩))
      | (go_at_call 59; ((with_reducible refine (signed_any n b _ hM h1 h2 hb).mono ?_); rintro e w' ⟨rfl, rfl⟩))
      | (go_at_call 143; refine c1.mono ?_; rintro e w' ⟨rfl, rfl⟩))
    go_ret
    first | exact ⟨rfl, rfl⟩ | exact ⟨ret_b (by simp; omega), rfl⟩
theorem prod_u64 {a b : Nat} (ha : a ≤ 4294967295) (hb : b ≤ 4294967295) : 0 ≤ (a : Int) * (b : Int) ∧ (a : Int) * (b : Int) ≤ 18446744065119617025 := by
  have h : a * b ≤ 4294967295 * 4294967295 := Nat.mul_le_mul ha hb
  rw [← Int.natCast_mul]
  omega
theorem shl_i64 {a b : Nat} (ha : a ≤ 4294967295) (hb : b < 32) : 0 ≤ (a : Int) * 2 ^ b ∧ (a : Int) * 2 ^ b ≤ 9223372034707292160 := by
  have hpb : pw b ≤ pw 31 := pw_mono (by omega)
  have e : pw 31 = 2147483648 := by decide
  have h : a * pw b ≤ 4294967295 * 2147483648 := Nat.mul_le_mul ha (by omega)
  rw [mul_pow_cast]
  omega
theorem shl_sgn {y : Int} {b : Nat} (hy : -2147483648 ≤ y ∧ y ≤ 2147483647) (hb : b < 32) : -4611686018427387904 ≤ y * 2 ^ b ∧ y * 2 ^ b ≤ 4611686018427387904 := by
  have hpb : pw b ≤ pw 31 := pw_mono (by omega)
  have e : pw 31 = 2147483648 := by decide
  have e2 : y * 2 ^ b = y * (pw b : Int) := by simp [pw]
  have h : (y * (pw b : Int)).natAbs ≤ 2147483648 * 2147483648 := by
    rw [Int.natAbs_mul]
    exact Nat.mul_le_mul (by omega) (by omega)
  rw [e2]
  omega
set_option maxHeartbeats 2000000 in
theorem mulBreaks_any (flags n a b : Nat) (hf : flags < 8) (h1 : 1 ≤ n) (h2 : n ≤ 32) (ha : a < pw n) (hb : b < pw n) : BrFn 102 flags n a b (.bool (brF 3 flags n a b)) := fun w hM => by
  have hp := pw_le h2
  have hU := flag1 hf
  have hS := flag2 hf
  obtain ⟨s1, s2, s3⟩ := sgn_bounds h1 h2 ha
  obtain ⟨t1, t2, t3⟩ := sgn_bounds h1 h2 hb
  have hc := hM n h2
  obtain ⟨m1, m2⟩ := mul_bounds (x := sgn n a) (y := sgn n b) (by omega) (by omega)
  obtain ⟨q1, q2⟩ := prod_u64 (a := a) (b := b) (by omega) (by omega)
  have hq : decide (((pw n - 1 : Nat) : Int) < (a : Int) * b) = uB 3 n a b := by
    simp [uB, outU]; rw [Bool.eq_iff_iff]; simp; omega
  have K := Lib.hid (show brF 3 flags n a b = ((fB 1 flags && uB 3 n a b) || (fB 2 flags && sB 3 n a b)) by simp [brF, eB])
  have c1 := leavesSigned_any n (sgn n a * sgn n b) w hM h1 h2
  rw [show outS n (sgn n a * sgn n b) = sB 3 n a b by simp [sB]] at c1
  rw [K.out]
  cases hu : fB 1 flags <;> cases hs : fB 2 flags <;> cases hub : uB 3 n a b <;> cases hsb : sB 3 n a b
  all_goals
    rw [hu] at hU
    rw [hs] at hS
    rw [hsb] at c1
    rw [hub] at hq
    clear hu hs hsb hub
    go_enter Tryd.func102, Tryd.ntmps102
    go_wp2_with (first
      | (go_at_call 59; ((with_reducible refine (signed_any n a _ hM h1 h2 ha).mono ?_); rintro e w' ⟨rfl, rfl⟩))
      | (go_at_call 59; ((with_reducible refine (signed_any n b _ hM h1 h2 hb).mono ?_); rintro e w' ⟨rfl, rfl⟩))
      | (go_at_call 143; refine c1.mono ?_; rintro e w' ⟨rfl, rfl⟩))
    go_ret
    first | exact ⟨rfl, rfl⟩ | exact ⟨ret_b (by simp; omega), rfl⟩
set_option maxHeartbeats 2000000 in
theorem shlBreaks_any (flags n a b : Nat) (hf : flags < 8) (h1 : 1 ≤ n) (h2 : n ≤ 32) (ha : a < pw n) (hb : b < pw n) (h32 : b < 32) : BrFn 121 flags n a b (.bool (brF 11 flags n a b)) := fun w hM => by
  have hp := pw_le h2
  have hU := flag1 hf
  have hS := flag2 hf
  obtain ⟨s1, s2, s3⟩ := sgn_bounds h1 h2 ha
  obtain ⟨t1, t2, t3⟩ := sgn_bounds h1 h2 hb
  obtain ⟨m1, m2⟩ := shl_sgn (y := sgn n a) (b := b) (by omega) h32
  obtain ⟨q1, q2⟩ := shl_i64 (a := a) (b := b) (by omega) h32
  have K := Lib.hid (show brF 11 flags n a b = ((fB 1 flags && uB 11 n a b) || (fB 2 flags && sB 11 n a b)) by simp [brF, eB])
  have c1 := leavesSigned_any n (sgn n a * 2 ^ b) w hM h1 h2
  rw [show outS n (sgn n a * 2 ^ b) = sB 11 n a b by simp [sB, pw]] at c1
  have c2 := leavesWords_any n ((a : Int) * 2 ^ b) w hM h2
  rw [show outU n ((a : Int) * 2 ^ b) = uB 11 n a b by simp [uB, pw]] at c2
  rw [K.out]
  cases hu : fB 1 flags <;> cases hs : fB 2 flags <;> cases hub : uB 11 n a b <;> cases hsb : sB 11 n a b
  all_goals
    rw [hu] at hU
    rw [hs] at hS
    rw [hsb] at c1
    rw [hub] at c2
    clear hu hs hsb hub
    go_enter Tryd.func121, Tryd.ntmps121
    go_wp2_with (first
      | (go_at_call 59; ((with_reducible refine (signed_any n a _ hM h1 h2 ha).mono ?_); rintro e w' ⟨rfl, rfl⟩))
      | (go_at_call 59; ((with_reducible refine (signed_any n b _ hM h1 h2 hb).mono ?_); rintro e w' ⟨rfl, rfl⟩))
      | (go_at_call 143; refine c1.mono ?_; rintro e w' ⟨rfl, rfl⟩)
      | (go_at_call 142; refine c2.mono ?_; rintro e w' ⟨rfl, rfl⟩))
    go_ret
    first | exact ⟨rfl, rfl⟩ | exact ⟨ret_b (by simp; omega), rfl⟩
theorem udivBreaks_any (flags n a b : Nat) (hf : flags < 8) (hz : b ≠ 0) : BrFn 106 flags n a b (.bool (brF 4 flags n a b)) := fun w _ => by
  have hE := flag4 hf
  have hb1 : 1 ≤ b := by omega
  have K := Lib.hid (show brF 4 flags n a b = (fB 4 flags && eB 4 n a b) by simp [brF, uB, sB])
  rw [K.out]
  cases he : fB 4 flags <;> cases heb : eB 4 n a b
  all_goals
    rw [he] at hE
    simp [eB] at heb
    clear he
    go_enter Tryd.func106, Tryd.ntmps106
    go_wp2
    go_ret
    first | exact ⟨rfl, rfl⟩ | exact ⟨ret_b (by simp; omega), rfl⟩ | exact ⟨ret_b (by simpa using heb), rfl⟩
theorem sdivBreaks_any (flags n a b : Nat) (hf : flags < 8) (h1 : 1 ≤ n) (h2 : n ≤ 32) (ha : a < pw n) (hb : b < pw n) (hz : b ≠ 0) : BrFn 113 flags n a b (.bool (brF 6 flags n a b)) := fun w hM => by
  have hE := flag4 hf
  obtain ⟨s1, s2, s3⟩ := sgn_bounds h1 h2 ha
  obtain ⟨t1, t2, t3⟩ := sgn_bounds h1 h2 hb
  obtain ⟨d1, d2⟩ := tmod_bounds (sgn n a) (sgn n b) (by omega)
  have hz : ¬ sgn n b = 0 := fun e => hz ((sgn_zero h1 hb).1 e)
  have K := Lib.hid (show brF 6 flags n a b = (fB 4 flags && eB 6 n a b) by simp [brF, uB, sB])
  rw [K.out]
  cases he : fB 4 flags <;> cases heb : eB 6 n a b
  all_goals
    rw [he] at hE
    simp [eB] at heb
    clear he
    go_enter Tryd.func113, Tryd.ntmps113
    go_wp2_with (first
      | (go_at_call 59; ((with_reducible refine (signed_any n a _ hM h1 h2 ha).mono ?_); rintro e w' ⟨rfl, rfl⟩))
      | (go_at_call 59; ((with_reducible refine (signed_any n b _ hM h1 h2 hb).mono ?_); rintro e w' ⟨rfl, rfl⟩)))
    go_ret
    first | exact ⟨rfl, rfl⟩ | exact ⟨ret_b (by simp; omega), rfl⟩ | exact ⟨ret_b (by simpa using heb), rfl⟩
theorem shift_back (a b : Nat) (ha : a < 4294967296) : ((a : Int) / 2 ^ b * 2 ^ b % 4294967296 != (a : Int)) = decide (a % pw b ≠ 0) := by
  have h := Nat.div_add_mod a (pw b)
  have h3 : a / pw b * pw b ≤ a := Nat.div_mul_le_self a _
  rw [div_pow_cast, mul_pow_cast]
  have e : ((a / pw b * pw b : Nat) : Int) % 4294967296 = ((a / pw b * pw b : Nat) : Int) := by omega
  rw [e, Bool.eq_iff_iff]
  rw [Nat.mul_comm] at h
  simp only [bne_iff_ne, ne_eq, decide_eq_true_eq]
  omega
theorem shiftBreaks_any_12 (flags n a b : Nat) (hf : flags < 8) (h2 : n ≤ 32) (ha : a < pw n) (h32 : b < 32) : BrFn 123 flags n a b (.bool (brF 12 flags n a b)) := fun w _ => by
  have hp := pw_le h2
  have hE := flag4 hf
  have SB := Lib.hid (shift_back a b (by omega))
  have K := Lib.hid (show brF 12 flags n a b = (fB 4 flags && decide (a % pw b ≠ 0)) by simp [brF, uB, sB, eB])
  rw [K.out]
  cases he : fB 4 flags
  all_goals
    rw [he] at hE
    clear he
    go_enter Tryd.func123, Tryd.ntmps123
    go_wp2
    go_ret
    first | exact ⟨rfl, rfl⟩ | exact ⟨ret_b SB.out, rfl⟩
theorem shiftBreaks_any_13 (flags n a b : Nat) (hf : flags < 8) (h2 : n ≤ 32) (ha : a < pw n) (h32 : b < 32) : BrFn 123 flags n a b (.bool (brF 13 flags n a b)) := fun w _ => by
  have hp := pw_le h2
  have hE := flag4 hf
  have SB := Lib.hid (shift_back a b (by omega))
  have K := Lib.hid (show brF 13 flags n a b = (fB 4 flags && decide (a % pw b ≠ 0)) by simp [brF, uB, sB, eB])
  rw [K.out]
  cases he : fB 4 flags
  all_goals
    rw [he] at hE
    clear he
    go_enter Tryd.func123, Tryd.ntmps123
    go_wp2
    go_ret
    first | exact ⟨rfl, rfl⟩ | exact ⟨ret_b SB.out, rfl⟩
end Go.Proofs.YtgnaohhopbhihaaDoor
