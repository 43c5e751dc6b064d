/-
  The reference's do: what each operation makes.
-/
import Derived.Test.YtbohigjfdnnomaaGreatDoorBitsG2
namespace Go.Proofs.YtbohigjfdnnomaaGreatDoor
open Go.RowKit

theorem sgn_mod (n x : Nat) : sgn n x % (pw n : Int) = (x : Int) % (pw n : Int) := by
  unfold sgn
  split
  · rw [Int.sub_emod_right]
  · rfl
theorem wr_mul (n a b : Nat) : wr n (sgn n a * sgn n b) = wr n ((a : Int) * b) := by
  have : ((wr n (sgn n a * sgn n b) : Nat) : Int) = wr n ((a : Int) * b) := by
    rw [wr_cast, wr_cast, Int.mul_emod, sgn_mod, sgn_mod, ← Int.mul_emod]
  omega
theorem mul_bounds {x y : Int} (hx : -2147483648 ≤ x ∧ x ≤ 2147483647) (hy : -2147483648 ≤ y ∧ y ≤ 2147483647) : -4611686018427387904 ≤ x * y ∧ x * y ≤ 4611686018427387904 := by
  have h : (x * y).natAbs ≤ 2147483648 * 2147483648 := by
    rw [Int.natAbs_mul]
    exact Nat.mul_le_mul (by omega) (by omega)
  omega
theorem sgn_low {n x : Nat} (h1 : 1 ≤ n) : sgn n x = -(pw (n - 1) : Int) ↔ x = pw (n - 1) := by
  have hh := pw_half h1
  have h0 : 0 < pw (n - 1) := Nat.two_pow_pos _
  unfold sgn
  split <;> omega
theorem sgn_minus {n x : Nat} (h1 : 1 ≤ n) : sgn n x = -1 ↔ x = pw n - 1 := by
  have hh := pw_half h1
  have h0 : 0 < pw (n - 1) := Nat.two_pow_pos _
  unfold sgn
  split <;> omega
theorem tdiv_mul_bounds (x y : Int) (hx : -2147483648 ≤ x ∧ x ≤ 2147483647) : -2147483648 ≤ x.tdiv y * y ∧ x.tdiv y * y ≤ 2147483648 := by
  have h : (x.tdiv y * y).natAbs ≤ x.natAbs := by
    rw [Int.natAbs_mul, Int.natAbs_tdiv]
    exact Nat.div_mul_le_self _ _
  omega
abbrev RefDo (op n a b : Nat) (w : World) (x : Nat) (ok : Bool) : Prop :=
  Calls Tryz.prog 93 #[.int .i64 op, .int .i64 n, .int .u32 a, .int .u32 b] w fun e w' => e = .returned (.tuple #[.int .u32 x, .bool ok]) ∧ ∃ m, w' = w.drewN m
section
variable (n a b : Nat) (w : World) (h1 : 1 ≤ n) (h2 : n ≤ 32) (ha : a < pw n) (hb : b < pw n)
include h1 h2 ha hb
set_option maxHeartbeats 400000 in
theorem refdo_1 : RefDo 1 n a b w (wr n ((a : Int) + b)) true := by
  have hp := pw_le h2
  go_enter Tryz.func93, Tryz.ntmps93
  go_wp2_with (first
    | (go_at_call 90; ((with_reducible refine (refSign_any n a _ h1 h2 ha).mono ?_); rintro e w' ⟨rfl, rfl⟩))
    | (go_at_call 90; ((with_reducible refine (refSign_any n b _ h1 h2 hb).mono ?_); rintro e w' ⟨rfl, rfl⟩))
    | (go_at_call 91; refine (refWrap_any n _ _ h2).mono ?_; rintro e w' ⟨rfl, rfl⟩))
  go_ret2
  exact ⟨rfl, 0, rfl⟩
theorem refdo_2 : RefDo 2 n a b w (wr n ((a : Int) - b)) true := by
  have hp := pw_le h2
  go_enter Tryz.func93, Tryz.ntmps93
  go_wp2_with (first
    | (go_at_call 90; ((with_reducible refine (refSign_any n a _ h1 h2 ha).mono ?_); rintro e w' ⟨rfl, rfl⟩))
    | (go_at_call 90; ((with_reducible refine (refSign_any n b _ h1 h2 hb).mono ?_); rintro e w' ⟨rfl, rfl⟩))
    | (go_at_call 91; refine (refWrap_any n _ _ h2).mono ?_; rintro e w' ⟨rfl, rfl⟩))
  go_ret2
  exact ⟨rfl, 0, rfl⟩
theorem refdo_3 : RefDo 3 n a b w (wr n ((a : Int) * b)) true := by
  obtain ⟨s1, s2, s3⟩ := sgn_bounds h1 h2 ha
  obtain ⟨t1, t2, t3⟩ := sgn_bounds h1 h2 hb
  obtain ⟨m1, m2⟩ := mul_bounds (x := sgn n a) (y := sgn n b) (by omega) (by omega)
  go_enter Tryz.func93, Tryz.ntmps93
  go_wp2_with (first
    | (go_at_call 90; ((with_reducible refine (refSign_any n a _ h1 h2 ha).mono ?_); rintro e w' ⟨rfl, rfl⟩))
    | (go_at_call 90; ((with_reducible refine (refSign_any n b _ h1 h2 hb).mono ?_); rintro e w' ⟨rfl, rfl⟩))
    | (go_at_call 91; refine (refWrap_any n _ _ h2).mono ?_; rintro e w' ⟨rfl, rfl⟩))
  go_ret2
  rw [← wr_mul]
  exact ⟨rfl, 0, rfl⟩
theorem refdo_45_none (op : Nat) (ho : op = 4 ∨ op = 5) (hz : b = 0) : RefDo op n a b w 0 false := by
  subst hz
  rcases ho with rfl | rfl
  all_goals
    go_enter Tryz.func93, Tryz.ntmps93
    go_wp2_with (first
      | (go_at_call 90; ((with_reducible refine (refSign_any n a _ h1 h2 ha).mono ?_); rintro e w' ⟨rfl, rfl⟩))
      | (go_at_call 90; refine (refSign_any n 0 _ h1 h2 hb).mono ?_; rintro e w' ⟨rfl, rfl⟩))
    go_ret2
    exact ⟨rfl, 0, rfl⟩
theorem refdo_4 (hz : b ≠ 0) : RefDo 4 n a b w (a / b) true := by
  have hp := pw_le h2
  have hb1 : 1 ≤ b := by omega
  have ec : (a : Int) / (b : Int) = ((a / b : Nat) : Int) := (Int.natCast_ediv _ _).symm
  have hq := Nat.div_le_self a b
  generalize a / b = q at *
  go_enter Tryz.func93, Tryz.ntmps93
  go_wp2_with (first
    | (go_at_call 90; ((with_reducible refine (refSign_any n a _ h1 h2 ha).mono ?_); rintro e w' ⟨rfl, rfl⟩))
    | (go_at_call 90; ((with_reducible refine (refSign_any n b _ h1 h2 hb).mono ?_); rintro e w' ⟨rfl, rfl⟩)))
  go_ret2
  refine ⟨?_, 0, rfl⟩
  simp
theorem refdo_5 (hz : b ≠ 0) : RefDo 5 n a b w (a % b) true := by
  have hp := pw_le h2
  have hb1 : 1 ≤ b := by omega
  have ec : (a : Int) / (b : Int) = ((a / b : Nat) : Int) := (Int.natCast_ediv _ _).symm
  have hq := Nat.div_le_self a b
  have hm := Nat.mod_add_div a b
  have hml : a / b * b ≤ a := Nat.div_mul_le_self a b
  rw [Nat.mul_comm] at hm
  have hm' : a % b = a - a / b * b := by omega
  rw [hm']
  clear hm hm'
  generalize a / b = q at *
  have hm2 : ((q : Int) * (b : Int)) ≤ (a : Int) := by rw [← Int.natCast_mul]; omega
  have hm3 : 0 ≤ ((q : Int) * (b : Int)) := by rw [← Int.natCast_mul]; omega
  go_enter Tryz.func93, Tryz.ntmps93
  go_wp2_with (first
    | (go_at_call 90; ((with_reducible refine (refSign_any n a _ h1 h2 ha).mono ?_); rintro e w' ⟨rfl, rfl⟩))
    | (go_at_call 90; ((with_reducible refine (refSign_any n b _ h1 h2 hb).mono ?_); rintro e w' ⟨rfl, rfl⟩)))
  go_ret2
  refine ⟨?_, 0, rfl⟩
  have e3 : ((a - q * b : Nat) : Int) = (a : Int) - (q : Int) * b := by rw [← Int.natCast_mul]; omega
  simp [e3]
end
section
variable (n a b : Nat) (w : World) (h1 : 1 ≤ n) (h2 : n ≤ 32) (ha : a < pw n) (hb : b < pw n)
include h1 h2 ha hb
theorem refdo_67_zero (op : Nat) (ho : op = 6 ∨ op = 7) (hz : b = 0) : RefDo op n a b w 0 false := by
  subst hz
  rcases ho with rfl | rfl
  all_goals
    go_enter Tryz.func93, Tryz.ntmps93
    go_wp2_with (first
      | (go_at_call 90; ((with_reducible refine (refSign_any n a _ h1 h2 ha).mono ?_); rintro e w' ⟨rfl, rfl⟩))
      | (go_at_call 90; refine (refSign_any n 0 _ h1 h2 hb).mono ?_; rintro e w' ⟨rfl, rfl⟩))
    go_ret2
    exact ⟨rfl, 0, rfl⟩
theorem refdo_67_low (op : Nat) (ho : op = 6 ∨ op = 7) (hz : a = pw (n - 1) ∧ b = pw n - 1) : RefDo op n a b w 0 false := by
  have hpn := pw_le h2
  have hh := pw_half h1
  have hbz : b ≠ 0 := by omega
  have hb0 : ((b : Int) == 0) = false := by simpa using hbz
  have e1 : (n : Int) - 1 = ((n - 1 : Nat) : Int) := by omega
  have hx : (sgn n a == -(pw (n - 1) : Int)) = true := by simpa using (sgn_low h1).2 hz.1
  have hy : (sgn n b == -1) = true := by simpa using (sgn_minus h1).2 hz.2
  have H1 := Lib.hid e1
  have HH := Lib.hid hh
  have hq := pw_le (n := n - 1) (by omega)
  clear e1 hh hz hbz
  rcases ho with rfl | rfl
  all_goals
    go_enter Tryz.func93, Tryz.ntmps93
    go_wp2_with (first
      | (go_at_call 90; ((with_reducible refine (refSign_any n a _ h1 h2 ha).mono ?_); rintro e w' ⟨rfl, rfl⟩))
      | (go_at_call 90; ((with_reducible refine (refSign_any n b _ h1 h2 hb).mono ?_); rintro e w' ⟨rfl, rfl⟩))
      | (go_at_call 87; rw [H1.out]; refine (size_any (n - 1) _ (by omega)).mono ?_; rintro e w' ⟨rfl, rfl⟩))
    go_ret2
    exact ⟨rfl, 0, rfl⟩
set_option maxHeartbeats 1000000 in
theorem refdo_67 (op : Nat) (ho : op = 6 ∨ op = 7) (hz : b ≠ 0 ∧ ¬ (a = pw (n - 1) ∧ b = pw n - 1)) :
    RefDo op n a b w (if op = 6 then wr n ((sgn n a).tdiv (sgn n b)) else wr n ((sgn n a).tmod (sgn n b))) true := by
  obtain ⟨hbz, hnl⟩ := hz
  obtain ⟨s1, s2, s3⟩ := sgn_bounds h1 h2 ha
  obtain ⟨t1, t2, t3⟩ := sgn_bounds h1 h2 hb
  obtain ⟨d1, d2⟩ := tdiv_bounds (sgn n a) (sgn n b) (by omega)
  obtain ⟨e1, e2⟩ := tdiv_mul_bounds (sgn n a) (sgn n b) (by omega)
  have hz : ¬ sgn n b = 0 := fun e => hbz ((sgn_zero h1 hb).1 e)
  have hb0 : ((b : Int) == 0) = false := by simpa using hbz
  have hc1 : (n : Int) - 1 = ((n - 1 : Nat) : Int) := by omega
  have hq := pw_le (n := n - 1) (by omega)
  have hm : sgn n a - (sgn n a).tdiv (sgn n b) * sgn n b = (sgn n a).tmod (sgn n b) := by
    rw [Int.tmod_def, Int.mul_comm]
  have HM := Lib.hid hm
  have H1 := Lib.hid hc1
  have hcase : (sgn n a == -(pw (n - 1) : Int)) = false ∨ (sgn n a == -(pw (n - 1) : Int)) = true ∧ (sgn n b == -1) = false := by
    by_cases hl : sgn n a = -(pw (n - 1) : Int)
    · have : sgn n b ≠ -1 := fun e => hnl ⟨(sgn_low h1).1 hl, (sgn_minus h1).1 e⟩
      exact .inr ⟨by simpa using hl, by simpa using this⟩
    · exact .inl (by simpa using hl)
  clear hm hc1 hnl hbz
  rcases ho with rfl | rfl
  all_goals
    rcases hcase with hx | ⟨hx, hy⟩
    all_goals
      go_enter Tryz.func93, Tryz.ntmps93
      go_wp2_with (first
        | (go_at_call 90; ((with_reducible refine (refSign_any n a _ h1 h2 ha).mono ?_); rintro e w' ⟨rfl, rfl⟩))
        | (go_at_call 90; ((with_reducible refine (refSign_any n b _ h1 h2 hb).mono ?_); rintro e w' ⟨rfl, rfl⟩))
        | (go_at_call 87; rw [H1.out]; refine (size_any (n - 1) _ (by omega)).mono ?_; rintro e w' ⟨rfl, rfl⟩)
        | (go_at_call 91; refine (refWrap_any n _ _ h2).mono ?_; rintro e w' ⟨rfl, rfl⟩))
      go_ret2
      first | exact ⟨rfl, 0, rfl⟩ | (rw [HM.out]; exact ⟨rfl, 0, rfl⟩)
theorem refdo_bw (op : Nat) (ho : op = 8 ∨ op = 9 ∨ op = 10) : RefDo op n a b w (bwF op a b) true := by
  rcases ho with rfl | rfl | rfl
  all_goals
    go_enter Tryz.func93, Tryz.ntmps93
    go_wp2_with (first
      | (go_at_call 90; ((with_reducible refine (refSign_any n a _ h1 h2 ha).mono ?_); rintro e w' ⟨rfl, rfl⟩))
      | (go_at_call 90; ((with_reducible refine (refSign_any n b _ h1 h2 hb).mono ?_); rintro e w' ⟨rfl, rfl⟩))
      | (go_at_call 103; first | ((with_reducible refine (bitwise_8 n a b _ h2 ha hb).mono ?_); rintro e w' ⟨rfl, m, rfl⟩) | ((with_reducible refine (bitwise_9 n a b _ h2 ha hb).mono ?_); rintro e w' ⟨rfl, m, rfl⟩) | ((with_reducible refine (bitwise_10 n a b _ h2 ha hb).mono ?_); rintro e w' ⟨rfl, m, rfl⟩)))
    go_ret2
    exact ⟨rfl, m, rfl⟩
theorem refdo_sh (op : Nat) (ho : op = 11 ∨ op = 12 ∨ op = 13) (hs : b < n) : RefDo op n a b w (if op = 11 then wr n ((a : Int) * pw b) else if op = 12 then a / pw b else wr n (sgn n a / (pw b : Int))) true := by
  rcases ho with rfl | rfl | rfl
  all_goals
    go_enter Tryz.func93, Tryz.ntmps93
    go_wp2_with (first
      | (go_at_call 90; ((with_reducible refine (refSign_any n a _ h1 h2 ha).mono ?_); rintro e w' ⟨rfl, rfl⟩))
      | (go_at_call 90; ((with_reducible refine (refSign_any n b _ h1 h2 hb).mono ?_); rintro e w' ⟨rfl, rfl⟩))
      | (go_at_call 103; first | ((with_reducible refine (bitwise_11 n a b _ h2 ha hs).mono ?_); rintro e w' ⟨rfl, rfl⟩) | ((with_reducible refine (bitwise_12 n a b _ h2 ha hs).mono ?_); rintro e w' ⟨rfl, rfl⟩) | ((with_reducible refine (bitwise_13 n a b _ h1 h2 ha hs).mono ?_); rintro e w' ⟨rfl, rfl⟩)))
    go_ret2
    exact ⟨rfl, 0, rfl⟩
theorem refdo_sh_none (op : Nat) (ho : op = 11 ∨ op = 12 ∨ op = 13) (hs : n ≤ b) : RefDo op n a b w 0 false := by
  have hp := pw_le h2
  rcases ho with rfl | rfl | rfl
  all_goals
    go_enter Tryz.func93, Tryz.ntmps93
    go_wp2_with (first
      | (go_at_call 90; ((with_reducible refine (refSign_any n a _ h1 h2 ha).mono ?_); rintro e w' ⟨rfl, rfl⟩))
      | (go_at_call 90; ((with_reducible refine (refSign_any n b _ h1 h2 hb).mono ?_); rintro e w' ⟨rfl, rfl⟩))
      | (go_at_call 103; refine (bitwise_none _ n a b _ (by omega) (by omega) hs).mono ?_; rintro e w' ⟨rfl, rfl⟩))
    go_ret2
    exact ⟨rfl, 0, rfl⟩
end
end Go.Proofs.YtbohigjfdnnomaaGreatDoor
