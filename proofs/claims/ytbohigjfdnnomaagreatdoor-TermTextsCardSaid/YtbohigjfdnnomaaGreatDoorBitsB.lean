/-
  Signed values and wraps: plain functions, and the contracts of both packages.
-/
import Derived.Test.YtbohigjfdnnomaaGreatDoorBitsA
import Derived.Lib.Hide
namespace Go.Proofs.YtbohigjfdnnomaaGreatDoor
open Go.RowKit

/-- The signed value of a word. -/
def sgn (n x : Nat) : Int := if pw (n - 1) ≤ x then (x : Int) - (pw n : Nat) else x
/-- A number modulo 2^n. -/
def wr (n : Nat) (y : Int) : Nat := (y % (pw n : Int)).toNat
theorem sgn_hi {n x : Nat} (h : pw (n - 1) ≤ x) : sgn n x = (x : Int) - (pw n : Int) := by unfold sgn; rw [if_pos h]
theorem sgn_lo {n x : Nat} (h : x < pw (n - 1)) : sgn n x = (x : Int) := by unfold sgn; rw [if_neg (by omega)]
theorem and_mask (n z : Nat) (h : n ≤ 32) (hz : z < 4294967296) : bits .and .u32 (z : Int) ((pw n - 1 : Nat) : Int) = ((z % pw n : Nat) : Int) := by
  have hp := pw_le h
  rw [u32_and_nat z (pw n - 1) hz (by omega)]
  unfold pw
  rw [Nat.and_two_pow_sub_one_eq_mod]
/-- 2^n divides 2^32. -/
theorem mod_mod32 (n : Nat) (y : Int) (h : n ≤ 32) : y % 4294967296 % (pw n : Int) = y % (pw n : Int) := by
  obtain ⟨k, hk⟩ := pw_dvd h
  have h32 : (4294967296 : Int) = (pw n : Int) * (k : Int) := by
    have e : (4294967296 : Int) = ((pw 32 : Nat) : Int) := by unfold pw; rfl
    rw [e, hk]
    exact Int.natCast_mul _ _
  exact Int.emod_emod_of_dvd y ⟨k, h32⟩
theorem wr_lt {n : Nat} (y : Int) : wr n y < pw n := by
  unfold wr
  have hp : 0 < (pw n : Int) := by have : 0 < pw n := Nat.two_pow_pos n
                                   omega
  have := Int.emod_lt_of_pos y hp
  have := Int.emod_nonneg y (by omega : (pw n : Int) ≠ 0)
  omega
theorem wr_cast {n : Nat} (y : Int) : (wr n y : Int) = y % (pw n : Int) := by
  unfold wr
  have hp : 0 < (pw n : Int) := by have : 0 < pw n := Nat.two_pow_pos n
                                   omega
  have := Int.emod_nonneg y (by omega : (pw n : Int) ≠ 0)
  omega

theorem wrap_eq (n : Nat) (y : Int) (h2 : n ≤ 32) : bits .and .u32 (y % 4294967296) ((pw n - 1 : Nat) : Int) = (wr n y : Int) := by
  have e2 := mod_mod32 n y h2
  have hlt := Int.emod_lt_of_pos y (show (0 : Int) < 4294967296 by omega)
  have hge := Int.emod_nonneg y (show (4294967296 : Int) ≠ 0 by omega)
  generalize y % 4294967296 = t at *
  obtain ⟨z, rfl⟩ : ∃ z : Nat, t = z := ⟨t.toNat, by omega⟩
  rw [and_mask n z h2 (by omega), wr_cast, ← e2]
  exact Int.natCast_emod _ _

theorem signed_any (n x : Nat) (w : World) (hM : Masks w) (h1 : 1 ≤ n) (h2 : n ≤ 32) (hx : x < pw n) :
    Calls Tryz.prog 96 #[.int .i64 n, .int .u32 x] w fun e w' => e = .returned (.int .i64 (sgn n x)) ∧ w = w' := by
  have hc := hM n h2
  have hp := pw_le h2
  have hh := pw_half h1
  have H := Lib.hid hh
  have hlo := fun h => sgn_lo (n := n) (x := x) h
  have hhi := fun h => sgn_hi (n := n) (x := x) h
  have L := Lib.hid hlo
  have I := Lib.hid hhi
  clear hh hlo hhi
  go_enter Tryz.func96, Tryz.ntmps96
  go_wp2
  · go_ret
    have := H.out
    exact ⟨ret_i (by rw [I.out (by omega)]; omega), rfl⟩
  · go_ret
    have := H.out
    exact ⟨ret_i (by rw [L.out (by omega)]), rfl⟩
theorem wrap_any (n : Nat) (y : Int) (w : World) (hM : Masks w) (h2 : n ≤ 32) :
    Calls Tryz.prog 98 #[.int .i64 n, .int .i64 y] w fun e w' => e = .returned (.int .u32 (wr n y)) ∧ w = w' := by
  have hc := hM n h2
  have hp := pw_le h2
  go_enter Tryz.func98, Tryz.ntmps98
  go_wp2
  go_ret
  exact ⟨ret_i (wrap_eq n y h2), rfl⟩
theorem refSign_any (n x : Nat) (w : World) (h1 : 1 ≤ n) (h2 : n ≤ 32) (hx : x < pw n) :
    Calls Tryz.prog 90 #[.int .i64 n, .int .u32 x] w fun e w' => e = .returned (.int .i64 (sgn n x)) ∧ w = w' := by
  have hp := pw_le h2
  have hq := pw_le (n := n - 1) (by omega)
  have hh := pw_half h1
  have e1 : (n : Int) - 1 = ((n - 1 : Nat) : Int) := by omega
  have H1 := Lib.hid e1
  have H := Lib.hid hh
  have L := Lib.hid (fun h => sgn_lo (n := n) (x := x) h)
  have I := Lib.hid (fun h => sgn_hi (n := n) (x := x) h)
  clear e1 hh
  go_enter Tryz.func90, Tryz.ntmps90
  go_wp2_with (go_at_call 87; first | ((with_reducible refine (size_any n _ h2).mono ?_); rintro e w' ⟨rfl, rfl⟩) | (rw [H1.out]; refine (size_any (n - 1) _ (by omega)).mono ?_; rintro e w' ⟨rfl, rfl⟩))
  · go_ret
    have := H.out
    exact ⟨ret_i (by rw [I.out (by omega)]), rfl⟩
  · go_ret
    have := H.out
    exact ⟨ret_i (by rw [L.out (by omega)]), rfl⟩
theorem refWrap_any (n : Nat) (y : Int) (w : World) (h2 : n ≤ 32) :
    Calls Tryz.prog 91 #[.int .i64 n, .int .i64 y] w fun e w' => e = .returned (.int .u32 (wr n y)) ∧ w = w' := by
  have hp := pw_le h2
  have hp0 : ((pw n : Int) == 0) = false := by simp; omega
  have hb1 : -(pw n : Int) < y.tmod (pw n) := by have := Int.lt_tmod_of_pos y (b := (pw n : Int)) (by omega); omega
  have hb2 : y.tmod (pw n) < (pw n : Int) := Int.tmod_lt_of_pos y (by omega)
  have hcast := wr_cast (n := n) y
  have hmod : y % (pw n : Int) = if y.tmod (pw n) < 0 then y.tmod (pw n) + pw n else y.tmod (pw n) := by
    have e0 := Int.emod_lt_of_pos y (show 0 < (pw n : Int) by omega)
    have e1 := Int.emod_nonneg y (show (pw n : Int) ≠ 0 by omega)
    have e := Int.tmod_eq_emod (a := y) (b := (pw n : Int))
    split at e <;> split <;> omega
  have H := Lib.hid hcast
  have M := Lib.hid hmod
  clear hcast hmod
  go_enter Tryz.func91, Tryz.ntmps91
  go_wp2_with (go_at_call 87; refine (size_any n _ h2).mono ?_; rintro e w' ⟨rfl, rfl⟩)
  · go_ret
    exact ⟨ret_i (by rw [H.out, M.out, if_pos (by assumption)]), rfl⟩
  · go_ret
    exact ⟨ret_i (by rw [H.out, M.out, if_neg (by omega)]), rfl⟩
end Go.Proofs.YtbohigjfdnnomaaGreatDoor
