/-
  Power of the reference; what both refuse.
-/
import Derived.Test.YtebhahmgbdglnaaDoorLoopH
namespace Go.Proofs.YtebhahmgbdglnaaDoor
open Go.RowKit

theorem pmul_o (o x h b c : Nat) (hI : o * mulp x (2 * h + 1) % 4294967296 = mulp b c % 4294967296) : (o * x % 4294967296) * mulp (x * x % 4294967296) h % 4294967296 = mulp b c % 4294967296 := by
  rw [Nat.mul_mod, mulp_mod, mulp_sq, Nat.mod_mod, ← Nat.mul_mod, Nat.mul_assoc, Nat.mul_comm x, ← mulp]
  exact hI
theorem pmul_e (o x h b c : Nat) (hI : o * mulp x (2 * h) % 4294967296 = mulp b c % 4294967296) : o * mulp (x * x % 4294967296) h % 4294967296 = mulp b c % 4294967296 := by
  rw [Nat.mul_mod, mulp_mod, mulp_sq, ← Nat.mul_mod]
  exact hI
theorem pmod (n x : Nat) (h2 : n ≤ 32) : x % 18446744073709551616 % pw n = x % 4294967296 % pw n := by
  obtain ⟨k, hk⟩ := pw_dvd (m := n) (n := 64) (by omega)
  obtain ⟨j, hj⟩ := pw_dvd (m := n) (n := 32) (by omega)
  have e : pw 64 = 18446744073709551616 := by decide
  have e' : pw 32 = 4294967296 := by decide
  rw [Nat.mod_mod_of_dvd _ ⟨k, by rw [← e, hk]⟩, Nat.mod_mod_of_dvd _ ⟨j, by rw [← e', hj]⟩]
set_option maxHeartbeats 1000000 in
theorem refPower_ok (n b c : Nat) (w : World) (h1 : 1 ≤ n) (h2 : n ≤ 32) (hb : b < pw n) (hc : c ≤ 4294967296) :
    Calls Tryd.prog 50 #[.int .i64 n, .int .u32 b, .int .i64 c] w fun e w' => e = .returned (.tuple #[.int .u32 (mulp b c % 18446744073709551616 % pw n : Nat), .int .i64 0]) ∧ Below w.heap.size w w' := by
  have hp := pw_le h2
  go_enter Tryd.func50, Tryd.ntmps50
  go_wp2_with (go_at_call 76; refine (wd1_yes n b w _ c h1 h2 (by omega) (by omega) hb).mono ?_; rintro e w' ⟨rfl, rfl⟩)
  go_loop [2, 9, 10] (fun i z s => ∃ m o x : Nat, m ≤ 4294967296 ∧ o < 4294967296 ∧ x < 4294967296 ∧ i = .int .i64 (m : Int) ∧ z = .int .u64 (o : Int) ∧ s = .int .u64 (x : Int) ∧ o * mulp x m % 4294967296 = mulp b c % 4294967296) (fun i _ _ => (intOf i).toNat)
  case atStart => exact ⟨c, 1, b, hc, by omega, by omega, rfl, rfl, by go_num, by rw [Nat.one_mul]⟩
  case round =>
    obtain ⟨m, o, x, hm, ho, hx, rfl, rfl, rfl, hI⟩ := hrel
    have HI := Lib.hid hI
    clear hI
    by_cases hlt : 0 < m
    · have p1 : (o : Int) * (x : Int) = ((o * x : Nat) : Int) := (Int.natCast_mul _ _).symm
      have p2 : (x : Int) * (x : Int) = ((x * x : Nat) : Int) := (Int.natCast_mul _ _).symm
      have q1 : o * x ≤ 4294967295 * 4294967295 := Nat.mul_le_mul (by omega) (by omega)
      have q2 : x * x ≤ 4294967295 * 4294967295 := Nat.mul_le_mul (by omega) (by omega)
      have r1 : IntKind.u64.wrap ((o : Int) * (x : Int)) = ((o * x : Nat) : Int) := by rw [p1, IntWalk.u64_in _ (by omega)]
      have r2 : IntKind.u64.wrap ((x : Int) * (x : Int)) = ((x * x : Nat) : Int) := by rw [p2, IntWalk.u64_in _ (by omega)]
      have P1 := Lib.hid p1
      have P2 := Lib.hid p2
      have R1 := Lib.hid r1
      have R2 := Lib.hid r2
      have m1 : 0 ≤ (o : Int) * (x : Int) := by rw [p1]; omega
      have m2 : (o : Int) * (x : Int) ≤ 18446744073709551615 := by rw [p1]; omega
      have m3 : 0 ≤ (x : Int) * (x : Int) := by rw [p2]; omega
      have m4 : (x : Int) * (x : Int) ≤ 18446744073709551615 := by rw [p2]; omega
      clear p1 p2 q1 q2 r1 r2
      obtain ⟨h, e⟩ : ∃ h, m = 2 * h ∨ m = 2 * h + 1 := ⟨m / 2, by omega⟩
      obtain rfl | rfl := e
      · have t : (((2 * h : Nat) : Int) % 2 == 1) = false := by simp; try omega
        go_wp2
        go_round
        case rel =>
          exact ⟨h, o, x * x % 4294967296, by omega, ho, Nat.mod_lt _ (by omega), by go_num, rfl, by rw [Int.natCast_emod, ← P2.out]; rfl, pmul_e o x h b c HI.out⟩
        case measure => simp [intOf]; omega
      · have t : (((2 * h + 1 : Nat) : Int) % 2 == 1) = true := by simp; try omega
        go_wp2
        go_round
        case rel =>
          exact ⟨h, o * x % 4294967296, x * x % 4294967296, by omega, Nat.mod_lt _ (by omega), Nat.mod_lt _ (by omega), by go_num, by rw [Int.natCast_emod, ← P1.out]; rfl, by rw [Int.natCast_emod, ← P2.out]; rfl, pmul_o o x h b c HI.out⟩
        case measure => simp [intOf]; omega
    · obtain rfl : m = 0 := by omega
      go_wp2_with (go_at_call 77; refine (word_any n o _ h2 (by omega)).mono ?_; rintro e w' ⟨rfl, rfl⟩)
      go_ret2
      have hI := HI.out
      rw [mulp, Nat.mul_one, Nat.mod_eq_of_lt ho] at hI
      rw [pmod n _ h2, ← hI]
      exact ⟨rfl, (Below.refl _ _).alloc (Nat.le_refl _) _⟩
/-- When Power refuses. -/
def PowBad (m : Int) (b : Nat) (c : Int) : Prop := (m < 1 ∨ 32 < m ∨ pw m.toNat ≤ b) ∨ c < 0 ∨ 4294967296 < c
theorem power_err (m c : Int) (b : Nat) (w : World) (hM : Masks w) (h : PowBad m b c) :
    Calls Tryd.prog 49 #[.int .i64 m, .int .u32 b, .int .i64 c] w fun e w' => e = .returned (.tuple #[.int .u32 0, .int .i64 1]) ∧ Below w.heap.size w w' := by
  by_cases hw : m < 1 ∨ 32 < m ∨ pw m.toNat ≤ b
  · have HW := Lib.hid hw
    clear h hw
    go_enter Tryd.func49, Tryd.ntmps49
    go_wp2_with (go_at_call 73; refine (lw1_no b w _ m hM HW.out).mono ?_; rintro e w' ⟨rfl, rfl⟩)
    go_ret2
    exact ⟨rfl, (Below.refl _ _).alloc (Nat.le_refl _) _⟩
  · have hc := h.resolve_left hw
    obtain ⟨n, rfl⟩ : ∃ n : Nat, m = n := ⟨m.toNat, by omega⟩
    have h1 : 1 ≤ n := by omega
    have h2 : n ≤ 32 := by omega
    have hb : b < pw n := by have : ¬ pw n ≤ b := fun e => hw (.inr (.inr (by simpa using e)))
                             omega
    have HC := Lib.hid hc
    clear h hw hc
    go_enter Tryd.func49, Tryd.ntmps49
    go_wp2_with (first
      | (go_at_call 73; refine (lw1_yes n b w _ hM h1 h2 hb).mono ?_; rintro e w' ⟨rfl, rfl⟩)
      | (go_at_call 74; refine (isCount_no _ _ HC.out).mono ?_; rintro e w' ⟨rfl, rfl⟩))
    go_ret2
    exact ⟨rfl, (Below.refl _ _).alloc (Nat.le_refl _) _⟩
theorem refPower_err (m c : Int) (b : Nat) (w : World) (b32 : b < 4294967296) (h : PowBad m b c) :
    Calls Tryd.prog 50 #[.int .i64 m, .int .u32 b, .int .i64 c] w fun e w' => e = .returned (.tuple #[.int .u32 0, .int .i64 1]) ∧ Below w.heap.size w w' := by
  have h' : (m < 1 ∨ 32 < m ∨ c < 0 ∨ 4294967296 < c) ∨ pw m.toNat ≤ b := by unfold PowBad at h; omega
  have HH := Lib.hid h'
  clear h h'
  go_enter Tryd.func50, Tryd.ntmps50
  go_wp2_with (go_at_call 76; refine (wd1_no b w _ m c b32 HH.out).mono ?_; rintro e w' ⟨rfl, rfl⟩)
  go_ret2
  exact ⟨rfl, (Below.refl _ _).alloc (Nat.le_refl _) _⟩
theorem ring_err (m : Int) (b : Nat) (w : World) (hM : Masks w) (h : m < 1 ∨ 32 < m ∨ pw m.toNat ≤ b) :
    Calls Tryd.prog 51 #[.int .i64 m, .int .u32 b] w fun e w' => e = .returned (.tuple #[.int .i64 0, .int .i64 1]) ∧ Below w.heap.size w w' := by
  have HW := Lib.hid h
  clear h
  go_enter Tryd.func51, Tryd.ntmps51
  go_wp2_with (go_at_call 73; refine (lw1_no b w _ m hM HW.out).mono ?_; rintro e w' ⟨rfl, rfl⟩)
  go_ret2
  exact ⟨rfl, (Below.refl _ _).alloc (Nat.le_refl _) _⟩
theorem refRing_err (m : Int) (b : Nat) (w : World) (b32 : b < 4294967296) (h : m < 1 ∨ 32 < m ∨ pw m.toNat ≤ b) :
    Calls Tryd.prog 52 #[.int .i64 m, .int .u32 b] w fun e w' => e = .returned (.tuple #[.int .i64 0, .int .i64 1]) ∧ Below w.heap.size w w' := by
  have h' : (m < 1 ∨ 32 < m ∨ (0 : Int) < 0 ∨ (4294967296 : Int) < 0) ∨ pw m.toNat ≤ b := by omega
  have HH := Lib.hid h'
  clear h h'
  go_enter Tryd.func52, Tryd.ntmps52
  go_wp2_with (go_at_call 76; refine (wd1_no b w _ m 0 b32 HH.out).mono ?_; rintro e w' ⟨rfl, rfl⟩)
  go_ret2
  exact ⟨rfl, (Below.refl _ _).alloc (Nat.le_refl _) _⟩
end Go.Proofs.YtebhahmgbdglnaaDoor
