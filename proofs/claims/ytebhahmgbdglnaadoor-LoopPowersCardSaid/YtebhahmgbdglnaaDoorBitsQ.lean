/-
  Lanes of the reference package.
-/
import Derived.Test.YtebhahmgbdglnaaDoorBitsN
namespace Go.Proofs.YtebhahmgbdglnaaDoor
open Go.RowKit

section
variable {P : Program} {f : FuncId} {args : Array Value} {v : Value}
theorem quietly {w : World} {n : Nat} (c : ∀ W, Calls P f args W fun e w' => e = .returned v ∧ W = w') : Calls P f args (w.drewN n) fun e w2 => e = .returned v ∧ ∃ m, w2 = w.drewN m :=
  (c _).mono fun _ _ ⟨he, hm⟩ => ⟨he, n, hm.symm⟩
theorem quietly_add {w : World} {a n : Nat} (c : ∀ W, Calls P f args W fun e w' => e = .returned v ∧ W = w') : Calls P f args (w.drewN (a + n)) fun e w2 => e = .returned v ∧ ∃ m, w2 = w.drewN (a + m) :=
  (c _).mono fun _ _ ⟨he, hm⟩ => ⟨he, n, hm.symm⟩
end
theorem half_bounds (lane t a : Nat) : 0 ≤ (a : Int) / (pw t : Int) % (pw lane : Int) ∧ (a : Int) / (pw t : Int) % (pw lane : Int) < (pw lane : Int) := by
  have h : 0 < (pw lane : Int) := by have : 0 < pw lane := Nat.two_pow_pos lane
                                     omega
  exact ⟨Int.emod_nonneg _ (by omega), Int.emod_lt_of_pos _ h⟩
theorem lane_le (lane t S : Nat) (y : Int) (hT : t + lane ≤ 32) (hS : S < pw t) : S + wr lane y * pw t < 4294967296 := by
  have hp := pw_le (n := t + lane) hT
  have h1 : wr lane y < pw lane := wr_lt y
  have h2 : (wr lane y + 1) * pw t ≤ pw lane * pw t := Nat.mul_le_mul_right _ h1
  rw [Nat.add_mul] at h2
  rw [Nat.add_comm, pw_add] at hp
  omega
theorem half_cast (lane t a : Nat) : ((a / pw t % pw lane : Nat) : Int) = (a : Int) / (pw t : Int) % (pw lane : Int) := by
  rw [Int.natCast_emod, Int.natCast_ediv]
set_option maxHeartbeats 1000000 in
theorem refLanes_add (n lane c a b : Nat) (w : World) (h1 : 1 ≤ n) (h2 : n ≤ 32) (ha : a < pw n) (hb : b < pw n) (l1 : 1 ≤ lane) (l2 : lane < n) (hc : n = lane * c) :
    Calls Tryd.prog 37 #[.int .i64 19, .int .i64 n, .int .i64 lane, .int .u32 a, .int .u32 b] w fun e w' => e = .returned (.tuple #[.int .u32 (lanesF false lane a b c), .int .i64 0]) ∧ ∃ m, w' = w.drewN m := by
  have hp := pw_le h2
  have hmod : ((n : Int) % (lane : Int) != 0) = false := by
    have : n % lane = 0 := by rw [hc]; exact Nat.mul_mod_right _ _
    simp; omega
  have HC := Lib.hid hc
  have hd1 : decide ((lane : Int) < 1) = false := by simp; omega
  have hd2 : decide (n ≤ lane) = false := by simp; omega
  clear hc
  go_enter Tryd.func37, Tryd.ntmps37
  go_wp2_with (first
      | (go_at_call 42; ((with_reducible refine (isWord_yes n a _ h1 h2 ha).mono ?_); rintro e w' ⟨rfl, rfl⟩))
      | (go_at_call 42; ((with_reducible refine (isWord_yes n b _ h1 h2 hb).mono ?_); rintro e w' ⟨rfl, rfl⟩)))
  have hl3 : (lane : Int) < 33 := by omega
  go_loopw [12, 13] (fun s t wr => ∃ k T : Nat, k ≤ c ∧ T = k * lane ∧ t = .int .i64 (T : Int) ∧ s = .int .i64 (lanesF false lane a b k : Nat) ∧ ∃ m, wr = w.drewN m) (fun _ t _ => n - (intOf t).toNat)
  case atStart => exact ⟨0, 0, by omega, by simp, rfl, rfl, 0, rfl⟩
  case round =>
    obtain ⟨k, T, hk, hT, rfl, rfl, m, rfl⟩ := hrel
    have hS : lanesF false lane a b k < pw T := by rw [hT]; exact lanesF_lt _ _ _ _ _
    have HT := Lib.hid hT
    clear hT
    by_cases hlt : T < n
    · have e1 := HT.out
      have e2 := HC.out
      have hkc : k + 1 ≤ c := Nat.lt_of_mul_lt_mul_right (a := lane) (by rw [Nat.mul_comm c]; omega)
      have h3 : (k + 1) * lane ≤ c * lane := Nat.mul_le_mul_right _ hkc
      rw [Nat.mul_comm c, ← e2, Nat.add_mul, ← e1] at h3
      have hTl : T + lane ≤ n := by omega
      clear e1 e2 h3
      have hpT := pw_le (n := T) (by omega)
      have hpl := pw_le (n := lane) (by omega)
      have hsT := fun W => size_any T W (by omega)
      have hsl := fun W => size_any lane W (by omega)
      obtain ⟨qa0, qa1⟩ := quo_bounds a T (by omega)
      obtain ⟨qb0, qb1⟩ := quo_bounds b T (by omega)
      obtain ⟨ra0, ra1⟩ := half_bounds lane T a
      obtain ⟨rb0, rb1⟩ := half_bounds lane T b
      go_wp2
      go_quiet ((first | (go_at_call 59; with_reducible exact quietly_add hsT) | (go_at_call 59; with_reducible exact quietly_add hsl) | (go_at_call 59; with_reducible exact quietly hsT) | (go_at_call 59; with_reducible exact quietly hsl)))
      have hle := lane_le lane T (lanesF false lane a b k) (((a : Nat) : Int) / ((pw T : Nat) : Int) % ((pw lane : Nat) : Int) + ((b : Nat) : Int) / ((pw T : Nat) : Int) % ((pw lane : Nat) : Int)) (by omega) hS
      have hlt' : ((lanesF false lane a b k : Nat) : Int) + ((wr lane (((a : Nat) : Int) / ((pw T : Nat) : Int) % ((pw lane : Nat) : Int) + ((b : Nat) : Int) / ((pw T : Nat) : Int) % ((pw lane : Nat) : Int)) : Nat) : Int) * (pw T : Int) ≤ 4294967295 := by
        rw [← Int.natCast_mul]; omega
      have hge' : 0 ≤ ((wr lane (((a : Nat) : Int) / ((pw T : Nat) : Int) % ((pw lane : Nat) : Int) + ((b : Nat) : Int) / ((pw T : Nat) : Int) % ((pw lane : Nat) : Int)) : Nat) : Int) * (pw T : Int) := by rw [← Int.natCast_mul]; omega
      clear hle
      have hwl := wr_lt (n := lane) (((a : Nat) : Int) / ((pw T : Nat) : Int) % ((pw lane : Nat) : Int) + ((b : Nat) : Int) / ((pw T : Nat) : Int) % ((pw lane : Nat) : Int))
      go_wp2_with (first
        | (go_at_call 64; refine (refWrap_any lane (((a : Nat) : Int) / ((pw T : Nat) : Int) % ((pw lane : Nat) : Int) + ((b : Nat) : Int) / ((pw T : Nat) : Int) % ((pw lane : Nat) : Int)) _ (by omega)).mono ?_; rintro e w' ⟨rfl, rfl⟩)
        | (go_at_call 59; refine (hsT _).mono ?_; rintro e w' ⟨rfl, rfl⟩))
      go_roundw
      case rel =>
        have e1 := HT.out
        refine ⟨k + 1, T + lane, hkc, by rw [e1, Nat.add_mul]; omega, by simp, ?_, _, rfl⟩
        simp only [lanesF, laneW, ← e1, half_cast]
        simp
      case measure => simp [intOf]; omega
    · have e1 := HT.out
      have e2 := HC.out
      have e4 : c * lane ≤ k * lane := by rw [Nat.mul_comm c]; omega
      have e3 : c ≤ k := Nat.le_of_mul_le_mul_right e4 (by omega)
      obtain rfl : k = c := by omega
      have hpT := pw_le (n := T) (by have : k * lane = lane * k := Nat.mul_comm _ _
                                     omega)
      have hle : lanesF false lane a b k < 4294967296 := by omega
      clear e1 e2 e4 e3
      go_wp2
      go_ret2
      exact ⟨rfl, m, rfl⟩
set_option maxHeartbeats 1000000 in
theorem refLanes_sub (n lane c a b : Nat) (w : World) (h1 : 1 ≤ n) (h2 : n ≤ 32) (ha : a < pw n) (hb : b < pw n) (l1 : 1 ≤ lane) (l2 : lane < n) (hc : n = lane * c) :
    Calls Tryd.prog 37 #[.int .i64 20, .int .i64 n, .int .i64 lane, .int .u32 a, .int .u32 b] w fun e w' => e = .returned (.tuple #[.int .u32 (lanesF true lane a b c), .int .i64 0]) ∧ ∃ m, w' = w.drewN m := by
  have hp := pw_le h2
  have hmod : ((n : Int) % (lane : Int) != 0) = false := by
    have : n % lane = 0 := by rw [hc]; exact Nat.mul_mod_right _ _
    simp; omega
  have HC := Lib.hid hc
  have hd1 : decide ((lane : Int) < 1) = false := by simp; omega
  have hd2 : decide (n ≤ lane) = false := by simp; omega
  clear hc
  go_enter Tryd.func37, Tryd.ntmps37
  go_wp2_with (first
      | (go_at_call 42; ((with_reducible refine (isWord_yes n a _ h1 h2 ha).mono ?_); rintro e w' ⟨rfl, rfl⟩))
      | (go_at_call 42; ((with_reducible refine (isWord_yes n b _ h1 h2 hb).mono ?_); rintro e w' ⟨rfl, rfl⟩)))
  have hl3 : (lane : Int) < 33 := by omega
  go_loopw [12, 13] (fun s t wr => ∃ k T : Nat, k ≤ c ∧ T = k * lane ∧ t = .int .i64 (T : Int) ∧ s = .int .i64 (lanesF true lane a b k : Nat) ∧ ∃ m, wr = w.drewN m) (fun _ t _ => n - (intOf t).toNat)
  case atStart => exact ⟨0, 0, by omega, by simp, rfl, rfl, 0, rfl⟩
  case round =>
    obtain ⟨k, T, hk, hT, rfl, rfl, m, rfl⟩ := hrel
    have hS : lanesF true lane a b k < pw T := by rw [hT]; exact lanesF_lt _ _ _ _ _
    have HT := Lib.hid hT
    clear hT
    by_cases hlt : T < n
    · have e1 := HT.out
      have e2 := HC.out
      have hkc : k + 1 ≤ c := Nat.lt_of_mul_lt_mul_right (a := lane) (by rw [Nat.mul_comm c]; omega)
      have h3 : (k + 1) * lane ≤ c * lane := Nat.mul_le_mul_right _ hkc
      rw [Nat.mul_comm c, ← e2, Nat.add_mul, ← e1] at h3
      have hTl : T + lane ≤ n := by omega
      clear e1 e2 h3
      have hpT := pw_le (n := T) (by omega)
      have hpl := pw_le (n := lane) (by omega)
      have hsT := fun W => size_any T W (by omega)
      have hsl := fun W => size_any lane W (by omega)
      obtain ⟨qa0, qa1⟩ := quo_bounds a T (by omega)
      obtain ⟨qb0, qb1⟩ := quo_bounds b T (by omega)
      obtain ⟨ra0, ra1⟩ := half_bounds lane T a
      obtain ⟨rb0, rb1⟩ := half_bounds lane T b
      go_wp2
      go_quiet ((first | (go_at_call 59; with_reducible exact quietly_add hsT) | (go_at_call 59; with_reducible exact quietly_add hsl) | (go_at_call 59; with_reducible exact quietly hsT) | (go_at_call 59; with_reducible exact quietly hsl)))
      have hle := lane_le lane T (lanesF true lane a b k) (((a : Nat) : Int) / ((pw T : Nat) : Int) % ((pw lane : Nat) : Int) - ((b : Nat) : Int) / ((pw T : Nat) : Int) % ((pw lane : Nat) : Int)) (by omega) hS
      have hlt' : ((lanesF true lane a b k : Nat) : Int) + ((wr lane (((a : Nat) : Int) / ((pw T : Nat) : Int) % ((pw lane : Nat) : Int) - ((b : Nat) : Int) / ((pw T : Nat) : Int) % ((pw lane : Nat) : Int)) : Nat) : Int) * (pw T : Int) ≤ 4294967295 := by
        rw [← Int.natCast_mul]; omega
      have hge' : 0 ≤ ((wr lane (((a : Nat) : Int) / ((pw T : Nat) : Int) % ((pw lane : Nat) : Int) - ((b : Nat) : Int) / ((pw T : Nat) : Int) % ((pw lane : Nat) : Int)) : Nat) : Int) * (pw T : Int) := by rw [← Int.natCast_mul]; omega
      clear hle
      have hwl := wr_lt (n := lane) (((a : Nat) : Int) / ((pw T : Nat) : Int) % ((pw lane : Nat) : Int) - ((b : Nat) : Int) / ((pw T : Nat) : Int) % ((pw lane : Nat) : Int))
      go_wp2_with (first
        | (go_at_call 64; refine (refWrap_any lane (((a : Nat) : Int) / ((pw T : Nat) : Int) % ((pw lane : Nat) : Int) - ((b : Nat) : Int) / ((pw T : Nat) : Int) % ((pw lane : Nat) : Int)) _ (by omega)).mono ?_; rintro e w' ⟨rfl, rfl⟩)
        | (go_at_call 59; refine (hsT _).mono ?_; rintro e w' ⟨rfl, rfl⟩))
      go_roundw
      case rel =>
        have e1 := HT.out
        refine ⟨k + 1, T + lane, hkc, by rw [e1, Nat.add_mul]; omega, by simp, ?_, _, rfl⟩
        simp only [lanesF, laneW, ← e1, half_cast]
        simp
      case measure => simp [intOf]; omega
    · have e1 := HT.out
      have e2 := HC.out
      have e4 : c * lane ≤ k * lane := by rw [Nat.mul_comm c]; omega
      have e3 : c ≤ k := Nat.le_of_mul_le_mul_right e4 (by omega)
      obtain rfl : k = c := by omega
      have hpT := pw_le (n := T) (by have : k * lane = lane * k := Nat.mul_comm _ _
                                     omega)
      have hle : lanesF true lane a b k < 4294967296 := by omega
      clear e1 e2 e4 e3
      go_wp2
      go_ret2
      exact ⟨rfl, m, rfl⟩
end Go.Proofs.YtebhahmgbdglnaaDoor
