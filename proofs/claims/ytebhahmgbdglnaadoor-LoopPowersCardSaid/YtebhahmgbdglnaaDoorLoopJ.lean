/-
  Ring of the reference; the walk of LoopPowers.
-/
import Derived.Test.YtebhahmgbdglnaaDoorLoopI
namespace Go.Proofs.YtebhahmgbdglnaaDoor
open Go.RowKit

theorem tz_at (s j x : Nat) (hx : x = s * pw j) (ho : s % 2 = 1) : ∀ f k, k ≤ j → j < k + f → tzF x f k = j
  | 0, k, h1, h2 => by omega
  | f + 1, k, h1, h2 => by
    simp only [tzF]
    by_cases hk : k = j
    · subst hk
      have : x / pw k = s := by rw [hx]; exact Nat.mul_div_cancel _ (by unfold pw; exact Nat.two_pow_pos _)
      rw [this, if_neg (by omega)]
    · have : x / pw k % 2 = 0 := by
        have e : pw j = pw k * (2 * pw (j - k - 1)) := by
          rw [← pw_succ, show j - k - 1 + 1 = j - k by omega, ← pw_add]
          congr 1; omega
        rw [hx, e, Nat.mul_left_comm, Nat.mul_div_cancel_left _ (by unfold pw; exact Nat.two_pow_pos _), Nat.mul_left_comm]
        exact Nat.mul_mod_right _ _
      rw [if_pos this]
      exact tz_at s j x hx ho f (k + 1) (by omega) (by omega)
theorem tz_zero : ∀ f k, tzF 0 f k = k + f
  | 0, k => rfl
  | f + 1, k => by
    simp only [tzF]
    rw [if_pos (by simp), tz_zero f (k + 1)]
    omega
theorem ring_back (n b : Nat) (hb : b < pw n) : aftF n 0 b (ringF n b) = 0 := by
  unfold aftF ringF
  rw [Nat.zero_add]
  by_cases h0 : b = 0
  · rw [h0]; simp
  · obtain ⟨j, s, hs, ho⟩ := odd_part b b (by omega) (by omega)
    have hj : j < n := by
      rcases Nat.lt_or_ge j n with h | h
      · exact h
      · have h2 := pw_mono h
        have h3 : 1 * pw j ≤ s * pw j := Nat.mul_le_mul_right _ (by omega)
        omega
    rw [tz_at s j b hs ho n 0 (by omega) (by omega), hs, Nat.mul_left_comm, ← pw_add, show n - j + j = n by omega]
    exact Nat.mul_mod_left _ _
where odd_part : ∀ (f b : Nat), b ≤ f → 1 ≤ b → ∃ j s, b = s * pw j ∧ s % 2 = 1
  | 0, b, h1, h2 => by omega
  | f + 1, b, h1, h2 => by
    by_cases ho : b % 2 = 1
    · exact ⟨0, b, by simp [pw], ho⟩
    · obtain ⟨j, s, hs, hh⟩ := odd_part f (b / 2) (by omega) (by omega)
      refine ⟨j + 1, s, ?_, hh⟩
      rw [pw_succ, Nat.mul_left_comm, ← hs]
      omega
set_option maxHeartbeats 1000000 in
theorem refRing_ok (n b : Nat) (w : World) (h1 : 1 ≤ n) (h2 : n ≤ 32) (hb : b < pw n) :
    Calls Tryd.prog 52 #[.int .i64 n, .int .u32 b] w fun e w' => e = .returned (.tuple #[.int .i64 (ringF n b), .int .i64 0]) ∧ Below w.heap.size w w' := by
  have hp := pw_le h2
  have e2 : (2 : Int) ^ n = (pw n : Int) := by simp [pw]
  by_cases h0 : b = 0
  · subst h0
    have er : ringF n 0 = 1 := by unfold ringF; rw [tz_zero]; simp [pw]
    rw [er]
    clear er
    go_enter Tryd.func52, Tryd.ntmps52
    go_wp2_with (go_at_call 76; refine (wd1_yes n 0 w _ 0 h1 h2 (by omega) (by omega) hb).mono ?_; rintro e w' ⟨rfl, rfl⟩)
    go_loop [1, 7] (fun s r => s = .int .u32 0) (fun _ _ => 0)
    case atStart => rfl
    case round =>
      subst hrel
      go_wp2
      go_ret2
      exact ⟨rfl, (Below.refl _ _).alloc (Nat.le_refl _) _⟩
  · go_enter Tryd.func52, Tryd.ntmps52
    go_wp2_with (go_at_call 76; refine (wd1_yes n b w _ 0 h1 h2 (by omega) (by omega) hb).mono ?_; rintro e w' ⟨rfl, rfl⟩)
    go_loop [1, 7] (fun z r => ∃ j s R : Nat, j < n ∧ 1 ≤ s ∧ s < 4294967296 ∧ z = .int .u32 (s : Int) ∧ r = .int .i64 (R : Int) ∧ R = pw (n - j) ∧ b = s * pw j) (fun z _ => (intOf z).toNat)
    case atStart => exact ⟨0, b, pw n, by omega, by omega, by omega, rfl, by go_num, rfl, by simp [pw]⟩
    case round =>
      obtain ⟨j, s, R, hj, hs1, hs2, rfl, rfl, hR, hbs⟩ := hrel
      have hRl := pw_le (n := n - j) (by omega)
      rw [← hR] at hRl
      have HR := Lib.hid hR
      have HB := Lib.hid hbs
      clear hR hbs
      have dz : ((s : Int) == 0) = false := by simp; omega
      have dp : decide (0 < (s : Int)) = true := by simp; omega
      obtain ⟨h, e⟩ : ∃ h, s = 2 * h ∨ s = 2 * h + 1 := ⟨s / 2, by omega⟩
      obtain rfl | rfl := e
      · go_wp2
        go_round
        case rel =>
          have hbs := HB.out
          have hj1 : j + 1 < n := by
            rcases Nat.lt_or_ge (j + 1) n with h4 | h4
            · exact h4
            · have h5 := pw_mono h4
              have h3 : 1 * pw (j + 1) ≤ h * pw (j + 1) := Nat.mul_le_mul_right _ (by omega)
              rw [pw_succ] at h3 h5
              rw [Nat.mul_assoc, Nat.mul_left_comm] at hbs
              omega
          have e3 := HR.out
          rw [show n - j = (n - (j + 1)) + 1 by omega, pw_succ] at e3
          refine ⟨j + 1, h, pw (n - (j + 1)), hj1, by omega, by omega, by go_num, by rw [e3]; go_num, rfl, ?_⟩
          rw [hbs, pw_succ, Nat.mul_assoc, Nat.mul_left_comm]
        case measure => simp [intOf]; omega
      · go_wp2
        go_ret2
        have hr : ringF n b = R := by
          unfold ringF
          rw [tz_at (2 * h + 1) j b HB.out (by omega) n 0 (by omega) (by omega), HR.out]
        rw [hr]
        exact ⟨rfl, (Below.refl _ _).alloc (Nat.le_refl _) _⟩
end Go.Proofs.YtebhahmgbdglnaaDoor
