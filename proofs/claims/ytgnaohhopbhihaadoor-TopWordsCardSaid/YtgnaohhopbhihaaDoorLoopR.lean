/-
  Ring of the reference; words of a call, one at a time.
-/
import Derived.Test.YtgnaohhopbhihaaDoorLoopE
namespace Go.Proofs.YtgnaohhopbhihaaDoor
open Go.RowKit

section
variable (n b : Nat) (w : World) (T : Nat)
theorem lw1_yes (hM : Masks w) (h1 : 1 ≤ n) (h2 : n ≤ 32) (hb : b < pw n) :
    Calls Tryd.prog 61 #[.int .i64 n, .slice (some ⟨w.heap.size, 0, none⟩) 1 1] (w.alloc (.cells #[.int .u32 b] T)) fun e w' => e = .returned (.bool true) ∧ w.alloc (.cells #[.int .u32 b] T) = w' :=
  lw_yes n 1 w.heap.size (fun _ => b) _ (hM.alloc _) h1 h2 (by omega) (one_cell w b T) (fun _ _ => hb)
theorem lw1_no (m : Int) (hM : Masks w) (h : m < 1 ∨ 32 < m ∨ pw m.toNat ≤ b) :
    Calls Tryd.prog 61 #[.int .i64 m, .slice (some ⟨w.heap.size, 0, none⟩) 1 1] (w.alloc (.cells #[.int .u32 b] T)) fun e w' => e = .returned (.bool false) ∧ w.alloc (.cells #[.int .u32 b] T) = w' := by
  by_cases hw : m < 1 ∨ 32 < m
  · exact lw_width m 1 w.heap.size (fun _ => b) _ hw (by omega) (one_cell w b T)
  obtain ⟨n, rfl⟩ : ∃ n : Nat, m = n := ⟨m.toNat, by omega⟩
  have hb : pw n ≤ b := by
    rcases h with h | h | h
    · omega
    · omega
    · simpa using h
  exact lw_no n 1 w.heap.size 0 (fun _ => b) _ (hM.alloc _) (by omega) (by omega) (by omega) (one_cell w b T) (by omega) hb
theorem wd1_yes (c : Int) (h1 : 1 ≤ n) (h2 : n ≤ 32) (hc0 : 0 ≤ c) (hc1 : c ≤ 4294967296) (hb : b < pw n) :
    Calls Tryd.prog 66 #[.int .i64 n, .int .i64 c, .slice (some ⟨w.heap.size, 0, none⟩) 1 1] (w.alloc (.cells #[.int .u32 b] T)) fun e w' => e = .returned (.int .i64 0) ∧ w.alloc (.cells #[.int .u32 b] T) = w' :=
  worded_yes n 1 w.heap.size c (fun _ => b) _ h1 h2 hc0 hc1 (by omega) (one_cell w b T) (fun _ _ => hb)
theorem wd1_no (m c : Int) (b32 : b < 4294967296) (h : (m < 1 ∨ 32 < m ∨ c < 0 ∨ 4294967296 < c) ∨ pw m.toNat ≤ b) :
    Calls Tryd.prog 66 #[.int .i64 m, .int .i64 c, .slice (some ⟨w.heap.size, 0, none⟩) 1 1] (w.alloc (.cells #[.int .u32 b] T)) fun e w' => e = .returned (.int .i64 1) ∧ w.alloc (.cells #[.int .u32 b] T) = w' := by
  by_cases hw : m < 1 ∨ 32 < m ∨ c < 0 ∨ 4294967296 < c
  · exact worded_bad m c _ _ hw
  have hb := h.resolve_left hw
  obtain ⟨n, rfl⟩ : ∃ n : Nat, m = n := ⟨m.toNat, by omega⟩
  exact worded_no n 1 w.heap.size 0 c (fun _ => b) _ (by omega) (by omega) (by omega) (by omega) (by omega) (one_cell w b T) (fun _ _ => b32) (by omega) (by simpa using hb)
end
theorem ring_err (m : Int) (b : Nat) (w : World) (hM : Masks w) (h : m < 1 ∨ 32 < m ∨ pw m.toNat ≤ b) :
    Calls Tryd.prog 27 #[.int .i64 m, .int .u32 b] w fun e w' => e = .returned (.tuple #[.int .i64 0, .int .i64 1]) ∧ Below w.heap.size w w' := by
  have HW := Lib.hid h
  clear h
  go_enter Tryd.func27, Tryd.ntmps27
  go_wp2_with (go_at_call 61; refine (lw1_no b w _ m hM HW.out).mono ?_; rintro e w' ⟨rfl, rfl⟩)
  go_ret2
  exact ⟨rfl, (Below.refl _ _).alloc (Nat.le_refl _) _⟩
theorem refRing_err (m : Int) (b : Nat) (w : World) (b32 : b < 4294967296) (h : m < 1 ∨ 32 < m ∨ pw m.toNat ≤ b) :
    Calls Tryd.prog 65 #[.int .i64 m, .int .u32 b] w fun e w' => e = .returned (.tuple #[.int .i64 0, .int .i64 1]) ∧ Below w.heap.size w w' := by
  have h' : (m < 1 ∨ 32 < m ∨ (0 : Int) < 0 ∨ (4294967296 : Int) < 0) ∨ pw m.toNat ≤ b := by omega
  have HH := Lib.hid h'
  clear h h'
  go_enter Tryd.func65, Tryd.ntmps65
  go_wp2_with (go_at_call 66; refine (wd1_no b w _ m 0 b32 HH.out).mono ?_; rintro e w' ⟨rfl, rfl⟩)
  go_ret2
  exact ⟨rfl, (Below.refl _ _).alloc (Nat.le_refl _) _⟩
theorem tz_at (s j x : Nat) (hx : x = s * pw j) (ho : s % 2 = 1) : ∀ f k, k ≤ j → j < k + f → tzF x f k = j
  | 0, k, h1, h2 => by omega
  | f + 1, k, h1, h2 => by
    simp only [tzF]
    by_cases hk : k = j
    · subst hk
      have : x / pw k = s := by rw [hx]; exact Nat.mul_div_cancel _ (by unfold pw; exact Nat.two_pow_pos _)
      rw [this, if_neg (by omega)]
    · have : x / pw k % 2 = 0 := by
        have e : pw j = pw k * (2 * pw (j - k - 1)) := by
          rw [← pw_succ, show j - k - 1 + 1 = j - k by omega, ← pw_add]
          congr 1; omega
        rw [hx, e, Nat.mul_left_comm, Nat.mul_div_cancel_left _ (by unfold pw; exact Nat.two_pow_pos _), Nat.mul_left_comm]
        exact Nat.mul_mod_right _ _
      rw [if_pos this]
      exact tz_at s j x hx ho f (k + 1) (by omega) (by omega)
theorem tz_zero : ∀ f k, tzF 0 f k = k + f
  | 0, k => rfl
  | f + 1, k => by
    simp only [tzF]
    rw [if_pos (by simp), tz_zero f (k + 1)]
    omega
theorem ring_back (n b : Nat) (hb : b < pw n) : aftF n 0 b (ringF n b) = 0 := by
  unfold aftF ringF
  rw [Nat.zero_add]
  by_cases h0 : b = 0
  · rw [h0]; simp
  · obtain ⟨j, s, hs, ho⟩ := odd_part b b (by omega) (by omega)
    have hj : j < n := by
      rcases Nat.lt_or_ge j n with h | h
      · exact h
      · have h2 := pw_mono h
        have h3 : 1 * pw j ≤ s * pw j := Nat.mul_le_mul_right _ (by omega)
        omega
    rw [tz_at s j b hs ho n 0 (by omega) (by omega), hs, Nat.mul_left_comm, ← pw_add, show n - j + j = n by omega]
    exact Nat.mul_mod_left _ _
where odd_part : ∀ (f b : Nat), b ≤ f → 1 ≤ b → ∃ j s, b = s * pw j ∧ s % 2 = 1
  | 0, b, h1, h2 => by omega
  | f + 1, b, h1, h2 => by
    by_cases ho : b % 2 = 1
    · exact ⟨0, b, by simp [pw], ho⟩
    · obtain ⟨j, s, hs, hh⟩ := odd_part f (b / 2) (by omega) (by omega)
      refine ⟨j + 1, s, ?_, hh⟩
      rw [pw_succ, Nat.mul_left_comm, ← hs]
      omega
set_option maxHeartbeats 1000000 in
theorem refRing_ok (n b : Nat) (w : World) (h1 : 1 ≤ n) (h2 : n ≤ 32) (hb : b < pw n) :
    Calls Tryd.prog 65 #[.int .i64 n, .int .u32 b] w fun e w' => e = .returned (.tuple #[.int .i64 (ringF n b), .int .i64 0]) ∧ Below w.heap.size w w' := by
  have hp := pw_le h2
  have e2 : (2 : Int) ^ n = (pw n : Int) := by simp [pw]
  by_cases h0 : b = 0
  · subst h0
    have er : ringF n 0 = 1 := by unfold ringF; rw [tz_zero]; simp [pw]
    rw [er]
    clear er
    go_enter Tryd.func65, Tryd.ntmps65
    go_wp2_with (go_at_call 66; refine (wd1_yes n 0 w _ 0 h1 h2 (by omega) (by omega) hb).mono ?_; rintro e w' ⟨rfl, rfl⟩)
    go_loop [1, 7] (fun s r => s = .int .u32 0) (fun _ _ => 0)
    case atStart => rfl
    case round =>
      subst hrel
      go_wp2
      go_ret2
      exact ⟨rfl, (Below.refl _ _).alloc (Nat.le_refl _) _⟩
  · go_enter Tryd.func65, Tryd.ntmps65
    go_wp2_with (go_at_call 66; refine (wd1_yes n b w _ 0 h1 h2 (by omega) (by omega) hb).mono ?_; rintro e w' ⟨rfl, rfl⟩)
    go_loop [1, 7] (fun z r => ∃ j s R : Nat, j < n ∧ 1 ≤ s ∧ s < 4294967296 ∧ z = .int .u32 (s : Int) ∧ r = .int .i64 (R : Int) ∧ R = pw (n - j) ∧ b = s * pw j) (fun z _ => (intOf z).toNat)
    case atStart => exact ⟨0, b, pw n, by omega, by omega, by omega, rfl, by go_num, rfl, by simp [pw]⟩
    case round =>
      obtain ⟨j, s, R, hj, hs1, hs2, rfl, rfl, hR, hbs⟩ := hrel
      have hRl := pw_le (n := n - j) (by omega)
      rw [← hR] at hRl
      have HR := Lib.hid hR
      have HB := Lib.hid hbs
      clear hR hbs
      have dz : ((s : Int) == 0) = false := by simp; omega
      have dp : decide (0 < (s : Int)) = true := by simp; omega
      obtain ⟨h, e⟩ : ∃ h, s = 2 * h ∨ s = 2 * h + 1 := ⟨s / 2, by omega⟩
      obtain rfl | rfl := e
      · go_wp2
        go_round
        case rel =>
          have hbs := HB.out
          have hj1 : j + 1 < n := by
            rcases Nat.lt_or_ge (j + 1) n with h4 | h4
            · exact h4
            · have h5 := pw_mono h4
              have h3 : 1 * pw (j + 1) ≤ h * pw (j + 1) := Nat.mul_le_mul_right _ (by omega)
              rw [pw_succ] at h3 h5
              rw [Nat.mul_assoc, Nat.mul_left_comm] at hbs
              omega
          have e3 := HR.out
          rw [show n - j = (n - (j + 1)) + 1 by omega, pw_succ] at e3
          refine ⟨j + 1, h, pw (n - (j + 1)), hj1, by omega, by omega, by go_num, by rw [e3]; go_num, rfl, ?_⟩
          rw [hbs, pw_succ, Nat.mul_assoc, Nat.mul_left_comm]
        case measure => simp [intOf]; omega
      · go_wp2
        go_ret2
        have hr : ringF n b = R := by
          unfold ringF
          rw [tz_at (2 * h + 1) j b HB.out (by omega) n 0 (by omega) (by omega), HR.out]
        rw [hr]
        exact ⟨rfl, (Below.refl _ _).alloc (Nat.le_refl _) _⟩
end Go.Proofs.YtgnaohhopbhihaaDoor
