/-
  Total of the reference; errors; Ring of both.
-/
import Derived.Test.YtebhahmgbdglnaaDoorLoopC
namespace Go.Proofs.YtebhahmgbdglnaaDoor
open Go.RowKit

theorem tri_even : ∀ h, tri (2 * h) = h * (2 * h - 1)
  | 0 => rfl
  | h + 1 => by
    have ih := tri_even h
    rw [show 2 * (h + 1) = 2 * h + 1 + 1 by omega]
    simp only [tri]
    rw [ih, show 2 * h + 1 + 1 - 1 = 2 * h + 1 by omega, Nat.add_mul, Nat.mul_add, Nat.mul_sub]
    have : h ≤ h * (2 * h) ∨ h = 0 := by
      by_cases e : h = 0
      · exact .inr e
      · exact .inl (Nat.le_mul_of_pos_right _ (by omega))
    omega
theorem tri_odd (h : Nat) : tri (2 * h + 1) = h * (2 * h + 1) := by
  simp only [tri]
  rw [tri_even, Nat.mul_sub, Nat.mul_add]
  have : h ≤ h * (2 * h) ∨ h = 0 := by
    by_cases e : h = 0
    · exact .inr e
    · exact .inl (Nat.le_mul_of_pos_right _ (by omega))
  omega
theorem sum_u64 (a b c P : Nat) (hP : P = tri c) : IntKind.u64.wrap (IntKind.u64.wrap ((c : Int) * (a : Int)) + IntKind.u64.wrap ((P : Int) * (b : Int))) = ((sumS a b c % 18446744073709551616 : Nat) : Int) := by
  have e : ((sumS a b c : Nat) : Int) = (c : Int) * (a : Int) + (P : Int) * (b : Int) := by
    unfold sumS
    rw [hP, Int.natCast_add, Int.natCast_mul, Int.natCast_mul]
  rw [IntKind.wrap_u64, IntKind.wrap_u64, IntKind.wrap_u64, Int.emod_add_emod, Int.add_emod_emod, Int.natCast_emod, e]
  rfl
set_option maxHeartbeats 1000000 in
theorem refTotal16_even (n a b h : Nat) (w : World) (h1 : 1 ≤ n) (h2 : n ≤ 32) (ha : a < pw n) (hb : b < pw n) (hc : 2 * h ≤ 4294967296) (hpos : 1 ≤ h) :
    Calls Tryd.prog 47 #[.int .i64 n, .int .u32 a, .int .u32 b, .int .i64 ((2 * h : Nat) : Int)] w fun e w' => e = .returned (.tuple #[.int .u32 (sumS a b (2 * h) % 18446744073709551616 % pw n : Nat), .int .i64 0]) ∧ Below w.heap.size w w' := by
  have hp := pw_le h2
  obtain ⟨c, hcc⟩ : ∃ c, c = 2 * h := ⟨_, rfl⟩
  have hm : h * (2 * h - 1) ≤ 2147483648 * 4294967295 := Nat.mul_le_mul (by omega) (by omega)
  have hT := tri_even h
  have q1 : (c : Int) / 2 = (h : Int) := by omega
  have q2 : (c : Int) % 2 = 0 := by omega
  have q3 : (c : Int) - 1 = ((2 * h - 1 : Nat) : Int) := by omega
  have q4 : (h : Int) * ((2 * h - 1 : Nat) : Int) = ((tri c : Nat) : Int) := by rw [← Int.natCast_mul, hcc, hT]
  have q5 : tri c ≤ 18446744073709551615 := by rw [hcc, hT]; omega
  rw [← hcc] at hc
  rw [← hcc]
  have hc1 : 2 ≤ c := by omega
  clear hcc hm hT
  generalize 2 * h - 1 = g at *
  obtain ⟨T, hTT⟩ : ∃ T, T = tri c := ⟨_, rfl⟩
  have HS := Lib.hid (sum_u64 a b c T hTT)
  rw [← hTT] at q4 q5
  clear hTT
  go_enter Tryd.func47, Tryd.ntmps47
  go_wp2_with (first
    | (go_at_call 76; refine (wd2_yes n a b w _ c h1 h2 (by omega) (by omega) ha hb).mono ?_; rintro e w' ⟨rfl, rfl⟩)
    | (go_at_call 77; rw [HS.out]; refine (word_any n (sumS a b c % 18446744073709551616) _ h2 (Nat.mod_lt _ (by omega))).mono ?_; rintro e w' ⟨rfl, rfl⟩))
  go_ret2
  exact ⟨rfl, (Below.refl _ _).alloc (Nat.le_refl _) _⟩
set_option maxHeartbeats 1000000 in
theorem refTotal16_odd (n a b h : Nat) (w : World) (h1 : 1 ≤ n) (h2 : n ≤ 32) (ha : a < pw n) (hb : b < pw n) (hc : 2 * h + 1 ≤ 4294967296) :
    Calls Tryd.prog 47 #[.int .i64 n, .int .u32 a, .int .u32 b, .int .i64 ((2 * h + 1 : Nat) : Int)] w fun e w' => e = .returned (.tuple #[.int .u32 (sumS a b (2 * h + 1) % 18446744073709551616 % pw n : Nat), .int .i64 0]) ∧ Below w.heap.size w w' := by
  have hp := pw_le h2
  obtain ⟨c, hcc⟩ : ∃ c, c = 2 * h + 1 := ⟨_, rfl⟩
  have hm : h * (2 * h + 1) ≤ 2147483648 * 4294967296 := Nat.mul_le_mul (by omega) (by omega)
  have hm2 : h * (2 * h) ≤ 2147483648 * 4294967296 := Nat.mul_le_mul (by omega) (by omega)
  have hT := tri_odd h
  have q1 : (c : Int) / 2 = (h : Int) := by omega
  have q2 : (c : Int) % 2 = 1 := by omega
  have q3 : (c : Int) - 1 = ((2 * h : Nat) : Int) := by omega
  have q6 : ((2 * h : Nat) : Int) / 2 = (h : Int) := by omega
  have q7 : (h : Int) * ((2 * h : Nat) : Int) = ((h * (2 * h) : Nat) : Int) := (Int.natCast_mul _ _).symm
  have q4 : (h : Int) * (c : Int) = ((tri c : Nat) : Int) := by
    rw [hcc, hT]
    exact (Int.natCast_mul _ _).symm
  have q5 : tri c ≤ 18446744073709551615 := by rw [hcc, hT]; omega
  rw [← hcc] at hc
  rw [← hcc]
  have hc1 : 1 ≤ c := by omega
  clear hcc hm hT
  generalize h * (2 * h) = x at *
  generalize 2 * h = g at *
  obtain ⟨T, hTT⟩ : ∃ T, T = tri c := ⟨_, rfl⟩
  have HS := Lib.hid (sum_u64 a b c T hTT)
  rw [← hTT] at q4 q5
  clear hTT
  go_enter Tryd.func47, Tryd.ntmps47
  go_wp2_with (first
    | (go_at_call 76; refine (wd2_yes n a b w _ c h1 h2 (by omega) (by omega) ha hb).mono ?_; rintro e w' ⟨rfl, rfl⟩)
    | (go_at_call 77; rw [HS.out]; refine (word_any n (sumS a b c % 18446744073709551616) _ h2 (Nat.mod_lt _ (by omega))).mono ?_; rintro e w' ⟨rfl, rfl⟩))
  go_ret2
  exact ⟨rfl, (Below.refl _ _).alloc (Nat.le_refl _) _⟩
theorem refTotal16_zero (n a b : Nat) (w : World) (h1 : 1 ≤ n) (h2 : n ≤ 32) (ha : a < pw n) (hb : b < pw n) :
    Calls Tryd.prog 47 #[.int .i64 n, .int .u32 a, .int .u32 b, .int .i64 0] w fun e w' => e = .returned (.tuple #[.int .u32 (sumS a b 0 % 18446744073709551616 % pw n : Nat), .int .i64 0]) ∧ Below w.heap.size w w' := by
  have hp := pw_le h2
  have E := Lib.hid (show sumS a b 0 % 18446744073709551616 % pw n = 0 by simp [sumS, tri])
  rw [E.out]
  go_enter Tryd.func47, Tryd.ntmps47
  go_wp2_with (first
    | (go_at_call 76; refine (wd2_yes n a b w _ 0 h1 h2 (by omega) (by omega) ha hb).mono ?_; rintro e w' ⟨rfl, rfl⟩)
    | (go_at_call 77; refine (word_any n 0 _ h2 (by omega)).mono ?_; rintro e w' ⟨rfl, rfl⟩))
  go_ret2
  exact ⟨by simp, (Below.refl _ _).alloc (Nat.le_refl _) _⟩
theorem refTotal16_ok (n a b c : Nat) (w : World) (h1 : 1 ≤ n) (h2 : n ≤ 32) (ha : a < pw n) (hb : b < pw n) (hc : c ≤ 4294967296) :
    Calls Tryd.prog 47 #[.int .i64 n, .int .u32 a, .int .u32 b, .int .i64 c] w fun e w' => e = .returned (.tuple #[.int .u32 (sumS a b c % 18446744073709551616 % pw n : Nat), .int .i64 0]) ∧ Below w.heap.size w w' := by
  rcases Nat.mod_two_eq_zero_or_one c with h | h
  · obtain ⟨k, rfl⟩ : ∃ k, c = 2 * k := ⟨c / 2, by omega⟩
    by_cases hk : k = 0
    · subst hk
      exact refTotal16_zero n a b w h1 h2 ha hb
    · exact refTotal16_even n a b k w h1 h2 ha hb hc (by omega)
  · obtain ⟨k, rfl⟩ : ∃ k, c = 2 * k + 1 := ⟨c / 2, by omega⟩
    exact refTotal16_odd n a b k w h1 h2 ha hb hc
theorem total16_err (m c : Int) (a b : Nat) (w : World) (hM : Masks w) (h : CntBad m a b c) :
    Calls Tryd.prog 46 #[.int .i64 m, .int .u32 a, .int .u32 b, .int .i64 c] w fun e w' => e = .returned (.tuple #[.int .u32 0, .int .i64 1]) ∧ Below w.heap.size w w' := by
  by_cases hw : m < 1 ∨ 32 < m ∨ pw m.toNat ≤ a ∨ pw m.toNat ≤ b
  · have HW := Lib.hid hw
    clear h hw
    go_enter Tryd.func46, Tryd.ntmps46
    go_wp2_with (go_at_call 73; refine (lw2_no a b w _ m hM HW.out).mono ?_; rintro e w' ⟨rfl, rfl⟩)
    go_ret2
    exact ⟨rfl, (Below.refl _ _).alloc (Nat.le_refl _) _⟩
  · have hc := h.resolve_left hw
    obtain ⟨n, rfl⟩ : ∃ n : Nat, m = n := ⟨m.toNat, by omega⟩
    have h1 : 1 ≤ n := by omega
    have h2 : n ≤ 32 := by omega
    have ha : a < pw n := by have : ¬ pw n ≤ a := fun e => hw (.inr (.inr (.inl (by simpa using e))))
                             omega
    have hb : b < pw n := by have : ¬ pw n ≤ b := fun e => hw (.inr (.inr (.inr (by simpa using e))))
                             omega
    have HC := Lib.hid hc
    clear h hw hc
    go_enter Tryd.func46, Tryd.ntmps46
    go_wp2_with (first
      | (go_at_call 73; refine (lw2_yes n a b w _ hM h1 h2 ha hb).mono ?_; rintro e w' ⟨rfl, rfl⟩)
      | (go_at_call 74; refine (isCount_no _ _ HC.out).mono ?_; rintro e w' ⟨rfl, rfl⟩))
    go_ret2
    exact ⟨rfl, (Below.refl _ _).alloc (Nat.le_refl _) _⟩
theorem refTotal16_err (m c : Int) (a b : Nat) (w : World) (a32 : a < 4294967296) (b32 : b < 4294967296) (h : CntBad m a b c) :
    Calls Tryd.prog 47 #[.int .i64 m, .int .u32 a, .int .u32 b, .int .i64 c] w fun e w' => e = .returned (.tuple #[.int .u32 0, .int .i64 1]) ∧ Below w.heap.size w w' := by
  have h' : (m < 1 ∨ 32 < m ∨ c < 0 ∨ 4294967296 < c) ∨ pw m.toNat ≤ a ∨ pw m.toNat ≤ b := by unfold CntBad at h; omega
  have HH := Lib.hid h'
  clear h h'
  go_enter Tryd.func47, Tryd.ntmps47
  go_wp2_with (go_at_call 76; refine (wd2_no a b w _ m c a32 b32 HH.out).mono ?_; rintro e w' ⟨rfl, rfl⟩)
  go_ret2
  exact ⟨rfl, (Below.refl _ _).alloc (Nat.le_refl _) _⟩
end Go.Proofs.YtebhahmgbdglnaaDoor
