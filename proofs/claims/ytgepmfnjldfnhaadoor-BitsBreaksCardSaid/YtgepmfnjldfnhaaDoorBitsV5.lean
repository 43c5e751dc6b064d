/-
  Breaks of the reference at quotients, remainders, bits and shifts to the right.
-/
import Derived.Test.YtgepmfnjldfnhaaDoorBitsV1
namespace Go.Proofs.YtgepmfnjldfnhaaDoor
open Go.RowKit

set_option maxHeartbeats 2000000 in
set_option maxRecDepth 100000 in
theorem refBreaks_4 (flags n a b : Nat) (w : World) (hf : flags < 8) (h1 : 1 ≤ n) (h2 : n ≤ 32) (ha : a < pw n) (hb : b < pw n) (hh : hasF 4 n a b = true) :
    Calls Tryd.prog 24 #[.int .i64 4, .int .i64 flags, .int .i64 n, .int .u32 a, .int .u32 b] w fun e w' => e = .returned (.tuple #[.bool (brF 4 flags n a b), .int .i64 0]) ∧ Below w.heap.size w w' := by
  have hp := pw_le h2
  have hq := pw_le (n := n - 1) (by omega)
  have hR1 := rflag1 hf
  have hR2 := rflag2 hf
  have hR4 := rflag4 hf
  obtain ⟨s1, s2, s3⟩ := sgn_bounds h1 h2 ha
  obtain ⟨t1, t2, t3⟩ := sgn_bounds h1 h2 hb
  have e1 : (n : Int) - 1 = ((n - 1 : Nat) : Int) := by omega
  have H1 := Lib.hid e1
  clear e1
  have HH := Lib.hid hh
  clear hh
  have hb1 : 1 ≤ b := by have : b ≠ 0 := by simpa [hasF] using HH.out
                         omega
  cases he : fB 4 flags
  · rw [he] at hR4
    have K := Lib.hid (show brF 4 flags n a b = false by simp [brF, uB, sB, he])
    go_enter Tryd.func24, Tryd.ntmps24
    go_wp2_with (first
      | (go_at_call 51; refine (two_ok 4 n a b _ (by omega) (by omega) h1 h2 ha hb).mono ?_; rintro e w' ⟨rfl, rfl⟩)
      | (go_at_call 52; refine (refdo_some n a b h1 h2 ha hb _ 4 (by omega) (by omega) HH.out).mono ?_; rintro e w' ⟨rfl, m, rfl⟩)
      | (go_at_call 46; ((with_reducible refine (refSign_any n a _ h1 h2 ha).mono ?_); rintro e w' ⟨rfl, rfl⟩))
      | (go_at_call 46; ((with_reducible refine (refSign_any n b _ h1 h2 hb).mono ?_); rintro e w' ⟨rfl, rfl⟩))
      | (go_at_call 43; ((with_reducible refine (size_any n _ h2).mono ?_); rintro e w' ⟨rfl, rfl⟩))
      | (go_at_call 43; rw [H1.out]; refine (size_any (n - 1) _ (by omega)).mono ?_; rintro e w' ⟨rfl, rfl⟩))
    go_ret2
    rw [K.out]
    first | exact ⟨rfl, below_drewN (Below.refl _ _) _⟩ | (refine ⟨?_, below_drewN (Below.refl _ _) _⟩; first | (simp; rw [Bool.eq_iff_iff]; simp; omega) | (simp; omega))
  · rw [he] at hR4
    have K := Lib.hid (show brF 4 flags n a b = decide (a % b ≠ 0) by simp [brF, uB, sB, eB, he])
    go_enter Tryd.func24, Tryd.ntmps24
    go_wp2_with (first
      | (go_at_call 51; refine (two_ok 4 n a b _ (by omega) (by omega) h1 h2 ha hb).mono ?_; rintro e w' ⟨rfl, rfl⟩)
      | (go_at_call 52; refine (refdo_some n a b h1 h2 ha hb _ 4 (by omega) (by omega) HH.out).mono ?_; rintro e w' ⟨rfl, m, rfl⟩)
      | (go_at_call 46; ((with_reducible refine (refSign_any n a _ h1 h2 ha).mono ?_); rintro e w' ⟨rfl, rfl⟩))
      | (go_at_call 46; ((with_reducible refine (refSign_any n b _ h1 h2 hb).mono ?_); rintro e w' ⟨rfl, rfl⟩))
      | (go_at_call 43; ((with_reducible refine (size_any n _ h2).mono ?_); rintro e w' ⟨rfl, rfl⟩))
      | (go_at_call 43; rw [H1.out]; refine (size_any (n - 1) _ (by omega)).mono ?_; rintro e w' ⟨rfl, rfl⟩))
    go_ret2
    rw [K.out]
    first | exact ⟨rfl, below_drewN (Below.refl _ _) _⟩ | (refine ⟨?_, below_drewN (Below.refl _ _) _⟩; first | (simp; rw [Bool.eq_iff_iff]; simp; omega) | (simp; omega))
set_option maxHeartbeats 2000000 in
set_option maxRecDepth 100000 in
theorem refBreaks_6 (flags n a b : Nat) (w : World) (hf : flags < 8) (h1 : 1 ≤ n) (h2 : n ≤ 32) (ha : a < pw n) (hb : b < pw n) (hh : hasF 6 n a b = true) :
    Calls Tryd.prog 24 #[.int .i64 6, .int .i64 flags, .int .i64 n, .int .u32 a, .int .u32 b] w fun e w' => e = .returned (.tuple #[.bool (brF 6 flags n a b), .int .i64 0]) ∧ Below w.heap.size w w' := by
  have hp := pw_le h2
  have hq := pw_le (n := n - 1) (by omega)
  have hR1 := rflag1 hf
  have hR2 := rflag2 hf
  have hR4 := rflag4 hf
  obtain ⟨s1, s2, s3⟩ := sgn_bounds h1 h2 ha
  obtain ⟨t1, t2, t3⟩ := sgn_bounds h1 h2 hb
  have e1 : (n : Int) - 1 = ((n - 1 : Nat) : Int) := by omega
  have H1 := Lib.hid e1
  clear e1
  have HH := Lib.hid hh
  clear hh
  obtain ⟨d1, d2⟩ := tmod_bounds (sgn n a) (sgn n b) (by omega)
  have hz : ¬ sgn n b = 0 := by
    have hbz : b ≠ 0 ∧ _ := of_decide_eq_true HH.out
    exact fun e => hbz.1 ((sgn_zero h1 hb).1 e)
  cases he : fB 4 flags
  · rw [he] at hR4
    have K := Lib.hid (show brF 6 flags n a b = false by simp [brF, uB, sB, he])
    go_enter Tryd.func24, Tryd.ntmps24
    go_wp2_with (first
      | (go_at_call 51; refine (two_ok 6 n a b _ (by omega) (by omega) h1 h2 ha hb).mono ?_; rintro e w' ⟨rfl, rfl⟩)
      | (go_at_call 52; refine (refdo_some n a b h1 h2 ha hb _ 6 (by omega) (by omega) HH.out).mono ?_; rintro e w' ⟨rfl, m, rfl⟩)
      | (go_at_call 46; ((with_reducible refine (refSign_any n a _ h1 h2 ha).mono ?_); rintro e w' ⟨rfl, rfl⟩))
      | (go_at_call 46; ((with_reducible refine (refSign_any n b _ h1 h2 hb).mono ?_); rintro e w' ⟨rfl, rfl⟩))
      | (go_at_call 43; ((with_reducible refine (size_any n _ h2).mono ?_); rintro e w' ⟨rfl, rfl⟩))
      | (go_at_call 43; rw [H1.out]; refine (size_any (n - 1) _ (by omega)).mono ?_; rintro e w' ⟨rfl, rfl⟩))
    go_ret2
    rw [K.out]
    first | exact ⟨rfl, below_drewN (Below.refl _ _) _⟩ | (refine ⟨?_, below_drewN (Below.refl _ _) _⟩; first | (simp; done) | (rw [Bool.eq_iff_iff]; simp))
  · rw [he] at hR4
    have K := Lib.hid (show brF 6 flags n a b = ((sgn n a).tmod (sgn n b) != 0) by first | (simp [brF, uB, sB, eB, he]; done) | (simp [brF, uB, sB, eB, he]; rw [Bool.eq_iff_iff]; simp))
    go_enter Tryd.func24, Tryd.ntmps24
    go_wp2_with (first
      | (go_at_call 51; refine (two_ok 6 n a b _ (by omega) (by omega) h1 h2 ha hb).mono ?_; rintro e w' ⟨rfl, rfl⟩)
      | (go_at_call 52; refine (refdo_some n a b h1 h2 ha hb _ 6 (by omega) (by omega) HH.out).mono ?_; rintro e w' ⟨rfl, m, rfl⟩)
      | (go_at_call 46; ((with_reducible refine (refSign_any n a _ h1 h2 ha).mono ?_); rintro e w' ⟨rfl, rfl⟩))
      | (go_at_call 46; ((with_reducible refine (refSign_any n b _ h1 h2 hb).mono ?_); rintro e w' ⟨rfl, rfl⟩))
      | (go_at_call 43; ((with_reducible refine (size_any n _ h2).mono ?_); rintro e w' ⟨rfl, rfl⟩))
      | (go_at_call 43; rw [H1.out]; refine (size_any (n - 1) _ (by omega)).mono ?_; rintro e w' ⟨rfl, rfl⟩))
    go_ret2
    rw [K.out]
    first | exact ⟨rfl, below_drewN (Below.refl _ _) _⟩ | (refine ⟨?_, below_drewN (Below.refl _ _) _⟩; first | (simp; done) | (rw [Bool.eq_iff_iff]; simp))
set_option maxHeartbeats 2000000 in
set_option maxRecDepth 100000 in
theorem refBreaks_5 (flags n a b : Nat) (w : World) (hf : flags < 8) (h1 : 1 ≤ n) (h2 : n ≤ 32) (ha : a < pw n) (hb : b < pw n) (hh : hasF 5 n a b = true) :
    Calls Tryd.prog 24 #[.int .i64 5, .int .i64 flags, .int .i64 n, .int .u32 a, .int .u32 b] w fun e w' => e = .returned (.tuple #[.bool (brF 5 flags n a b), .int .i64 0]) ∧ Below w.heap.size w w' := by
  have hp := pw_le h2
  have hq := pw_le (n := n - 1) (by omega)
  have hR1 := rflag1 hf
  have hR2 := rflag2 hf
  have hR4 := rflag4 hf
  obtain ⟨s1, s2, s3⟩ := sgn_bounds h1 h2 ha
  obtain ⟨t1, t2, t3⟩ := sgn_bounds h1 h2 hb
  have e1 : (n : Int) - 1 = ((n - 1 : Nat) : Int) := by omega
  have H1 := Lib.hid e1
  clear e1
  have HH := Lib.hid hh
  clear hh
  have K := Lib.hid (show brF 5 flags n a b = false by simp [brF, uB, sB, eB])
  go_enter Tryd.func24, Tryd.ntmps24
  go_wp2_with (first
    | (go_at_call 51; refine (two_ok 5 n a b _ (by omega) (by omega) h1 h2 ha hb).mono ?_; rintro e w' ⟨rfl, rfl⟩)
    | (go_at_call 52; refine (refdo_some n a b h1 h2 ha hb _ 5 (by omega) (by omega) HH.out).mono ?_; rintro e w' ⟨rfl, m, rfl⟩)
    | (go_at_call 46; ((with_reducible refine (refSign_any n a _ h1 h2 ha).mono ?_); rintro e w' ⟨rfl, rfl⟩))
    | (go_at_call 46; ((with_reducible refine (refSign_any n b _ h1 h2 hb).mono ?_); rintro e w' ⟨rfl, rfl⟩))
    | (go_at_call 43; ((with_reducible refine (size_any n _ h2).mono ?_); rintro e w' ⟨rfl, rfl⟩))
    | (go_at_call 43; rw [H1.out]; refine (size_any (n - 1) _ (by omega)).mono ?_; rintro e w' ⟨rfl, rfl⟩))
  go_ret2
  rw [K.out]
  first | exact ⟨rfl, below_drewN (Below.refl _ _) _⟩ | (refine ⟨?_, below_drewN (Below.refl _ _) _⟩; simp)
set_option maxHeartbeats 2000000 in
set_option maxRecDepth 100000 in
theorem refBreaks_7 (flags n a b : Nat) (w : World) (hf : flags < 8) (h1 : 1 ≤ n) (h2 : n ≤ 32) (ha : a < pw n) (hb : b < pw n) (hh : hasF 7 n a b = true) :
    Calls Tryd.prog 24 #[.int .i64 7, .int .i64 flags, .int .i64 n, .int .u32 a, .int .u32 b] w fun e w' => e = .returned (.tuple #[.bool (brF 7 flags n a b), .int .i64 0]) ∧ Below w.heap.size w w' := by
  have hp := pw_le h2
  have hq := pw_le (n := n - 1) (by omega)
  have hR1 := rflag1 hf
  have hR2 := rflag2 hf
  have hR4 := rflag4 hf
  obtain ⟨s1, s2, s3⟩ := sgn_bounds h1 h2 ha
  obtain ⟨t1, t2, t3⟩ := sgn_bounds h1 h2 hb
  have e1 : (n : Int) - 1 = ((n - 1 : Nat) : Int) := by omega
  have H1 := Lib.hid e1
  clear e1
  have HH := Lib.hid hh
  clear hh
  have K := Lib.hid (show brF 7 flags n a b = false by simp [brF, uB, sB, eB])
  go_enter Tryd.func24, Tryd.ntmps24
  go_wp2_with (first
    | (go_at_call 51; refine (two_ok 7 n a b _ (by omega) (by omega) h1 h2 ha hb).mono ?_; rintro e w' ⟨rfl, rfl⟩)
    | (go_at_call 52; refine (refdo_some n a b h1 h2 ha hb _ 7 (by omega) (by omega) HH.out).mono ?_; rintro e w' ⟨rfl, m, rfl⟩)
    | (go_at_call 46; ((with_reducible refine (refSign_any n a _ h1 h2 ha).mono ?_); rintro e w' ⟨rfl, rfl⟩))
    | (go_at_call 46; ((with_reducible refine (refSign_any n b _ h1 h2 hb).mono ?_); rintro e w' ⟨rfl, rfl⟩))
    | (go_at_call 43; ((with_reducible refine (size_any n _ h2).mono ?_); rintro e w' ⟨rfl, rfl⟩))
    | (go_at_call 43; rw [H1.out]; refine (size_any (n - 1) _ (by omega)).mono ?_; rintro e w' ⟨rfl, rfl⟩))
  go_ret2
  rw [K.out]
  first | exact ⟨rfl, below_drewN (Below.refl _ _) _⟩ | (refine ⟨?_, below_drewN (Below.refl _ _) _⟩; simp)
set_option maxHeartbeats 2000000 in
set_option maxRecDepth 100000 in
theorem refBreaks_8 (flags n a b : Nat) (w : World) (hf : flags < 8) (h1 : 1 ≤ n) (h2 : n ≤ 32) (ha : a < pw n) (hb : b < pw n) (hh : hasF 8 n a b = true) :
    Calls Tryd.prog 24 #[.int .i64 8, .int .i64 flags, .int .i64 n, .int .u32 a, .int .u32 b] w fun e w' => e = .returned (.tuple #[.bool (brF 8 flags n a b), .int .i64 0]) ∧ Below w.heap.size w w' := by
  have hp := pw_le h2
  have hq := pw_le (n := n - 1) (by omega)
  have hR1 := rflag1 hf
  have hR2 := rflag2 hf
  have hR4 := rflag4 hf
  obtain ⟨s1, s2, s3⟩ := sgn_bounds h1 h2 ha
  obtain ⟨t1, t2, t3⟩ := sgn_bounds h1 h2 hb
  have e1 : (n : Int) - 1 = ((n - 1 : Nat) : Int) := by omega
  have H1 := Lib.hid e1
  clear e1
  have HH := Lib.hid hh
  clear hh
  have K := Lib.hid (show brF 8 flags n a b = false by simp [brF, uB, sB, eB])
  go_enter Tryd.func24, Tryd.ntmps24
  go_wp2_with (first
    | (go_at_call 51; refine (two_ok 8 n a b _ (by omega) (by omega) h1 h2 ha hb).mono ?_; rintro e w' ⟨rfl, rfl⟩)
    | (go_at_call 52; refine (refdo_some n a b h1 h2 ha hb _ 8 (by omega) (by omega) HH.out).mono ?_; rintro e w' ⟨rfl, m, rfl⟩)
    | (go_at_call 46; ((with_reducible refine (refSign_any n a _ h1 h2 ha).mono ?_); rintro e w' ⟨rfl, rfl⟩))
    | (go_at_call 46; ((with_reducible refine (refSign_any n b _ h1 h2 hb).mono ?_); rintro e w' ⟨rfl, rfl⟩))
    | (go_at_call 43; ((with_reducible refine (size_any n _ h2).mono ?_); rintro e w' ⟨rfl, rfl⟩))
    | (go_at_call 43; rw [H1.out]; refine (size_any (n - 1) _ (by omega)).mono ?_; rintro e w' ⟨rfl, rfl⟩))
  go_ret2
  rw [K.out]
  first | exact ⟨rfl, below_drewN (Below.refl _ _) _⟩ | (refine ⟨?_, below_drewN (Below.refl _ _) _⟩; simp)
set_option maxHeartbeats 2000000 in
set_option maxRecDepth 100000 in
theorem refBreaks_9 (flags n a b : Nat) (w : World) (hf : flags < 8) (h1 : 1 ≤ n) (h2 : n ≤ 32) (ha : a < pw n) (hb : b < pw n) (hh : hasF 9 n a b = true) :
    Calls Tryd.prog 24 #[.int .i64 9, .int .i64 flags, .int .i64 n, .int .u32 a, .int .u32 b] w fun e w' => e = .returned (.tuple #[.bool (brF 9 flags n a b), .int .i64 0]) ∧ Below w.heap.size w w' := by
  have hp := pw_le h2
  have hq := pw_le (n := n - 1) (by omega)
  have hR1 := rflag1 hf
  have hR2 := rflag2 hf
  have hR4 := rflag4 hf
  obtain ⟨s1, s2, s3⟩ := sgn_bounds h1 h2 ha
  obtain ⟨t1, t2, t3⟩ := sgn_bounds h1 h2 hb
  have e1 : (n : Int) - 1 = ((n - 1 : Nat) : Int) := by omega
  have H1 := Lib.hid e1
  clear e1
  have HH := Lib.hid hh
  clear hh
  have K := Lib.hid (show brF 9 flags n a b = false by simp [brF, uB, sB, eB])
  go_enter Tryd.func24, Tryd.ntmps24
  go_wp2_with (first
    | (go_at_call 51; refine (two_ok 9 n a b _ (by omega) (by omega) h1 h2 ha hb).mono ?_; rintro e w' ⟨rfl, rfl⟩)
    | (go_at_call 52; refine (refdo_some n a b h1 h2 ha hb _ 9 (by omega) (by omega) HH.out).mono ?_; rintro e w' ⟨rfl, m, rfl⟩)
    | (go_at_call 46; ((with_reducible refine (refSign_any n a _ h1 h2 ha).mono ?_); rintro e w' ⟨rfl, rfl⟩))
    | (go_at_call 46; ((with_reducible refine (refSign_any n b _ h1 h2 hb).mono ?_); rintro e w' ⟨rfl, rfl⟩))
    | (go_at_call 43; ((with_reducible refine (size_any n _ h2).mono ?_); rintro e w' ⟨rfl, rfl⟩))
    | (go_at_call 43; rw [H1.out]; refine (size_any (n - 1) _ (by omega)).mono ?_; rintro e w' ⟨rfl, rfl⟩))
  go_ret2
  rw [K.out]
  first | exact ⟨rfl, below_drewN (Below.refl _ _) _⟩ | (refine ⟨?_, below_drewN (Below.refl _ _) _⟩; simp)
set_option maxHeartbeats 2000000 in
set_option maxRecDepth 100000 in
theorem refBreaks_10 (flags n a b : Nat) (w : World) (hf : flags < 8) (h1 : 1 ≤ n) (h2 : n ≤ 32) (ha : a < pw n) (hb : b < pw n) (hh : hasF 10 n a b = true) :
    Calls Tryd.prog 24 #[.int .i64 10, .int .i64 flags, .int .i64 n, .int .u32 a, .int .u32 b] w fun e w' => e = .returned (.tuple #[.bool (brF 10 flags n a b), .int .i64 0]) ∧ Below w.heap.size w w' := by
  have hp := pw_le h2
  have hq := pw_le (n := n - 1) (by omega)
  have hR1 := rflag1 hf
  have hR2 := rflag2 hf
  have hR4 := rflag4 hf
  obtain ⟨s1, s2, s3⟩ := sgn_bounds h1 h2 ha
  obtain ⟨t1, t2, t3⟩ := sgn_bounds h1 h2 hb
  have e1 : (n : Int) - 1 = ((n - 1 : Nat) : Int) := by omega
  have H1 := Lib.hid e1
  clear e1
  have HH := Lib.hid hh
  clear hh
  have K := Lib.hid (show brF 10 flags n a b = false by simp [brF, uB, sB, eB])
  go_enter Tryd.func24, Tryd.ntmps24
  go_wp2_with (first
    | (go_at_call 51; refine (two_ok 10 n a b _ (by omega) (by omega) h1 h2 ha hb).mono ?_; rintro e w' ⟨rfl, rfl⟩)
    | (go_at_call 52; refine (refdo_some n a b h1 h2 ha hb _ 10 (by omega) (by omega) HH.out).mono ?_; rintro e w' ⟨rfl, m, rfl⟩)
    | (go_at_call 46; ((with_reducible refine (refSign_any n a _ h1 h2 ha).mono ?_); rintro e w' ⟨rfl, rfl⟩))
    | (go_at_call 46; ((with_reducible refine (refSign_any n b _ h1 h2 hb).mono ?_); rintro e w' ⟨rfl, rfl⟩))
    | (go_at_call 43; ((with_reducible refine (size_any n _ h2).mono ?_); rintro e w' ⟨rfl, rfl⟩))
    | (go_at_call 43; rw [H1.out]; refine (size_any (n - 1) _ (by omega)).mono ?_; rintro e w' ⟨rfl, rfl⟩))
  go_ret2
  rw [K.out]
  first | exact ⟨rfl, below_drewN (Below.refl _ _) _⟩ | (refine ⟨?_, below_drewN (Below.refl _ _) _⟩; simp)
set_option maxHeartbeats 2000000 in
set_option maxRecDepth 100000 in
theorem refBreaks_12 (flags n a b : Nat) (w : World) (hf : flags < 8) (h1 : 1 ≤ n) (h2 : n ≤ 32) (ha : a < pw n) (hb : b < pw n) (hh : hasF 12 n a b = true) :
    Calls Tryd.prog 24 #[.int .i64 12, .int .i64 flags, .int .i64 n, .int .u32 a, .int .u32 b] w fun e w' => e = .returned (.tuple #[.bool (brF 12 flags n a b), .int .i64 0]) ∧ Below w.heap.size w w' := by
  have hp := pw_le h2
  have hq := pw_le (n := n - 1) (by omega)
  have hR1 := rflag1 hf
  have hR2 := rflag2 hf
  have hR4 := rflag4 hf
  obtain ⟨s1, s2, s3⟩ := sgn_bounds h1 h2 ha
  obtain ⟨t1, t2, t3⟩ := sgn_bounds h1 h2 hb
  have e1 : (n : Int) - 1 = ((n - 1 : Nat) : Int) := by omega
  have H1 := Lib.hid e1
  clear e1
  have HH := Lib.hid hh
  clear hh
  have hbn : b < n := of_decide_eq_true HH.out
  have hpb1 := pw_le (n := b) (by omega)
  cases he : fB 4 flags
  · rw [he] at hR4
    have K := Lib.hid (show brF 12 flags n a b = false by simp [brF, uB, sB, he])
    go_enter Tryd.func24, Tryd.ntmps24
    go_wp2_with (first
      | (go_at_call 51; refine (two_ok 12 n a b _ (by omega) (by omega) h1 h2 ha hb).mono ?_; rintro e w' ⟨rfl, rfl⟩)
      | (go_at_call 52; refine (refdo_some n a b h1 h2 ha hb _ 12 (by omega) (by omega) HH.out).mono ?_; rintro e w' ⟨rfl, m, rfl⟩)
      | (go_at_call 46; ((with_reducible refine (refSign_any n a _ h1 h2 ha).mono ?_); rintro e w' ⟨rfl, rfl⟩))
      | (go_at_call 46; ((with_reducible refine (refSign_any n b _ h1 h2 hb).mono ?_); rintro e w' ⟨rfl, rfl⟩))
      | (go_at_call 43; ((with_reducible refine (size_any n _ h2).mono ?_); rintro e w' ⟨rfl, rfl⟩))
      | (go_at_call 43; ((with_reducible refine (size_any b _ (by omega)).mono ?_); rintro e w' ⟨rfl, rfl⟩))
      | (go_at_call 43; rw [H1.out]; refine (size_any (n - 1) _ (by omega)).mono ?_; rintro e w' ⟨rfl, rfl⟩))
    go_ret2
    rw [K.out]
    first | exact ⟨rfl, below_drewN (Below.refl _ _) _⟩ | (refine ⟨?_, below_drewN (Below.refl _ _) _⟩; first | (simp; rw [Bool.eq_iff_iff]; simp; omega) | (simp; omega))
  · rw [he] at hR4
    have K := Lib.hid (show brF 12 flags n a b = decide (a % pw b ≠ 0) by simp [brF, uB, sB, eB, he])
    go_enter Tryd.func24, Tryd.ntmps24
    go_wp2_with (first
      | (go_at_call 51; refine (two_ok 12 n a b _ (by omega) (by omega) h1 h2 ha hb).mono ?_; rintro e w' ⟨rfl, rfl⟩)
      | (go_at_call 52; refine (refdo_some n a b h1 h2 ha hb _ 12 (by omega) (by omega) HH.out).mono ?_; rintro e w' ⟨rfl, m, rfl⟩)
      | (go_at_call 46; ((with_reducible refine (refSign_any n a _ h1 h2 ha).mono ?_); rintro e w' ⟨rfl, rfl⟩))
      | (go_at_call 46; ((with_reducible refine (refSign_any n b _ h1 h2 hb).mono ?_); rintro e w' ⟨rfl, rfl⟩))
      | (go_at_call 43; ((with_reducible refine (size_any n _ h2).mono ?_); rintro e w' ⟨rfl, rfl⟩))
      | (go_at_call 43; ((with_reducible refine (size_any b _ (by omega)).mono ?_); rintro e w' ⟨rfl, rfl⟩))
      | (go_at_call 43; rw [H1.out]; refine (size_any (n - 1) _ (by omega)).mono ?_; rintro e w' ⟨rfl, rfl⟩))
    go_ret2
    rw [K.out]
    first | exact ⟨rfl, below_drewN (Below.refl _ _) _⟩ | (refine ⟨?_, below_drewN (Below.refl _ _) _⟩; first | (simp; rw [Bool.eq_iff_iff]; simp; omega) | (simp; omega))
set_option maxHeartbeats 2000000 in
set_option maxRecDepth 100000 in
theorem refBreaks_13 (flags n a b : Nat) (w : World) (hf : flags < 8) (h1 : 1 ≤ n) (h2 : n ≤ 32) (ha : a < pw n) (hb : b < pw n) (hh : hasF 13 n a b = true) :
    Calls Tryd.prog 24 #[.int .i64 13, .int .i64 flags, .int .i64 n, .int .u32 a, .int .u32 b] w fun e w' => e = .returned (.tuple #[.bool (brF 13 flags n a b), .int .i64 0]) ∧ Below w.heap.size w w' := by
  have hp := pw_le h2
  have hq := pw_le (n := n - 1) (by omega)
  have hR1 := rflag1 hf
  have hR2 := rflag2 hf
  have hR4 := rflag4 hf
  obtain ⟨s1, s2, s3⟩ := sgn_bounds h1 h2 ha
  obtain ⟨t1, t2, t3⟩ := sgn_bounds h1 h2 hb
  have e1 : (n : Int) - 1 = ((n - 1 : Nat) : Int) := by omega
  have H1 := Lib.hid e1
  clear e1
  have HH := Lib.hid hh
  clear hh
  have hbn : b < n := of_decide_eq_true HH.out
  have hpb1 := pw_le (n := b) (by omega)
  cases he : fB 4 flags
  · rw [he] at hR4
    have K := Lib.hid (show brF 13 flags n a b = false by simp [brF, uB, sB, he])
    go_enter Tryd.func24, Tryd.ntmps24
    go_wp2_with (first
      | (go_at_call 51; refine (two_ok 13 n a b _ (by omega) (by omega) h1 h2 ha hb).mono ?_; rintro e w' ⟨rfl, rfl⟩)
      | (go_at_call 52; refine (refdo_some n a b h1 h2 ha hb _ 13 (by omega) (by omega) HH.out).mono ?_; rintro e w' ⟨rfl, m, rfl⟩)
      | (go_at_call 46; ((with_reducible refine (refSign_any n a _ h1 h2 ha).mono ?_); rintro e w' ⟨rfl, rfl⟩))
      | (go_at_call 46; ((with_reducible refine (refSign_any n b _ h1 h2 hb).mono ?_); rintro e w' ⟨rfl, rfl⟩))
      | (go_at_call 43; ((with_reducible refine (size_any n _ h2).mono ?_); rintro e w' ⟨rfl, rfl⟩))
      | (go_at_call 43; ((with_reducible refine (size_any b _ (by omega)).mono ?_); rintro e w' ⟨rfl, rfl⟩))
      | (go_at_call 43; rw [H1.out]; refine (size_any (n - 1) _ (by omega)).mono ?_; rintro e w' ⟨rfl, rfl⟩))
    go_ret2
    rw [K.out]
    first | exact ⟨rfl, below_drewN (Below.refl _ _) _⟩ | (refine ⟨?_, below_drewN (Below.refl _ _) _⟩; first | (simp; rw [Bool.eq_iff_iff]; simp; omega) | (simp; omega))
  · rw [he] at hR4
    have K := Lib.hid (show brF 13 flags n a b = decide (a % pw b ≠ 0) by simp [brF, uB, sB, eB, he])
    go_enter Tryd.func24, Tryd.ntmps24
    go_wp2_with (first
      | (go_at_call 51; refine (two_ok 13 n a b _ (by omega) (by omega) h1 h2 ha hb).mono ?_; rintro e w' ⟨rfl, rfl⟩)
      | (go_at_call 52; refine (refdo_some n a b h1 h2 ha hb _ 13 (by omega) (by omega) HH.out).mono ?_; rintro e w' ⟨rfl, m, rfl⟩)
      | (go_at_call 46; ((with_reducible refine (refSign_any n a _ h1 h2 ha).mono ?_); rintro e w' ⟨rfl, rfl⟩))
      | (go_at_call 46; ((with_reducible refine (refSign_any n b _ h1 h2 hb).mono ?_); rintro e w' ⟨rfl, rfl⟩))
      | (go_at_call 43; ((with_reducible refine (size_any n _ h2).mono ?_); rintro e w' ⟨rfl, rfl⟩))
      | (go_at_call 43; ((with_reducible refine (size_any b _ (by omega)).mono ?_); rintro e w' ⟨rfl, rfl⟩))
      | (go_at_call 43; rw [H1.out]; refine (size_any (n - 1) _ (by omega)).mono ?_; rintro e w' ⟨rfl, rfl⟩))
    go_ret2
    rw [K.out]
    first | exact ⟨rfl, below_drewN (Below.refl _ _) _⟩ | (refine ⟨?_, below_drewN (Below.refl _ _) _⟩; first | (simp; rw [Bool.eq_iff_iff]; simp; omega) | (simp; omega))
end Go.Proofs.YtgepmfnjldfnhaaDoor
