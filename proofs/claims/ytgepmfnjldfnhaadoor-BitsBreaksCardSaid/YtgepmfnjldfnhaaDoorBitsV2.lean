/-
  Breaks of the reference at sums and differences.
-/
import Derived.Test.YtgepmfnjldfnhaaDoorBitsV1
namespace Go.Proofs.YtgepmfnjldfnhaaDoor
open Go.RowKit

set_option maxHeartbeats 8000000 in
set_option maxRecDepth 100000 in
theorem refBreaks_1 (flags n a b : Nat) (w : World) (hf : flags < 8) (h1 : 1 ≤ n) (h2 : n ≤ 32) (ha : a < pw n) (hb : b < pw n) :
    Calls Tryd.prog 24 #[.int .i64 1, .int .i64 flags, .int .i64 n, .int .u32 a, .int .u32 b] w fun e w' => e = .returned (.tuple #[.bool (brF 1 flags n a b), .int .i64 0]) ∧ Below w.heap.size w w' := by
  have hp := pw_le h2
  have hq := pw_le (n := n - 1) (by omega)
  have hR1 := rflag1 hf
  have hR2 := rflag2 hf
  have hR4 := rflag4 hf
  obtain ⟨s1, s2, s3⟩ := sgn_bounds h1 h2 ha
  obtain ⟨t1, t2, t3⟩ := sgn_bounds h1 h2 hb
  have e1 : (n : Int) - 1 = ((n - 1 : Nat) : Int) := by omega
  have H1 := Lib.hid e1
  clear e1
  have HH := Lib.hid (show hasF 1 n a b = true by simp [hasF])
  have K0 : brF 1 flags n a b = ((fB 1 flags && uB 1 n a b) || (fB 2 flags && sB 1 n a b)) := by simp [brF, eB]
  have hUdef : uB 1 n a b = decide ((pw n : Int) ≤ (a : Int) + b) := by simp only [uB, if_true, outU]; rw [Bool.eq_iff_iff]; simp only [decide_eq_true_eq]; omega
  have hSdef : sB 1 n a b = decide (sgn n a + sgn n b < -(pw (n - 1) : Int) ∨ (pw (n - 1) : Int) - 1 < sgn n a + sgn n b) := by rfl
  cases hu : fB 1 flags
  · rw [hu] at hR1
    cases hs : fB 2 flags
    · rw [hs] at hR2
      have K := Lib.hid (show brF 1 flags n a b = false by rw [K0, hu, hs]; simp)
      clear K0 hUdef hSdef
      go_enter Tryd.func24, Tryd.ntmps24
      go_wp2_with (first
        | (go_at_call 51; refine (two_ok 1 n a b _ (by omega) (by omega) h1 h2 ha hb).mono ?_; rintro e w' ⟨rfl, rfl⟩)
        | (go_at_call 52; refine (refdo_some n a b h1 h2 ha hb _ 1 (by omega) (by omega) HH.out).mono ?_; rintro e w' ⟨rfl, m, rfl⟩)
        | (go_at_call 46; ((with_reducible refine (refSign_any n a _ h1 h2 ha).mono ?_); rintro e w' ⟨rfl, rfl⟩))
        | (go_at_call 46; ((with_reducible refine (refSign_any n b _ h1 h2 hb).mono ?_); rintro e w' ⟨rfl, rfl⟩))
        | (go_at_call 43; ((with_reducible refine (size_any n _ h2).mono ?_); rintro e w' ⟨rfl, rfl⟩))
        | (go_at_call 43; rw [H1.out]; refine (size_any (n - 1) _ (by omega)).mono ?_; rintro e w' ⟨rfl, rfl⟩))
      go_ret2
      rw [K.out]
      first | exact ⟨rfl, below_drewN (Below.refl _ _) _⟩ | (refine ⟨?_, below_drewN (Below.refl _ _) _⟩; simp; omega)
    · rw [hs] at hR2
      by_cases hlo : sgn n a + sgn n b < -(pw (n - 1) : Int)
      · have K := Lib.hid (show brF 1 flags n a b = true by rw [K0, hu, hs, hSdef, decide_eq_true (Or.inl hlo)]; simp)
        clear K0 hUdef hSdef
        go_enter Tryd.func24, Tryd.ntmps24
        go_wp2_with (first
          | (go_at_call 51; refine (two_ok 1 n a b _ (by omega) (by omega) h1 h2 ha hb).mono ?_; rintro e w' ⟨rfl, rfl⟩)
          | (go_at_call 52; refine (refdo_some n a b h1 h2 ha hb _ 1 (by omega) (by omega) HH.out).mono ?_; rintro e w' ⟨rfl, m, rfl⟩)
          | (go_at_call 46; ((with_reducible refine (refSign_any n a _ h1 h2 ha).mono ?_); rintro e w' ⟨rfl, rfl⟩))
          | (go_at_call 46; ((with_reducible refine (refSign_any n b _ h1 h2 hb).mono ?_); rintro e w' ⟨rfl, rfl⟩))
          | (go_at_call 43; ((with_reducible refine (size_any n _ h2).mono ?_); rintro e w' ⟨rfl, rfl⟩))
          | (go_at_call 43; rw [H1.out]; refine (size_any (n - 1) _ (by omega)).mono ?_; rintro e w' ⟨rfl, rfl⟩))
        go_ret2
        rw [K.out]
        first | exact ⟨rfl, below_drewN (Below.refl _ _) _⟩ | (refine ⟨?_, below_drewN (Below.refl _ _) _⟩; simp; omega)
      · by_cases hhi : (pw (n - 1) : Int) - 1 < sgn n a + sgn n b
        · have K := Lib.hid (show brF 1 flags n a b = true by rw [K0, hu, hs, hSdef, decide_eq_true (Or.inr hhi)]; simp)
          clear K0 hUdef hSdef
          go_enter Tryd.func24, Tryd.ntmps24
          go_wp2_with (first
            | (go_at_call 51; refine (two_ok 1 n a b _ (by omega) (by omega) h1 h2 ha hb).mono ?_; rintro e w' ⟨rfl, rfl⟩)
            | (go_at_call 52; refine (refdo_some n a b h1 h2 ha hb _ 1 (by omega) (by omega) HH.out).mono ?_; rintro e w' ⟨rfl, m, rfl⟩)
            | (go_at_call 46; ((with_reducible refine (refSign_any n a _ h1 h2 ha).mono ?_); rintro e w' ⟨rfl, rfl⟩))
            | (go_at_call 46; ((with_reducible refine (refSign_any n b _ h1 h2 hb).mono ?_); rintro e w' ⟨rfl, rfl⟩))
            | (go_at_call 43; ((with_reducible refine (size_any n _ h2).mono ?_); rintro e w' ⟨rfl, rfl⟩))
            | (go_at_call 43; rw [H1.out]; refine (size_any (n - 1) _ (by omega)).mono ?_; rintro e w' ⟨rfl, rfl⟩))
          go_ret2
          rw [K.out]
          first | exact ⟨rfl, below_drewN (Below.refl _ _) _⟩ | (refine ⟨?_, below_drewN (Below.refl _ _) _⟩; simp; omega)
        · have K := Lib.hid (show brF 1 flags n a b = false by rw [K0, hu, hs, hSdef, decide_eq_false (fun h => h.elim hlo hhi)]; simp)
          clear K0 hUdef hSdef
          go_enter Tryd.func24, Tryd.ntmps24
          go_wp2_with (first
            | (go_at_call 51; refine (two_ok 1 n a b _ (by omega) (by omega) h1 h2 ha hb).mono ?_; rintro e w' ⟨rfl, rfl⟩)
            | (go_at_call 52; refine (refdo_some n a b h1 h2 ha hb _ 1 (by omega) (by omega) HH.out).mono ?_; rintro e w' ⟨rfl, m, rfl⟩)
            | (go_at_call 46; ((with_reducible refine (refSign_any n a _ h1 h2 ha).mono ?_); rintro e w' ⟨rfl, rfl⟩))
            | (go_at_call 46; ((with_reducible refine (refSign_any n b _ h1 h2 hb).mono ?_); rintro e w' ⟨rfl, rfl⟩))
            | (go_at_call 43; ((with_reducible refine (size_any n _ h2).mono ?_); rintro e w' ⟨rfl, rfl⟩))
            | (go_at_call 43; rw [H1.out]; refine (size_any (n - 1) _ (by omega)).mono ?_; rintro e w' ⟨rfl, rfl⟩))
          go_ret2
          rw [K.out]
          first | exact ⟨rfl, below_drewN (Below.refl _ _) _⟩ | (refine ⟨?_, below_drewN (Below.refl _ _) _⟩; simp; omega)
  · rw [hu] at hR1
    by_cases hge : (pw n : Int) ≤ (a : Int) + b
    · have K := Lib.hid (show brF 1 flags n a b = true by rw [K0, hu, hUdef, decide_eq_true hge]; simp)
      clear K0 hUdef hSdef
      go_enter Tryd.func24, Tryd.ntmps24
      go_wp2_with (first
        | (go_at_call 51; refine (two_ok 1 n a b _ (by omega) (by omega) h1 h2 ha hb).mono ?_; rintro e w' ⟨rfl, rfl⟩)
        | (go_at_call 52; refine (refdo_some n a b h1 h2 ha hb _ 1 (by omega) (by omega) HH.out).mono ?_; rintro e w' ⟨rfl, m, rfl⟩)
        | (go_at_call 46; ((with_reducible refine (refSign_any n a _ h1 h2 ha).mono ?_); rintro e w' ⟨rfl, rfl⟩))
        | (go_at_call 46; ((with_reducible refine (refSign_any n b _ h1 h2 hb).mono ?_); rintro e w' ⟨rfl, rfl⟩))
        | (go_at_call 43; ((with_reducible refine (size_any n _ h2).mono ?_); rintro e w' ⟨rfl, rfl⟩))
        | (go_at_call 43; rw [H1.out]; refine (size_any (n - 1) _ (by omega)).mono ?_; rintro e w' ⟨rfl, rfl⟩))
      go_ret2
      rw [K.out]
      first | exact ⟨rfl, below_drewN (Below.refl _ _) _⟩ | (refine ⟨?_, below_drewN (Below.refl _ _) _⟩; simp; omega)
    · cases hs : fB 2 flags
      · rw [hs] at hR2
        have K := Lib.hid (show brF 1 flags n a b = false by rw [K0, hu, hs, hUdef, decide_eq_false hge]; simp)
        clear K0 hUdef hSdef
        go_enter Tryd.func24, Tryd.ntmps24
        go_wp2_with (first
          | (go_at_call 51; refine (two_ok 1 n a b _ (by omega) (by omega) h1 h2 ha hb).mono ?_; rintro e w' ⟨rfl, rfl⟩)
          | (go_at_call 52; refine (refdo_some n a b h1 h2 ha hb _ 1 (by omega) (by omega) HH.out).mono ?_; rintro e w' ⟨rfl, m, rfl⟩)
          | (go_at_call 46; ((with_reducible refine (refSign_any n a _ h1 h2 ha).mono ?_); rintro e w' ⟨rfl, rfl⟩))
          | (go_at_call 46; ((with_reducible refine (refSign_any n b _ h1 h2 hb).mono ?_); rintro e w' ⟨rfl, rfl⟩))
          | (go_at_call 43; ((with_reducible refine (size_any n _ h2).mono ?_); rintro e w' ⟨rfl, rfl⟩))
          | (go_at_call 43; rw [H1.out]; refine (size_any (n - 1) _ (by omega)).mono ?_; rintro e w' ⟨rfl, rfl⟩))
        go_ret2
        rw [K.out]
        first | exact ⟨rfl, below_drewN (Below.refl _ _) _⟩ | (refine ⟨?_, below_drewN (Below.refl _ _) _⟩; simp; omega)
      · rw [hs] at hR2
        by_cases hlo : sgn n a + sgn n b < -(pw (n - 1) : Int)
        · have K := Lib.hid (show brF 1 flags n a b = true by rw [K0, hu, hs, hUdef, decide_eq_false hge, hSdef, decide_eq_true (Or.inl hlo)]; simp)
          clear K0 hUdef hSdef
          go_enter Tryd.func24, Tryd.ntmps24
          go_wp2_with (first
            | (go_at_call 51; refine (two_ok 1 n a b _ (by omega) (by omega) h1 h2 ha hb).mono ?_; rintro e w' ⟨rfl, rfl⟩)
            | (go_at_call 52; refine (refdo_some n a b h1 h2 ha hb _ 1 (by omega) (by omega) HH.out).mono ?_; rintro e w' ⟨rfl, m, rfl⟩)
            | (go_at_call 46; ((with_reducible refine (refSign_any n a _ h1 h2 ha).mono ?_); rintro e w' ⟨rfl, rfl⟩))
            | (go_at_call 46; ((with_reducible refine (refSign_any n b _ h1 h2 hb).mono ?_); rintro e w' ⟨rfl, rfl⟩))
            | (go_at_call 43; ((with_reducible refine (size_any n _ h2).mono ?_); rintro e w' ⟨rfl, rfl⟩))
            | (go_at_call 43; rw [H1.out]; refine (size_any (n - 1) _ (by omega)).mono ?_; rintro e w' ⟨rfl, rfl⟩))
          go_ret2
          rw [K.out]
          first | exact ⟨rfl, below_drewN (Below.refl _ _) _⟩ | (refine ⟨?_, below_drewN (Below.refl _ _) _⟩; simp; omega)
        · by_cases hhi : (pw (n - 1) : Int) - 1 < sgn n a + sgn n b
          · have K := Lib.hid (show brF 1 flags n a b = true by rw [K0, hu, hs, hUdef, decide_eq_false hge, hSdef, decide_eq_true (Or.inr hhi)]; simp)
            clear K0 hUdef hSdef
            go_enter Tryd.func24, Tryd.ntmps24
            go_wp2_with (first
              | (go_at_call 51; refine (two_ok 1 n a b _ (by omega) (by omega) h1 h2 ha hb).mono ?_; rintro e w' ⟨rfl, rfl⟩)
              | (go_at_call 52; refine (refdo_some n a b h1 h2 ha hb _ 1 (by omega) (by omega) HH.out).mono ?_; rintro e w' ⟨rfl, m, rfl⟩)
              | (go_at_call 46; ((with_reducible refine (refSign_any n a _ h1 h2 ha).mono ?_); rintro e w' ⟨rfl, rfl⟩))
              | (go_at_call 46; ((with_reducible refine (refSign_any n b _ h1 h2 hb).mono ?_); rintro e w' ⟨rfl, rfl⟩))
              | (go_at_call 43; ((with_reducible refine (size_any n _ h2).mono ?_); rintro e w' ⟨rfl, rfl⟩))
              | (go_at_call 43; rw [H1.out]; refine (size_any (n - 1) _ (by omega)).mono ?_; rintro e w' ⟨rfl, rfl⟩))
            go_ret2
            rw [K.out]
            first | exact ⟨rfl, below_drewN (Below.refl _ _) _⟩ | (refine ⟨?_, below_drewN (Below.refl _ _) _⟩; simp; omega)
          · have K := Lib.hid (show brF 1 flags n a b = false by rw [K0, hu, hs, hUdef, decide_eq_false hge, hSdef, decide_eq_false (fun h => h.elim hlo hhi)]; simp)
            clear K0 hUdef hSdef
            go_enter Tryd.func24, Tryd.ntmps24
            go_wp2_with (first
              | (go_at_call 51; refine (two_ok 1 n a b _ (by omega) (by omega) h1 h2 ha hb).mono ?_; rintro e w' ⟨rfl, rfl⟩)
              | (go_at_call 52; refine (refdo_some n a b h1 h2 ha hb _ 1 (by omega) (by omega) HH.out).mono ?_; rintro e w' ⟨rfl, m, rfl⟩)
              | (go_at_call 46; ((with_reducible refine (refSign_any n a _ h1 h2 ha).mono ?_); rintro e w' ⟨rfl, rfl⟩))
              | (go_at_call 46; ((with_reducible refine (refSign_any n b _ h1 h2 hb).mono ?_); rintro e w' ⟨rfl, rfl⟩))
              | (go_at_call 43; ((with_reducible refine (size_any n _ h2).mono ?_); rintro e w' ⟨rfl, rfl⟩))
              | (go_at_call 43; rw [H1.out]; refine (size_any (n - 1) _ (by omega)).mono ?_; rintro e w' ⟨rfl, rfl⟩))
            go_ret2
            rw [K.out]
            first | exact ⟨rfl, below_drewN (Below.refl _ _) _⟩ | (refine ⟨?_, below_drewN (Below.refl _ _) _⟩; simp; omega)
set_option maxHeartbeats 8000000 in
set_option maxRecDepth 100000 in
theorem refBreaks_2 (flags n a b : Nat) (w : World) (hf : flags < 8) (h1 : 1 ≤ n) (h2 : n ≤ 32) (ha : a < pw n) (hb : b < pw n) :
    Calls Tryd.prog 24 #[.int .i64 2, .int .i64 flags, .int .i64 n, .int .u32 a, .int .u32 b] w fun e w' => e = .returned (.tuple #[.bool (brF 2 flags n a b), .int .i64 0]) ∧ Below w.heap.size w w' := by
  have hp := pw_le h2
  have hq := pw_le (n := n - 1) (by omega)
  have hR1 := rflag1 hf
  have hR2 := rflag2 hf
  have hR4 := rflag4 hf
  obtain ⟨s1, s2, s3⟩ := sgn_bounds h1 h2 ha
  obtain ⟨t1, t2, t3⟩ := sgn_bounds h1 h2 hb
  have e1 : (n : Int) - 1 = ((n - 1 : Nat) : Int) := by omega
  have H1 := Lib.hid e1
  clear e1
  have HH := Lib.hid (show hasF 2 n a b = true by simp [hasF])
  have K0 : brF 2 flags n a b = ((fB 1 flags && uB 2 n a b) || (fB 2 flags && sB 2 n a b)) := by simp [brF, eB]
  have hUdef : uB 2 n a b = decide (a < b) := by rfl
  have hSdef : sB 2 n a b = decide (sgn n a - sgn n b < -(pw (n - 1) : Int) ∨ (pw (n - 1) : Int) - 1 < sgn n a - sgn n b) := by rfl
  cases hu : fB 1 flags
  · rw [hu] at hR1
    cases hs : fB 2 flags
    · rw [hs] at hR2
      have K := Lib.hid (show brF 2 flags n a b = false by rw [K0, hu, hs]; simp)
      clear K0 hUdef hSdef
      go_enter Tryd.func24, Tryd.ntmps24
      go_wp2_with (first
        | (go_at_call 51; refine (two_ok 2 n a b _ (by omega) (by omega) h1 h2 ha hb).mono ?_; rintro e w' ⟨rfl, rfl⟩)
        | (go_at_call 52; refine (refdo_some n a b h1 h2 ha hb _ 2 (by omega) (by omega) HH.out).mono ?_; rintro e w' ⟨rfl, m, rfl⟩)
        | (go_at_call 46; ((with_reducible refine (refSign_any n a _ h1 h2 ha).mono ?_); rintro e w' ⟨rfl, rfl⟩))
        | (go_at_call 46; ((with_reducible refine (refSign_any n b _ h1 h2 hb).mono ?_); rintro e w' ⟨rfl, rfl⟩))
        | (go_at_call 43; ((with_reducible refine (size_any n _ h2).mono ?_); rintro e w' ⟨rfl, rfl⟩))
        | (go_at_call 43; rw [H1.out]; refine (size_any (n - 1) _ (by omega)).mono ?_; rintro e w' ⟨rfl, rfl⟩))
      go_ret2
      rw [K.out]
      first | exact ⟨rfl, below_drewN (Below.refl _ _) _⟩ | (refine ⟨?_, below_drewN (Below.refl _ _) _⟩; simp; omega)
    · rw [hs] at hR2
      by_cases hlo : sgn n a - sgn n b < -(pw (n - 1) : Int)
      · have K := Lib.hid (show brF 2 flags n a b = true by rw [K0, hu, hs, hSdef, decide_eq_true (Or.inl hlo)]; simp)
        clear K0 hUdef hSdef
        go_enter Tryd.func24, Tryd.ntmps24
        go_wp2_with (first
          | (go_at_call 51; refine (two_ok 2 n a b _ (by omega) (by omega) h1 h2 ha hb).mono ?_; rintro e w' ⟨rfl, rfl⟩)
          | (go_at_call 52; refine (refdo_some n a b h1 h2 ha hb _ 2 (by omega) (by omega) HH.out).mono ?_; rintro e w' ⟨rfl, m, rfl⟩)
          | (go_at_call 46; ((with_reducible refine (refSign_any n a _ h1 h2 ha).mono ?_); rintro e w' ⟨rfl, rfl⟩))
          | (go_at_call 46; ((with_reducible refine (refSign_any n b _ h1 h2 hb).mono ?_); rintro e w' ⟨rfl, rfl⟩))
          | (go_at_call 43; ((with_reducible refine (size_any n _ h2).mono ?_); rintro e w' ⟨rfl, rfl⟩))
          | (go_at_call 43; rw [H1.out]; refine (size_any (n - 1) _ (by omega)).mono ?_; rintro e w' ⟨rfl, rfl⟩))
        go_ret2
        rw [K.out]
        first | exact ⟨rfl, below_drewN (Below.refl _ _) _⟩ | (refine ⟨?_, below_drewN (Below.refl _ _) _⟩; simp; omega)
      · by_cases hhi : (pw (n - 1) : Int) - 1 < sgn n a - sgn n b
        · have K := Lib.hid (show brF 2 flags n a b = true by rw [K0, hu, hs, hSdef, decide_eq_true (Or.inr hhi)]; simp)
          clear K0 hUdef hSdef
          go_enter Tryd.func24, Tryd.ntmps24
          go_wp2_with (first
            | (go_at_call 51; refine (two_ok 2 n a b _ (by omega) (by omega) h1 h2 ha hb).mono ?_; rintro e w' ⟨rfl, rfl⟩)
            | (go_at_call 52; refine (refdo_some n a b h1 h2 ha hb _ 2 (by omega) (by omega) HH.out).mono ?_; rintro e w' ⟨rfl, m, rfl⟩)
            | (go_at_call 46; ((with_reducible refine (refSign_any n a _ h1 h2 ha).mono ?_); rintro e w' ⟨rfl, rfl⟩))
            | (go_at_call 46; ((with_reducible refine (refSign_any n b _ h1 h2 hb).mono ?_); rintro e w' ⟨rfl, rfl⟩))
            | (go_at_call 43; ((with_reducible refine (size_any n _ h2).mono ?_); rintro e w' ⟨rfl, rfl⟩))
            | (go_at_call 43; rw [H1.out]; refine (size_any (n - 1) _ (by omega)).mono ?_; rintro e w' ⟨rfl, rfl⟩))
          go_ret2
          rw [K.out]
          first | exact ⟨rfl, below_drewN (Below.refl _ _) _⟩ | (refine ⟨?_, below_drewN (Below.refl _ _) _⟩; simp; omega)
        · have K := Lib.hid (show brF 2 flags n a b = false by rw [K0, hu, hs, hSdef, decide_eq_false (fun h => h.elim hlo hhi)]; simp)
          clear K0 hUdef hSdef
          go_enter Tryd.func24, Tryd.ntmps24
          go_wp2_with (first
            | (go_at_call 51; refine (two_ok 2 n a b _ (by omega) (by omega) h1 h2 ha hb).mono ?_; rintro e w' ⟨rfl, rfl⟩)
            | (go_at_call 52; refine (refdo_some n a b h1 h2 ha hb _ 2 (by omega) (by omega) HH.out).mono ?_; rintro e w' ⟨rfl, m, rfl⟩)
            | (go_at_call 46; ((with_reducible refine (refSign_any n a _ h1 h2 ha).mono ?_); rintro e w' ⟨rfl, rfl⟩))
            | (go_at_call 46; ((with_reducible refine (refSign_any n b _ h1 h2 hb).mono ?_); rintro e w' ⟨rfl, rfl⟩))
            | (go_at_call 43; ((with_reducible refine (size_any n _ h2).mono ?_); rintro e w' ⟨rfl, rfl⟩))
            | (go_at_call 43; rw [H1.out]; refine (size_any (n - 1) _ (by omega)).mono ?_; rintro e w' ⟨rfl, rfl⟩))
          go_ret2
          rw [K.out]
          first | exact ⟨rfl, below_drewN (Below.refl _ _) _⟩ | (refine ⟨?_, below_drewN (Below.refl _ _) _⟩; simp; omega)
  · rw [hu] at hR1
    by_cases hge : a < b
    · have K := Lib.hid (show brF 2 flags n a b = true by rw [K0, hu, hUdef, decide_eq_true hge]; simp)
      clear K0 hUdef hSdef
      go_enter Tryd.func24, Tryd.ntmps24
      go_wp2_with (first
        | (go_at_call 51; refine (two_ok 2 n a b _ (by omega) (by omega) h1 h2 ha hb).mono ?_; rintro e w' ⟨rfl, rfl⟩)
        | (go_at_call 52; refine (refdo_some n a b h1 h2 ha hb _ 2 (by omega) (by omega) HH.out).mono ?_; rintro e w' ⟨rfl, m, rfl⟩)
        | (go_at_call 46; ((with_reducible refine (refSign_any n a _ h1 h2 ha).mono ?_); rintro e w' ⟨rfl, rfl⟩))
        | (go_at_call 46; ((with_reducible refine (refSign_any n b _ h1 h2 hb).mono ?_); rintro e w' ⟨rfl, rfl⟩))
        | (go_at_call 43; ((with_reducible refine (size_any n _ h2).mono ?_); rintro e w' ⟨rfl, rfl⟩))
        | (go_at_call 43; rw [H1.out]; refine (size_any (n - 1) _ (by omega)).mono ?_; rintro e w' ⟨rfl, rfl⟩))
      go_ret2
      rw [K.out]
      first | exact ⟨rfl, below_drewN (Below.refl _ _) _⟩ | (refine ⟨?_, below_drewN (Below.refl _ _) _⟩; simp; omega)
    · cases hs : fB 2 flags
      · rw [hs] at hR2
        have K := Lib.hid (show brF 2 flags n a b = false by rw [K0, hu, hs, hUdef, decide_eq_false hge]; simp)
        clear K0 hUdef hSdef
        go_enter Tryd.func24, Tryd.ntmps24
        go_wp2_with (first
          | (go_at_call 51; refine (two_ok 2 n a b _ (by omega) (by omega) h1 h2 ha hb).mono ?_; rintro e w' ⟨rfl, rfl⟩)
          | (go_at_call 52; refine (refdo_some n a b h1 h2 ha hb _ 2 (by omega) (by omega) HH.out).mono ?_; rintro e w' ⟨rfl, m, rfl⟩)
          | (go_at_call 46; ((with_reducible refine (refSign_any n a _ h1 h2 ha).mono ?_); rintro e w' ⟨rfl, rfl⟩))
          | (go_at_call 46; ((with_reducible refine (refSign_any n b _ h1 h2 hb).mono ?_); rintro e w' ⟨rfl, rfl⟩))
          | (go_at_call 43; ((with_reducible refine (size_any n _ h2).mono ?_); rintro e w' ⟨rfl, rfl⟩))
          | (go_at_call 43; rw [H1.out]; refine (size_any (n - 1) _ (by omega)).mono ?_; rintro e w' ⟨rfl, rfl⟩))
        go_ret2
        rw [K.out]
        first | exact ⟨rfl, below_drewN (Below.refl _ _) _⟩ | (refine ⟨?_, below_drewN (Below.refl _ _) _⟩; simp; omega)
      · rw [hs] at hR2
        by_cases hlo : sgn n a - sgn n b < -(pw (n - 1) : Int)
        · have K := Lib.hid (show brF 2 flags n a b = true by rw [K0, hu, hs, hUdef, decide_eq_false hge, hSdef, decide_eq_true (Or.inl hlo)]; simp)
          clear K0 hUdef hSdef
          go_enter Tryd.func24, Tryd.ntmps24
          go_wp2_with (first
            | (go_at_call 51; refine (two_ok 2 n a b _ (by omega) (by omega) h1 h2 ha hb).mono ?_; rintro e w' ⟨rfl, rfl⟩)
            | (go_at_call 52; refine (refdo_some n a b h1 h2 ha hb _ 2 (by omega) (by omega) HH.out).mono ?_; rintro e w' ⟨rfl, m, rfl⟩)
            | (go_at_call 46; ((with_reducible refine (refSign_any n a _ h1 h2 ha).mono ?_); rintro e w' ⟨rfl, rfl⟩))
            | (go_at_call 46; ((with_reducible refine (refSign_any n b _ h1 h2 hb).mono ?_); rintro e w' ⟨rfl, rfl⟩))
            | (go_at_call 43; ((with_reducible refine (size_any n _ h2).mono ?_); rintro e w' ⟨rfl, rfl⟩))
            | (go_at_call 43; rw [H1.out]; refine (size_any (n - 1) _ (by omega)).mono ?_; rintro e w' ⟨rfl, rfl⟩))
          go_ret2
          rw [K.out]
          first | exact ⟨rfl, below_drewN (Below.refl _ _) _⟩ | (refine ⟨?_, below_drewN (Below.refl _ _) _⟩; simp; omega)
        · by_cases hhi : (pw (n - 1) : Int) - 1 < sgn n a - sgn n b
          · have K := Lib.hid (show brF 2 flags n a b = true by rw [K0, hu, hs, hUdef, decide_eq_false hge, hSdef, decide_eq_true (Or.inr hhi)]; simp)
            clear K0 hUdef hSdef
            go_enter Tryd.func24, Tryd.ntmps24
            go_wp2_with (first
              | (go_at_call 51; refine (two_ok 2 n a b _ (by omega) (by omega) h1 h2 ha hb).mono ?_; rintro e w' ⟨rfl, rfl⟩)
              | (go_at_call 52; refine (refdo_some n a b h1 h2 ha hb _ 2 (by omega) (by omega) HH.out).mono ?_; rintro e w' ⟨rfl, m, rfl⟩)
              | (go_at_call 46; ((with_reducible refine (refSign_any n a _ h1 h2 ha).mono ?_); rintro e w' ⟨rfl, rfl⟩))
              | (go_at_call 46; ((with_reducible refine (refSign_any n b _ h1 h2 hb).mono ?_); rintro e w' ⟨rfl, rfl⟩))
              | (go_at_call 43; ((with_reducible refine (size_any n _ h2).mono ?_); rintro e w' ⟨rfl, rfl⟩))
              | (go_at_call 43; rw [H1.out]; refine (size_any (n - 1) _ (by omega)).mono ?_; rintro e w' ⟨rfl, rfl⟩))
            go_ret2
            rw [K.out]
            first | exact ⟨rfl, below_drewN (Below.refl _ _) _⟩ | (refine ⟨?_, below_drewN (Below.refl _ _) _⟩; simp; omega)
          · have K := Lib.hid (show brF 2 flags n a b = false by rw [K0, hu, hs, hUdef, decide_eq_false hge, hSdef, decide_eq_false (fun h => h.elim hlo hhi)]; simp)
            clear K0 hUdef hSdef
            go_enter Tryd.func24, Tryd.ntmps24
            go_wp2_with (first
              | (go_at_call 51; refine (two_ok 2 n a b _ (by omega) (by omega) h1 h2 ha hb).mono ?_; rintro e w' ⟨rfl, rfl⟩)
              | (go_at_call 52; refine (refdo_some n a b h1 h2 ha hb _ 2 (by omega) (by omega) HH.out).mono ?_; rintro e w' ⟨rfl, m, rfl⟩)
              | (go_at_call 46; ((with_reducible refine (refSign_any n a _ h1 h2 ha).mono ?_); rintro e w' ⟨rfl, rfl⟩))
              | (go_at_call 46; ((with_reducible refine (refSign_any n b _ h1 h2 hb).mono ?_); rintro e w' ⟨rfl, rfl⟩))
              | (go_at_call 43; ((with_reducible refine (size_any n _ h2).mono ?_); rintro e w' ⟨rfl, rfl⟩))
              | (go_at_call 43; rw [H1.out]; refine (size_any (n - 1) _ (by omega)).mono ?_; rintro e w' ⟨rfl, rfl⟩))
            go_ret2
            rw [K.out]
            first | exact ⟨rfl, below_drewN (Below.refl _ _) _⟩ | (refine ⟨?_, below_drewN (Below.refl _ _) _⟩; simp; omega)
end Go.Proofs.YtgepmfnjldfnhaaDoor
