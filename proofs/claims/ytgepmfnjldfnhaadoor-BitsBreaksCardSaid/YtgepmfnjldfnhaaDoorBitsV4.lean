/-
  Breaks of the reference at shifts to the left.
-/
import Derived.Test.YtgepmfnjldfnhaaDoorBitsV1
namespace Go.Proofs.YtgepmfnjldfnhaaDoor
open Go.RowKit

theorem shl_sgn2 {y : Int} {b : Nat} (hy : -2147483648 ≤ y ∧ y ≤ 2147483647) (hb : b < 32) : -4611686018427387904 ≤ y * (pw b : Int) ∧ y * (pw b : Int) ≤ 4611686018427387904 := by
  have h := shl_sgn hy hb
  have e : y * (2 : Int) ^ b = y * (pw b : Int) := by simp [pw]
  rwa [e] at h
set_option maxHeartbeats 8000000 in
set_option maxRecDepth 100000 in
theorem refBreaks_11 (flags n a b : Nat) (w : World) (hf : flags < 8) (h1 : 1 ≤ n) (h2 : n ≤ 32) (ha : a < pw n) (hb : b < pw n) (hbn : b < n) :
    Calls Tryd.prog 24 #[.int .i64 11, .int .i64 flags, .int .i64 n, .int .u32 a, .int .u32 b] w fun e w' => e = .returned (.tuple #[.bool (brF 11 flags n a b), .int .i64 0]) ∧ Below w.heap.size w w' := by
  have hp := pw_le h2
  have hq := pw_le (n := n - 1) (by omega)
  have hR1 := rflag1 hf
  have hR2 := rflag2 hf
  have hR4 := rflag4 hf
  obtain ⟨s1, s2, s3⟩ := sgn_bounds h1 h2 ha
  obtain ⟨t1, t2, t3⟩ := sgn_bounds h1 h2 hb
  have e1 : (n : Int) - 1 = ((n - 1 : Nat) : Int) := by omega
  have H1 := Lib.hid e1
  clear e1
  have HH := Lib.hid (show hasF 11 n a b = true by simpa [hasF] using hbn)
  obtain ⟨m1, m2⟩ := shl_sgn2 (y := sgn n a) (b := b) (by omega) (by omega)
  have hpb : pw b ≤ pw 31 := pw_mono (by omega)
  have hpb2 : pw 31 = 2147483648 := by decide
  have hpb3 : pw b ≤ 2147483648 := by omega
  clear hpb hpb2
  have hl : (pw n : Int) - 1 = ((pw n - 1 : Nat) : Int) := by omega
  have HL := Lib.hid hl
  clear hl
  have K0 : brF 11 flags n a b = ((fB 1 flags && uB 11 n a b) || (fB 2 flags && sB 11 n a b)) := by simp [brF, eB]
  have hUdef : uB 11 n a b = decide (pw n - 1 < a * pw b) := by (show decide ((a : Int) * pw b < 0 ∨ (pw n : Int) - 1 < (a : Int) * pw b) = _); rw [Bool.eq_iff_iff]; simp only [decide_eq_true_eq]; rw [← Int.natCast_mul]; omega
  have hSdef : sB 11 n a b = decide (sgn n a * (pw b : Int) < -(pw (n - 1) : Int) ∨ (pw (n - 1) : Int) - 1 < sgn n a * (pw b : Int)) := by rfl
  cases hu : fB 1 flags
  · rw [hu] at hR1
    cases hs : fB 2 flags
    · rw [hs] at hR2
      have K := Lib.hid (show brF 11 flags n a b = false by rw [K0, hu, hs]; simp)
      clear K0 hUdef hSdef
      go_enter Tryd.func24, Tryd.ntmps24
      go_wp2_with (first
        | (go_at_call 51; refine (two_ok 11 n a b _ (by omega) (by omega) h1 h2 ha hb).mono ?_; rintro e w' ⟨rfl, rfl⟩)
        | (go_at_call 52; refine (refdo_some n a b h1 h2 ha hb _ 11 (by omega) (by omega) HH.out).mono ?_; rintro e w' ⟨rfl, m, rfl⟩)
        | (go_at_call 46; ((with_reducible refine (refSign_any n a _ h1 h2 ha).mono ?_); rintro e w' ⟨rfl, rfl⟩))
        | (go_at_call 46; ((with_reducible refine (refSign_any n b _ h1 h2 hb).mono ?_); rintro e w' ⟨rfl, rfl⟩))
        | (go_at_call 43; ((with_reducible refine (size_any n _ h2).mono ?_); rintro e w' ⟨rfl, rfl⟩))
        | (go_at_call 43; ((with_reducible refine (size_any b _ (by omega)).mono ?_); rintro e w' ⟨rfl, rfl⟩))
        | (go_at_call 43; rw [H1.out]; refine (size_any (n - 1) _ (by omega)).mono ?_; rintro e w' ⟨rfl, rfl⟩)
        | (go_at_call 53; rw [HL.out]; refine (beyond_any a (pw b) (pw n - 1) _ (by omega) (by omega)).mono ?_; rw [BY.out]; rintro e w' ⟨rfl, rfl⟩))
      go_ret2
      rw [K.out]
      first | exact ⟨rfl, below_drewN (Below.refl _ _) _⟩ | (refine ⟨?_, below_drewN (Below.refl _ _) _⟩; simp; omega)
    · rw [hs] at hR2
      by_cases hlo : sgn n a * (pw b : Int) < -(pw (n - 1) : Int)
      · have K := Lib.hid (show brF 11 flags n a b = true by rw [K0, hu, hs, hSdef, decide_eq_true (Or.inl hlo)]; simp)
        clear K0 hUdef hSdef
        go_enter Tryd.func24, Tryd.ntmps24
        go_wp2_with (first
          | (go_at_call 51; refine (two_ok 11 n a b _ (by omega) (by omega) h1 h2 ha hb).mono ?_; rintro e w' ⟨rfl, rfl⟩)
          | (go_at_call 52; refine (refdo_some n a b h1 h2 ha hb _ 11 (by omega) (by omega) HH.out).mono ?_; rintro e w' ⟨rfl, m, rfl⟩)
          | (go_at_call 46; ((with_reducible refine (refSign_any n a _ h1 h2 ha).mono ?_); rintro e w' ⟨rfl, rfl⟩))
          | (go_at_call 46; ((with_reducible refine (refSign_any n b _ h1 h2 hb).mono ?_); rintro e w' ⟨rfl, rfl⟩))
          | (go_at_call 43; ((with_reducible refine (size_any n _ h2).mono ?_); rintro e w' ⟨rfl, rfl⟩))
          | (go_at_call 43; ((with_reducible refine (size_any b _ (by omega)).mono ?_); rintro e w' ⟨rfl, rfl⟩))
          | (go_at_call 43; rw [H1.out]; refine (size_any (n - 1) _ (by omega)).mono ?_; rintro e w' ⟨rfl, rfl⟩)
          | (go_at_call 53; rw [HL.out]; refine (beyond_any a (pw b) (pw n - 1) _ (by omega) (by omega)).mono ?_; rw [BY.out]; rintro e w' ⟨rfl, rfl⟩))
        go_ret2
        rw [K.out]
        first | exact ⟨rfl, below_drewN (Below.refl _ _) _⟩ | (refine ⟨?_, below_drewN (Below.refl _ _) _⟩; simp; omega)
      · by_cases hhi : (pw (n - 1) : Int) - 1 < sgn n a * (pw b : Int)
        · have K := Lib.hid (show brF 11 flags n a b = true by rw [K0, hu, hs, hSdef, decide_eq_true (Or.inr hhi)]; simp)
          clear K0 hUdef hSdef
          go_enter Tryd.func24, Tryd.ntmps24
          go_wp2_with (first
            | (go_at_call 51; refine (two_ok 11 n a b _ (by omega) (by omega) h1 h2 ha hb).mono ?_; rintro e w' ⟨rfl, rfl⟩)
            | (go_at_call 52; refine (refdo_some n a b h1 h2 ha hb _ 11 (by omega) (by omega) HH.out).mono ?_; rintro e w' ⟨rfl, m, rfl⟩)
            | (go_at_call 46; ((with_reducible refine (refSign_any n a _ h1 h2 ha).mono ?_); rintro e w' ⟨rfl, rfl⟩))
            | (go_at_call 46; ((with_reducible refine (refSign_any n b _ h1 h2 hb).mono ?_); rintro e w' ⟨rfl, rfl⟩))
            | (go_at_call 43; ((with_reducible refine (size_any n _ h2).mono ?_); rintro e w' ⟨rfl, rfl⟩))
            | (go_at_call 43; ((with_reducible refine (size_any b _ (by omega)).mono ?_); rintro e w' ⟨rfl, rfl⟩))
            | (go_at_call 43; rw [H1.out]; refine (size_any (n - 1) _ (by omega)).mono ?_; rintro e w' ⟨rfl, rfl⟩)
            | (go_at_call 53; rw [HL.out]; refine (beyond_any a (pw b) (pw n - 1) _ (by omega) (by omega)).mono ?_; rw [BY.out]; rintro e w' ⟨rfl, rfl⟩))
          go_ret2
          rw [K.out]
          first | exact ⟨rfl, below_drewN (Below.refl _ _) _⟩ | (refine ⟨?_, below_drewN (Below.refl _ _) _⟩; simp; omega)
        · have K := Lib.hid (show brF 11 flags n a b = false by rw [K0, hu, hs, hSdef, decide_eq_false (fun h => h.elim hlo hhi)]; simp)
          clear K0 hUdef hSdef
          go_enter Tryd.func24, Tryd.ntmps24
          go_wp2_with (first
            | (go_at_call 51; refine (two_ok 11 n a b _ (by omega) (by omega) h1 h2 ha hb).mono ?_; rintro e w' ⟨rfl, rfl⟩)
            | (go_at_call 52; refine (refdo_some n a b h1 h2 ha hb _ 11 (by omega) (by omega) HH.out).mono ?_; rintro e w' ⟨rfl, m, rfl⟩)
            | (go_at_call 46; ((with_reducible refine (refSign_any n a _ h1 h2 ha).mono ?_); rintro e w' ⟨rfl, rfl⟩))
            | (go_at_call 46; ((with_reducible refine (refSign_any n b _ h1 h2 hb).mono ?_); rintro e w' ⟨rfl, rfl⟩))
            | (go_at_call 43; ((with_reducible refine (size_any n _ h2).mono ?_); rintro e w' ⟨rfl, rfl⟩))
            | (go_at_call 43; ((with_reducible refine (size_any b _ (by omega)).mono ?_); rintro e w' ⟨rfl, rfl⟩))
            | (go_at_call 43; rw [H1.out]; refine (size_any (n - 1) _ (by omega)).mono ?_; rintro e w' ⟨rfl, rfl⟩)
            | (go_at_call 53; rw [HL.out]; refine (beyond_any a (pw b) (pw n - 1) _ (by omega) (by omega)).mono ?_; rw [BY.out]; rintro e w' ⟨rfl, rfl⟩))
          go_ret2
          rw [K.out]
          first | exact ⟨rfl, below_drewN (Below.refl _ _) _⟩ | (refine ⟨?_, below_drewN (Below.refl _ _) _⟩; simp; omega)
  · rw [hu] at hR1
    by_cases hge : pw n - 1 < a * pw b
    · have BY := Lib.hid (decide_eq_true hge)
      have K := Lib.hid (show brF 11 flags n a b = true by rw [K0, hu, hUdef, decide_eq_true hge]; simp)
      clear K0 hUdef hSdef
      go_enter Tryd.func24, Tryd.ntmps24
      go_wp2_with (first
        | (go_at_call 51; refine (two_ok 11 n a b _ (by omega) (by omega) h1 h2 ha hb).mono ?_; rintro e w' ⟨rfl, rfl⟩)
        | (go_at_call 52; refine (refdo_some n a b h1 h2 ha hb _ 11 (by omega) (by omega) HH.out).mono ?_; rintro e w' ⟨rfl, m, rfl⟩)
        | (go_at_call 46; ((with_reducible refine (refSign_any n a _ h1 h2 ha).mono ?_); rintro e w' ⟨rfl, rfl⟩))
        | (go_at_call 46; ((with_reducible refine (refSign_any n b _ h1 h2 hb).mono ?_); rintro e w' ⟨rfl, rfl⟩))
        | (go_at_call 43; ((with_reducible refine (size_any n _ h2).mono ?_); rintro e w' ⟨rfl, rfl⟩))
        | (go_at_call 43; ((with_reducible refine (size_any b _ (by omega)).mono ?_); rintro e w' ⟨rfl, rfl⟩))
        | (go_at_call 43; rw [H1.out]; refine (size_any (n - 1) _ (by omega)).mono ?_; rintro e w' ⟨rfl, rfl⟩)
        | (go_at_call 53; rw [HL.out]; refine (beyond_any a (pw b) (pw n - 1) _ (by omega) (by omega)).mono ?_; rw [BY.out]; rintro e w' ⟨rfl, rfl⟩))
      go_ret2
      rw [K.out]
      first | exact ⟨rfl, below_drewN (Below.refl _ _) _⟩ | (refine ⟨?_, below_drewN (Below.refl _ _) _⟩; simp; omega)
    · have BY := Lib.hid (decide_eq_false hge)
      cases hs : fB 2 flags
      · rw [hs] at hR2
        have K := Lib.hid (show brF 11 flags n a b = false by rw [K0, hu, hs, hUdef, decide_eq_false hge]; simp)
        clear K0 hUdef hSdef
        go_enter Tryd.func24, Tryd.ntmps24
        go_wp2_with (first
          | (go_at_call 51; refine (two_ok 11 n a b _ (by omega) (by omega) h1 h2 ha hb).mono ?_; rintro e w' ⟨rfl, rfl⟩)
          | (go_at_call 52; refine (refdo_some n a b h1 h2 ha hb _ 11 (by omega) (by omega) HH.out).mono ?_; rintro e w' ⟨rfl, m, rfl⟩)
          | (go_at_call 46; ((with_reducible refine (refSign_any n a _ h1 h2 ha).mono ?_); rintro e w' ⟨rfl, rfl⟩))
          | (go_at_call 46; ((with_reducible refine (refSign_any n b _ h1 h2 hb).mono ?_); rintro e w' ⟨rfl, rfl⟩))
          | (go_at_call 43; ((with_reducible refine (size_any n _ h2).mono ?_); rintro e w' ⟨rfl, rfl⟩))
          | (go_at_call 43; ((with_reducible refine (size_any b _ (by omega)).mono ?_); rintro e w' ⟨rfl, rfl⟩))
          | (go_at_call 43; rw [H1.out]; refine (size_any (n - 1) _ (by omega)).mono ?_; rintro e w' ⟨rfl, rfl⟩)
          | (go_at_call 53; rw [HL.out]; refine (beyond_any a (pw b) (pw n - 1) _ (by omega) (by omega)).mono ?_; rw [BY.out]; rintro e w' ⟨rfl, rfl⟩))
        go_ret2
        rw [K.out]
        first | exact ⟨rfl, below_drewN (Below.refl _ _) _⟩ | (refine ⟨?_, below_drewN (Below.refl _ _) _⟩; simp; omega)
      · rw [hs] at hR2
        by_cases hlo : sgn n a * (pw b : Int) < -(pw (n - 1) : Int)
        · have K := Lib.hid (show brF 11 flags n a b = true by rw [K0, hu, hs, hUdef, decide_eq_false hge, hSdef, decide_eq_true (Or.inl hlo)]; simp)
          clear K0 hUdef hSdef
          go_enter Tryd.func24, Tryd.ntmps24
          go_wp2_with (first
            | (go_at_call 51; refine (two_ok 11 n a b _ (by omega) (by omega) h1 h2 ha hb).mono ?_; rintro e w' ⟨rfl, rfl⟩)
            | (go_at_call 52; refine (refdo_some n a b h1 h2 ha hb _ 11 (by omega) (by omega) HH.out).mono ?_; rintro e w' ⟨rfl, m, rfl⟩)
            | (go_at_call 46; ((with_reducible refine (refSign_any n a _ h1 h2 ha).mono ?_); rintro e w' ⟨rfl, rfl⟩))
            | (go_at_call 46; ((with_reducible refine (refSign_any n b _ h1 h2 hb).mono ?_); rintro e w' ⟨rfl, rfl⟩))
            | (go_at_call 43; ((with_reducible refine (size_any n _ h2).mono ?_); rintro e w' ⟨rfl, rfl⟩))
            | (go_at_call 43; ((with_reducible refine (size_any b _ (by omega)).mono ?_); rintro e w' ⟨rfl, rfl⟩))
            | (go_at_call 43; rw [H1.out]; refine (size_any (n - 1) _ (by omega)).mono ?_; rintro e w' ⟨rfl, rfl⟩)
            | (go_at_call 53; rw [HL.out]; refine (beyond_any a (pw b) (pw n - 1) _ (by omega) (by omega)).mono ?_; rw [BY.out]; rintro e w' ⟨rfl, rfl⟩))
          go_ret2
          rw [K.out]
          first | exact ⟨rfl, below_drewN (Below.refl _ _) _⟩ | (refine ⟨?_, below_drewN (Below.refl _ _) _⟩; simp; omega)
        · by_cases hhi : (pw (n - 1) : Int) - 1 < sgn n a * (pw b : Int)
          · have K := Lib.hid (show brF 11 flags n a b = true by rw [K0, hu, hs, hUdef, decide_eq_false hge, hSdef, decide_eq_true (Or.inr hhi)]; simp)
            clear K0 hUdef hSdef
            go_enter Tryd.func24, Tryd.ntmps24
            go_wp2_with (first
              | (go_at_call 51; refine (two_ok 11 n a b _ (by omega) (by omega) h1 h2 ha hb).mono ?_; rintro e w' ⟨rfl, rfl⟩)
              | (go_at_call 52; refine (refdo_some n a b h1 h2 ha hb _ 11 (by omega) (by omega) HH.out).mono ?_; rintro e w' ⟨rfl, m, rfl⟩)
              | (go_at_call 46; ((with_reducible refine (refSign_any n a _ h1 h2 ha).mono ?_); rintro e w' ⟨rfl, rfl⟩))
              | (go_at_call 46; ((with_reducible refine (refSign_any n b _ h1 h2 hb).mono ?_); rintro e w' ⟨rfl, rfl⟩))
              | (go_at_call 43; ((with_reducible refine (size_any n _ h2).mono ?_); rintro e w' ⟨rfl, rfl⟩))
              | (go_at_call 43; ((with_reducible refine (size_any b _ (by omega)).mono ?_); rintro e w' ⟨rfl, rfl⟩))
              | (go_at_call 43; rw [H1.out]; refine (size_any (n - 1) _ (by omega)).mono ?_; rintro e w' ⟨rfl, rfl⟩)
              | (go_at_call 53; rw [HL.out]; refine (beyond_any a (pw b) (pw n - 1) _ (by omega) (by omega)).mono ?_; rw [BY.out]; rintro e w' ⟨rfl, rfl⟩))
            go_ret2
            rw [K.out]
            first | exact ⟨rfl, below_drewN (Below.refl _ _) _⟩ | (refine ⟨?_, below_drewN (Below.refl _ _) _⟩; simp; omega)
          · have K := Lib.hid (show brF 11 flags n a b = false by rw [K0, hu, hs, hUdef, decide_eq_false hge, hSdef, decide_eq_false (fun h => h.elim hlo hhi)]; simp)
            clear K0 hUdef hSdef
            go_enter Tryd.func24, Tryd.ntmps24
            go_wp2_with (first
              | (go_at_call 51; refine (two_ok 11 n a b _ (by omega) (by omega) h1 h2 ha hb).mono ?_; rintro e w' ⟨rfl, rfl⟩)
              | (go_at_call 52; refine (refdo_some n a b h1 h2 ha hb _ 11 (by omega) (by omega) HH.out).mono ?_; rintro e w' ⟨rfl, m, rfl⟩)
              | (go_at_call 46; ((with_reducible refine (refSign_any n a _ h1 h2 ha).mono ?_); rintro e w' ⟨rfl, rfl⟩))
              | (go_at_call 46; ((with_reducible refine (refSign_any n b _ h1 h2 hb).mono ?_); rintro e w' ⟨rfl, rfl⟩))
              | (go_at_call 43; ((with_reducible refine (size_any n _ h2).mono ?_); rintro e w' ⟨rfl, rfl⟩))
              | (go_at_call 43; ((with_reducible refine (size_any b _ (by omega)).mono ?_); rintro e w' ⟨rfl, rfl⟩))
              | (go_at_call 43; rw [H1.out]; refine (size_any (n - 1) _ (by omega)).mono ?_; rintro e w' ⟨rfl, rfl⟩)
              | (go_at_call 53; rw [HL.out]; refine (beyond_any a (pw b) (pw n - 1) _ (by omega) (by omega)).mono ?_; rw [BY.out]; rintro e w' ⟨rfl, rfl⟩))
            go_ret2
            rw [K.out]
            first | exact ⟨rfl, below_drewN (Below.refl _ _) _⟩ | (refine ⟨?_, below_drewN (Below.refl _ _) _⟩; simp; omega)
end Go.Proofs.YtgepmfnjldfnhaaDoor
