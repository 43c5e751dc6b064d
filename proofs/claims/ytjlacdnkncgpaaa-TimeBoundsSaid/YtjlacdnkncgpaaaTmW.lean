/-
  The mathematics of Bound: the sums along instructions that read what the one before wrote.
-/
import Derived.Test.YtjlacdnkncgpaaaTmK
namespace Go.Proofs.Ytjlacdnkncgpaaa
open Go.RowKit

/-- The sum that the last writer of a register has, behind the first instructions. -/
def wrt (zs : List Cod) (out : List Int) : Nat → Int → Int
  | 0, _ => 0
  | i + 1, r => if wrF zs[i]! = r then out[i]! else wrt zs out i r
def sumF (zs : List Cod) (out : List Int) (i : Nat) : Int := mxF 0 (wrt zs out i) (rdF zs[i]!) + latF zs[i]!.op
/-- The sums of the first instructions. -/
def sumL (zs : List Cod) : Nat → List Int
  | 0 => []
  | i + 1 => sumL zs i ++ [sumF zs (sumL zs i) i]
/-- The greatest of the first sums. -/
def mstF (zs : List Cod) : Nat → Int
  | 0 => 0
  | i + 1 => max (mstF zs i) (sumF zs (sumL zs i) i)
/-- What Bound answers. -/
def resB (zs : List Cod) : Int := if valF zs = 0 then mstF zs zs.length else 0
theorem sumL_len (zs : List Cod) : ∀ i, (sumL zs i).length = i
  | 0 => rfl
  | i + 1 => by rw [sumL, List.length_append, sumL_len zs i]; rfl
theorem wrt_app (zs : List Cod) {out : List Int} {y : Int} : ∀ i, i ≤ out.length → ∀ r, wrt zs (out ++ [y]) i r = wrt zs out i r
  | 0, _, _ => rfl
  | i + 1, h, r => by
    unfold wrt
    rw [get_app (by omega), wrt_app zs i (by omega)]
theorem sum_bound (zs : List Cod) : ∀ i, (∀ j, j < i → 0 ≤ (sumL zs i)[j]! ∧ (sumL zs i)[j]! ≤ 12 * (j + 1)) ∧ (∀ r, 0 ≤ wrt zs (sumL zs i) i r ∧ wrt zs (sumL zs i) i r ≤ 12 * i) ∧ 0 ≤ sumF zs (sumL zs i) i ∧ sumF zs (sumL zs i) i ≤ 12 * (i + 1)
  | 0 => by
    have hlat := lat_pos zs[0]!.op
    refine ⟨fun j hj => absurd hj (by omega), fun r => by simp [wrt], ?_, ?_⟩
    · obtain ⟨m1, -, m3⟩ := mx_spec (wrt zs (sumL zs 0) 0) (rdF zs[0]!) 0
      unfold sumF
      omega
    · obtain ⟨m1, -, m3⟩ := mx_spec (wrt zs (sumL zs 0) 0) (rdF zs[0]!) 0
      have : mxF 0 (wrt zs (sumL zs 0) 0) (rdF zs[0]!) = 0 := by
        rcases m3 with m3 | ⟨r, -, m3⟩
        · exact m3
        · rw [m3]; rfl
      unfold sumF
      omega
  | i + 1 => by
    obtain ⟨h1, h2, h3, h4⟩ := sum_bound zs i
    have hl := sumL_len zs i
    have e : sumL zs (i + 1) = sumL zs i ++ [sumF zs (sumL zs i) i] := rfl
    have hend : (sumL zs (i + 1))[i]! = sumF zs (sumL zs i) i := by
      rw [e]
      have := get_end (sumL zs i) (sumF zs (sumL zs i) i)
      rwa [hl] at this
    have hw : ∀ r, 0 ≤ wrt zs (sumL zs (i + 1)) (i + 1) r ∧ wrt zs (sumL zs (i + 1)) (i + 1) r ≤ 12 * (i + 1) := fun r => by
      unfold wrt
      split
      · rw [hend]; omega
      · rw [e, wrt_app zs i (by omega)]
        have := h2 r
        omega
    have hlat := lat_pos zs[i + 1]!.op
    obtain ⟨m1, -, m3⟩ := mx_spec (wrt zs (sumL zs (i + 1)) (i + 1)) (rdF zs[i + 1]!) 0
    have hm : mxF 0 (wrt zs (sumL zs (i + 1)) (i + 1)) (rdF zs[i + 1]!) ≤ 12 * (i + 1) := by
      rcases m3 with m3 | ⟨r, -, m3⟩
      · omega
      · rw [m3]; exact (hw r).2
    refine ⟨fun j hj => ?_, fun r => by have := hw r; omega, ?_, ?_⟩
    · by_cases hji : j = i
      · rw [hji, hend]; omega
      · rw [e, get_app (by omega)]
        exact h1 j (by omega)
    · unfold sumF; omega
    · unfold sumF; omega
theorem wrt_succ (zs : List Cod) (i : Nat) (r : Int) : wrt zs (sumL zs (i + 1)) (i + 1) r = if wrF zs[i]! = r then sumF zs (sumL zs i) i else wrt zs (sumL zs i) i r := by
  have e : sumL zs (i + 1) = sumL zs i ++ [sumF zs (sumL zs i) i] := rfl
  have hend := get_end (sumL zs i) (sumF zs (sumL zs i) i)
  rw [sumL_len] at hend
  show (if wrF zs[i]! = r then (sumL zs (i + 1))[i]! else wrt zs (sumL zs (i + 1)) i r) = _
  rw [e, hend, wrt_app zs i (by rw [sumL_len]; exact Nat.le_refl _)]
end Go.Proofs.Ytjlacdnkncgpaaa
