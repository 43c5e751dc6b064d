/-
  Where a variable has no place: address by address, and place by place.
-/
import Derived.Test.YtdpfglpefncigaaTrX
import Derived.Test.YtdpfglpefncigaaTrT
namespace Go.Proofs.Ytdpfglpefncigaa

def setEnd (l : List (Int × Int)) (x : Int) : List (Int × Int) := l.dropLast ++ [((l.getLast?.getD (0, 0)).1, x)]
theorem setEnd_snoc (l : List (Int × Int)) (p : Int × Int) (x : Int) : setEnd (l ++ [p]) x = l ++ [(p.1, x)] := by simp [setEnd]
/-- Address by address: the stretches, and whether the last one goes on. -/
def hoF (zs : List Plc) (v f : Int) : Nat → List (Int × Int) × Bool
  | 0 => ([], false)
  | k + 1 => if (fnd zs v (f + (k : Int))).isSome then ((hoF zs v f k).1, false)
    else if (hoF zs v f k).2 then (setEnd (hoF zs v f k).1 (f + (k : Int) + 1), true)
    else ((hoF zs v f k).1 ++ [(f + (k : Int), f + (k : Int) + 1)], true)
theorem ho_yes {zs : List Plc} {v f : Int} {k : Nat} (h : (fnd zs v (f + (k : Int))).isSome = true) : hoF zs v f (k + 1) = ((hoF zs v f k).1, false) := by
  show (if (fnd zs v (f + (k : Int))).isSome then ((hoF zs v f k).1, false) else _) = _
  rw [if_pos h]
theorem ho_on {zs : List Plc} {v f : Int} {k : Nat} (h : (fnd zs v (f + (k : Int))).isSome = false) (ho : (hoF zs v f k).2 = true) : hoF zs v f (k + 1) = (setEnd (hoF zs v f k).1 (f + (k : Int) + 1), true) := by
  show (if (fnd zs v (f + (k : Int))).isSome then _ else if (hoF zs v f k).2 then (setEnd (hoF zs v f k).1 (f + (k : Int) + 1), true) else _) = _
  rw [if_neg (by simp [h]), if_pos ho]
theorem ho_new {zs : List Plc} {v f : Int} {k : Nat} (h : (fnd zs v (f + (k : Int))).isSome = false) (ho : (hoF zs v f k).2 = false) : hoF zs v f (k + 1) = ((hoF zs v f k).1 ++ [(f + (k : Int), f + (k : Int) + 1)], true) := by
  show (if (fnd zs v (f + (k : Int))).isSome then _ else if (hoF zs v f k).2 then _ else ((hoF zs v f k).1 ++ [(f + (k : Int), f + (k : Int) + 1)], true)) = _
  rw [if_neg (by simp [h]), if_neg (by simp [ho])]
theorem ho_cov {zs : List Plc} {v f : Int} {k : Nat} : ∀ m : Nat, (∀ x : Nat, k ≤ x → x < k + m → (fnd zs v (f + (x : Int))).isSome = true) → (hoF zs v f (k + m)).1 = (hoF zs v f k).1 ∧ (0 < m → (hoF zs v f (k + m)).2 = false)
  | 0, _ => ⟨rfl, fun h => absurd h (by omega)⟩
  | m + 1, h => by
    have ih := (ho_cov m (fun x h1 h2 => h x h1 (by omega))).1
    have e := ho_yes (h (k + m) (by omega) (by omega))
    rw [show k + (m + 1) = k + m + 1 by omega, e]
    exact ⟨ih, fun _ => rfl⟩
theorem ho_un {zs : List Plc} {v f : Int} {k : Nat} (hk : (hoF zs v f k).2 = false) : ∀ m : Nat, (∀ x : Nat, k ≤ x → x < k + (m + 1) → (fnd zs v (f + (x : Int))).isSome = false) → hoF zs v f (k + (m + 1)) = ((hoF zs v f k).1 ++ [(f + (k : Int), f + (k : Int) + (m : Int) + 1)], true)
  | 0, h => by
    have e := ho_new (h k (by omega) (by omega)) hk
    rw [show k + (0 + 1) = k + 1 by omega, e]
    simp
  | m + 1, h => by
    have ih := ho_un hk m (fun x h1 h2 => h x h1 (by omega))
    have e := ho_on (h (k + (m + 1)) (by omega) (by omega)) (by rw [ih])
    rw [show k + (m + 1 + 1) = k + (m + 1) + 1 by omega, e, ih]
    simp only
    rw [setEnd_snoc]
    simp only [Prod.mk.injEq, and_true]
    congr 3
    push_cast
    omega
/-- Place by place: the stretches, and where the next one may begin. -/
def hpF (zs : List Plc) (v f t : Int) : Nat → List (Int × Int) × Int
  | 0 => ([], f)
  | i + 1 => if zs[i]!.v ≠ v ∨ zs[i]!.z ≤ (hpF zs v f t i).2 then hpF zs v f t i
    else (if (hpF zs v f t i).2 < min zs[i]!.a t then (hpF zs v f t i).1 ++ [((hpF zs v f t i).2, min zs[i]!.a t)] else (hpF zs v f t i).1, zs[i]!.z)
def hpEnd (zs : List Plc) (v f t : Int) : List (Int × Int) := if (hpF zs v f t zs.length).2 < t then (hpF zs v f t zs.length).1 ++ [((hpF zs v f t zs.length).2, t)] else (hpF zs v f t zs.length).1
theorem hp_skip {zs : List Plc} {v f t : Int} {i : Nat} (h : zs[i]!.v ≠ v ∨ zs[i]!.z ≤ (hpF zs v f t i).2) : hpF zs v f t (i + 1) = hpF zs v f t i := by
  show (if zs[i]!.v ≠ v ∨ zs[i]!.z ≤ (hpF zs v f t i).2 then hpF zs v f t i else _) = _
  rw [if_pos h]
theorem hp_hole {zs : List Plc} {v f t : Int} {i : Nat} (h : zs[i]!.v = v) (h2 : (hpF zs v f t i).2 < zs[i]!.z) (h3 : (hpF zs v f t i).2 < min zs[i]!.a t) : hpF zs v f t (i + 1) = ((hpF zs v f t i).1 ++ [((hpF zs v f t i).2, min zs[i]!.a t)], zs[i]!.z) := by
  show (if zs[i]!.v ≠ v ∨ zs[i]!.z ≤ (hpF zs v f t i).2 then hpF zs v f t i else (if (hpF zs v f t i).2 < min zs[i]!.a t then (hpF zs v f t i).1 ++ [((hpF zs v f t i).2, min zs[i]!.a t)] else (hpF zs v f t i).1, zs[i]!.z)) = _
  rw [if_neg (by rintro (h4 | h4) <;> omega), if_pos h3]
theorem hp_none {zs : List Plc} {v f t : Int} {i : Nat} (h : zs[i]!.v = v) (h2 : (hpF zs v f t i).2 < zs[i]!.z) (h3 : ¬ (hpF zs v f t i).2 < min zs[i]!.a t) : hpF zs v f t (i + 1) = ((hpF zs v f t i).1, zs[i]!.z) := by
  show (if zs[i]!.v ≠ v ∨ zs[i]!.z ≤ (hpF zs v f t i).2 then hpF zs v f t i else (if (hpF zs v f t i).2 < min zs[i]!.a t then (hpF zs v f t i).1 ++ [((hpF zs v f t i).2, min zs[i]!.a t)] else (hpF zs v f t i).1, zs[i]!.z)) = _
  rw [if_neg (by rintro (h4 | h4) <;> omega), if_neg h3]
theorem a_next {zs : List Plc} (h : okAll zs = true) {j : Nat} (hj : j + 1 < zs.length) : zs[j]!.a ≤ zs[j + 1]!.a := by
  have := okAll_at h hj
  unfold okAt at this
  simp only [Bool.and_eq_true, Bool.or_eq_true, Nat.add_sub_cancel] at this
  rcases this.2 with h1 | h1
  · simp at h1
  · unfold befB at h1
    split at h1
    · have := of_decide_eq_true h1
      omega
    · rename_i h2
      have : zs[j]!.a = zs[j + 1]!.a := Classical.byContradiction h2
      omega
theorem a_sorted {zs : List Plc} (h : okAll zs = true) {i : Nat} : ∀ d, i + d < zs.length → zs[i]!.a ≤ zs[i + d]!.a
  | 0, _ => by simp
  | d + 1, hd => by
    have h1 := a_sorted h (i := i) d (by omega)
    have h2 := a_next h (j := i + d) (by omega)
    rw [show i + (d + 1) = i + d + 1 by omega]
    omega
theorem un_of {zs : List Plc} {v x : Int} (h : ∀ j, j < zs.length → zs[j]!.v = v → zs[j]!.a ≤ x → x < zs[j]!.z → False) : (fnd zs v x).isSome = false := by
  cases hf : fnd zs v x with
  | none => rfl
  | some p =>
    obtain ⟨k, hk, rfl, h1, h2, h3⟩ := fnd_some hf
    exact (h k hk h1 h2 h3).elim
theorem cov_of {zs : List Plc} {v x : Int} {i : Nat} (hi : i < zs.length) (h1 : zs[i]!.v = v) (h2 : zs[i]!.a ≤ x) (h3 : x < zs[i]!.z) : (fnd zs v x).isSome = true := by
  cases hf : fnd zs v x with
  | none => exact absurd ⟨h1, h2, h3⟩ (fnd_none hf hi)
  | some p => rfl
theorem hp_ho {zs : List Plc} (hok : okAll zs = true) {v f t : Int} (hft : f ≤ t) : ∀ i, i ≤ zs.length →
    f ≤ (hpF zs v f t i).2 ∧ (hoF zs v f (min (hpF zs v f t i).2 t - f).toNat).1 = (hpF zs v f t i).1 ∧ ((hpF zs v f t i).2 < t → (hoF zs v f (min (hpF zs v f t i).2 t - f).toNat).2 = false) ∧ (∀ j, j < i → zs[j]!.v = v → zs[j]!.z ≤ (hpF zs v f t i).2)
  | 0, _ => by
    have e : (min (hpF zs v f t 0).2 t - f).toNat = 0 := by
      show (min f t - f).toNat = 0
      omega
    rw [e]
    exact ⟨Int.le_refl _, rfl, fun _ => rfl, fun j hj => absurd hj (by omega)⟩
  | i + 1, hi => by
    obtain ⟨h1, h2, h3, h4⟩ := hp_ho hok (v := v) hft i (by omega)
    by_cases hs : zs[i]!.v ≠ v ∨ zs[i]!.z ≤ (hpF zs v f t i).2
    · rw [hp_skip hs]
      refine ⟨h1, h2, h3, fun j hj hv => ?_⟩
      by_cases hji : j = i
      · subst hji
        rcases hs with h | h
        · exact absurd hv h
        · exact h
      · exact h4 j (by omega) hv
    · have hv : zs[i]!.v = v := Classical.byContradiction fun h => hs (.inl h)
      have hz : (hpF zs v f t i).2 < zs[i]!.z := by
        have : ¬ zs[i]!.z ≤ (hpF zs v f t i).2 := fun h => hs (.inr h)
        omega
      have haz : zs[i]!.a < zs[i]!.z := by
        obtain ⟨A, Z, V, K, N, hp, hAZ, _⟩ := place_nums (okAt_place (okAll_at hok (j := i) (by omega)))
        rw [hp]
        simp only
        omega
      by_cases he : (hpF zs v f t i).2 < min zs[i]!.a t
      · rw [hp_hole hv hz he]
        simp only
        have hun := ho_un (h3 (by omega)) ((min zs[i]!.a t - (hpF zs v f t i).2).toNat - 1) (fun x hx1 hx2 => un_of fun j hj hjv hja hjz => by
          by_cases hji : j < i
          · have := h4 j hji hjv
            omega
          · have := a_sorted hok (i := i) (j - i) (by omega)
            rw [show i + (j - i) = j by omega] at this
            omega)
        rw [show (min (hpF zs v f t i).2 t - f).toNat + ((min zs[i]!.a t - (hpF zs v f t i).2).toNat - 1 + 1) = (min zs[i]!.a t - f).toNat by omega] at hun
        have hcov := ho_cov (zs := zs) (v := v) (f := f) (k := (min zs[i]!.a t - f).toNat) ((min zs[i]!.z t - min zs[i]!.a t).toNat) (fun x hx1 hx2 => cov_of (by omega) hv (by omega) (by omega))
        rw [show (min zs[i]!.a t - f).toNat + (min zs[i]!.z t - min zs[i]!.a t).toNat = (min zs[i]!.z t - f).toNat by omega] at hcov
        refine ⟨by omega, ?_, fun hzt => hcov.2 (by omega), fun j hj hjv => ?_⟩
        · rw [hcov.1, hun, h2]
          simp only
          congr 3
          · omega
          · omega
        · by_cases hji : j = i
          · subst hji
            omega
          · have := h4 j (by omega) hjv
            omega
      · rw [hp_none hv hz he]
        simp only
        have hcov := ho_cov (zs := zs) (v := v) (f := f) (k := (min (hpF zs v f t i).2 t - f).toNat) ((min zs[i]!.z t - min (hpF zs v f t i).2 t).toNat) (fun x hx1 hx2 => cov_of (by omega) hv (by omega) (by omega))
        rw [show (min (hpF zs v f t i).2 t - f).toNat + (min zs[i]!.z t - min (hpF zs v f t i).2 t).toNat = (min zs[i]!.z t - f).toNat by omega] at hcov
        refine ⟨by omega, ?_, fun hzt => hcov.2 (by omega), fun j hj hjv => ?_⟩
        · rw [hcov.1, h2]
        · by_cases hji : j = i
          · subst hji
            omega
          · have := h4 j (by omega) hjv
            omega
/-- Both tell the same stretches. -/
theorem hpEnd_eq {zs : List Plc} (hok : okAll zs = true) {v f t : Int} (hft : f ≤ t) : hpEnd zs v f t = (hoF zs v f (t - f).toNat).1 := by
  obtain ⟨h1, h2, h3, h4⟩ := hp_ho hok (v := v) hft zs.length (Nat.le_refl _)
  unfold hpEnd
  by_cases hc : (hpF zs v f t zs.length).2 < t
  · rw [if_pos hc]
    have hun := ho_un (h3 hc) ((t - (hpF zs v f t zs.length).2).toNat - 1) (fun x hx1 hx2 => un_of fun j hj hjv hja hjz => by
      have := h4 j hj hjv
      omega)
    rw [show (min (hpF zs v f t zs.length).2 t - f).toNat + ((t - (hpF zs v f t zs.length).2).toNat - 1 + 1) = (t - f).toNat by omega] at hun
    rw [hun, h2]
    simp only
    congr 3
    · omega
    · omega
  · rw [if_neg hc, ← h2]
    congr 2
    omega
theorem hp_len (zs : List Plc) (v f t : Int) : ∀ i, (hpF zs v f t i).1.length ≤ i
  | 0 => Nat.le_refl _
  | i + 1 => by
    have ih := hp_len zs v f t i
    show (if zs[i]!.v ≠ v ∨ zs[i]!.z ≤ (hpF zs v f t i).2 then hpF zs v f t i else (if (hpF zs v f t i).2 < min zs[i]!.a t then (hpF zs v f t i).1 ++ [((hpF zs v f t i).2, min zs[i]!.a t)] else (hpF zs v f t i).1, zs[i]!.z)).1.length ≤ i + 1
    split
    · omega
    · split
      · simp only [List.length_append, List.length_singleton]
        omega
      · simp only
        omega
theorem ho_len (zs : List Plc) (v f : Int) : ∀ k, (hoF zs v f k).1.length ≤ k ∧ ((hoF zs v f k).2 = true → 0 < (hoF zs v f k).1.length)
  | 0 => ⟨Nat.le_refl _, fun h => by cases h⟩
  | k + 1 => by
    obtain ⟨ih, ih2⟩ := ho_len zs v f k
    cases h : (fnd zs v (f + (k : Int))).isSome
    · cases ho : (hoF zs v f k).2
      · rw [ho_new h ho]
        simp only [List.length_append, List.length_singleton]
        exact ⟨by omega, fun _ => by omega⟩
      · rw [ho_on h ho]
        have := ih2 ho
        simp only [setEnd, List.length_append, List.length_singleton, List.length_dropLast]
        exact ⟨by omega, fun _ => by omega⟩
    · rw [ho_yes h]
      exact ⟨by simp only; omega, fun h => by cases h⟩
end Go.Proofs.Ytdpfglpefncigaa
