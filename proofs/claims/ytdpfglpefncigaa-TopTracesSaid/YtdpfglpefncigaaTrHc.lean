/-
  Holes of the reference.
-/
import Derived.Test.YtdpfglpefncigaaTrHb
namespace Go.Proofs.Ytdpfglpefncigaa
open Go.RowKit

theorem ranged_at (f t : Int) (B : Bool) (w : World) (h : (inB f 0 32768 && inB t 0 32768 && decide (f ≤ t)) = B) : Calls Try.prog 54 #[.int .i64 f, .int .i64 t] w fun e w' => e = .returned (.int .i64 (if B then 0 else 1)) ∧ w = w' := by
  cases hF : inB f 0 32768
  · rw [hF] at h
    simp only [Bool.false_and] at h
    subst h
    have HF := Lib.hid hF
    clear hF
    go_enter Try.func54, Try.ntmps54
    go_wp2_with (go_at_call 41; ((with_reducible refine (within_at f 0 32768 false _ HF.out).mono ?_); rintro e w' ⟨rfl, rfl⟩))
    go_ret
    exact ⟨rfl, rfl⟩
  · cases hT : inB t 0 32768
    · rw [hF, hT] at h
      simp only [Bool.true_and, Bool.false_and] at h
      subst h
      have HF := Lib.hid hF
      have HT := Lib.hid hT
      clear hF hT
      go_enter Try.func54, Try.ntmps54
      go_wp2_with (first | (go_at_call 41; ((with_reducible refine (within_at f 0 32768 true _ HF.out).mono ?_); rintro e w' ⟨rfl, rfl⟩)) | (go_at_call 41; ((with_reducible refine (within_at t 0 32768 false _ HT.out).mono ?_); rintro e w' ⟨rfl, rfl⟩)))
      go_ret
      exact ⟨rfl, rfl⟩
    · rw [hF, hT] at h
      simp only [Bool.true_and] at h
      have HF := Lib.hid hF
      have HT := Lib.hid hT
      clear hF hT
      by_cases hft : f ≤ t
      · rw [decide_eq_true hft] at h
        subst h
        have d1 : decide (t < f) = false := decide_eq_false (by omega)
        go_enter Try.func54, Try.ntmps54
        go_wp2_with (first | (go_at_call 41; ((with_reducible refine (within_at f 0 32768 true _ HF.out).mono ?_); rintro e w' ⟨rfl, rfl⟩)) | (go_at_call 41; ((with_reducible refine (within_at t 0 32768 true _ HT.out).mono ?_); rintro e w' ⟨rfl, rfl⟩)))
        go_ret
        exact ⟨rfl, rfl⟩
      · rw [decide_eq_false hft] at h
        subst h
        have d1 : decide (t < f) = true := decide_eq_true (by omega)
        go_enter Try.func54, Try.ntmps54
        go_wp2_with (first | (go_at_call 41; ((with_reducible refine (within_at f 0 32768 true _ HF.out).mono ?_); rintro e w' ⟨rfl, rfl⟩)) | (go_at_call 41; ((with_reducible refine (within_at t 0 32768 true _ HT.out).mono ?_); rintro e w' ⟨rfl, rfl⟩)))
        go_ret
        exact ⟨rfl, rfl⟩
/-- A cell of an own row is written. -/
theorem own_set {w : World} {base e size g cap n i : Nat} {xs : List Value} {x : Value} (h : w.ownsRow base e size (.slice (some ⟨g, 0, none⟩) n cap) n xs) (hx : xs[i]? = some x) (u : Value) :
    w.cell? ⟨g, i, none⟩ = some x ∧ w.frozen? ⟨g, i, none⟩ = false ∧ base ≤ g ∧ (w.setCell ⟨g, i, none⟩ u).ownsRow base e size (.slice (some ⟨g, 0, none⟩) n cap) n (xs.set i u) := by
  have hc := h.cells (g := g) rfl i x hx
  have ea : (⟨g, 0, none⟩ : Addr).add i = ⟨g, i, none⟩ := by
    unfold Addr.add
    split
    · rename_i h0
      simp [h0]
    · simp
  rw [ea] at hc
  obtain ⟨h1, h2⟩ := h
  rcases h2 with ⟨h2, _⟩ | ⟨g', cap', cur, h2, h3, h4, h5, h6, h7, h8⟩
  · cases h2
  · injection h2 with h2 _ h9
    injection h2 with h2
    injection h2 with h2 _
    subst h2 h9
    refine ⟨hc, by simp [World.frozen?, h4], h3, by simpa using h1, .inr ⟨g, cap, _, rfl, h3, heap_setCell_same w g i _ _ u h4, h5, h6, ?_, ?_⟩⟩
    · simpa using h7
    · rw [← h8]
      simp [List.take_set]
theorem strV_set (l : List (Int × Int)) (p : Int × Int) (x : Int) : (strV (l ++ [p])).set ((l ++ [p]).length * 2 - 1) (.int .i64 x) = strV (l ++ [(p.1, x)]) := by
  rw [strV_append, strV_append]
  have hl : (strV l).length = l.length * 2 := by
    induction l with
    | nil => rfl
    | cons a l ih =>
      show (strV ([a] ++ l)).length = _
      rw [strV_append, List.length_append, ih, List.length_cons]
      show 2 + _ = _
      omega
  rw [List.set_append_right _ _ (by rw [List.length_append, List.length_singleton]; omega)]
  rw [List.length_append, List.length_singleton, hl, show (l.length + 1) * 2 - 1 - l.length * 2 = 1 by omega]
  rfl
theorem strV_last (l : List (Int × Int)) (p : Int × Int) : (strV (l ++ [p]))[(l ++ [p]).length * 2 - 1]? = some (.int .i64 p.2) := by
  rw [strV_append]
  have hl : (strV l).length = l.length * 2 := by
    induction l with
    | nil => rfl
    | cons a l ih =>
      show (strV ([a] ++ l)).length = _
      rw [strV_append, List.length_append, ih, List.length_cons]
      show 2 + _ = _
      omega
  rw [List.getElem?_append_right (by rw [List.length_append, List.length_singleton]; omega), List.length_append, List.length_singleton, hl, show (l.length + 1) * 2 - 1 - l.length * 2 = 1 by omega]
  rfl
end Go.Proofs.Ytdpfglpefncigaa
