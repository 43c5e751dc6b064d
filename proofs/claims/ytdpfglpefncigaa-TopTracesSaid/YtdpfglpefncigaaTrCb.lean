/-
  A place put into a sorted row.
-/
import Derived.Test.YtdpfglpefncigaaTrCa
import Derived.Test.YtdpfglpefncigaaTrHc
namespace Go.Proofs.Ytdpfglpefncigaa
open Go.RowKit

def insAt (L : List Plc) (k : Nat) (x : Plc) : List Plc := L.take k ++ x :: L.drop k
theorem insAt_len {L : List Plc} {k : Nat} {x : Plc} : (insAt L k x).length = L.length + 1 := by
  unfold insAt
  simp
  omega
theorem insAt_k {L : List Plc} {k : Nat} {x : Plc} (h : k ≤ L.length) : (insAt L k x)[k]! = x := by
  have : (insAt L k x)[k]? = some x := by
    unfold insAt
    rw [List.getElem?_append_right (by simp; omega), List.length_take, show k - min k L.length = 0 by omega]
    rfl
  rw [List.getElem!_eq_getElem?_getD, this]
  rfl
theorem insAt_before {L : List Plc} {m : Nat} {x : Plc} (h : m < L.length) : (insAt L (m + 1) x)[m]! = L[m]! := by
  have : (insAt L (m + 1) x)[m]? = L[m]? := by
    unfold insAt
    rw [List.getElem?_append_left (by simp; omega), List.getElem?_take, if_pos (by omega)]
  rw [List.getElem!_eq_getElem?_getD, this, List.getElem!_eq_getElem?_getD]
theorem insAt_get {L : List Plc} {k : Nat} {x : Plc} (h : k ≤ L.length) (j : Nat) : (insAt L k x)[j]? = if j < k then L[j]? else if j = k then some x else L[j - 1]? := by
  unfold insAt
  by_cases h1 : j < k
  · rw [if_pos h1, List.getElem?_append_left (by simp; omega), List.getElem?_take, if_pos h1]
  · rw [if_neg h1, List.getElem?_append_right (by simp; omega), List.length_take, show min k L.length = k by omega]
    by_cases h2 : j = k
    · rw [if_pos h2, h2, Nat.sub_self]
      rfl
    · rw [if_neg h2, show j - k = (j - 1 - k) + 1 by omega, List.getElem?_cons_succ, List.getElem?_drop, show k + (j - 1 - k) = j - 1 by omega]
theorem insAt_swap {L : List Plc} {m : Nat} {x : Plc} (h : m < L.length) : ((insAt L (m + 1) x).set (m + 1) L[m]!).set m x = insAt L m x := by
  apply List.ext_getElem?
  intro j
  rw [List.getElem?_set, List.getElem?_set, insAt_get (by omega), insAt_get (by omega), List.length_set, insAt_len]
  by_cases h1 : m = j
  · subst h1
    rw [if_pos rfl, if_pos (by omega), if_neg (by omega), if_pos rfl]
  · rw [if_neg h1]
    by_cases h2 : m + 1 = j
    · subst h2
      rw [if_pos rfl, if_pos (by omega), if_neg (by omega), if_neg (by omega), Nat.add_sub_cancel]
      simp [h]
    · rw [if_neg h2]
      by_cases h3 : j < m + 1
      · rw [if_pos h3, if_pos (by omega)]
      · rw [if_neg h3, if_neg (by omega), if_neg (by omega), if_neg (by omega)]
theorem insAt_end (L : List Plc) (x : Plc) : insAt L L.length x = L ++ [x] := by simp [insAt]
theorem insAt_perm (L : List Plc) (k : Nat) (x : Plc) : (insAt L k x).Perm (x :: L) := by
  unfold insAt
  have h1 : (L.take k ++ x :: L.drop k).Perm (x :: (L.take k ++ L.drop k)) := List.perm_middle
  rwa [List.take_append_drop] at h1
theorem insAt_srt {L : List Plc} {k : Nat} {x : Plc} (hs : Srt L) (hk : k ≤ L.length) (h1 : ∀ j, k ≤ j → j < L.length → befB x L[j]! = true) (h2 : k = 0 ∨ befB x L[k - 1]! = false) : Srt (insAt L k x) := by
  unfold Srt insAt
  rw [List.pairwise_append]
  have hs' := hs
  unfold Srt at hs'
  rw [← List.take_append_drop k L, List.pairwise_append] at hs'
  have hdr : ∀ q ∈ L.drop k, befB x q = true := by
    intro q hq
    obtain ⟨j, hj, rfl⟩ := List.mem_iff_getElem.1 hq
    rw [List.length_drop] at hj
    have := h1 (k + j) (by omega) (by omega)
    rw [List.getElem_drop]
    rwa [show L[k + j]! = L[k + j] by simp [show k + j < L.length by omega]] at this
  have htk : ∀ p ∈ L.take k, befB x p = false := by
    intro p hp
    obtain ⟨j, hj, rfl⟩ := List.mem_iff_getElem.1 hp
    rw [List.length_take] at hj
    rcases h2 with h2 | h2
    · omega
    · rw [List.getElem_take]
      by_cases hjk : j = k - 1
      · rw [show L[k - 1]! = L[k - 1] by simp [show k - 1 < L.length by omega]] at h2
        simp only [hjk]
        exact h2
      · have h3 := List.pairwise_iff_getElem.1 hs j (k - 1) (by omega) (by omega) (by omega)
        rw [show L[k - 1]! = L[k - 1] by simp [show k - 1 < L.length by omega]] at h2
        exact bef_nt h3 h2
  refine ⟨hs'.1, ?_, ?_⟩
  · rw [List.pairwise_cons]
    refine ⟨fun q hq => ?_, hs'.2.1⟩
    cases h : befB q x
    · rfl
    · have := bef_trans h (hdr q hq)
      rw [bef_irr] at this
      cases this
  · intro p hp q hq
    rcases List.mem_cons.1 hq with rfl | hq
    · exact htk p hp
    · exact hs'.2.2 p hp q hq
theorem placesV_set5 : ∀ (l : List Plc) (j : Nat) (p : Plc), j < l.length → (((((placesV l).set (j * 5) (.int .i64 p.a)).set (j * 5 + 1) (.int .i64 p.z)).set (j * 5 + 2) (.int .i64 p.v)).set (j * 5 + 3) (.int .i64 p.k)).set (j * 5 + 4) (.int .i64 p.n) = placesV (l.set j p)
  | [], j, _, h => absurd h (by simp)
  | q :: l, 0, p, _ => by
    have e : placesV (q :: l) = encP q ++ placesV l := rfl
    obtain ⟨a, z, v, k, n⟩ := q
    rw [e]
    rfl
  | q :: l, j + 1, p, h => by
    have ih := placesV_set5 l j p (by simpa using h)
    have e : placesV (q :: l) = encP q ++ placesV l := rfl
    have e2 : placesV ((q :: l).set (j + 1) p) = encP q ++ placesV (l.set j p) := rfl
    have hl : (encP q).length = 5 := rfl
    rw [e, e2, ← ih]
    rw [List.set_append_right _ _ (by omega), List.set_append_right _ _ (by omega), List.set_append_right _ _ (by omega), List.set_append_right _ _ (by omega), List.set_append_right _ _ (by omega), hl]
    rw [show (j + 1) * 5 - 5 = j * 5 by omega, show (j + 1) * 5 + 1 - 5 = j * 5 + 1 by omega, show (j + 1) * 5 + 2 - 5 = j * 5 + 2 by omega, show (j + 1) * 5 + 3 - 5 = j * 5 + 3 by omega, show (j + 1) * 5 + 4 - 5 = j * 5 + 4 by omega]
theorem placesV_length (l : List Plc) : (placesV l).length = l.length * 5 := by
  induction l with
  | nil => rfl
  | cons p l ih =>
    have e : placesV (p :: l) = encP p ++ placesV l := rfl
    have hl : (encP p).length = 5 := rfl
    rw [e, List.length_append, ih, hl, List.length_cons]
    omega
/-- A place of an own row: its cells, which may be written. -/
theorem own_at5 {w : World} {base g cap n : Nat} {l : List Plc} (h : w.ownsRow base 33 5 (.slice (some ⟨g, 0, none⟩) n cap) n (placesV l)) {j : Nat} (hj : j < l.length) :
    At5 w g (j * 5) l[j]! ∧ (w.frozen? ⟨g, j * 5, none⟩ = false ∧ w.frozen? ⟨g, j * 5 + 1, none⟩ = false ∧ w.frozen? ⟨g, j * 5 + 2, none⟩ = false ∧ w.frozen? ⟨g, j * 5 + 3, none⟩ = false ∧ w.frozen? ⟨g, j * 5 + 4, none⟩ = false) ∧ base ≤ g ∧ g < w.heap.size := by
  have a0 := own_set h (placesV_at l j 0 _ hj rfl) (.int .i64 0)
  have a1 := own_set h (placesV_at l j 1 _ hj rfl) (.int .i64 0)
  have a2 := own_set h (placesV_at l j 2 _ hj rfl) (.int .i64 0)
  have a3 := own_set h (placesV_at l j 3 _ hj rfl) (.int .i64 0)
  have a4 := own_set h (placesV_at l j 4 _ hj rfl) (.int .i64 0)
  exact ⟨⟨a0.1, a1.1, a2.1, a3.1, a4.1⟩, ⟨a0.2.1, a1.2.1, a2.2.1, a3.2.1, a4.2.1⟩, a0.2.2.1, (h.lt g rfl).2⟩
def putAt (w : World) (g o : Nat) (p : Plc) : World :=
  ((((w.setCell ⟨g, o, none⟩ (.int .i64 p.a)).setCell ⟨g, o + 1, none⟩ (.int .i64 p.z)).setCell ⟨g, o + 2, none⟩ (.int .i64 p.v)).setCell ⟨g, o + 3, none⟩ (.int .i64 p.k)).setCell ⟨g, o + 4, none⟩ (.int .i64 p.n)
theorem own_put5 {w : World} {base g cap n : Nat} {l : List Plc} (h : w.ownsRow base 33 5 (.slice (some ⟨g, 0, none⟩) n cap) n (placesV l)) {j : Nat} (hj : j < l.length) (p : Plc) :
    (putAt w g (j * 5) p).ownsRow base 33 5 (.slice (some ⟨g, 0, none⟩) n cap) n (placesV (l.set j p)) := by
  have hl := placesV_length l
  have s0 := (own_set h (i := j * 5) (x := (placesV l)[j * 5]'(by omega)) (by simp) (.int .i64 p.a)).2.2.2
  have s1 := (own_set s0 (i := j * 5 + 1) (x := _) (List.getElem?_eq_getElem (by simp; omega)) (.int .i64 p.z)).2.2.2
  have s2 := (own_set s1 (i := j * 5 + 2) (x := _) (List.getElem?_eq_getElem (by simp; omega)) (.int .i64 p.v)).2.2.2
  have s3 := (own_set s2 (i := j * 5 + 3) (x := _) (List.getElem?_eq_getElem (by simp; omega)) (.int .i64 p.k)).2.2.2
  have s4 := (own_set s3 (i := j * 5 + 4) (x := _) (List.getElem?_eq_getElem (by simp; omega)) (.int .i64 p.n)).2.2.2
  rw [placesV_set5 l j p hj] at s4
  exact s4
theorem putAt_below {B : Nat} {a w : World} (h : Below B a w) {g : Nat} (hg : B ≤ g) (o : Nat) (p : Plc) : Below B a (putAt w g o p) :=
  ((((h.setCell hg _).setCell hg _).setCell hg _).setCell hg _).setCell hg _
end Go.Proofs.Ytdpfglpefncigaa
