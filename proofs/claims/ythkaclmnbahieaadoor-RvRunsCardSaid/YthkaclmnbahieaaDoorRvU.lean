/-
  The mathematics of lists of words.
-/
import Derived.Test.YthkaclmnbahieaaDoorRvT
namespace Go.Proofs.YthkaclmnbahieaaDoor

/-- The bytes of a word, the lowest first. -/
def le4 (w : Nat) : List Int := [(w : Int) % 256, (w : Int) / 256 % 256, (w : Int) / 65536 % 256, (w : Int) / 16777216 % 256]
def num4 (l : List Int) (p : Nat) : Nat := (l[p]!).toNat + 256 * (l[p + 1]!).toNat + 65536 * (l[p + 2]!).toNat + 16777216 * (l[p + 3]!).toNat
def bytesL (xs : List Rv) : List Int := xs.flatMap fun x => le4 (encF x)
def allV (xs : List Rv) : Bool := xs.all fun x => decide (Val x)
/-- The instructions that stand from a place on; k: the most. -/
def listR : Nat → List Int → Nat → List Rv
  | 0, _, _ => []
  | k + 1, l, p => if p + 4 ≤ l.length then (match decF (num4 l p) with | some x => x :: listR k l (p + 4) | none => []) else []
theorem bytesL_append (a b : List Rv) : bytesL (a ++ b) = bytesL a ++ bytesL b := by simp [bytesL]
theorem bytesL_len (xs : List Rv) : (bytesL xs).length = 4 * xs.length := by
  induction xs with
  | nil => rfl
  | cons x xs ih =>
    have e : bytesL (x :: xs) = le4 (encF x) ++ bytesL xs := rfl
    rw [e, List.length_append, ih, List.length_cons]
    have : (le4 (encF x)).length = 4 := rfl
    omega
theorem le4_by (w : Nat) : isBy (le4 w) := by
  intro x hx
  unfold le4 at hx
  simp at hx
  omega
theorem bytesL_by (xs : List Rv) : isBy (bytesL xs) := by
  intro x hx
  unfold bytesL at hx
  rw [List.mem_flatMap] at hx
  obtain ⟨y, -, hy⟩ := hx
  exact le4_by _ x hy
theorem num4_lt {l : List Int} (hb : isBy l) {p : Nat} (h : p + 4 ≤ l.length) : num4 l p < 4294967296 := by
  have g : ∀ j, j < l.length → 0 ≤ l[j]! ∧ l[j]! < 256 := fun j hj => by
    rw [show l[j]! = l[j] by simp [hj]]
    exact hb _ (List.getElem_mem _)
  have h0 := g p (by omega)
  have h1 := g (p + 1) (by omega)
  have h2 := g (p + 2) (by omega)
  have h3 := g (p + 3) (by omega)
  unfold num4
  omega
theorem le4_num4 {l : List Int} (hb : isBy l) {p : Nat} (h : p + 4 ≤ l.length) : le4 (num4 l p) = (l.drop p).take 4 := by
  have g : ∀ j, j < l.length → 0 ≤ l[j]! ∧ l[j]! < 256 := fun j hj => by
    rw [show l[j]! = l[j] by simp [hj]]
    exact hb _ (List.getElem_mem _)
  have h0 := g p (by omega)
  have h1 := g (p + 1) (by omega)
  have h2 := g (p + 2) (by omega)
  have h3 := g (p + 3) (by omega)
  have e : (l.drop p).take 4 = [l[p]!, l[p + 1]!, l[p + 2]!, l[p + 3]!] := by
    apply List.ext_getElem?
    intro j
    by_cases hj : j < 4
    · rw [List.getElem?_take, if_pos hj, List.getElem?_drop, List.getElem?_eq_getElem (show p + j < l.length by omega)]
      obtain rfl | rfl | rfl | rfl : j = 0 ∨ j = 1 ∨ j = 2 ∨ j = 3 := by omega
      all_goals simp [show p < l.length by omega, show p + 1 < l.length by omega, show p + 2 < l.length by omega, show p + 3 < l.length by omega]
    · rw [List.getElem?_eq_none (by simp; omega), List.getElem?_eq_none (by simp; omega)]
  rw [e]
  unfold le4 num4
  generalize l[p]! = a at *
  generalize l[p + 1]! = b at *
  generalize l[p + 2]! = c at *
  generalize l[p + 3]! = d at *
  simp only [List.cons.injEq, and_true]
  omega
theorem num4_le4 (w : Nat) (hw : w < 4294967296) (a t : List Int) : num4 (a ++ (le4 w ++ t)) a.length = w := by
  have g : ∀ j, j < 4 → (a ++ (le4 w ++ t))[a.length + j]! = (le4 w)[j]! := fun j hj => by
    have hl : (le4 w).length = 4 := rfl
    rw [List.getElem!_eq_getElem?_getD, List.getElem!_eq_getElem?_getD, List.getElem?_append_right (by omega), Nat.add_sub_cancel_left, List.getElem?_append_left (by omega)]
  have g0 := g 0 (by omega)
  unfold num4
  rw [Nat.add_zero] at g0
  rw [g0, g 1 (by omega), g 2 (by omega), g 3 (by omega)]
  simp [le4]
  omega
theorem listR_enc : ∀ (xs : List Rv) (k : Nat) (a : List Int), allV xs = true → xs.length ≤ k → listR k (a ++ bytesL xs) a.length = xs
  | [], 0, _, _, _ => rfl
  | [], k + 1, a, _, _ => by
    unfold listR
    rw [if_neg (by simp [bytesL])]
  | x :: xs, 0, _, _, h => by simp at h
  | x :: xs, k + 1, a, hv, hk => by
    have hv' : Val x ∧ allV xs = true := by
      have : (decide (Val x) && allV xs) = true := hv
      simpa using this
    have e : bytesL (x :: xs) = le4 (encF x) ++ bytesL xs := rfl
    have hl : (le4 (encF x)).length = 4 := rfl
    unfold listR
    rw [e, if_pos (by simp [hl]), num4_le4 _ (enc_facts hv'.1).1, dec_enc hv'.1]
    simp only
    have ih := listR_enc xs k (a ++ le4 (encF x)) hv'.2 (by simpa using hk)
    rw [List.length_append, hl, List.append_assoc] at ih
    rw [ih]
theorem listR_valid {l : List Int} (hb : isBy l) : ∀ (k p : Nat), allV (listR k l p) = true
  | 0, _ => rfl
  | k + 1, p => by
    unfold listR
    split
    · rename_i h
      split
      · rename_i x e
        have h1 := (dec_some (num4_lt hb h) e).1
        show (decide (Val x) && allV (listR k l (p + 4))) = true
        rw [decide_eq_true h1, listR_valid hb k (p + 4)]
        rfl
      · rfl
    · rfl
theorem listR_bytes {l : List Int} (hb : isBy l) : ∀ (k p : Nat), bytesL (listR k l p) = (l.drop p).take (4 * (listR k l p).length) ∧ (p ≤ l.length → p + 4 * (listR k l p).length ≤ l.length)
  | 0, p => ⟨rfl, fun h => h⟩
  | k + 1, p => by
    unfold listR
    split
    · rename_i h
      split
      · rename_i x e
        have h1 := (dec_some (num4_lt hb h) e).2
        obtain ⟨i1, i2⟩ := listR_bytes hb k (p + 4)
        refine ⟨?_, fun _ => by have := i2 (by omega); rw [List.length_cons]; omega⟩
        show le4 (encF x) ++ bytesL (listR k l (p + 4)) = _
        rw [h1, le4_num4 hb h, i1, List.length_cons, show 4 * ((listR k l (p + 4)).length + 1) = 4 + 4 * (listR k l (p + 4)).length by omega, List.take_add, List.drop_drop]
      · exact ⟨rfl, fun h => h⟩
    · exact ⟨rfl, fun h => h⟩
theorem listR_stop {l : List Int} {p : Nat} (h : ¬ p + 4 ≤ l.length ∨ decF (num4 l p) = none) : ∀ k, listR k l p = []
  | 0 => rfl
  | k + 1 => by
    unfold listR
    split
    · rename_i h2
      rcases h with h | h
      · exact absurd h2 h
      · rw [h]
    · rfl
theorem listR_go {l : List Int} {p : Nat} {x : Rv} (h : p + 4 ≤ l.length) (h2 : decF (num4 l p) = some x) (k : Nat) : listR (k + 1) l p = x :: listR k l (p + 4) := by
  show (if p + 4 ≤ l.length then (match decF (num4 l p) with | some x => x :: listR k l (p + 4) | none => []) else []) = _
  rw [if_pos h, h2]
theorem allV_at {xs : List Rv} (h : allV xs = true) {k : Nat} (hk : k < xs.length) : Val xs[k]! := by
  rw [show xs[k]! = xs[k] by simp [hk]]
  have := List.all_eq_true.1 h _ (List.getElem_mem hk)
  simpa using this
theorem allV_of {xs : List Rv} (h : ∀ j, j < xs.length → Val xs[j]!) : allV xs = true := by
  unfold allV
  rw [List.all_eq_true]
  intro x hx
  obtain ⟨j, hj, rfl⟩ := List.mem_iff_getElem.1 hx
  have := h j hj
  rw [show xs[j]! = xs[j] by simp [hj]] at this
  simpa using this
end Go.Proofs.YthkaclmnbahieaaDoor
