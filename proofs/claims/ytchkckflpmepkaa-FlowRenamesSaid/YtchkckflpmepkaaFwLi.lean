/-
  Rename of the program.
-/
import Derived.Test.YtchkckflpmepkaaFwLg
import Derived.Test.YtchkckflpmepkaaFwLh
namespace Go.Proofs.Ytchkckflpmepkaa
open Go.RowKit

theorem infoL : (Try.prog.info? 25).map (fun i => (i.zero, i.size, i.bytes)) = some (some (.slice none 0 0), 1, 24) := by kernel_rfl
def iV (l : List Int) : List Value := l.map fun (x : Int) => Value.int .i64 x
theorem iV_app (a b : List Int) : iV (a ++ b) = iV a ++ iV b := by simp [iV]
/-- An own row of numbers of any sign is a slice of them. -/
theorem own_ints {w : World} {base n : Nat} {v : Value} {l : List Int} (h : w.ownsRow base 3 1 v n (iV l)) : ∃ A c, v = .slice A n c ∧ Ints w A n c l ∧ ∀ q off, A = some ⟨q, off, none⟩ → base ≤ q := by
  have hl : n = l.length := by have := h.1; simp [iV] at this; omega
  have h0 := h
  rcases h.2 with ⟨rfl, h1⟩ | ⟨g, cap, cur, rfl, hg, hh, h2, h3, _⟩
  · subst h1
    exact ⟨none, 0, rfl, ⟨hl, Nat.le_refl _, by omega, .inl rfl⟩, fun _ _ e => by cases e⟩
  · refine ⟨_, cap, rfl, ⟨hl, h2, by unfold maxLen at h3; omega, .inr ⟨g, 0, rfl, lt_of_block hh, fun j hj => ?_⟩⟩, fun q off e => ?_⟩
    · rw [Nat.zero_add]
      exact (own_cell h0 (x := .int .i64 l[j]!) (by simp [iV, show j < l.length by omega])).1
    · injection e with e
      injection e with e
      omega
theorem Ints.ne {w : World} {A : Option Addr} {n c : Nat} {l : List Int} (h : Ints w A n c l) {B : Nat} (hq : ∀ q off, A = some ⟨q, off, none⟩ → q ≠ B) (o : Nat) (v : Value) : Ints (w.setCell ⟨B, o, none⟩ v) A n c l := by
  obtain ⟨h1, h2, h3, h4 | ⟨b, off, h4, h5, h6⟩⟩ := h
  · exact ⟨h1, h2, h3, .inl h4⟩
  · refine ⟨h1, h2, h3, .inr ⟨b, off, h4, by simpa using h5, fun j hj => ?_⟩⟩
    have hne := hq b off h4
    rw [← h6 j hj]
    simp only [World.cell?, heap_setCell_other w ⟨B, o, none⟩ b v hne]
/-- A made row of n lists; none of them lies in it. -/
def RowsB (w : World) (B n : Nat) (r : Nat → List Int) : Prop := ∃ arr : Array Value, w.heap[B]? = some (.cells arr 25 (0, 0)) ∧ arr.size = n ∧ ∀ j, j < n → ∃ A' n' c', arr[j]? = some (.slice A' n' c') ∧ Ints w A' n' c' (r j) ∧ ∀ q off, A' = some ⟨q, off, none⟩ → q ≠ B
section
variable {w : World} {B n : Nat} {r : Nat → List Int}
theorem RowsB.lt (h : RowsB w B n r) : B < w.heap.size := by
  obtain ⟨arr, h1, -⟩ := h
  exact lt_of_block h1
theorem RowsB.below {w' : World} (h : RowsB w B n r) (hb : Below w.heap.size w w') : RowsB w' B n r := by
  have hlt := h.lt
  obtain ⟨arr, h1, h2, h3⟩ := h
  refine ⟨arr, (hb.block _ hlt).trans h1, h2, fun j hj => ?_⟩
  obtain ⟨A', n', c', h4, h5, h6⟩ := h3 j hj
  exact ⟨A', n', c', h4, h5.below hb, h6⟩
theorem RowsB.cell (h : RowsB w B n r) {j : Nat} (hj : j < n) : ∃ A' n' c', w.cell? ⟨B, j, none⟩ = some (.slice A' n' c') ∧ w.frozen? ⟨B, j, none⟩ = false ∧ Ints w A' n' c' (r j) := by
  obtain ⟨arr, h1, h2, h3⟩ := h
  obtain ⟨A', n', c', h4, h5, h6⟩ := h3 j hj
  refine ⟨A', n', c', ?_, by simp [World.frozen?, h1], h5⟩
  simp only [World.cell?, h1]
  exact h4
theorem RowsB.set (h : RowsB w B n r) {t : Nat → List Int} {D : Nat} {A : Option Addr} {m c : Nat} {l : List Int} (hI : Ints w A m c l) (hq : ∀ q off, A = some ⟨q, off, none⟩ → q ≠ B) (ht : ∀ j, j < n → t j = if j = D then l else r j) : RowsB (w.setCell ⟨B, D, none⟩ (.slice A m c)) B n t := by
  obtain ⟨arr, h1, h2, h3⟩ := h
  refine ⟨_, heap_setCell_same w B D _ _ _ h1, by simpa using h2, fun j hj => ?_⟩
  rw [ht j hj, Array.getElem?_setIfInBounds]
  by_cases hD : j = D
  · subst hD
    exact ⟨A, m, c, by simp [h2, hj], by rw [if_pos rfl]; exact hI.ne hq _ _, hq⟩
  · rw [if_neg (fun e => hD e.symm), if_neg hD]
    obtain ⟨A', n', c', h4, h5, h6⟩ := h3 j hj
    exact ⟨A', n', c', h4, h5.ne h6 _ _, h6⟩
theorem RowsB.congr {t : Nat → List Int} (h : RowsB w B n r) (e : ∀ j, j < n → r j = t j) : RowsB w B n t := by
  obtain ⟨arr, h1, h2, h3⟩ := h
  exact ⟨arr, h1, h2, fun j hj => by rw [← e j hj]; exact h3 j hj⟩
theorem RowsB.made (w : World) (n : Nat) : RowsB (w.alloc (.cells (madeCells #[.slice none 0 0] n) 25)) w.heap.size n fun _ => [] :=
  ⟨_, heap_alloc_new w _, size_madeCells _ _, fun j hj => ⟨none, 0, 0, by simp [madeCells, hj, Nat.mod_one], ⟨rfl, Nat.le_refl _, by omega, .inl rfl⟩, fun _ _ e => by cases e⟩⟩
theorem RowsB.graph (h : RowsB w B n r) (hn : n ≤ 10) : RG w (some ⟨B, 0, none⟩) n n ((List.range n).map r) := by
  have hlt := h.lt
  refine ⟨by simp, Nat.le_refl _, by omega, .inr ⟨B, 0, rfl, hlt, fun j hj => ?_⟩⟩
  obtain ⟨A', n', c', h1, -, h2⟩ := h.cell hj
  refine ⟨A', n', c', by rw [Nat.zero_add]; exact h1, ?_⟩
  have e : ((List.range n).map r)[j]! = r j := by simp [hj]
  rw [e]
  exact h2
end
/-- A value that is a graph. -/
def RGV (w : World) (v : Value) (g : List (List Int)) : Prop := ∃ A n c, v = .slice A n c ∧ RG w A n c g
theorem RGV.below {w w' : World} {v : Value} {g : List (List Int)} (h : RGV w v g) (hb : Below w.heap.size w w') : RGV w' v g := by
  obtain ⟨A, n, c, h1, h2⟩ := h
  exact ⟨A, n, c, h1, h2.below hb⟩
theorem ret_t {v : Value} {a b : Int} (h : b = a) : Ending.returned (.tuple #[v, .int .i64 a]) = .returned (.tuple #[v, .int .i64 b]) := by rw [h]
theorem rgv_nil {w : World} {z : List (List Int)} (h : z = []) : RGV w (.slice none 0 0) z := by
  rw [h]
  exact ⟨none, 0, 0, rfl, rfl, Nat.le_refl _, by omega, .inl rfl⟩
theorem RGV.nil (w : World) : RGV w (.slice none 0 0) [] := ⟨none, 0, 0, rfl, rfl, Nat.le_refl _, by omega, .inl rfl⟩
section
variable {g : List (List Int)} {to : List Int}
theorem ren_val1 (h : valF g ≠ 0) : errR g to = valF g ∧ resRn g to = [] := by
  have h1 : errR g to = valF g := if_neg h
  exact ⟨h1, if_neg (by rw [h1]; exact h)⟩
theorem ren_bad (h : valF g = 0) (hp : perF g to ≠ true) : errR g to = 1 ∧ resRn g to = [] := by
  have h1 : errR g to = 1 := by
    unfold errR
    rw [if_pos h, if_neg hp]
  exact ⟨h1, if_neg (by rw [h1]; omega)⟩
theorem ren_good (h : valF g = 0) (hp : perF g to = true) : errR g to = 0 ∧ resRn g to = (List.range g.length).map fun j => rnP g to g.length j := by
  have h1 : errR g to = 0 := by
    unfold errR
    rw [if_pos h, if_pos hp]
  exact ⟨h1, if_pos h1⟩
/-- The numbers met below k. -/
def ranU (to : List Int) (k : Nat) : NS := fun j => (List.range k).any fun q => decide (to[q]! = (j : Int))
theorem ranU_iff {k j : Nat} : ranU to k j = true ↔ ∃ q, q < k ∧ to[q]! = (j : Int) := by
  unfold ranU
  rw [List.any_eq_true]
  constructor
  · rintro ⟨q, h1, h2⟩
    exact ⟨q, List.mem_range.1 h1, of_decide_eq_true h2⟩
  · rintro ⟨q, h1, h2⟩
    exact ⟨q, List.mem_range.2 h1, decide_eq_true h2⟩
theorem ranU_zero (j : Nat) : ranU to 0 j = false := rfl
theorem ranU_put {k p : Nat} (h : to[k]! = (p : Int)) (j : Nat) : put (ranU to k) p j = ranU to (k + 1) j := by
  rw [Bool.eq_iff_iff, ranU_iff]
  by_cases hj : j = p
  · subst hj
    rw [put_same]
    exact ⟨fun _ => ⟨k, by omega, h⟩, fun _ => rfl⟩
  · rw [put_ne hj, ranU_iff]
    constructor
    · rintro ⟨q, h1, h2⟩
      exact ⟨q, by omega, h2⟩
    · rintro ⟨q, h1, h2⟩
      refine ⟨q, ?_, h2⟩
      have : q ≠ k := fun e => by
        rw [e, h] at h2
        omega
      omega
def goodTo (g : List (List Int)) (to : List Int) (i : Nat) : Prop := nodeB to[i]! g.length = true ∧ ∀ j, j < i → to[j]! ≠ to[i]!
theorem good_not {i : Nat} (h : ¬ goodTo g to i) (hi : i < to.length) : perF g to ≠ true := fun hp => h ((per_iff.1 hp).2.2 i hi)
theorem good_seen {i p : Nat} (hp : to[i]! = (p : Int)) (hs : ranU to i p = true) : ¬ goodTo g to i := fun h => by
  obtain ⟨q, h1, h2⟩ := ranU_iff.1 hs
  exact h.2 q h1 (h2.trans hp.symm)
theorem good_new {i p : Nat} (hp : to[i]! = (p : Int)) (hn : nodeB to[i]! g.length = true) (hs : ranU to i p = false) : goodTo g to i := ⟨hn, fun j hj e => by
  have := ranU_iff.2 ⟨j, hj, e.trans hp⟩
  rw [hs] at this
  cases this⟩
theorem node_nat {v : Int} {n : Nat} (h : nodeB v n = true) : ∃ p : Nat, v = (p : Int) ∧ p < n := by
  have := of_decide_eq_true h
  exact ⟨v.toNat, by omega, by omega⟩
theorem rnP_succ (hp : perF g to = true) {k D : Nat} (hk : k < g.length) (hD : to[k]! = (D : Int)) (j : Nat) : rnP g to (k + 1) j = if j = D then renR g to k else rnP g to k j := by
  by_cases hj : j = D
  · rw [if_pos hj, hj]
    exact rnP_at hp (by omega) (by omega) hD
  · rw [if_neg hj]
    exact rnP_other (by rw [hD]; omega)
theorem renR_take {v q : Nat} (h : q < g[v]!.length) {p : Nat} (hp : g[v]![q]! = (p : Int)) : (renR g to v).take (q + 1) = (renR g to v).take q ++ [to[p]!] := by
  unfold renR
  rw [List.take_succ_eq_append_getElem (by simpa using h)]
  congr 2
  rw [List.getElem_map]
  have : g[v]![q] = (p : Int) := by
    rw [← hp]
    exact (getElem!_pos (g[v]!) q h).symm
  rw [this]
  rfl
theorem renR_len (v : Nat) : (renR g to v).length = g[v]!.length := by simp [renR]
end
end Go.Proofs.Ytchkckflpmepkaa
