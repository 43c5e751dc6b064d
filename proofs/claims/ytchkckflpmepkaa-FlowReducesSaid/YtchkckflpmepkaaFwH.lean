/-
  Slices of truth values; the search of the reference, as mathematics; set.
-/
import Derived.Test.YtchkckflpmepkaaFwG
import Derived.Deep.OwnRows
namespace Go.Proofs.Ytchkckflpmepkaa
open Go.RowKit

/-- A block of truth values. -/
def BoolB (w : World) (B n : Nat) (s : NS) : Prop := ∃ arr : Array Value, w.heap[B]? = some (.cells arr 4 (0, 0)) ∧ arr.size = n ∧ ∀ j, j < n → arr[j]? = some (.bool (s j))
theorem BoolB.lt {w : World} {B n : Nat} {s : NS} (h : BoolB w B n s) : B < w.heap.size := by
  obtain ⟨arr, h1, -⟩ := h
  exact lt_of_block h1
theorem BoolB.block {w w' : World} {B n : Nat} {s : NS} (h : BoolB w B n s) (hb : w'.heap[B]? = w.heap[B]?) : BoolB w' B n s := by
  obtain ⟨arr, h1, h2⟩ := h
  exact ⟨arr, hb.trans h1, h2⟩
theorem BoolB.below {w w' : World} {B n : Nat} {s : NS} (h : BoolB w B n s) (hb : Below w.heap.size w w') : BoolB w' B n s := h.block (hb.block _ h.lt)
theorem BoolB.cell {w : World} {B n : Nat} {s : NS} (h : BoolB w B n s) {j : Nat} (hj : j < n) : w.cell? ⟨B, j, none⟩ = some (.bool (s j)) ∧ w.frozen? ⟨B, j, none⟩ = false := by
  obtain ⟨arr, h1, h2, h3⟩ := h
  refine ⟨?_, by simp [World.frozen?, h1]⟩
  simp only [World.cell?, h1]
  exact h3 j hj
theorem BoolB.set {w : World} {B n : Nat} {s t : NS} (h : BoolB w B n s) {D : Nat} (y : Bool) (ht : ∀ j, j < n → t j = if j = D then y else s j) : BoolB (w.setCell ⟨B, D, none⟩ (.bool y)) B n t := by
  obtain ⟨arr, h1, h2, h3⟩ := h
  refine ⟨_, heap_setCell_same w B D _ _ _ h1, by simpa using h2, fun j hj => ?_⟩
  rw [ht j hj, Array.getElem?_setIfInBounds]
  by_cases hD : j = D
  · subst hD
    simp [h2, hj]
  · rw [if_neg (fun e => hD e.symm), if_neg hD]
    exact h3 j hj
theorem BoolB.put {w : World} {B n : Nat} {s : NS} (h : BoolB w B n s) (v : Nat) : BoolB (w.setCell ⟨B, v, none⟩ (.bool true)) B n (put s v) := h.set true (fun _ _ => rfl)
theorem BoolB.congr {w : World} {B n : Nat} {s t : NS} (h : BoolB w B n s) (e : ∀ j, j < n → s j = t j) : BoolB w B n t := by
  obtain ⟨arr, h1, h2, h3⟩ := h
  exact ⟨arr, h1, h2, fun j hj => by rw [← e j hj]; exact h3 j hj⟩
theorem BoolB.ne {w : World} {B n P o : Nat} {s : NS} {u : Value} (h : BoolB w B n s) (hne : B ≠ P) : BoolB (w.setCell ⟨P, o, none⟩ u) B n s := h.block (heap_setCell_other w ⟨P, o, none⟩ B u hne)
theorem BoolB.made (w : World) (n : Nat) : BoolB (w.alloc (.cells (madeCells #[.bool false] n) 4)) w.heap.size n non :=
  ⟨_, heap_alloc_new w _, size_madeCells _ _, fun j hj => by simp [madeCells, hj, Nat.mod_one, non]⟩
theorem BoolB.grown {w w' : World} {row : Option Nat} {B n : Nat} {s : NS} (h : BoolB w B n s) (hg : w.grownBy w' row) (hne : row ≠ some B) : BoolB w' B n s := h.block (hg.block B h.lt (fun e => hne e.symm))
theorem own_neB {w : World} {base size k B n : Nat} {e : TypeId} {v : Value} {s : NS} {xs : List Value} (h : w.ownsRow base e size v k xs) (hB : BoolB w B n s) (hne : e ≠ 4) : v.ownBlock ≠ some B := by
  obtain ⟨arr, h1, -⟩ := hB
  exact own_ne h h1 hne
theorem nd_len : ∀ (n : Nat) (l : List Nat), l.Nodup → (∀ x ∈ l, x < n) → l.length ≤ n
  | 0, l, _, h => by
    cases l with
    | nil => exact Nat.le_refl _
    | cons a l => have := h a (List.mem_cons_self ..); omega
  | n + 1, l, hd, h => by
    by_cases hm : n ∈ l
    · have hp := List.perm_cons_erase hm
      have hl := hp.length_eq
      have hd2 := hp.nodup_iff.1 hd
      rw [List.nodup_cons] at hd2
      have := nd_len n (l.erase n) hd2.2 (fun x hx => by
        have h1 := h x (List.mem_of_mem_erase hx)
        have h2 : x ≠ n := fun e => hd2.1 (e ▸ hx)
        omega)
      rw [List.length_cons] at hl
      omega
    · have := nd_len n l hd (fun x hx => by
        have h1 := h x hx
        have h2 : x ≠ n := fun e => hm (e ▸ hx)
        omega)
      omega
/-- Where the search of the reference stands: the list of nodes, how many are done, and how many successors of the next one. -/
structure Bfs (G : List (List Nat)) (x : Int) (a : Nat) (T : List Nat) (k i : Nat) (s : NS) : Prop where
  nd : T.Nodup
  lt : ∀ t ∈ T, t < G.length
  mem : ∀ j, j < G.length → (s j = true ↔ j ∈ T)
  way : ∀ t ∈ T, Way G x a t
  start : a ∈ T
  done : ∀ q, q < k → q < T.length → ∀ u ∈ suc G T[q]!, (u : Int) ≠ x → u ∈ T
  part : k < T.length → ∀ u ∈ (suc G T[k]!).take i, (u : Int) ≠ x → u ∈ T
section
variable {G : List (List Nat)} {x : Int} {a : Nat} {T : List Nat} {k i : Nat} {s : NS}
theorem Bfs.begin (_ : okG G) (ha : a < G.length) (hx : (a : Int) ≠ x) : Bfs G x a [a] 0 0 (put non a) where
  nd := by simp
  lt := fun t ht => by rw [List.mem_singleton] at ht; omega
  mem := fun j _ => by
    unfold put non
    rw [List.mem_singleton]
    split
    · simp [*]
    · simp [*]
  way := fun t ht => by
    rw [List.mem_singleton] at ht
    rw [ht]
    exact .here hx
  start := by simp
  done := fun q hq => by omega
  part := fun _ u hu => by
    rw [List.take_zero] at hu
    cases hu
theorem Bfs.len (h : Bfs G x a T k i s) : T.length ≤ G.length := nd_len _ _ h.nd h.lt
theorem Bfs.skip (h : Bfs G x a T k i s) (hk : k < T.length) (hi : i < (suc G T[k]!).length) (hs : ((suc G T[k]!)[i]! : Int) = x ∨ (suc G T[k]!)[i]! ∈ T) : Bfs G x a T k (i + 1) s :=
  { h with
    part := fun _ u hu hux => by
      rw [take_succ hi, List.mem_append, List.mem_singleton] at hu
      rcases hu with hu | rfl
      · exact h.part hk u hu hux
      · rcases hs with hs | hs
        · exact absurd hs hux
        · exact hs }
theorem get_app {l r : List Nat} {q : Nat} (h : q < l.length) : (l ++ r)[q]! = l[q]! := by
  rw [List.getElem!_eq_getElem?_getD, List.getElem!_eq_getElem?_getD, List.getElem?_append_left h]
theorem Bfs.more (hG : okG G) (h : Bfs G x a T k i s) (hk : k < T.length) (hi : i < (suc G T[k]!).length) {u : Nat} (hu : (suc G T[k]!)[i]! = u) (hux : (u : Int) ≠ x) (hT : s u = false) : Bfs G x a (T ++ [u]) k (i + 1) (put s u) := by
  have hmem : u ∈ suc G T[k]! := by rw [← hu]; exact at_get hi
  have hlt := hG.2.2.2 _ _ hmem
  have hnT : u ∉ T := fun hh => by rw [(h.mem u hlt).2 hh] at hT; cases hT
  refine ⟨?_, ?_, ?_, ?_, ?_, ?_, ?_⟩
  · rw [List.nodup_append]
    refine ⟨h.nd, by simp, fun y hy z hz => ?_⟩
    rw [List.mem_singleton] at hz
    exact fun e => hnT (by rw [← hz, ← e]; exact hy)
  · intro t ht
    rcases List.mem_append.1 ht with ht | ht
    · exact h.lt t ht
    · rw [List.mem_singleton] at ht; omega
  · intro j hj
    unfold put
    rw [List.mem_append, List.mem_singleton]
    split
    · simp [*]
    · rename_i e
      rw [h.mem j hj]
      exact ⟨.inl, fun hh => hh.elim id (fun hh => absurd hh e)⟩
  · intro t ht
    rcases List.mem_append.1 ht with ht | ht
    · exact h.way t ht
    · rw [List.mem_singleton] at ht
      rw [ht]
      exact .next (h.way _ (at_get hk)) hmem hux
  · exact List.mem_append_left _ h.start
  · intro q hq hqT v hv hvx
    rw [get_app (by omega)] at hv
    exact List.mem_append_left _ (h.done q hq (by omega) v hv hvx)
  · intro _ v hv hvx
    rw [get_app hk, take_succ hi, List.mem_append, List.mem_singleton] at hv
    rcases hv with hv | hv
    · exact List.mem_append_left _ (h.part hk v hv hvx)
    · rw [hv, hu]
      simp
theorem Bfs.next (h : Bfs G x a T k (suc G T[k]!).length s) (hk : k < T.length) : Bfs G x a T (k + 1) 0 s :=
  { h with
    done := fun q hq hqT u hu hux => by
      by_cases e : q = k
      · subst e
        exact h.part hk u (by rw [List.take_length]; exact hu) hux
      · exact h.done q (by omega) hqT u hu hux
    part := fun _ u hu => by
      rw [List.take_zero] at hu
      cases hu }
theorem Bfs.fin (hG : okG G) (ha : a < G.length) (h : Bfs G x a T T.length 0 s) (j : Nat) (hj : j < G.length) : s j = wy G x a j := by
  rw [Bool.eq_iff_iff, h.mem j hj, wy_iff hG ha]
  constructor
  · exact h.way j
  · intro hw
    clear hj
    induction hw with
    | here _ => exact h.start
    | next _ m n ih =>
      obtain ⟨q, hq, rfl⟩ := mem_at.1 ih
      exact h.done q hq hq _ m n
theorem wy_self (v : Nat) : wy G (v : Int) v = non := by
  unfold wy
  rw [vis_stop (.inl rfl)]
end
end Go.Proofs.Ytchkckflpmepkaa
