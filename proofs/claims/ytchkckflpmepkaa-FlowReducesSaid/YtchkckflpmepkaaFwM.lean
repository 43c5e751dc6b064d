/-
  Graphs as lists; which nodes ways lead to; the searches of both packages as functions.
-/
import Derived.Lib.Hide
namespace Go.Proofs.Ytchkckflpmepkaa

/-- The successors of a node. -/
def suc (G : List (List Nat)) (v : Nat) : List Nat := G[v]!
/-- A graph of one to ten nodes with at most two successors each. -/
def okG (G : List (List Nat)) : Prop := 1 ≤ G.length ∧ G.length ≤ 10 ∧ (∀ v, (suc G v).length ≤ 2) ∧ ∀ v u, u ∈ suc G v → u < G.length
abbrev NS := Nat → Bool
def put (s : NS) (v : Nat) : NS := fun j => if j = v then true else s j
theorem put_same (s : NS) (v : Nat) : put s v v = true := if_pos rfl
theorem put_ne {s : NS} {v j : Nat} (h : j ≠ v) : put s v j = s j := if_neg h
theorem put_true {s : NS} {v j : Nat} (h : s j = true) : put s v j = true := by
  unfold put
  split
  · rfl
  · exact h
def non : NS := fun _ => false
/-- How many nodes below n are not in a set. -/
def free (s : NS) : Nat → Nat
  | 0 => 0
  | n + 1 => free s n + (if s n then 0 else 1)
theorem free_le (s : NS) : ∀ n, free s n ≤ n
  | 0 => Nat.le_refl _
  | n + 1 => by
    have := free_le s n
    show free s n + _ ≤ _
    split <;> omega
theorem free_mono {s t : NS} (h : ∀ j, s j = true → t j = true) : ∀ n, free t n ≤ free s n
  | 0 => Nat.le_refl _
  | n + 1 => by
    have := free_mono h n
    show free t n + _ ≤ free s n + _
    by_cases hs : s n = true
    · rw [if_pos hs, if_pos (h n hs)]; omega
    · rw [if_neg hs]
      split <;> omega
theorem free_put_out {s : NS} {v : Nat} : ∀ n, n ≤ v → free (put s v) n = free s n
  | 0, _ => rfl
  | n + 1, h => by
    show free (put s v) n + _ = free s n + _
    rw [free_put_out n (by omega), put_ne (by omega)]
theorem free_put {s : NS} {v : Nat} (hv : s v = false) : ∀ n, v < n → free (put s v) n + 1 = free s n
  | 0, h => by omega
  | n + 1, h => by
    show free (put s v) n + (if put s v n then 0 else 1) + 1 = free s n + (if s n then 0 else 1)
    by_cases e : n = v
    · subst e
      rw [free_put_out n (Nat.le_refl _), put_same, hv]
      simp
    · have := free_put hv n (by omega)
      rw [put_ne e]
      omega
theorem free_non : ∀ n, free non n = n
  | 0 => rfl
  | n + 1 => by
    show free non n + 1 = _
    rw [free_non n]
/-- The search of without: the nodes seen behind a visit. -/
def visF (G : List (List Nat)) (x : Int) : Nat → Nat → NS → NS
  | 0, _, s => s
  | f + 1, v, s => if (v : Int) = x ∨ s v = true then s else (suc G v).foldl (fun s u => visF G x f u s) (put s v)
/-- A way from a node to another one that does not go through x. -/
inductive Way (G : List (List Nat)) (x : Int) (a : Nat) : Nat → Prop
  | here : (a : Int) ≠ x → Way G x a a
  | next {u v : Nat} : Way G x a u → v ∈ suc G u → (v : Int) ≠ x → Way G x a v
theorem Way.start {G : List (List Nat)} {x : Int} {a b : Nat} (h : Way G x a b) : (a : Int) ≠ x := by
  induction h with
  | here h => exact h
  | next _ _ _ ih => exact ih
theorem Way.stop {G : List (List Nat)} {x : Int} {a b : Nat} (h : Way G x a b) : (b : Int) ≠ x := by
  cases h with
  | here h => exact h
  | next _ _ h => exact h
theorem Way.first {G : List (List Nat)} {x : Int} {a u b : Nat} (ha : (a : Int) ≠ x) (hu : u ∈ suc G a) (h : Way G x u b) : Way G x a b := by
  induction h with
  | here h => exact .next (.here ha) hu h
  | next _ h1 h2 ih => exact .next ih h1 h2
theorem Way.trans {G : List (List Nat)} {x : Int} {a u b : Nat} (h1 : Way G x a u) (h : Way G x u b) : Way G x a b := by
  induction h with
  | here h => exact h1
  | next _ h1 h2 ih => exact .next ih h1 h2
theorem Way.lt {G : List (List Nat)} (hG : okG G) {x : Int} {a b : Nat} (h : Way G x a b) (ha : a < G.length) : b < G.length := by
  cases h with
  | here h => exact ha
  | next _ h1 h2 => exact hG.2.2.2 _ _ h1
theorem Way.weaken {G : List (List Nat)} {x : Int} {a b : Nat} (h : Way G x a b) : Way G (-1) a b := by
  induction h with
  | here h => exact .here (by omega)
  | next _ h1 h2 ih => exact .next ih h1 (by omega)
section
variable {G : List (List Nat)} {x : Int}
theorem vis_mono : ∀ f v s j, s j = true → visF G x f v s j = true
  | 0, _, _, _, h => h
  | f + 1, v, s, j, h => by
    unfold visF
    split
    · exact h
    · have : ∀ (l : List Nat) (s : NS), s j = true → l.foldl (fun s u => visF G x f u s) s j = true := by
        intro l
        induction l with
        | nil => exact fun s h => h
        | cons u l ih => exact fun s h => ih _ (vis_mono f u s j h)
      exact this _ _ (put_true h)
theorem fold_mono (f : Nat) (j : Nat) : ∀ (l : List Nat) (s : NS), s j = true → l.foldl (fun s u => visF G x f u s) s j = true
  | [], _, h => h
  | u :: l, s, h => fold_mono f j l _ (vis_mono f u s j h)
/-- What a visit makes of a set, of all that is in it: it is seen, it is a way's end, and where it leads is seen. -/
theorem vis_all (hG : okG G) : ∀ f v s, v < G.length → free s G.length < f →
    ((v : Int) ≠ x → visF G x f v s v = true) ∧ (∀ j, visF G x f v s j = true → s j = true ∨ Way G x v j) ∧
    (∀ y, visF G x f v s y = true → s y = false → ∀ z ∈ suc G y, (z : Int) ≠ x → visF G x f v s z = true)
  | 0, _, _, _, h => by omega
  | f + 1, v, s, hv, hf => by
    have fold : ∀ (l : List Nat) (s : NS), (∀ u ∈ l, u < G.length) → free s G.length < f →
        (∀ u ∈ l, (u : Int) ≠ x → l.foldl (fun s u => visF G x f u s) s u = true) ∧
        (∀ j, l.foldl (fun s u => visF G x f u s) s j = true → s j = true ∨ ∃ u ∈ l, Way G x u j) ∧
        (∀ y, l.foldl (fun s u => visF G x f u s) s y = true → s y = false → ∀ z ∈ suc G y, (z : Int) ≠ x → l.foldl (fun s u => visF G x f u s) s z = true) := by
      intro l
      induction l with
      | nil => exact fun s _ _ => ⟨fun _ h => (nomatch h), fun j h => .inl h, fun y h1 h2 => by rw [List.foldl_nil] at h1; rw [h1] at h2; cases h2⟩
      | cons u l ih =>
        intro s hl hf
        obtain ⟨a1, a2, a3⟩ := vis_all hG f u s (hl u (List.mem_cons_self ..)) hf
        obtain ⟨b1, b2, b3⟩ := ih (visF G x f u s) (fun w hw => hl w (List.mem_cons_of_mem _ hw)) (Nat.lt_of_le_of_lt (free_mono (fun j h => vis_mono f u s j h) _) hf)
        refine ⟨fun w hw hx => ?_, fun j hj => ?_, fun y hy hs z hz hx => ?_⟩
        · rcases List.mem_cons.1 hw with rfl | hw
          · exact fold_mono f _ l _ (a1 hx)
          · exact b1 w hw hx
        · rcases b2 j hj with h | ⟨w, hw, h⟩
          · rcases a2 j h with h | h
            · exact .inl h
            · exact .inr ⟨u, List.mem_cons_self .., h⟩
          · exact .inr ⟨w, List.mem_cons_of_mem _ hw, h⟩
        · by_cases h2 : visF G x f u s y = true
          · exact fold_mono f _ l _ (a3 y h2 hs z hz hx)
          · exact b3 y hy (Bool.eq_false_iff.2 h2) z hz hx
    by_cases hc : (v : Int) = x ∨ s v = true
    · have e : visF G x (f + 1) v s = s := by unfold visF; rw [if_pos hc]
      rw [e]
      refine ⟨fun h => ?_, fun j h => .inl h, fun y h1 h2 => by rw [h1] at h2; cases h2⟩
      rcases hc with hc | hc
      · exact absurd hc h
      · exact hc
    · have e : visF G x (f + 1) v s = (suc G v).foldl (fun s u => visF G x f u s) (put s v) := by
        conv => lhs; unfold visF
        rw [if_neg hc]
      have hsv : s v = false := Bool.eq_false_iff.2 (fun h => hc (.inr h))
      have hfr := free_put hsv _ hv
      obtain ⟨c1, c2, c3⟩ := fold (suc G v) (put s v) (fun u hu => hG.2.2.2 v u hu) (by omega)
      rw [e]
      refine ⟨fun _ => fold_mono f v _ _ (put_same s v), fun j hj => ?_, fun y hy hs z hz hx => ?_⟩
      · rcases c2 j hj with h | ⟨u, hu, h⟩
        · by_cases ejv : j = v
          · subst ejv
            exact .inr (.here (fun h => hc (.inl h)))
          · rw [put_ne ejv] at h
            exact .inl h
        · exact .inr (Way.first (fun h => hc (.inl h)) hu h)
      · by_cases eyv : y = v
        · subst eyv
          exact c1 z hz hx
        · exact c3 y hy (by rw [put_ne eyv]; exact hs) z hz hx
/-- The nodes to which ways lead that do not go through x. -/
def wy (G : List (List Nat)) (x : Int) (a : Nat) : NS := visF G x 11 a non
theorem wy_iff (hG : okG G) {a : Nat} (ha : a < G.length) (b : Nat) : wy G x a b = true ↔ Way G x a b := by
  obtain ⟨h1, h2, h3⟩ := vis_all (x := x) hG 11 a non ha (by rw [free_non]; have := hG.2.1; omega)
  constructor
  · intro h
    rcases h2 b h with h | h
    · cases h
    · exact h
  · intro h
    induction h with
    | here h => exact h1 h
    | next _ m n ih => exact h3 _ ih rfl _ m n
theorem wy_lt (hG : okG G) {a b : Nat} (ha : a < G.length) (h : wy G x a b = true) : b < G.length := ((wy_iff hG ha b).1 h).lt hG ha
/-- The numbers below m that are in a set. -/
def setL (s : NS) (m : Nat) : List Nat := (List.range m).filter s
theorem mem_setL {s : NS} {m j : Nat} : j ∈ setL s m ↔ j < m ∧ s j = true := by
  unfold setL
  rw [List.mem_filter, List.mem_range]
theorem setL_more {s : NS} {n : Nat} : ∀ d, (∀ j, n ≤ j → s j = false) → setL s (n + d) = setL s n
  | 0, _ => rfl
  | d + 1, h => by
    unfold setL
    rw [show n + (d + 1) = (n + d) + 1 by omega, List.range_succ, List.filter_append]
    simp only [List.filter_cons, h (n + d) (by omega), List.filter_nil]
    simp only [Bool.false_eq_true, if_false, List.append_nil]
    exact setL_more d h
theorem setL_congr {s t : NS} {m : Nat} (h : ∀ j, j < m → s j = t j) : setL s m = setL t m := List.filter_congr fun j hj => h j (List.mem_range.1 hj)
theorem setL_ten {s : NS} {n : Nat} (hn : n ≤ 10) (h : ∀ j, s j = true → j < n) : setL s 10 = setL s n := by
  have := setL_more (s := s) (n := n) (10 - n) (fun j hj => Bool.eq_false_iff.2 (fun e => by have := h j e; omega))
  rwa [show n + (10 - n) = 10 by omega] at this
theorem setL_succ {s : NS} {m : Nat} : setL s (m + 1) = setL s m ++ (if s m then [m] else []) := by
  unfold setL
  rw [List.range_succ, List.filter_append]
  congr 1
  cases h : s m <;> simp [h]
theorem setL_len {s : NS} : ∀ m, (setL s m).length + free s m = m
  | 0 => rfl
  | m + 1 => by
    rw [setL_succ, List.length_append]
    show _ + (free s m + _) = _
    have := setL_len (s := s) m
    cases h : s m <;> simp <;> (try omega)
/-- Order: a visit leaves a node behind those that it visits. -/
def ordF (G : List (List Nat)) : Nat → Nat → NS × List Nat → NS × List Nat
  | 0, _, p => p
  | f + 1, v, p => (((suc G v).foldl (fun p u => if p.1 u then p else ordF G f u p) (put p.1 v, p.2)).1, ((suc G v).foldl (fun p u => if p.1 u then p else ordF G f u p) (put p.1 v, p.2)).2 ++ [v])
def ordL (G : List (List Nat)) : List Nat := (ordF G 11 0 (non, [])).2.reverse
theorem ord_vis : ∀ f v p, p.1 v = false → (ordF G f v p).1 = visF G (-1) f v p.1
  | 0, _, _, _ => rfl
  | f + 1, v, p, h => by
    have fold : ∀ (l : List Nat) (p : NS × List Nat), (l.foldl (fun p u => if p.1 u then p else ordF G f u p) p).1 = l.foldl (fun s u => visF G (-1) f u s) p.1 := by
      intro l
      induction l with
      | nil => exact fun p => rfl
      | cons u l ih =>
        intro p
        rw [List.foldl_cons, List.foldl_cons, ih]
        congr 1
        by_cases hu : p.1 u = true
        · rw [if_pos hu]
          cases f with
          | zero => rfl
          | succ f => unfold visF; rw [if_pos (.inr hu)]
        · rw [if_neg hu]
          exact ord_vis f u p (Bool.eq_false_iff.2 hu)
    unfold ordF visF
    rw [if_neg (by rw [h]; simp), fold]
theorem ord_len (hG : okG G) : ∀ f v p, v < G.length → p.1 v = false → (ordF G f v p).2.length + free (ordF G f v p).1 G.length = p.2.length + free p.1 G.length
  | 0, _, _, _, _ => rfl
  | f + 1, v, p, hv, h => by
    have fold : ∀ (l : List Nat) (p : NS × List Nat), (∀ u ∈ l, u < G.length) → (l.foldl (fun p u => if p.1 u then p else ordF G f u p) p).2.length + free (l.foldl (fun p u => if p.1 u then p else ordF G f u p) p).1 G.length = p.2.length + free p.1 G.length := by
      intro l
      induction l with
      | nil => exact fun p _ => rfl
      | cons u l ih =>
        intro p hl
        rw [List.foldl_cons, ih _ (fun w hw => hl w (List.mem_cons_of_mem _ hw))]
        by_cases hu : p.1 u = true
        · rw [if_pos hu]
        · rw [if_neg hu]
          exact ord_len hG f u p (hl u (List.mem_cons_self ..)) (Bool.eq_false_iff.2 hu)
    have hp := free_put h _ hv
    have hf := fold (suc G v) (put p.1 v, p.2) (fun u hu => hG.2.2.2 v u hu)
    unfold ordF
    rw [List.length_append]
    simp only at hf ⊢
    simp only [List.length_cons, List.length_nil]
    omega
theorem ordL_len (hG : okG G) : (ordL G).length = (setL (wy G (-1) 0) G.length).length := by
  have h := ord_len hG 11 0 (non, []) hG.1 rfl
  rw [ord_vis 11 0 (non, []) rfl] at h
  have h2 := setL_len (s := wy G (-1) 0) G.length
  unfold ordL
  rw [List.length_reverse]
  unfold wy at h2 ⊢
  rw [free_non] at h
  simp only [List.length_nil] at h
  omega
theorem ordL_head (_ : okG G) : (ordL G)[0]? = some 0 := by
  unfold ordL ordF
  rw [List.reverse_append]
  rfl
end
end Go.Proofs.Ytchkckflpmepkaa
