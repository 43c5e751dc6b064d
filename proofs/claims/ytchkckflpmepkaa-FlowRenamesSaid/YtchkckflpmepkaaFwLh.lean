/-
  Graphs with other numbers, as mathematics.
-/
import Derived.Test.YtchkckflpmepkaaFwLg
namespace Go.Proofs.Ytchkckflpmepkaa

/-- The renamed rows. -/
def renR (g : List (List Int)) (to : List Int) (v : Nat) : List Int := g[v]!.map fun u => to[u.toNat]!
/-- A list of new numbers that has each node once, the entry first. -/
def perF (g : List (List Int)) (to : List Int) : Bool := decide (to.length = g.length) && decide (to[0]! = 0) && (List.range to.length).all fun i => nodeB to[i]! g.length && (List.range i).all fun j => decide (to[j]! ≠ to[i]!)
theorem per_iff {g : List (List Int)} {to : List Int} : perF g to = true ↔ to.length = g.length ∧ to[0]! = 0 ∧ ∀ i, i < to.length → nodeB to[i]! g.length = true ∧ ∀ j, j < i → to[j]! ≠ to[i]! := by
  unfold perF
  simp only [Bool.and_eq_true, decide_eq_true_eq, List.all_eq_true, List.mem_range]
  exact ⟨fun ⟨⟨h1, h2⟩, h3⟩ => ⟨h1, h2, h3⟩, fun ⟨h1, h2, h3⟩ => ⟨⟨h1, h2⟩, h3⟩⟩
/-- The error of Rename. -/
def errR (g : List (List Int)) (to : List Int) : Int := if valF g = 0 then (if perF g to then 0 else 1) else valF g
/-- The rows of the renamed graph, before some of the old rows are given. -/
def rnP (g : List (List Int)) (to : List Int) (k j : Nat) : List Int := match (List.range k).find? fun v => decide (to[v]! = (j : Int)) with
  | some v => renR g to v
  | none => []
/-- The renamed graph. -/
def rnG (g : List (List Int)) (to : List Int) : List (List Int) := (List.range g.length).map fun j => rnP g to g.length j
def resRn (g : List (List Int)) (to : List Int) : List (List Int) := if errR g to = 0 then rnG g to else []
section
variable {g : List (List Int)} {to : List Int}
theorem rnP_at (hp : perF g to = true) {k v : Nat} (hv : v < k) (hk : k ≤ g.length) {j : Nat} (hj : to[v]! = (j : Int)) : rnP g to k j = renR g to v := by
  obtain ⟨h1, -, h3⟩ := per_iff.1 hp
  have hinj : ∀ a b, a < to.length → b < to.length → to[a]! = to[b]! → a = b := fun a b ha hb e => by
    rcases Nat.lt_trichotomy a b with h | h | h
    · exact absurd e ((h3 b hb).2 a h)
    · exact h
    · exact absurd e.symm ((h3 a ha).2 b h)
  unfold rnP
  cases hf : (List.range k).find? fun v => decide (to[v]! = (j : Int)) with
  | none =>
    rw [List.find?_eq_none] at hf
    exact absurd (decide_eq_true hj) (hf v (List.mem_range.2 hv))
  | some u =>
    have hu : to[u]! = (j : Int) := of_decide_eq_true (by have := List.find?_some hf; exact this)
    have hm := List.mem_range.1 (List.mem_of_find?_eq_some hf)
    rw [hinj u v (by omega) (by omega) (hu.trans hj.symm)]
theorem rnP_none {k : Nat} {j : Nat} (h : ∀ v, v < k → to[v]! ≠ (j : Int)) : rnP g to k j = [] := by
  unfold rnP
  rw [List.find?_eq_none.2 (fun v hv => by rw [decide_eq_true_iff]; exact h v (List.mem_range.1 hv))]
theorem rnP_other {k : Nat} {j : Nat} (h : to[k]! ≠ (j : Int)) : rnP g to (k + 1) j = rnP g to k j := by
  unfold rnP
  rw [List.range_succ, List.find?_append]
  cases (List.range k).find? fun v => decide (to[v]! = (j : Int)) with
  | some v => rfl
  | none =>
    rw [List.find?_cons, decide_eq_false h]
    rfl
theorem rnG_len : (rnG g to).length = g.length := by simp [rnG]
theorem rnG_at {j : Nat} (hj : j < g.length) : (rnG g to)[j]! = rnP g to g.length j := by
  unfold rnG
  simp [hj]
/-- What is known of a right list of numbers: its places as natural numbers. -/
theorem per_nat (hp : perF g to = true) : ∃ π : Nat → Nat, (∀ v, v < g.length → to[v]! = (π v : Int) ∧ π v < g.length) ∧ π 0 = 0 ∧ (∀ a b, a < g.length → b < g.length → π a = π b → a = b) := by
  obtain ⟨h1, h2, h3⟩ := per_iff.1 hp
  refine ⟨fun v => (to[v]!).toNat, fun v hv => ?_, by show (to[0]!).toNat = 0; rw [h2]; rfl, fun a b ha hb e => ?_⟩
  · have := of_decide_eq_true (h3 v (by omega)).1
    exact ⟨by show to[v]! = ((to[v]!).toNat : Int); omega, by show (to[v]!).toNat < g.length; omega⟩
  · have ha' := of_decide_eq_true (h3 a (by omega)).1
    have hb' := of_decide_eq_true (h3 b (by omega)).1
    have e : (to[a]!).toNat = (to[b]!).toNat := e
    have e2 : to[a]! = to[b]! := by omega
    rcases Nat.lt_trichotomy a b with h | h | h
    · exact absurd e2 ((h3 b (by omega)).2 a h)
    · exact h
    · exact absurd e2.symm ((h3 a (by omega)).2 b h)
theorem ren_suc (hv : valF g = 0) (hp : perF g to = true) {π : Nat → Nat} (hπ : ∀ v, v < g.length → to[v]! = (π v : Int) ∧ π v < g.length) {v : Nat} (hvn : v < g.length) : suc (natG (rnG g to)) (π v) = (suc (natG g) v).map π := by
  rw [suc_nat, suc_nat, rnG_at (hπ v hvn).2, rnP_at hp hvn (Nat.le_refl _) (hπ v hvn).1]
  unfold renR
  rw [List.map_map, List.map_map]
  apply List.map_congr_left
  intro x hx
  have hxb := (val_zero hv).2.2.2 v hvn
  obtain ⟨i, hi, rfl⟩ := List.mem_iff_getElem.1 hx
  have := hxb i hi
  rw [getElem!_pos (g[v]!) i hi] at this
  show (to[(g[v]![i]).toNat]!).toNat = π (g[v]![i]).toNat
  rw [(hπ _ (by omega)).1]
  rfl
/-- The new numbers, as a map, go onto the nodes. -/
theorem per_onto {π : Nat → Nat} {n : Nat} (h1 : ∀ v, v < n → π v < n) (h2 : ∀ a b, a < n → b < n → π a = π b → a = b) {j : Nat} (hj : j < n) : ∃ v, v < n ∧ π v = j := by
  apply Classical.byContradiction
  intro hn
  have hnd : ((List.range n).map π).Nodup := by
    rw [List.nodup_iff_pairwise_ne, List.pairwise_map]
    have : (List.range n).Pairwise (· ≠ ·) := List.nodup_range
    refine List.Pairwise.imp_of_mem ?_ this
    intro a b ha hb hab e
    exact hab (h2 a b (List.mem_range.1 ha) (List.mem_range.1 hb) e)
  have := nd_len n (j :: (List.range n).map π) (List.nodup_cons.2 ⟨fun hm => by
    obtain ⟨v, hv, e⟩ := List.mem_map.1 hm
    exact hn ⟨v, List.mem_range.1 hv, e⟩, hnd⟩) (fun x hx => by
    rcases List.mem_cons.1 hx with e | e
    · omega
    · obtain ⟨v, hv, rfl⟩ := List.mem_map.1 e
      exact h1 v (List.mem_range.1 hv))
  rw [List.length_cons, List.length_map, List.length_range] at this
  omega
theorem ren_val (hv : valF g = 0) (hp : perF g to = true) : valF (rnG g to) = 0 := by
  obtain ⟨h1, h2, h3, h4⟩ := val_zero hv
  obtain ⟨π, hπ, h0, hinj⟩ := per_nat hp
  have hrow : ∀ j, j < g.length → ∃ v, v < g.length ∧ π v = j ∧ (rnG g to)[j]! = renR g to v := fun j hj => by
    obtain ⟨v, hv, e⟩ := per_onto (fun v hv => (hπ v hv).2) hinj hj
    exact ⟨v, hv, e, by rw [rnG_at hj, rnP_at hp hv (Nat.le_refl _) (by rw [(hπ v hv).1, e])]⟩
  refine val_ok (by rw [rnG_len]; omega) (fun j hj => ?_) (fun j hj i hi => ?_)
  · rw [rnG_len] at hj
    obtain ⟨v, hv, -, e⟩ := hrow j hj
    rw [e]
    unfold renR
    rw [List.length_map]
    exact h3 v hv
  · rw [rnG_len] at hj ⊢
    obtain ⟨v, hv, -, e⟩ := hrow j hj
    rw [e] at hi ⊢
    unfold renR at hi ⊢
    rw [List.length_map] at hi
    have hb := h4 v hv i hi
    have e2 : (g[v]!.map fun u => to[u.toNat]!)[i]! = to[(g[v]![i]!).toNat]! := by
      generalize g[v]! = r at hi
      simp [hi]
    rw [e2, (hπ _ (by omega)).1]
    have := (hπ (g[v]![i]!).toNat (by omega)).2
    exact decide_eq_true (by omega)
theorem ord_ren (hv : valF g = 0) (hp : perF g to = true) {π : Nat → Nat} (hπ : ∀ v, v < g.length → to[v]! = (π v : Int) ∧ π v < g.length) (hinj : ∀ a b, a < g.length → b < g.length → π a = π b → a = b) :
    ∀ f v (p q : NS × List Nat), v < g.length → (∀ u, u < g.length → q.1 (π u) = p.1 u) → q.2 = p.2.map π →
      (∀ u, u < g.length → (ordF (natG (rnG g to)) f (π v) q).1 (π u) = (ordF (natG g) f v p).1 u) ∧ (ordF (natG (rnG g to)) f (π v) q).2 = (ordF (natG g) f v p).2.map π
  | 0, _, _, _, _, h1, h2 => ⟨h1, h2⟩
  | f + 1, v, p, q, hvn, h1, h2 => by
    have hG := okG_val hv
    have hput : ∀ u, u < g.length → put q.1 (π v) (π u) = put p.1 v u := fun u hu => by
      by_cases e : u = v
      · rw [e, put_same, put_same]
      · rw [put_ne e, put_ne (fun e2 => e (hinj u v hu hvn e2)), h1 u hu]
    have hs := ren_suc hv hp hπ hvn
    have hl : ∀ u ∈ suc (natG g) v, u < g.length := fun u hu => by have := hG.2.2.2 v u hu; rwa [natG_len] at this
    have fold : ∀ i, i ≤ (suc (natG g) v).length → (∀ u, u < g.length → (ordU (natG (rnG g to)) f (put q.1 (π v), q.2) ((suc (natG g) v).map π) i).1 (π u) = (ordU (natG g) f (put p.1 v, p.2) (suc (natG g) v) i).1 u) ∧
        (ordU (natG (rnG g to)) f (put q.1 (π v), q.2) ((suc (natG g) v).map π) i).2 = (ordU (natG g) f (put p.1 v, p.2) (suc (natG g) v) i).2.map π := by
      intro i
      induction i with
      | zero => exact fun _ => ⟨hput, h2⟩
      | succ i ih =>
        intro hi
        obtain ⟨a1, a2⟩ := ih (by omega)
        have hun := hl _ (at_get (l := suc (natG g) v) (q := i) (by omega))
        have e : ((suc (natG g) v).map π)[i]! = π (suc (natG g) v)[i]! := by
          have hi' : i < (suc (natG g) v).length := by omega
          generalize suc (natG g) v = l at hi'
          simp [hi']
        cases hq : (ordU (natG g) f (put p.1 v, p.2) (suc (natG g) v) i).1 (suc (natG g) v)[i]!
        · rw [ordU_no (by omega) hq, ordU_no (by rw [List.length_map]; omega) (by rw [e, a1 _ hun]; exact hq), e]
          exact ord_ren hv hp hπ hinj f _ _ _ hun a1 a2
        · rw [ordU_yes (by omega) hq, ordU_yes (by rw [List.length_map]; omega) (by rw [e, a1 _ hun]; exact hq)]
          exact ⟨a1, a2⟩
    obtain ⟨b1, b2⟩ := fold _ (Nat.le_refl _)
    rw [ord_succ, ord_succ, hs, List.length_map]
    refine ⟨b1, ?_⟩
    show _ ++ _ = List.map π (_ ++ _)
    rw [List.map_append, b2]
    rfl
/-- The order of the renamed graph. -/
theorem resO_ren (hv : valF g = 0) (hp : perF g to = true) : ∃ π : Nat → Nat, (∀ v, v < g.length → to[v]! = (π v : Int) ∧ π v < g.length) ∧ resO (rnG g to) = (resO g).map π := by
  obtain ⟨π, hπ, h0, hinj⟩ := per_nat hp
  refine ⟨π, hπ, ?_⟩
  have hG := okG_val hv
  have := (ord_ren hv hp hπ hinj 11 0 (non, []) (non, []) (by have := hG.1; rwa [natG_len] at this) (fun _ _ => rfl) rfl).2
  unfold resO ordL
  rw [if_pos hv, if_pos (ren_val hv hp)]
  rw [h0] at this
  rw [this, List.map_reverse]
end
end Go.Proofs.Ytchkckflpmepkaa
