/-
  Reducible graphs, as mathematics: what the reference's passes leave.
-/
import Derived.Test.YtchkckflpmepkaaFwPa
import Derived.Test.YtchkckflpmepkaaFwLf
namespace Go.Proofs.Ytchkckflpmepkaa

section
variable {G : List (List Nat)}
/-- Nodes reached by edges that are no back edges. -/
inductive Fw (G : List (List Nat)) : Nat → Prop
  | here : Fw G 0
  | next {u v : Nat} : Fw G u → v ∈ suc G u → domB G v u = false → Fw G v
theorem Fw.part {u : Nat} (h : Fw G u) (x : Nat) : Fw G x ∨ Way G (x : Int) 0 u := by
  induction h with
  | here =>
    by_cases hx : 0 = x
    · subst hx
      exact .inl .here
    · exact .inr (.here (by omega))
  | @next u v h1 h2 h3 ih =>
    rcases ih with ih | ih
    · exact .inl ih
    · by_cases hx : v = x
      · subst hx
        exact .inl (.next h1 h2 h3)
      · exact .inr (.next ih h2 (by omega))
theorem way_fw (hG : okG G) {v : Nat} (h : Way G (-1) 0 v) : Fw G v := by
  induction h with
  | here _ => exact .here
  | @next u v _ hv _ ih =>
    cases hd : domB G v u
    · exact .next ih hv hd
    · rcases ih.part v with h | h
      · exact h
      · exact absurd h ((dom_iff hG).1 hd)
/-- Nothing new is open behind a visit. -/
def Gr (p q : NS × NS) : Prop := ∀ x, q.1 x = true → q.2 x = false → p.1 x = true ∧ p.2 x = false
theorem frL_rank {F : Nat → NS × NS → Bool × (NS × NS)} {sk : Nat → Bool} {p : NS × NS} :
    ∀ (l : List Nat), (∀ u ∈ l, sk u = false → ∀ q, Gr p q → (F u q).1 = true ∧ Gr p (F u q).2) → ∀ q, Gr p q → (frL F sk l q).1 = true ∧ Gr p (frL F sk l q).2
  | [], _, q, hq => ⟨rfl, hq⟩
  | u :: l, h, q, hq => by
    have ih := frL_rank l (fun x hx => h x (List.mem_cons_of_mem _ hx))
    unfold frL
    by_cases hs : sk u = true
    · rw [if_pos hs]
      exact ih q hq
    · rw [if_neg hs]
      obtain ⟨h1, h2⟩ := h u (List.mem_cons_self ..) (by simpa using hs) q hq
      rw [if_pos h1]
      exact ih _ h2
theorem fre_rank (hG : okG G) {ρ : Nat → Nat} (hρ : ∀ u, wy G (-1) 0 u = true → ∀ w ∈ suc G u, domB G w u = false → ρ w < ρ u) :
    ∀ f v p, wy G (-1) 0 v = true → (∀ x, p.1 x = true → p.2 x = false → ρ v < ρ x) → (freF G f v p).1 = true ∧ Gr p (freF G f v p).2
  | 0, _, _, _, _ => ⟨rfl, fun _ h1 h2 => ⟨h1, h2⟩⟩
  | f + 1, v, p, hv, hp => by
    unfold freF
    by_cases hc : p.1 v = true ∨ p.2 v = true
    · rw [if_pos hc]
      refine ⟨?_, fun _ h1 h2 => ⟨h1, h2⟩⟩
      cases h2 : p.2 v
      · rcases hc with hc | hc
        · have := hp v hc h2
          omega
        · rw [h2] at hc
          cases hc
      · rfl
    · rw [if_neg hc]
      have hall := frL_rank (F := fun u q => freF G f u q) (sk := fun u => domB G u v) (p := (put p.1 v, p.2)) (suc G v) (fun u hu hs q hq => by
        have hr := reach_closed hG v u hv hu
        have hlt := hρ v hv u hu hs
        obtain ⟨h1, h2⟩ := fre_rank hG hρ f u q hr (fun x h1 h2 => by
          obtain ⟨a1, a2⟩ := hq x h1 h2
          by_cases hx : x = v
          · rw [hx]; exact hlt
          · have a1' : put p.1 v x = true := a1
            rw [put_ne hx] at a1'
            have := hp x a1' a2
            omega)
        refine ⟨h1, fun x b1 b2 => ?_⟩
        obtain ⟨c1, c2⟩ := h2 x b1 b2
        exact hq x c1 c2) (put p.1 v, p.2) (fun _ h1 h2 => ⟨h1, h2⟩)
      unfold finF
      rw [if_pos hall.1]
      refine ⟨rfl, fun x h1 h2 => ?_⟩
      have hx : x ≠ v := fun e => by
        have h2' : put _ v x = false := h2
        rw [e, put_same] at h2'
        cases h2'
      have h2' : put _ v x = false := h2
      rw [put_ne hx] at h2'
      obtain ⟨c1, c2⟩ := hall.2 x h1 h2'
      have c1' : put p.1 v x = true := c1
      rw [put_ne hx] at c1'
      exact ⟨c1', c2⟩
/-- Whether the reference may strike a node. -/
def remB (G : List (List Nat)) (L : NS) (v : Nat) : Bool := (suc G v).all fun s => !(L s && !domB G s v)
def RedI (G : List (List Nat)) (L : NS) : Prop := (∀ j, L j = true → wy G (-1) 0 j = true) ∧ Rk G fun j => wy G (-1) 0 j && !L j
theorem red_start : RedI G (wy G (-1) 0) := ⟨fun _ h => h, ⟨fun _ => 0, fun u hu => by cases h : wy G (-1) 0 u <;> simp [h] at hu⟩⟩
theorem red_strike (hG : okG G) {L : NS} (h : RedI G L) {v : Nat} (hv : L v = true) (hr : remB G L v = true) : RedI G fun j => if j = v then false else L j := by
  refine ⟨fun j hj => ?_, ?_⟩
  · dsimp only at hj
    by_cases e : j = v
    · rw [if_pos e] at hj
      cases hj
    · rw [if_neg e] at hj
      exact h.1 j hj
  · have hw := h.1 v hv
    have e : (fun j => wy G (-1) 0 j && !(if j = v then false else L j)) = put (fun j => wy G (-1) 0 j && !L j) v := by
      funext j
      by_cases e : j = v
      · subst e
        rw [put_same, if_pos rfl, hw]
        rfl
      · rw [put_ne e, if_neg e]
    rw [e]
    refine rk_put h.2 fun w hw2 hd => ?_
    unfold remB at hr
    have := List.all_eq_true.1 hr w hw2
    rw [hd] at this
    have hL : L w = false := by simpa using this
    rw [hL, reach_closed hG v w hw hw2]
    rfl
theorem red_end (hG : okG G) {L : NS} (h : RedI G L) {n : Nat} (hn : n = G.length) (hL : ∀ j, j < n → L j = true → remB G L j = false) : (freF G 11 0 (non, non)).1 = decide ((setL L n).length = 0) := by
  have h0 : wy G (-1) 0 0 = true := (wy_iff hG hG.1 0).2 (.here (by omega))
  rw [Bool.eq_iff_iff, decide_eq_true_iff]
  constructor
  · intro ht
    have hR : Rk G (non, non).2 := ⟨fun _ => 0, fun u hu => by cases hu⟩
    obtain ⟨⟨ρ, hρ⟩, h2, -⟩ := fre_true hG 11 0 (non, non) (by show free non _ < 11; rw [free_non]; have := hG.2.1; omega) hG.1 hR ht
    have hall : ∀ u, Fw G u → (freF G 11 0 (non, non)).2.2 u = true := fun u hu => by
      induction hu with
      | here => exact h2
      | @next a b _ h3 h4 ih => exact (hρ a ih b h3 h4).1
    have hno : ∀ k j, ρ j < k → L j = true → False := by
      intro k
      induction k with
      | zero => intro j hj; omega
      | succ k ih =>
        intro j hj hLj
        have hw := h.1 j hLj
        have hjn : j < n := by rw [hn]; exact wy_lt hG hG.1 hw
        have hrem := hL j hjn hLj
        have : ∃ s ∈ suc G j, (!(L s && !domB G s j)) = false := Classical.byContradiction fun hne => by
          have : remB G L j = true := List.all_eq_true.2 fun s hs => by
            cases hc : (!(L s && !domB G s j))
            · exact absurd ⟨s, hs, hc⟩ hne
            · rfl
          rw [this] at hrem
          cases hrem
        obtain ⟨s, hs, hc⟩ := this
        have hc2 : L s = true ∧ domB G s j = false := by
          cases h1 : L s <;> cases h2 : domB G s j <;> simp [h1, h2] at hc ⊢
        have hlt := (hρ j (hall j (way_fw hG ((wy_iff hG hG.1 j).1 hw))) s hs hc2.2).2
        exact ih s (by omega) hc2.1
    have hemp : setL L n = [] := List.eq_nil_iff_forall_not_mem.2 fun j hj => hno (ρ j + 1) j (by omega) (mem_setL.1 hj).2
    rw [hemp]
    rfl
  · intro hz
    have hemp := List.eq_nil_of_length_eq_zero hz
    have hLf : ∀ j, L j = false := fun j => Bool.eq_false_iff.2 fun hj => by
      have hm : j ∈ setL L n := mem_setL.2 ⟨by rw [hn]; exact wy_lt hG hG.1 (h.1 j hj), hj⟩
      rw [hemp] at hm
      cases hm
    obtain ⟨ρ, hρ⟩ := h.2
    refine (fre_rank hG (ρ := ρ) (fun u hu w hw hd => (hρ u (by show (wy G (-1) 0 u && !L u) = true; rw [hu, hLf u]; rfl) w hw hd).2) 11 0 (non, non) h0 (fun x hx => by cases hx)).1
theorem red_less {L : NS} {v n : Nat} (hv : L v = true) (hn : v < n) : free (fun j => if j = v then false else L j) n = free L n + 1 := by
  have h := free_put (s := fun j => if j = v then false else L j) (v := v) (if_pos rfl) n hn
  have e : put (fun j => if j = v then false else L j) v = L := by
    funext j
    by_cases e : j = v
    · subst e
      rw [put_same, hv]
    · rw [put_ne e, if_neg e]
  rw [e] at h
  exact h.symm
end
end Go.Proofs.Ytchkckflpmepkaa
