/-
  The parent of a node, as mathematics: the dominators of a reached node form a chain.
-/
import Derived.Test.YtchkckflpmepkaaFwLe
namespace Go.Proofs.Ytchkckflpmepkaa

section
variable {G : List (List Nat)}
/-- Of two nodes that do not dominate each other, each reached node can be reached without one of them. -/
theorem way_one {a c : Nat} (w1 : Way G (a : Int) 0 c) (w2 : Way G (c : Int) 0 a) {b : Nat} (h : Way G (-1) 0 b) : Way G (a : Int) 0 b ∨ Way G (c : Int) 0 b := by
  induction h with
  | here _ => exact .inl (.here w1.start)
  | @next u v _ hv _ ih =>
    by_cases ha : v = a
    · subst ha
      exact .inr w2
    · by_cases hc : v = c
      · subst hc
        exact .inl w1
      · rcases ih with ih | ih
        · exact .inl (.next ih hv (by omega))
        · exact .inr (.next ih hv (by omega))
theorem way_or {a c : Nat} {b : Nat} (h : Way G (a : Int) 0 b) : Way G (c : Int) 0 b ∨ Way G (a : Int) 0 c := by
  induction h with
  | here h0 =>
    by_cases hc : 0 = c
    · subst hc
      exact .inr (.here h0)
    · exact .inl (.here (by omega))
  | @next u v hw hv hva ih =>
    by_cases hc : v = c
    · subst hc
      exact .inr (.next hw hv hva)
    · rcases ih with ih | ih
      · exact .inl (.next ih hv (by omega))
      · exact .inr ih
/-- Ways without two nodes. -/
inductive Way2 (G : List (List Nat)) (a c : Nat) : Nat → Prop
  | here : 0 ≠ a → 0 ≠ c → Way2 G a c 0
  | next {u v : Nat} : Way2 G a c u → v ∈ suc G u → v ≠ a → v ≠ c → Way2 G a c v
theorem Way2.both {a c b : Nat} (h : Way2 G a c b) : Way G (a : Int) 0 b ∧ Way G (c : Int) 0 b := by
  induction h with
  | here h1 h2 => exact ⟨.here (by omega), .here (by omega)⟩
  | next _ hv h1 h2 ih => exact ⟨.next ih.1 hv (by omega), .next ih.2 hv (by omega)⟩
theorem way_first {a c : Nat} (hac : a ≠ c) {b : Nat} (h : Way G (-1) 0 b) : Way G (a : Int) 0 c ∨ Way G (c : Int) 0 a ∨ Way2 G a c b := by
  induction h with
  | here _ =>
    by_cases ha : 0 = a
    · subst ha
      exact .inr (.inl (.here (by omega)))
    · by_cases hc : 0 = c
      · subst hc
        exact .inl (.here (by omega))
      · exact .inr (.inr (.here ha hc))
  | @next u v _ hv _ ih =>
    rcases ih with ih | ih | ih
    · exact .inl ih
    · exact .inr (.inl ih)
    · by_cases ha : v = a
      · subst ha
        exact .inr (.inl (.next ih.both.2 hv (by omega)))
      · by_cases hc : v = c
        · subst hc
          exact .inl (.next ih.both.1 hv (by omega))
        · exact .inr (.inr (.next ih hv ha hc))
theorem dom_iff (hG : okG G) {a b : Nat} : domB G a b = true ↔ ¬ Way G (a : Int) 0 b := by
  unfold domB
  rw [← wy_iff hG hG.1 b]
  cases wy G (a : Int) 0 b <;> simp
theorem dom_chain (hG : okG G) {a c b : Nat} (hb : wy G (-1) 0 b = true) (h1 : domB G a b = true) (h2 : domB G c b = true) : domB G a c = true ∨ domB G c a = true := by
  apply Classical.byContradiction
  intro hn
  have ha : Way G (a : Int) 0 c := Classical.byContradiction fun h => hn (.inl ((dom_iff hG).2 h))
  have hc : Way G (c : Int) 0 a := Classical.byContradiction fun h => hn (.inr ((dom_iff hG).2 h))
  rcases way_one ha hc ((wy_iff hG hG.1 b).1 hb) with h | h
  · exact (dom_iff hG).1 h1 h
  · exact (dom_iff hG).1 h2 h
theorem dom_trans (hG : okG G) {a c b : Nat} (h1 : domB G a c = true) (h2 : domB G c b = true) : domB G a b = true :=
  (dom_iff hG).2 fun h => (way_or (c := c) h).elim ((dom_iff hG).1 h2) ((dom_iff hG).1 h1)
theorem dom_anti (hG : okG G) {a c : Nat} (ha : wy G (-1) 0 a = true) (h1 : domB G a c = true) (h2 : domB G c a = true) : a = c :=
  Classical.byContradiction fun hac => by
    rcases way_first hac ((wy_iff hG hG.1 a).1 ha) with h | h | h
    · exact (dom_iff hG).1 h1 h
    · exact (dom_iff hG).1 h2 h
    · cases h with
      | here h _ => exact h rfl
      | next _ _ h _ => exact h rfl
theorem dom_zero (hG : okG G) (b : Nat) : domB G 0 b = true := (dom_iff hG).2 fun h => h.start rfl
/-- The reached nodes that dominate b and are not b. -/
def strB (G : List (List Nat)) (b c : Nat) : Bool := wy G (-1) 0 c && (decide (c ≠ b) && domB G c b)
def upB (G : List (List Nat)) (b a : Nat) : Bool := strB G b a && (List.range G.length).all fun c => !strB G b c || domB G c a
def upF (G : List (List Nat)) (b : Nat) : Option Nat := (List.range G.length).find? (upB G b)
theorem str_iff {b c : Nat} : strB G b c = true ↔ wy G (-1) 0 c = true ∧ c ≠ b ∧ domB G c b = true := by
  unfold strB
  rw [Bool.and_eq_true, Bool.and_eq_true, decide_eq_true_iff]
theorem str_lt (hG : okG G) {b c : Nat} (h : strB G b c = true) : c < G.length := wy_lt hG hG.1 (str_iff.1 h).1
theorem up_iff (hG : okG G) {b a : Nat} : upB G b a = true ↔ strB G b a = true ∧ ∀ c, strB G b c = true → domB G c a = true := by
  unfold upB
  rw [Bool.and_eq_true, List.all_eq_true]
  constructor
  · rintro ⟨h1, h2⟩
    refine ⟨h1, fun c hc => ?_⟩
    have := h2 c (List.mem_range.2 (str_lt hG hc))
    rw [hc] at this
    exact this
  · rintro ⟨h1, h2⟩
    refine ⟨h1, fun c _ => ?_⟩
    cases hc : strB G b c
    · rfl
    · exact h2 c hc
theorem up_unique (hG : okG G) {b a c : Nat} (h1 : upB G b a = true) (h2 : upB G b c = true) : a = c := by
  obtain ⟨a1, a2⟩ := (up_iff hG).1 h1
  obtain ⟨c1, c2⟩ := (up_iff hG).1 h2
  exact dom_anti hG (str_iff.1 a1).1 (c2 a a1) (a2 c c1)
theorem upF_some (hG : okG G) {b a : Nat} (h : upB G b a = true) : upF G b = some a := by
  unfold upF
  cases hf : (List.range G.length).find? (upB G b) with
  | none =>
    have := List.find?_eq_none.1 hf a (List.mem_range.2 (str_lt hG ((up_iff hG).1 h).1))
    exact absurd h this
  | some c => rw [up_unique hG h (List.find?_some hf)]
theorem upF_none {b : Nat} (h : ∀ a, a < G.length → upB G b a = false) : upF G b = none := by
  unfold upF
  rw [List.find?_eq_none]
  intro a ha hh
  rw [h a (List.mem_range.1 ha)] at hh
  cases hh
theorem upF_is {b a : Nat} (h : upF G b = some a) : upB G b a = true := List.find?_some h
/-- A reached node but the entry has a parent. -/
theorem up_ex (hG : okG G) {b : Nat} (hb : wy G (-1) 0 b = true) (h0 : b ≠ 0) : ∃ a, upB G b a = true := by
  have key : ∀ k, (∀ c, c < k → strB G b c = false) ∨ ∃ a, a < k ∧ strB G b a = true ∧ ∀ c, c < k → strB G b c = true → domB G c a = true := by
    intro k
    induction k with
    | zero => exact .inl fun c hc => absurd hc (by omega)
    | succ k ih =>
      cases hk : strB G b k
      · rcases ih with ih | ⟨a, h1, h2, h3⟩
        · exact .inl fun c hc => by
            by_cases hck : c = k
            · rw [hck]; exact hk
            · exact ih c (by omega)
        · refine .inr ⟨a, by omega, h2, fun c hc hs => ?_⟩
          by_cases hck : c = k
          · rw [hck, hk] at hs
            cases hs
          · exact h3 c (by omega) hs
      · rcases ih with ih | ⟨a, h1, h2, h3⟩
        · refine .inr ⟨k, by omega, hk, fun c hc hs => ?_⟩
          by_cases hck : c = k
          · rw [hck]; exact dom_self hG k
          · rw [ih c (by omega)] at hs
            cases hs
        · rcases dom_chain hG hb (str_iff.1 h2).2.2 (str_iff.1 hk).2.2 with hd | hd
          · refine .inr ⟨k, by omega, hk, fun c hc hs => ?_⟩
            by_cases hck : c = k
            · rw [hck]; exact dom_self hG k
            · exact dom_trans hG (h3 c (by omega) hs) hd
          · refine .inr ⟨a, by omega, h2, fun c hc hs => ?_⟩
            by_cases hck : c = k
            · rw [hck]; exact hd
            · exact h3 c (by omega) hs
  have hs0 : strB G b 0 = true := str_iff.2 ⟨(wy_iff hG hG.1 0).2 (.here (by omega)), fun e => h0 e.symm, dom_zero hG b⟩
  rcases key G.length with h | ⟨a, _, h2, h3⟩
  · rw [h 0 hG.1] at hs0
    cases hs0
  · exact ⟨a, (up_iff hG).2 ⟨h2, fun c hc => h3 c (str_lt hG hc) hc⟩⟩
/-- How many nodes dominate b and are not b. -/
def numD (G : List (List Nat)) (b : Nat) : Nat := free (fun c => !strB G b c) G.length
theorem num_le (b : Nat) : numD G b ≤ G.length := by
  have := free_mono (s := non) (t := fun c => !strB G b c) (fun j hj => by cases hj) G.length
  rw [free_non] at this
  exact this
theorem num_up (hG : okG G) {b a : Nat} (h : upB G b a = true) : numD G a < numD G b := by
  obtain ⟨h1, h2⟩ := (up_iff hG).1 h
  obtain ⟨a1, a2, a3⟩ := str_iff.1 h1
  have hp := free_put (s := fun c => !strB G b c) (v := a) (by simp [h1]) G.length (str_lt hG h1)
  have hm := free_mono (s := put (fun c => !strB G b c) a) (t := fun c => !strB G a c) (fun j hj => by
    by_cases hja : j = a
    · subst hja
      have : strB G j j = false := Bool.eq_false_iff.2 fun hh => (str_iff.1 hh).2.1 rfl
      simp [this]
    · rw [put_ne hja] at hj
      have hn : strB G b j = false := by simpa using hj
      have : strB G a j = false := Bool.eq_false_iff.2 fun hh => by
        obtain ⟨b1, b2, b3⟩ := str_iff.1 hh
        have hjb : j ≠ b := fun e => a2 (dom_anti hG a1 a3 (e ▸ b3))
        rw [str_iff.2 ⟨b1, hjb, dom_trans hG b3 a3⟩] at hn
        cases hn
      simp [this]) G.length
  unfold numD
  omega
end
end Go.Proofs.Ytchkckflpmepkaa
