/-
  Sorted orders, as mathematics.
-/
import Derived.Test.YtchkckflpmepkaaFwLd
namespace Go.Proofs.Ytchkckflpmepkaa

section
variable {G : List (List Nat)}
/-- Done nodes have ranks that fall along edges. -/
def Rk (G : List (List Nat)) (D : NS) : Prop := ∃ ρ : Nat → Nat, ∀ u, D u = true → ∀ w ∈ suc G u, domB G w u = false → D w = true ∧ ρ w < ρ u
theorem rk_put {D : NS} {v : Nat} (h : Rk G D) (hv : ∀ w ∈ suc G v, domB G w v = false → D w = true) : Rk G (put D v) := by
  obtain ⟨ρ, hρ⟩ := h
  cases hD : D v
  · refine ⟨fun x => if x = v then 1 + ((suc G v).map ρ).sum else ρ x, fun u hu w hw hd => ?_⟩
    have hmem : ∀ w ∈ suc G v, ρ w ≤ ((suc G v).map ρ).sum := by
      generalize suc G v = l
      intro w hw
      induction l with
      | nil => cases hw
      | cons a l ih =>
        rw [List.map_cons, List.sum_cons]
        rcases List.mem_cons.1 hw with rfl | hw
        · omega
        · have := ih hw
          omega
    by_cases e : u = v
    · subst e
      have h1 := hv w hw hd
      have hne : w ≠ u := fun e => by rw [e, hD] at h1; cases h1
      have := hmem w hw
      refine ⟨put_true h1, ?_⟩
      simp only [if_neg hne, if_true]
      omega
    · rw [put_ne e] at hu
      obtain ⟨h1, h2⟩ := hρ u hu w hw hd
      have hne : w ≠ v := fun e => by rw [e, hD] at h1; cases h1
      refine ⟨put_true h1, ?_⟩
      simp only [if_neg hne, if_neg e]
      exact h2
  · have : ∀ j, put D v j = D j := fun j => by
      by_cases e : j = v
      · rw [e, put_same, hD]
      · exact put_ne e
    refine ⟨ρ, fun u hu w hw hd => ?_⟩
    rw [this] at hu ⊢
    exact hρ u hu w hw hd
theorem frL_true {F : Nat → NS × NS → Bool × (NS × NS)} {sk : Nat → Bool} {ok : NS × NS → Prop} (hok : ∀ u p, ok p → ok (F u p).2)
    (hF : ∀ u p, ok p → Rk G p.2 → (F u p).1 = true → Rk G (F u p).2.2 ∧ (F u p).2.2 u = true ∧ ∀ j, p.2 j = true → (F u p).2.2 j = true) :
    ∀ (l : List Nat) (p : NS × NS), ok p → Rk G p.2 → (frL F sk l p).1 = true → Rk G (frL F sk l p).2.2 ∧ (∀ u ∈ l, sk u = false → (frL F sk l p).2.2 u = true) ∧ ∀ j, p.2 j = true → (frL F sk l p).2.2 j = true
  | [], p, _, hR, _ => ⟨hR, fun _ h => (nomatch h), fun _ h => h⟩
  | u :: l, p, ho, hR, ht => by
    unfold frL at ht ⊢
    by_cases hs : sk u = true
    · rw [if_pos hs] at ht ⊢
      obtain ⟨h1, h2, h3⟩ := frL_true hok hF l p ho hR ht
      refine ⟨h1, fun x hx hx2 => ?_, h3⟩
      rcases List.mem_cons.1 hx with rfl | hx
      · rw [hs] at hx2; cases hx2
      · exact h2 x hx hx2
    · rw [if_neg hs] at ht ⊢
      by_cases hf : (F u p).1 = true
      · rw [if_pos hf] at ht ⊢
        obtain ⟨a1, a2, a3⟩ := hF u p ho hR hf
        obtain ⟨h1, h2, h3⟩ := frL_true hok hF l (F u p).2 (hok u p ho) a1 ht
        refine ⟨h1, fun x hx hx2 => ?_, fun j hj => h3 j (a3 j hj)⟩
        rcases List.mem_cons.1 hx with rfl | hx
        · exact h3 _ a2
        · exact h2 x hx hx2
      · rw [if_neg hf] at ht
        cases ht
theorem fre_true (hG : okG G) : ∀ f v p, free p.1 G.length < f → v < G.length → Rk G p.2 → (freF G f v p).1 = true → Rk G (freF G f v p).2.2 ∧ (freF G f v p).2.2 v = true ∧ ∀ j, p.2 j = true → (freF G f v p).2.2 j = true
  | 0, _, _, h, _, _, _ => by omega
  | f + 1, v, p, hf, hv, hR, ht => by
    by_cases hc : p.1 v = true ∨ p.2 v = true
    · have e : freF G (f + 1) v p = (p.2 v, p) := by unfold freF; rw [if_pos hc]
      rw [e] at ht ⊢
      exact ⟨hR, ht, fun _ h => h⟩
    · have e : freF G (f + 1) v p = finF v (frL (fun u q => freF G f u q) (fun u => domB G u v) (suc G v) (put p.1 v, p.2)) := by
        conv => lhs; unfold freF
        rw [if_neg hc]
      have hpv : p.1 v = false := by
        cases h : p.1 v
        · rfl
        · exact absurd (.inl h) hc
      have hfr := free_put hpv _ hv
      rw [e] at ht ⊢
      have hall : ∀ (l : List Nat), (∀ u ∈ l, u < G.length) → ∀ (q : NS × NS), free q.1 G.length < f → Rk G q.2 → (frL (fun u q => freF G f u q) (fun u => domB G u v) l q).1 = true →
          Rk G (frL (fun u q => freF G f u q) (fun u => domB G u v) l q).2.2 ∧ (∀ u ∈ l, domB G u v = false → (frL (fun u q => freF G f u q) (fun u => domB G u v) l q).2.2 u = true) ∧ ∀ j, q.2 j = true → (frL (fun u q => freF G f u q) (fun u => domB G u v) l q).2.2 j = true := by
        intro l
        induction l with
        | nil => exact fun _ q _ hR _ => ⟨hR, fun _ h => (nomatch h), fun _ h => h⟩
        | cons u l ih =>
          intro hl q hq hR ht
          unfold frL at ht ⊢
          by_cases hs : domB G u v = true
          · rw [if_pos hs] at ht ⊢
            obtain ⟨h1, h2, h3⟩ := ih (fun w hw => hl w (List.mem_cons_of_mem _ hw)) q hq hR ht
            refine ⟨h1, fun x hx hx2 => ?_, h3⟩
            rcases List.mem_cons.1 hx with rfl | hx
            · rw [hs] at hx2; cases hx2
            · exact h2 x hx hx2
          · rw [if_neg hs] at ht ⊢
            by_cases hfu : (freF G f u q).1 = true
            · rw [if_pos hfu] at ht ⊢
              obtain ⟨a1, a2, a3⟩ := fre_true hG f u q hq (hl u (List.mem_cons_self ..)) hR hfu
              obtain ⟨h1, h2, h3⟩ := ih (fun w hw => hl w (List.mem_cons_of_mem _ hw)) (freF G f u q).2 (Nat.lt_of_le_of_lt (free_mono (fun j hj => fre_mono f u q hj) _) hq) a1 ht
              refine ⟨h1, fun x hx hx2 => ?_, fun j hj => h3 j (a3 j hj)⟩
              rcases List.mem_cons.1 hx with rfl | hx
              · exact h3 _ a2
              · exact h2 x hx hx2
            · rw [if_neg hfu] at ht
              cases ht
      by_cases hr : (frL (fun u q => freF G f u q) (fun u => domB G u v) (suc G v) (put p.1 v, p.2)).1 = true
      · obtain ⟨h1, h2, h3⟩ := hall (suc G v) (fun u hu => hG.2.2.2 v u hu) (put p.1 v, p.2) (by show free (put p.1 v) G.length < f; omega) hR hr
        unfold finF
        rw [if_pos hr]
        exact ⟨rk_put h1 h2, put_same _ _, fun j hj => put_true (h3 j hj)⟩
      · unfold finF at ht
        rw [if_neg hr] at ht
        cases ht
/-- In a graph that is free of rings but back edges, and without back edges, there are ranks that fall along all edges. -/
theorem ranks (hG : okG G) (ht : (freF G 11 0 (non, non)).1 = true) (hb : bkL G = []) : ∃ ρ : Nat → Nat, ∀ u, wy G (-1) 0 u = true → ∀ w ∈ suc G u, ρ w < ρ u := by
  have hR : Rk G (non, non).2 := ⟨fun _ => 0, fun u hu => by cases hu⟩
  obtain ⟨⟨ρ, hρ⟩, h2, -⟩ := fre_true hG 11 0 (non, non) (by show free non _ < 11; rw [free_non]; have := hG.2.1; omega) hG.1 hR ht
  have hnd : ∀ u, wy G (-1) 0 u = true → ∀ w ∈ suc G u, domB G w u = false := fun u hu w hw => by
    cases hd : domB G w u
    · rfl
    · have : (u, w) ∈ bkL G := by
        unfold bkL bkF
        have := hG.2.1
        refine List.mem_flatMap.2 ⟨u, mem_setL.2 ⟨by have := wy_lt hG hG.1 hu; omega, hu⟩, List.mem_map.2 ⟨w, List.mem_filter.2 ⟨mem_setL.2 ⟨by have := hG.2.2.2 u w hw; omega, decide_eq_true hw⟩, hd⟩, rfl⟩⟩
      rw [hb] at this
      cases this
  have hall : ∀ u, wy G (-1) 0 u = true → (freF G 11 0 (non, non)).2.2 u = true := fun u hu => by
    have hw := (wy_iff hG hG.1 u).1 hu
    clear hu
    induction hw with
    | here _ => exact h2
    | @next a b hab h3 _ ih => exact (hρ a ih b h3 (hnd a ((wy_iff hG hG.1 a).2 hab) b h3)).1
  exact ⟨ρ, fun u hu w hw => (hρ u (hall u hu) w hw (hnd u hu w hw)).2⟩
structure OI (G : List (List Nat)) (p : NS × List Nat) : Prop where
  clos : ∀ u ∈ p.2, ∀ w ∈ suc G u, w ∈ p.2
  srt : p.2.Pairwise fun a b => b ∉ suc G a
  slf : ∀ u ∈ p.2, u ∉ suc G u
  seen : ∀ u ∈ p.2, p.1 u = true
structure OS (p q : NS × List Nat) : Prop where
  sub : ∀ x ∈ p.2, x ∈ q.2
  new : ∀ x ∈ q.2, x ∈ p.2 ∨ p.1 x = false
  mono : ∀ x, p.1 x = true → q.1 x = true
  gray : ∀ x, q.1 x = true → x ∉ q.2 → p.1 x = true ∧ x ∉ p.2
theorem OS.refl (p : NS × List Nat) : OS p p := ⟨fun _ h => h, fun _ h => .inl h, fun _ h => h, fun _ h h2 => ⟨h, h2⟩⟩
theorem OS.trans {p q r : NS × List Nat} (h : OS p q) (k : OS q r) : OS p r := by
  refine ⟨fun x hx => k.sub x (h.sub x hx), fun x hx => ?_, fun x hx => k.mono x (h.mono x hx), fun x hx hn => ?_⟩
  · rcases k.new x hx with h1 | h1
    · exact h.new x h1
    · refine .inr ?_
      cases hp : p.1 x
      · rfl
      · rw [h.mono x hp] at h1; cases h1
  · obtain ⟨h1, h2⟩ := k.gray x hx hn
    exact h.gray x h1 h2
theorem ord_sorted (hG : okG G) {ρ : Nat → Nat} (hρ : ∀ u, wy G (-1) 0 u = true → ∀ w ∈ suc G u, ρ w < ρ u) :
    ∀ f v p, wy G (-1) 0 v = true → p.1 v = false → free p.1 G.length ≤ f → OI G p → (∀ x, p.1 x = true → x ∉ p.2 → ρ v < ρ x) → OI G (ordF G f v p) ∧ OS p (ordF G f v p) ∧ v ∈ (ordF G f v p).2
  | 0, v, p, hv, hs, hf, _, _ => by
    have := free_put hs _ (wy_lt hG hG.1 hv)
    omega
  | f + 1, v, p, hv, hs, hf, hI, hgr => by
    have hvn := wy_lt hG hG.1 hv
    have hfr := free_put hs _ hvn
    have hI1 : OI G (put p.1 v, p.2) := ⟨hI.clos, hI.srt, hI.slf, fun u hu => put_true (hI.seen u hu)⟩
    have hvL : v ∉ p.2 := fun h => by rw [hI.seen v h] at hs; cases hs
    have fold : ∀ i, i ≤ (suc G v).length → OI G (ordU G f (put p.1 v, p.2) (suc G v) i) ∧ OS (put p.1 v, p.2) (ordU G f (put p.1 v, p.2) (suc G v) i) ∧ ∀ u ∈ (suc G v).take i, u ∈ (ordU G f (put p.1 v, p.2) (suc G v) i).2 := by
      intro i
      induction i with
      | zero => exact fun _ => ⟨hI1, OS.refl _, fun u hu => by rw [List.take_zero] at hu; cases hu⟩
      | succ i ih =>
        intro hi
        obtain ⟨a1, a2, a3⟩ := ih (by omega)
        have hu := at_get (l := suc G v) (q := i) (by omega)
        have hru := reach_closed hG v _ hv hu
        have hlt := hρ v hv _ hu
        have hgray : ∀ x, (ordU G f (put p.1 v, p.2) (suc G v) i).1 x = true → x ∉ (ordU G f (put p.1 v, p.2) (suc G v) i).2 → ρ (suc G v)[i]! < ρ x := fun x hx hxn => by
          obtain ⟨h1, h2⟩ := a2.gray x hx hxn
          by_cases e : x = v
          · rw [e]; exact hlt
          · have h1 : put p.1 v x = true := h1
            rw [put_ne e] at h1
            have := hgr x h1 h2
            omega
        cases hq : (ordU G f (put p.1 v, p.2) (suc G v) i).1 (suc G v)[i]!
        · rw [ordU_no (by omega) hq]
          have hfi : free (ordU G f (put p.1 v, p.2) (suc G v) i).1 G.length ≤ f := by
            have := free_mono (s := put p.1 v) (t := (ordU G f (put p.1 v, p.2) (suc G v) i).1) a2.mono G.length
            omega
          obtain ⟨b1, b2, b3⟩ := ord_sorted hG hρ f (suc G v)[i]! _ hru hq hfi a1 hgray
          refine ⟨b1, a2.trans b2, fun u hu => ?_⟩
          rw [take_succ (by omega), List.mem_append, List.mem_singleton] at hu
          rcases hu with hu | hu
          · exact b2.sub u (a3 u hu)
          · rw [hu]; exact b3
        · rw [ordU_yes (by omega) hq]
          refine ⟨a1, a2, fun u hu => ?_⟩
          rw [take_succ (by omega), List.mem_append, List.mem_singleton] at hu
          rcases hu with hu | hu
          · exact a3 u hu
          · rw [hu]
            apply Classical.byContradiction
            intro hn
            have := hgray _ hq hn
            omega
    obtain ⟨c1, c2, c3⟩ := fold (suc G v).length (Nat.le_refl _)
    rw [List.take_length] at c3
    rw [ord_succ]
    generalize ordU G f (put p.1 v, p.2) (suc G v) (suc G v).length = q at c1 c2 c3 ⊢
    have hvq : v ∉ q.2 := fun h => by
      rcases c2.new v h with h1 | h1
      · exact hvL h1
      · have h1 : put p.1 v v = false := h1
        rw [put_same] at h1; cases h1
    refine ⟨⟨?_, ?_, ?_, ?_⟩, ⟨?_, ?_, ?_, ?_⟩, by simp⟩
    · intro u hu w hw
      rcases List.mem_append.1 hu with hu | hu
      · exact List.mem_append_left _ (c1.clos u hu w hw)
      · rw [List.mem_singleton] at hu
        rw [hu] at hw
        exact List.mem_append_left _ (c3 w hw)
    · rw [List.pairwise_append]
      refine ⟨c1.srt, by simp, fun a ha b hb => ?_⟩
      rw [List.mem_singleton] at hb
      rw [hb]
      exact fun h => hvq (c1.clos a ha v h)
    · intro u hu
      rcases List.mem_append.1 hu with hu | hu
      · exact c1.slf u hu
      · rw [List.mem_singleton] at hu
        rw [hu]
        exact fun h => hvq (c3 v h)
    · intro u hu
      rcases List.mem_append.1 hu with hu | hu
      · exact c1.seen u hu
      · rw [List.mem_singleton] at hu
        rw [hu]
        exact c2.mono v (put_same _ _)
    · exact fun x hx => List.mem_append_left _ (c2.sub x hx)
    · intro x hx
      rcases List.mem_append.1 hx with hx | hx
      · rcases c2.new x hx with h1 | h1
        · exact .inl h1
        · refine .inr ?_
          cases hp : p.1 x
          · rfl
          · have h1 : put p.1 v x = false := h1
            rw [put_true hp] at h1; cases h1
      · rw [List.mem_singleton] at hx
        rw [hx]
        exact .inr hs
    · exact fun x hx => c2.mono x (put_true hx)
    · intro x hx hn
      have hxv : x ≠ v := fun e => hn (by rw [e]; simp)
      obtain ⟨h1, h2⟩ := c2.gray x hx (fun h => hn (List.mem_append_left _ h))
      have h1 : put p.1 v x = true := h1
      rw [put_ne hxv] at h1
      exact ⟨h1, h2⟩
/-- No later node of the order leads to an earlier one or itself. -/
theorem ord_topo (hG : okG G) (ht : (freF G 11 0 (non, non)).1 = true) (hb : bkL G = []) {i k : Nat} (hik : i ≤ k) (hk : k < (ordL G).length) : (ordL G)[i]! ∉ suc G (ordL G)[k]! := by
  obtain ⟨ρ, hρ⟩ := ranks hG ht hb
  have h0 : wy G (-1) 0 0 = true := (wy_iff hG hG.1 0).2 (.here (by omega))
  obtain ⟨h1, -, -⟩ := ord_sorted hG hρ 11 0 (non, []) h0 rfl (by show free non _ ≤ 11; rw [free_non]; have := hG.2.1; omega) ⟨fun _ h => (nomatch h), List.Pairwise.nil, fun _ h => (nomatch h), fun _ h => (nomatch h)⟩ (fun x hx => by cases hx)
  have hp : (ordL G).Pairwise fun a b => a ∉ suc G b := by
    unfold ordL
    rw [List.pairwise_reverse]
    exact h1.srt
  rw [show (ordL G)[i]! = (ordL G)[i]'(by omega) by simp [show i < (ordL G).length by omega], show (ordL G)[k]! = (ordL G)[k] by simp [hk]]
  by_cases e : i = k
  · subst e
    have hm : (ordL G)[i] ∈ (ordF G 11 0 (non, [])).2 := by
      have := List.getElem_mem hk
      unfold ordL at this
      exact List.mem_reverse.1 this
    exact h1.slf _ hm
  · exact (List.pairwise_iff_getElem.1 hp) i k (by omega) hk (by omega)
end
end Go.Proofs.Ytchkckflpmepkaa
