/-
  The loop of a head, as mathematics; the closure of loop.
-/
import Derived.Test.YtchkckflpmepkaaFwS
namespace Go.Proofs.Ytchkckflpmepkaa
open Go.RowKit

/-- The nodes before a node, as a list. -/
def befL (G : List (List Nat)) (v : Nat) : List Nat := setL (befS G v) 10
theorem mem_befL {G : List (List Nat)} (hG : okG G) {v u : Nat} : u ∈ befL G v ↔ v ∈ suc G u := by
  unfold befL
  rw [mem_setL]
  constructor
  · exact fun h => of_decide_eq_true h.2
  · intro h
    have h1 : befS G v u = true := decide_eq_true h
    have := befS_lt h1
    have := hG.2.1
    exact ⟨by omega, h1⟩
/-- The search of loop: what is in it behind a visit. -/
def lvF (G : List (List Nat)) (T : NS) : Nat → Nat → NS → NS
  | 0, _, s => s
  | f + 1, v, s => if s v = true ∨ T v = false then s else (befL G v).foldl (fun s u => lvF G T f u s) (put s v)
/-- A way back from a node, by reached nodes, that does not go through the head. -/
inductive BW (G : List (List Nat)) (T : NS) (h a : Nat) : Nat → Prop
  | here : T a = true → a ≠ h → BW G T h a a
  | next {u v : Nat} : BW G T h a u → u ∈ suc G v → T v = true → v ≠ h → BW G T h a v
theorem BW.first {G : List (List Nat)} {T : NS} {h a u b : Nat} (h1 : T a = true) (h2 : a ≠ h) (hu : a ∈ suc G u) (hb : BW G T h u b) : BW G T h a b := by
  induction hb with
  | here h3 h4 => exact .next (.here h1 h2) hu h3 h4
  | next _ h3 h4 h5 ih => exact .next ih h3 h4 h5
section
variable {G : List (List Nat)} {T : NS}
theorem lv_mono : ∀ f v s j, s j = true → lvF G T f v s j = true
  | 0, _, _, _, h => h
  | f + 1, v, s, j, h => by
    unfold lvF
    split
    · exact h
    · have : ∀ (l : List Nat) (s : NS), s j = true → l.foldl (fun s u => lvF G T f u s) s j = true := by
        intro l
        induction l with
        | nil => exact fun s h => h
        | cons u l ih => exact fun s h => ih _ (lv_mono f u s j h)
      exact this _ _ (put_true h)
theorem lvfold_mono (f : Nat) (j : Nat) : ∀ (l : List Nat) (s : NS), s j = true → l.foldl (fun s u => lvF G T f u s) s j = true
  | [], _, h => h
  | u :: l, s, h => lvfold_mono f j l _ (lv_mono f u s j h)
theorem lv_all (hG : okG G) {hd : Nat} : ∀ f v s, s hd = true → v < G.length → free s G.length < f →
    (T v = true → lvF G T f v s v = true) ∧ (∀ j, lvF G T f v s j = true → s j = true ∨ BW G T hd v j) ∧
    (∀ y, lvF G T f v s y = true → s y = false → ∀ z, y ∈ suc G z → T z = true → lvF G T f v s z = true)
  | 0, _, _, _, _, h => by omega
  | f + 1, v, s, hh, hv, hf => by
    have fold : ∀ (l : List Nat) (s : NS), s hd = true → (∀ u ∈ l, u < G.length) → free s G.length < f →
        (∀ u ∈ l, T u = true → l.foldl (fun s u => lvF G T f u s) s u = true) ∧
        (∀ j, l.foldl (fun s u => lvF G T f u s) s j = true → s j = true ∨ ∃ u ∈ l, BW G T hd u j) ∧
        (∀ y, l.foldl (fun s u => lvF G T f u s) s y = true → s y = false → ∀ z, y ∈ suc G z → T z = true → l.foldl (fun s u => lvF G T f u s) s z = true) := by
      intro l
      induction l with
      | nil => exact fun s _ _ _ => ⟨fun _ h => (nomatch h), fun j h => .inl h, fun y h1 h2 => by rw [List.foldl_nil] at h1; rw [h1] at h2; cases h2⟩
      | cons u l ih =>
        intro s hh hl hf
        obtain ⟨a1, a2, a3⟩ := lv_all hG (hd := hd) f u s hh (hl u (List.mem_cons_self ..)) hf
        obtain ⟨b1, b2, b3⟩ := ih (lvF G T f u s) (lv_mono f u s hd hh) (fun w hw => hl w (List.mem_cons_of_mem _ hw)) (Nat.lt_of_le_of_lt (free_mono (fun j h => lv_mono f u s j h) _) hf)
        refine ⟨fun w hw hx => ?_, fun j hj => ?_, fun y hy hs z hz hx => ?_⟩
        · rcases List.mem_cons.1 hw with rfl | hw
          · exact lvfold_mono f _ l _ (a1 hx)
          · exact b1 w hw hx
        · rcases b2 j hj with h | ⟨w, hw, h⟩
          · rcases a2 j h with h | h
            · exact .inl h
            · exact .inr ⟨u, List.mem_cons_self .., h⟩
          · exact .inr ⟨w, List.mem_cons_of_mem _ hw, h⟩
        · by_cases h2 : lvF G T f u s y = true
          · exact lvfold_mono f _ l _ (a3 y h2 hs z hz hx)
          · exact b3 y hy (Bool.eq_false_iff.2 h2) z hz hx
    by_cases hc : s v = true ∨ T v = false
    · have e : lvF G T (f + 1) v s = s := by unfold lvF; rw [if_pos hc]
      rw [e]
      refine ⟨fun h => ?_, fun j h => .inl h, fun y h1 h2 => by rw [h1] at h2; cases h2⟩
      rcases hc with hc | hc
      · exact hc
      · rw [h] at hc; cases hc
    · have e : lvF G T (f + 1) v s = (befL G v).foldl (fun s u => lvF G T f u s) (put s v) := by
        conv => lhs; unfold lvF
        rw [if_neg hc]
      have hsv : s v = false := Bool.eq_false_iff.2 (fun h => hc (.inl h))
      have hTv : T v = true := by
        cases h : T v
        · exact absurd (.inr h) hc
        · rfl
      have hvh : v ≠ hd := fun e => by rw [e, hh] at hsv; cases hsv
      have hfr := free_put hsv _ hv
      have hml : ∀ u ∈ befL G v, u < G.length := fun u hu => by
        unfold befL at hu
        exact befS_lt (mem_setL.1 hu).2
      obtain ⟨c1, c2, c3⟩ := fold (befL G v) (put s v) (put_true hh) hml (by omega)
      rw [e]
      refine ⟨fun _ => lvfold_mono f v _ _ (put_same s v), fun j hj => ?_, fun y hy hs z hz hx => ?_⟩
      · rcases c2 j hj with h | ⟨u, hu, h⟩
        · by_cases ejv : j = v
          · subst ejv
            exact .inr (.here hTv hvh)
          · rw [put_ne ejv] at h
            exact .inl h
        · exact .inr (BW.first hTv hvh ((mem_befL hG).1 hu) h)
      · by_cases eyv : y = v
        · subst eyv
          exact c1 z ((mem_befL hG).2 hz) hx
        · exact c3 y hy (by rw [put_ne eyv]; exact hs) z hz hx
/-- What is in the loop behind some edges. -/
def lopE (G : List (List Nat)) (T : NS) (h : Nat) : List Edg → NS
  | [] => put non h
  | e :: l => if e.2 = h then lvF G T 11 e.1 (lopE G T h l) else lopE G T h l
theorem way_bw {h a b : Nat} (hT : ∀ u v, T u = true → v ∈ suc G u → T v = true) (hw : Way G (h : Int) a b) (ha : T a = true) : BW G T h b a ∧ T b = true := by
  induction hw with
  | here h1 => exact ⟨.here ha (fun e => h1 (by omega)), ha⟩
  | @next u v _ h1 h2 ih =>
    have hv := hT u v ih.2 h1
    exact ⟨BW.first hv (fun e => h2 (by omega)) h1 ih.1, hv⟩
theorem bw_way {h a b : Nat} (hb : BW G T h a b) : Way G (h : Int) b a ∧ T b = true := by
  induction hb with
  | here h1 h2 => exact ⟨.here (by omega), h1⟩
  | next _ h1 h2 h3 ih => exact ⟨Way.first (by omega) h1 ih.1, h2⟩
theorem lopE_props (hG : okG G) (h : Nat) : ∀ l : List Edg, (∀ e ∈ l, e.1 < G.length) →
    lopE G T h l h = true ∧ (∀ j, lopE G T h l j = true → j = h ∨ ∃ e ∈ l, e.2 = h ∧ BW G T h e.1 j) ∧
    (∀ y, lopE G T h l y = true → y ≠ h → ∀ z, y ∈ suc G z → T z = true → lopE G T h l z = true) ∧ (∀ e ∈ l, e.2 = h → T e.1 = true → lopE G T h l e.1 = true)
  | [], _ => by
    refine ⟨put_same _ _, fun j hj => ?_, fun y hy hne => ?_, fun e he => (nomatch he)⟩
    · by_cases e : j = h
      · exact .inl e
      · have : put non h j = true := hj
        rw [put_ne e] at this
        cases this
    · have : put non h y = true := hy
      rw [put_ne hne] at this
      cases this
  | e :: l, hl => by
    obtain ⟨i1, i2, i3, i4⟩ := lopE_props hG h l (fun e he => hl e (List.mem_cons_of_mem _ he))
    by_cases hc : e.2 = h
    · have eq : lopE G T h (e :: l) = lvF G T 11 e.1 (lopE G T h l) := if_pos hc
      have hf : free (lopE G T h l) G.length < 11 := by have := free_le (lopE G T h l) G.length; have := hG.2.1; omega
      obtain ⟨a1, a2, a3⟩ := lv_all hG (T := T) (hd := h) 11 e.1 (lopE G T h l) i1 (hl e (List.mem_cons_self ..)) hf
      rw [eq]
      refine ⟨lv_mono _ _ _ _ i1, fun j hj => ?_, fun y hy hne z hz hT => ?_, fun e' he' hh hT => ?_⟩
      · rcases a2 j hj with h1 | h1
        · rcases i2 j h1 with h2 | ⟨e', he', h2⟩
          · exact .inl h2
          · exact .inr ⟨e', List.mem_cons_of_mem _ he', h2⟩
        · exact .inr ⟨e, List.mem_cons_self .., hc, h1⟩
      · cases hs : lopE G T h l y
        · exact a3 y hy hs z hz hT
        · exact lv_mono _ _ _ _ (i3 y hs hne z hz hT)
      · rcases List.mem_cons.1 he' with rfl | he'
        · exact a1 hT
        · exact lv_mono _ _ _ _ (i4 e' he' hh hT)
    · have eq : lopE G T h (e :: l) = lopE G T h l := if_neg hc
      rw [eq]
      refine ⟨i1, fun j hj => ?_, i3, fun e' he' hh hT => ?_⟩
      · rcases i2 j hj with h2 | ⟨e', he', h2⟩
        · exact .inl h2
        · exact .inr ⟨e', List.mem_cons_of_mem _ he', h2⟩
      · rcases List.mem_cons.1 he' with rfl | he'
        · exact absurd hh hc
        · exact i4 e' he' hh hT
theorem lopE_iff (hG : okG G) (hT : ∀ u v, T u = true → v ∈ suc G u → T v = true) (h : Nat) (l : List Edg) (hl : ∀ e ∈ l, e.1 < G.length) (j : Nat) :
    lopE G T h l j = true ↔ j = h ∨ T j = true ∧ ∃ e ∈ l, e.2 = h ∧ Way G (h : Int) j e.1 := by
  obtain ⟨i1, i2, i3, i4⟩ := lopE_props hG (T := T) h l hl
  constructor
  · intro hj
    rcases i2 j hj with h1 | ⟨e, he, h1, h2⟩
    · exact .inl h1
    · obtain ⟨h3, h4⟩ := bw_way h2
      exact .inr ⟨h4, e, he, h1, h3⟩
  · rintro (rfl | ⟨hTj, e, he, h1, h2⟩)
    · exact i1
    · obtain ⟨h3, h4⟩ := way_bw hT h2 hTj
      have h5 := i4 e he h1 h4
      have hne := h2.stop
      clear h2 hTj
      induction h3 with
      | here _ _ => exact h5
      | next h6 h7 h8 _ ih => exact i3 _ ih (fun e' => by
          subst e'
          cases h6 with
          | here _ h => exact h rfl
          | next _ _ _ h => exact h rfl) _ h7 h8
end
end Go.Proofs.Ytchkckflpmepkaa
