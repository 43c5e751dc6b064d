/-
  What Merge answers.
-/
import Derived.Test.YtdpfglpefncigaaTrCa
import Derived.Test.YtdpfglpefncigaaTrMd
namespace Go.Proofs.Ytdpfglpefncigaa

/-- One place merged into a list: at the place that goes on into it, if there is one, else behind. -/
def mstep (M : List Plc) (q : Plc) : List Plc := if 0 ≤ idxF (goesOn q) M 0 M.length then M.set (idxF (goesOn q) M 0 M.length).toNat (joinP M[(idxF (goesOn q) M 0 M.length).toNat]! q) else M ++ [q]
def mrgU (zs : List Plc) : Nat → List Plc
  | 0 => []
  | i + 1 => mstep (mrgU zs i) zs[i]!
def mrgL (zs : List Plc) : List Plc := mrgU zs zs.length
theorem goes_iff {q p : Plc} : goesOn q p = true ↔ p.v = q.v ∧ p.k = q.k ∧ p.n = q.n ∧ p.z = q.a := by
  unfold goesOn sameB
  simp only [Bool.and_eq_true, decide_eq_true_eq]
  exact ⟨fun h => ⟨h.1.1, h.1.2.1, h.1.2.2, h.2⟩, fun h => ⟨⟨h.1, h.2.1, h.2.2.1⟩, h.2.2.2⟩⟩
theorem idxF_cases (p : Plc → Bool) (zs : List Plc) : ∀ f i, (∃ k, i ≤ k ∧ k < i + f ∧ p zs[k]! = true ∧ idxF p zs i f = (k : Int) ∧ ∀ j, i ≤ j → j < k → p zs[j]! = false) ∨ (idxF p zs i f = -1 ∧ ∀ j, i ≤ j → j < i + f → p zs[j]! = false)
  | 0, i => .inr ⟨rfl, fun j h1 h2 => absurd h2 (by omega)⟩
  | f + 1, i => by
    by_cases h : p zs[i]! = true
    · exact .inl ⟨i, Nat.le_refl _, by omega, h, if_pos h, fun j h1 h2 => absurd h2 (by omega)⟩
    · have e : idxF p zs i (f + 1) = idxF p zs (i + 1) f := if_neg h
      have hf : p zs[i]! = false := by simpa using h
      rcases idxF_cases p zs f (i + 1) with ⟨k, h1, h2, h3, h4, h5⟩ | ⟨h1, h2⟩
      · refine .inl ⟨k, by omega, by omega, h3, e.trans h4, fun j h6 h7 => ?_⟩
        by_cases hj : j = i
        · rw [hj]; exact hf
        · exact h5 j (by omega) h7
      · refine .inr ⟨e.trans h1, fun j h6 h7 => ?_⟩
        by_cases hj : j = i
        · rw [hj]; exact hf
        · exact h2 j (by omega) (by omega)
/-- A place goes on at k, or none does. -/
theorem mstep_cases (M : List Plc) (q : Plc) : (∃ k, k < M.length ∧ goesOn q M[k]! = true ∧ idxF (goesOn q) M 0 M.length = (k : Int) ∧ mstep M q = M.set k (joinP M[k]! q) ∧ ∀ j, j < k → goesOn q M[j]! = false) ∨ (idxF (goesOn q) M 0 M.length = -1 ∧ mstep M q = M ++ [q] ∧ ∀ j, j < M.length → goesOn q M[j]! = false) := by
  rcases idxF_cases (goesOn q) M M.length 0 with ⟨k, -, h2, h3, h4, h5⟩ | ⟨h1, h2⟩
  · refine .inl ⟨k, by omega, h3, h4, ?_, fun j hj => h5 j (by omega) hj⟩
    unfold mstep
    rw [h4, if_pos (by omega)]
    rfl
  · refine .inr ⟨h1, ?_, fun j hj => h2 j (by omega) (by omega)⟩
    unfold mstep
    rw [h1]
    rfl
/-- What the merged list is, so far. -/
structure Inv (zs M : List Plc) (i : Nat) : Prop where
  len : M.length ≤ i
  pls : ∀ j, j < M.length → isPlB M[j]! = true
  start : ∀ j, j < M.length → ∃ m, m < i ∧ zs[m]!.a = M[j]!.a
  cov : ∀ v k n x : Int, (∃ j, j < M.length ∧ M[j]!.v = v ∧ M[j]!.k = k ∧ M[j]!.n = n ∧ M[j]!.a ≤ x ∧ x < M[j]!.z) ↔ (∃ m, m < i ∧ zs[m]!.v = v ∧ zs[m]!.k = k ∧ zs[m]!.n = n ∧ zs[m]!.a ≤ x ∧ x < zs[m]!.z)
  dis : ∀ j l, j < M.length → l < M.length → j ≠ l → M[j]!.v = M[l]!.v → ∀ x : Int, M[j]!.a ≤ x → x < M[j]!.z → M[l]!.a ≤ x → x < M[l]!.z → False
  max : ∀ j l, j < M.length → l < M.length → M[j]!.v = M[l]!.v → M[j]!.k = M[l]!.k → M[j]!.n = M[l]!.n → M[j]!.z ≠ M[l]!.a
theorem pl_lt {p : Plc} (h : isPlB p = true) : 0 ≤ p.a ∧ p.a < p.z ∧ p.z ≤ 32768 := by
  obtain ⟨a, z, v, k, n, rfl, h1, h2, -⟩ := place_nums h
  simp only
  omega
theorem join_pl {p q : Plc} (hp : isPlB p = true) (hq : isPlB q = true) (h : p.z = q.a) : isPlB (joinP p q) = true := by
  have h1 := pl_lt hp
  have h2 := pl_lt hq
  obtain ⟨a, z, v, k, n⟩ := p
  obtain ⟨b, y, u, l, m⟩ := q
  simp only at h h1 h2
  show isPlB ⟨a, y, v, k, n⟩ = true
  unfold isPlB inB at hp ⊢
  simp only [Bool.and_eq_true, decide_eq_true_eq] at hp ⊢
  exact ⟨⟨⟨⟨⟨hp.1.1.1.1.1, by omega⟩, by omega⟩, hp.1.1.2⟩, hp.1.2⟩, hp.2⟩
theorem app_at (M : List Plc) (q : Plc) : (∀ j, j < M.length → (M ++ [q])[j]! = M[j]!) ∧ (M ++ [q])[M.length]! = q := by
  refine ⟨fun j hj => ?_, ?_⟩
  · rw [List.getElem!_eq_getElem?_getD, List.getElem?_append_left hj, List.getElem!_eq_getElem?_getD]
  · rw [List.getElem!_eq_getElem?_getD, List.getElem?_append_right (Nat.le_refl _), Nat.sub_self]
    rfl
theorem set_at_ (M : List Plc) (k : Nat) (q : Plc) (hk : k < M.length) (j : Nat) (hj : j < M.length) : (M.set k q)[j]! = if j = k then q else M[j]! := by
  rw [List.getElem!_eq_getElem?_getD, List.getElem?_set, List.getElem!_eq_getElem?_getD]
  by_cases h : k = j
  · subst h
    simp [hk]
  · rw [if_neg h, if_neg (fun e => h e.symm)]
theorem inv_step {zs M : List Plc} {i : Nat} (hv : valF zs = 0) (hi : i < zs.length) (h : Inv zs M i) : Inv zs (mstep M zs[i]!) (i + 1) := by
  have hpl := val_isPl hv (at_mem hi)
  have hlt := pl_lt hpl
  have hdis : ∀ m, m < i → zs[m]!.v = zs[i]!.v → ∀ x : Int, zs[m]!.a ≤ x → x < zs[m]!.z → zs[i]!.a ≤ x → x < zs[i]!.z → False := by
    intro m hm hvv x h1 h2 h3 h4
    have e := val_disj hv _ (at_mem (show m < zs.length by omega)) _ (at_mem hi) hvv x h1 h2 h3 h4
    have hb := bef_lt (valF_ok hv).2 hm hi
    rw [e, bef_irr] at hb
    cases hb
  have hord : ∀ j, j < M.length → M[j]!.a ≤ zs[i]!.a := by
    intro j hj
    obtain ⟨m, hm, he⟩ := h.start j hj
    have := a_sorted (valF_ok hv).2 (i := m) (i - m) (by omega)
    rw [show m + (i - m) = i by omega] at this
    omega
  -- no one of the list overlaps the new place
  have hno : ∀ j, j < M.length → M[j]!.v = zs[i]!.v → ∀ x : Int, M[j]!.a ≤ x → x < M[j]!.z → zs[i]!.a ≤ x → x < zs[i]!.z → False := by
    intro j hj hvv x h1 h2 h3 h4
    obtain ⟨m, hm, e1, e2, e3, e4, e5⟩ := (h.cov _ _ _ x).1 ⟨j, hj, rfl, rfl, rfl, h1, h2⟩
    exact hdis m hm (e1.trans hvv) x e4 e5 h3 h4
  generalize hq : zs[i]! = q at hpl hlt hdis hord hno ⊢
  rcases mstep_cases M q with ⟨k, hk, hg, -, he, -⟩ | ⟨-, he, hg⟩
  · rw [he]
    obtain ⟨g1, g2, g3, g4⟩ := goes_iff.1 hg
    have hkp := pl_lt (h.pls k hk)
    have hJ : (joinP M[k]! q).a = M[k]!.a ∧ (joinP M[k]! q).z = q.z ∧ (joinP M[k]! q).v = M[k]!.v ∧ (joinP M[k]! q).k = M[k]!.k ∧ (joinP M[k]! q).n = M[k]!.n := ⟨rfl, rfl, rfl, rfl, rfl⟩
    obtain ⟨j1, j2, j3, j4, j5⟩ := hJ
    have hat := set_at_ M k (joinP M[k]! q) hk
    refine ⟨by rw [List.length_set]; have := h.len; omega, ?_, ?_, ?_, ?_, ?_⟩
    · intro j hj
      rw [List.length_set] at hj
      rw [hat j hj]
      split
      · exact join_pl (h.pls k hk) hpl g4
      · exact h.pls j hj
    · intro j hj
      rw [List.length_set] at hj
      rw [hat j hj]
      split
      · obtain ⟨m, hm, he⟩ := h.start k hk
        exact ⟨m, by omega, he⟩
      · obtain ⟨m, hm, he⟩ := h.start j hj
        exact ⟨m, by omega, he⟩
    · intro v kk n x
      constructor
      · rintro ⟨j, hj, e1, e2, e3, e4, e5⟩
        rw [List.length_set] at hj
        rw [hat j hj] at e1 e2 e3 e4 e5
        split at e1
        · rename_i hjk
          rw [if_pos hjk] at e2 e3 e4 e5
          rw [j1] at e4
          rw [j2] at e5
          rw [j3] at e1
          rw [j4] at e2
          rw [j5] at e3
          by_cases hx : x < M[k]!.z
          · obtain ⟨m, hm, r⟩ := (h.cov v kk n x).1 ⟨k, hk, e1, e2, e3, e4, hx⟩
            exact ⟨m, by omega, r⟩
          · exact ⟨i, by omega, by rw [hq]; exact ⟨by omega, by omega, by omega, by omega, e5⟩⟩
        · rename_i hjk
          rw [if_neg hjk] at e2 e3 e4 e5
          obtain ⟨m, hm, r⟩ := (h.cov v kk n x).1 ⟨j, hj, e1, e2, e3, e4, e5⟩
          exact ⟨m, by omega, r⟩
      · rintro ⟨m, hm, e1, e2, e3, e4, e5⟩
        by_cases hmi : m = i
        · subst hmi
          rw [hq] at e1 e2 e3 e4 e5
          refine ⟨k, by rw [List.length_set]; exact hk, ?_⟩
          rw [hat k hk, if_pos rfl, j1, j2, j3, j4, j5]
          exact ⟨by omega, by omega, by omega, by omega, e5⟩
        · obtain ⟨j, hj, r1, r2, r3, r4, r5⟩ := (h.cov v kk n x).2 ⟨m, by omega, e1, e2, e3, e4, e5⟩
          refine ⟨j, by rw [List.length_set]; exact hj, ?_⟩
          rw [hat j hj]
          split
          · rename_i hjk
            subst hjk
            rw [j1, j2, j3, j4, j5]
            exact ⟨r1, r2, r3, r4, by omega⟩
          · exact ⟨r1, r2, r3, r4, r5⟩
    · have main : ∀ l, l < M.length → l ≠ k → M[k]!.v = M[l]!.v → ∀ x : Int, M[k]!.a ≤ x → x < q.z → M[l]!.a ≤ x → x < M[l]!.z → False := by
        intro l hl hlk hvv x h1 h2 h3 h4
        by_cases hx : x < M[k]!.z
        · exact h.dis k l hk hl (fun e => hlk e.symm) hvv x h1 hx h3 h4
        · exact hno l hl (by omega) x h3 h4 (by omega) h2
      intro j l hj hl hjl hvv x h1 h2 h3 h4
      rw [List.length_set] at hj hl
      rw [hat j hj] at hvv h1 h2
      rw [hat l hl] at hvv h3 h4
      by_cases hjk : j = k
      · rw [if_pos hjk] at hvv h1 h2
        rw [if_neg (by omega)] at hvv h3 h4
        exact main l hl (by omega) hvv x h1 h2 h3 h4
      · rw [if_neg hjk] at hvv h1 h2
        by_cases hlk : l = k
        · rw [if_pos hlk] at hvv h3 h4
          exact main j hj hjk hvv.symm x h3 h4 h1 h2
        · rw [if_neg hlk] at hvv h3 h4
          exact h.dis j l hj hl hjl hvv x h1 h2 h3 h4
    · intro j l hj hl e1 e2 e3 e4
      rw [List.length_set] at hj hl
      rw [hat j hj] at e1 e2 e3 e4
      rw [hat l hl] at e1 e2 e3 e4
      have ol := hord l hl
      have ok := hord k hk
      by_cases hjk : j = k
      · rw [if_pos hjk] at e1 e2 e3 e4
        by_cases hlk : l = k
        · rw [if_pos hlk, j1, j2] at e4
          omega
        · rw [if_neg hlk, j2] at e4
          omega
      · rw [if_neg hjk] at e1 e2 e3 e4
        by_cases hlk : l = k
        · rw [if_pos hlk] at e1 e2 e3 e4
          exact h.max j k hj hk e1 e2 e3 e4
        · rw [if_neg hlk] at e1 e2 e3 e4
          exact h.max j l hj hl e1 e2 e3 e4
  · rw [he]
    obtain ⟨a1, a2⟩ := app_at M q
    have hlen : (M ++ [q]).length = M.length + 1 := by simp
    refine ⟨by rw [hlen]; have := h.len; omega, ?_, ?_, ?_, ?_, ?_⟩
    · intro j hj
      rw [hlen] at hj
      by_cases hjl : j = M.length
      · rw [hjl, a2]
        exact hpl
      · rw [a1 j (by omega)]
        exact h.pls j (by omega)
    · intro j hj
      rw [hlen] at hj
      by_cases hjl : j = M.length
      · rw [hjl, a2]
        exact ⟨i, by omega, by rw [hq]⟩
      · rw [a1 j (by omega)]
        obtain ⟨m, hm, he⟩ := h.start j (by omega)
        exact ⟨m, by omega, he⟩
    · intro v kk n x
      constructor
      · rintro ⟨j, hj, e⟩
        rw [hlen] at hj
        by_cases hjl : j = M.length
        · rw [hjl, a2] at e
          exact ⟨i, by omega, by rw [hq]; exact e⟩
        · rw [a1 j (by omega)] at e
          obtain ⟨m, hm, r⟩ := (h.cov v kk n x).1 ⟨j, by omega, e⟩
          exact ⟨m, by omega, r⟩
      · rintro ⟨m, hm, e⟩
        by_cases hmi : m = i
        · subst hmi
          rw [hq] at e
          exact ⟨M.length, by omega, by rw [a2]; exact e⟩
        · obtain ⟨j, hj, r⟩ := (h.cov v kk n x).2 ⟨m, by omega, e⟩
          exact ⟨j, by omega, by rw [a1 j hj]; exact r⟩
    · intro j l hj hl hjl hvv x h1 h2 h3 h4
      rw [hlen] at hj hl
      by_cases hjm : j = M.length
      · rw [hjm, a2] at hvv h1 h2
        rw [a1 l (by omega)] at hvv h3 h4
        exact hno l (by omega) hvv.symm x h3 h4 h1 h2
      · rw [a1 j (by omega)] at hvv h1 h2
        by_cases hlm : l = M.length
        · rw [hlm, a2] at hvv h3 h4
          exact hno j (by omega) hvv x h1 h2 h3 h4
        · rw [a1 l (by omega)] at hvv h3 h4
          exact h.dis j l (by omega) (by omega) hjl hvv x h1 h2 h3 h4
    · intro j l hj hl e1 e2 e3 e4
      rw [hlen] at hj hl
      by_cases hjm : j = M.length
      · rw [hjm, a2] at e1 e2 e3 e4
        by_cases hlm : l = M.length
        · rw [hlm, a2] at e4
          omega
        · rw [a1 l (by omega)] at e4
          have := hord l (by omega)
          omega
      · rw [a1 j (by omega)] at e1 e2 e3 e4
        by_cases hlm : l = M.length
        · rw [hlm, a2] at e1 e2 e3 e4
          have := hg j (by omega)
          rw [goes_iff.2 ⟨e1, e2, e3, e4⟩] at this
          cases this
        · rw [a1 l (by omega)] at e1 e2 e3 e4
          exact h.max j l (by omega) (by omega) e1 e2 e3 e4
theorem inv_all {zs : List Plc} (hv : valF zs = 0) : ∀ i, i ≤ zs.length → Inv zs (mrgU zs i) i
  | 0, _ => ⟨Nat.le_refl _, fun j hj => absurd hj (by simp [mrgU]), fun j hj => absurd hj (by simp [mrgU]), fun v k n x => ⟨fun ⟨j, hj, _⟩ => absurd hj (by simp [mrgU]), fun ⟨m, hm, _⟩ => absurd hm (by omega)⟩, fun j l hj => absurd hj (by simp [mrgU]), fun j l hj => absurd hj (by simp [mrgU])⟩
  | i + 1, hi => inv_step hv (by omega) (inv_all hv i (by omega))
theorem mrg_nodup {zs M : List Plc} {i : Nat} (h : Inv zs M i) : M.Nodup := by
  unfold List.Nodup
  rw [List.pairwise_iff_getElem]
  intro j l hj hl hjl he
  have hlt := pl_lt (h.pls j hj)
  have e : M[j]! = M[l]! := by
    rw [show M[j]! = M[j] by simp [hj], show M[l]! = M[l] by simp [hl], he]
  exact h.dis j l hj hl (by omega) (by rw [e]) M[j]!.a (Int.le_refl _) hlt.2.1 (by rw [e]; exact Int.le_refl _) (by rw [← e]; exact hlt.2.1)
theorem mrg_disj {zs M : List Plc} {i : Nat} (h : Inv zs M i) : Disj M := by
  intro p hp q hq hvv x h1 h2 h3 h4
  obtain ⟨j, hj, rfl⟩ := mem_at hp
  obtain ⟨l, hl, rfl⟩ := mem_at hq
  by_cases hjl : j = l
  · rw [hjl]
  · exact (h.dis j l hj hl hjl hvv x h1 h2 h3 h4).elim
theorem mrg_len {zs : List Plc} : ∀ i, (mrgU zs i).length ≤ i
  | 0 => Nat.le_refl _
  | i + 1 => by
    have := mrg_len (zs := zs) i
    show (mstep (mrgU zs i) zs[i]!).length ≤ i + 1
    unfold mstep
    split
    · rw [List.length_set]; omega
    · rw [List.length_append, List.length_singleton]; omega
theorem mrg_val {zs : List Plc} (hv : valF zs = 0) : valF (srt (mrgL zs)) = 0 := by
  have h := inv_all hv zs.length (Nat.le_refl _)
  refine val_of ?_ ?_ (srt_srt _) ?_ ?_
  · rw [(srt_perm _).length_eq]
    have := h.len
    have := (valF_ok hv).1
    unfold mrgL
    omega
  · intro p hp
    obtain ⟨j, hj, rfl⟩ := mem_at ((srt_perm _).mem_iff.1 hp)
    exact h.pls j hj
  · rw [(srt_perm _).nodup_iff]
    exact mrg_nodup h
  · intro p hp q hq
    exact mrg_disj h p ((srt_perm _).mem_iff.1 hp) q ((srt_perm _).mem_iff.1 hq)
/-- No two of a merged list go on into each other. -/
theorem mrg_far {zs : List Plc} (hv : valF zs = 0) {p q : Plc} (hp : p ∈ srt (mrgL zs)) (hq : q ∈ srt (mrgL zs)) : goesOn q p = false := by
  have h := inv_all hv zs.length (Nat.le_refl _)
  cases hg : goesOn q p
  · rfl
  · obtain ⟨e1, e2, e3, e4⟩ := goes_iff.1 hg
    obtain ⟨j, hj, rfl⟩ := mem_at ((srt_perm _).mem_iff.1 hp)
    obtain ⟨l, hl, rfl⟩ := mem_at ((srt_perm _).mem_iff.1 hq)
    exact (h.max j l hj hl e1 e2 e3 e4).elim
theorem mrg_same {a : List Plc} (h : ∀ p ∈ a, ∀ q ∈ a, goesOn q p = false) : ∀ i, i ≤ a.length → mrgU a i = a.take i
  | 0, _ => by simp [mrgU]
  | i + 1, hi => by
    show mstep (mrgU a i) a[i]! = _
    rw [mrg_same h i (by omega)]
    rcases mstep_cases (a.take i) a[i]! with ⟨k, hk, hg, -⟩ | ⟨-, he, -⟩
    · rw [h _ (List.mem_of_mem_take (at_mem hk)) _ (at_mem (show i < a.length by omega))] at hg
      cases hg
    · rw [he, show a[i]! = a[i] by simp [show i < a.length by omega], ← List.take_succ_eq_append_getElem (show i < a.length by omega)]
theorem mrg_again {zs : List Plc} (hv : valF zs = 0) : srt (mrgL (srt (mrgL zs))) = srt (mrgL zs) := by
  obtain ⟨a, ha⟩ : ∃ a, a = srt (mrgL zs) := ⟨_, rfl⟩
  have h1 := mrg_same (a := a) (fun p hp q hq => mrg_far hv (ha ▸ hp) (ha ▸ hq)) a.length (Nat.le_refl _)
  rw [← ha]
  unfold mrgL
  rw [h1, List.take_length]
  exact (srt_uniq (List.Perm.refl _) (by rw [ha]; exact srt_srt _)).symm
theorem mrg_fnd {zs : List Plc} (hv : valF zs = 0) (v x : Int) : (fnd (srt (mrgL zs)) v x).isSome = (fnd zs v x).isSome ∧ ((fnd (srt (mrgL zs)) v x).getD zeroP).k = ((fnd zs v x).getD zeroP).k ∧ ((fnd (srt (mrgL zs)) v x).getD zeroP).n = ((fnd zs v x).getD zeroP).n := by
  have h := inv_all hv zs.length (Nat.le_refl _)
  cases hf : fnd zs v x with
  | none =>
    cases hg : fnd (srt (mrgL zs)) v x with
    | none => exact ⟨rfl, rfl, rfl⟩
    | some q =>
      obtain ⟨hq, h1, h2, h3⟩ := fnd_mem hg
      obtain ⟨j, hj, rfl⟩ := mem_at ((srt_perm _).mem_iff.1 hq)
      obtain ⟨m, hm, e1, e2, e3, e4, e5⟩ := (h.cov _ _ _ x).1 ⟨j, hj, rfl, rfl, rfl, h2, h3⟩
      exact (fnd_none hf hm ⟨e1.trans h1, e4, e5⟩).elim
  | some p =>
    obtain ⟨hp, h1, h2, h3⟩ := fnd_mem hf
    obtain ⟨m, hm, rfl⟩ := mem_at hp
    obtain ⟨j, hj, e1, e2, e3, e4, e5⟩ := (h.cov _ _ _ x).2 ⟨m, hm, rfl, rfl, rfl, h2, h3⟩
    rw [fnd_is (val_disj (mrg_val hv)) ((srt_perm _).mem_iff.2 (at_mem hj)) (e1.trans h1) e4 e5]
    exact ⟨rfl, e2, e3⟩
end Go.Proofs.Ytdpfglpefncigaa
