/-
  Tables that tell the same, merged: one table. A table cut and put together again.
-/
import Derived.Test.YtdpfglpefncigaaTrMf
namespace Go.Proofs.Ytdpfglpefncigaa

theorem mrgT_len2 {zs : List Plc} : (mrgT zs).length ≤ zs.length ∧ (mrgT zs).length ≤ 64 := by
  unfold mrgT
  split
  · rename_i h
    rw [(srt_perm _).length_eq]
    have h1 := mrg_len (zs := zs) zs.length
    have h2 := (valF_ok h).1
    unfold mrgL
    omega
  · simp
theorem cutT_len2 {zs : List Plc} {f t : Int} : (cutT zs f t).length ≤ 64 := by
  unfold cutT
  split
  · rename_i h
    rw [(srt_perm _).length_eq]
    have h1 := cutU_len zs f t zs.length
    have h2 := (valF_ok (chk_ok h).1).1
    unfold cutL
    omega
  · simp
/-- What a table tells: a variable's kind and number at an address. -/
def Tells (zs : List Plc) (v k n x : Int) : Prop := ∃ p ∈ zs, p.v = v ∧ p.k = k ∧ p.n = n ∧ p.a ≤ x ∧ x < p.z
structure Full (a : List Plc) : Prop where
  pl : ∀ p ∈ a, p.a < p.z
  dj : Disj a
  far : ∀ p ∈ a, ∀ q ∈ a, goesOn q p = false
theorem full_sub {a b : List Plc} (ha : Full a) (hb : Full b) (h : ∀ v k n x, Tells a v k n x ↔ Tells b v k n x) {p : Plc} (hp : p ∈ a) : p ∈ b := by
  have hlt := ha.pl p hp
  obtain ⟨q, hq, e1, e2, e3, e4, e5⟩ := (h p.v p.k p.n p.a).1 ⟨p, hp, rfl, rfl, rfl, Int.le_refl _, hlt⟩
  have hqlt := hb.pl q hq
  have c1 : q.a = p.a := by
    by_cases hc : q.a < p.a
    · exfalso
      obtain ⟨p', hp', f1, f2, f3, f4, f5⟩ := (h p.v p.k p.n (p.a - 1)).2 ⟨q, hq, e1, e2, e3, by omega, by omega⟩
      by_cases hz : p.a < p'.z
      · have := ha.dj p' hp' p hp f1 p.a (by omega) hz (Int.le_refl _) hlt
        rw [this] at f4
        omega
      · have := ha.far p' hp' p hp
        rw [goes_iff.2 ⟨f1, f2, f3, by omega⟩] at this
        cases this
    · omega
  have c2 : q.z = p.z := by
    rcases Int.lt_trichotomy q.z p.z with hc | hc | hc
    · exfalso
      obtain ⟨q', hq', f1, f2, f3, f4, f5⟩ := (h p.v p.k p.n q.z).1 ⟨p, hp, rfl, rfl, rfl, by omega, hc⟩
      by_cases hz : q'.a < q.z
      · have := hb.dj q' hq' q hq (f1.trans e1.symm) (q.z - 1) (by omega) (by omega) (by omega) (by omega)
        rw [this] at f5
        omega
      · have := hb.far q hq q' hq'
        rw [goes_iff.2 ⟨e1.trans f1.symm, e2.trans f2.symm, e3.trans f3.symm, by omega⟩] at this
        cases this
    · exact hc
    · exfalso
      obtain ⟨p', hp', f1, f2, f3, f4, f5⟩ := (h p.v p.k p.n p.z).2 ⟨q, hq, e1, e2, e3, by omega, hc⟩
      by_cases hz : p'.a < p.z
      · have := ha.dj p' hp' p hp f1 (p.z - 1) (by omega) (by omega) (by omega) (by omega)
        rw [this] at f5
        omega
      · have := ha.far p hp p' hp'
        rw [goes_iff.2 ⟨f1.symm, f2.symm, f3.symm, by omega⟩] at this
        cases this
  obtain ⟨pa, pz, pv, pk, pn⟩ := p
  obtain ⟨qa, qz, qv, qk, qn⟩ := q
  simp only at c1 c2 e1 e2 e3
  subst c1 c2 e1 e2 e3
  exact hq
theorem full_eq {a b : List Plc} (ha : Full a) (hb : Full b) (hna : a.Nodup) (hnb : b.Nodup) (hsa : Srt a) (hsb : Srt b) (h : ∀ v k n x, Tells a v k n x ↔ Tells b v k n x) : a = b := by
  have hp : a.Perm b := (List.perm_ext_iff_of_nodup hna hnb).2 fun p => ⟨fun hp => full_sub ha hb h hp, fun hp => full_sub hb ha (fun v k n x => (h v k n x).symm) hp⟩
  exact List.Perm.eq_of_pairwise (le := fun p q => befB q p = false) (fun a b _ _ h1 h2 => bef_tot a b h2 h1) hsa hsb hp
theorem mrg_tells {zs : List Plc} (hv : valF zs = 0) (v k n x : Int) : Tells (srt (mrgL zs)) v k n x ↔ Tells zs v k n x := by
  have h := inv_all hv zs.length (Nat.le_refl _)
  constructor
  · rintro ⟨p, hp, e⟩
    obtain ⟨j, hj, rfl⟩ := mem_at ((srt_perm _).mem_iff.1 hp)
    obtain ⟨m, hm, r⟩ := (h.cov v k n x).1 ⟨j, hj, e⟩
    exact ⟨_, at_mem hm, r⟩
  · rintro ⟨p, hp, e⟩
    obtain ⟨m, hm, rfl⟩ := mem_at hp
    obtain ⟨j, hj, r⟩ := (h.cov v k n x).2 ⟨m, hm, e⟩
    exact ⟨_, (srt_perm _).mem_iff.2 (at_mem hj), r⟩
theorem mrg_full {zs : List Plc} (hv : valF zs = 0) : Full (srt (mrgL zs)) :=
  ⟨fun p hp => (pl_lt (val_isPl (mrg_val hv) hp)).2.1, val_disj (mrg_val hv), fun p hp q hq => mrg_far hv hp hq⟩
theorem mrg_eq {zs ys : List Plc} (hv : valF zs = 0) (hw : valF ys = 0) (h : ∀ v k n x, Tells zs v k n x ↔ Tells ys v k n x) : mrgT zs = mrgT ys := by
  rw [show mrgT zs = srt (mrgL zs) from if_pos hv, show mrgT ys = srt (mrgL ys) from if_pos hw]
  exact full_eq (mrg_full hv) (mrg_full hw) (val_nodup (mrg_val hv)) (val_nodup (mrg_val hw)) (srt_srt _) (srt_srt _) fun v k n x => (mrg_tells hv v k n x).trans ((h v k n x).trans (mrg_tells hw v k n x).symm)
theorem cut_tells {zs : List Plc} {f t v k n x : Int} : Tells (srt (cutL zs f t)) v k n x ↔ Tells zs v k n x ∧ f ≤ x ∧ x < t := by
  constructor
  · rintro ⟨q, hq, e1, e2, e3, e4, e5⟩
    obtain ⟨p, hp, rfl, -⟩ := mem_cutL.1 ((srt_perm _).mem_iff.1 hq)
    simp only [cutP] at e1 e2 e3 e4 e5
    exact ⟨⟨p, hp, e1, e2, e3, by omega, by omega⟩, by omega, by omega⟩
  · rintro ⟨⟨p, hp, e1, e2, e3, e4, e5⟩, h1, h2⟩
    refine ⟨cutP f t p, (srt_perm _).mem_iff.2 (mem_cutL.2 ⟨p, hp, rfl, ?_⟩), e1, e2, e3, ?_, ?_⟩
    · simp only [cutP]; omega
    · simp only [cutP]; omega
    · simp only [cutP]; omega
theorem tells_app {a b : List Plc} {v k n x : Int} : Tells (a ++ b) v k n x ↔ Tells a v k n x ∨ Tells b v k n x := by
  constructor
  · rintro ⟨p, hp, e⟩
    rcases List.mem_append.1 hp with h | h
    · exact .inl ⟨p, h, e⟩
    · exact .inr ⟨p, h, e⟩
  · rintro (⟨p, hp, e⟩ | ⟨p, hp, e⟩)
    · exact ⟨p, List.mem_append_left _ hp, e⟩
    · exact ⟨p, List.mem_append_right _ hp, e⟩
/-- What was cut in two is a table, put together. -/
theorem two_val {zs : List Plc} (hv : valF zs = 0) {t : Int} (h0 : 0 ≤ t) (ht : t ≤ 32768) (hl : (srt (cutL zs 0 t) ++ srt (cutL zs t 32768)).length ≤ 64) : valF (srt (cutL zs 0 t) ++ srt (cutL zs t 32768)) = 0 := by
  have h1 := cut_val hv (f := 0) (t := t) (Int.le_refl _) ht
  have h2 := cut_val hv (f := t) (t := 32768) h0 (Int.le_refl _)
  have lo : ∀ p ∈ srt (cutL zs 0 t), p.z ≤ t := fun p hp => by
    obtain ⟨q, _, rfl, _⟩ := mem_cutL.1 ((srt_perm _).mem_iff.1 hp)
    simp only [cutP]; omega
  have hi : ∀ p ∈ srt (cutL zs t 32768), t ≤ p.a := fun p hp => by
    obtain ⟨q, _, rfl, _⟩ := mem_cutL.1 ((srt_perm _).mem_iff.1 hp)
    simp only [cutP]; omega
  have plo : ∀ p ∈ srt (cutL zs 0 t), p.a < p.z := fun p hp => (pl_lt (val_isPl h1 hp)).2.1
  have lt : ∀ p ∈ srt (cutL zs 0 t), ∀ q ∈ srt (cutL zs t 32768), p.a < q.a := fun p hp q hq => by
    have := lo p hp
    have := hi q hq
    have := plo p hp
    omega
  refine val_of hl ?_ ?_ ?_ ?_
  · intro p hp
    rcases List.mem_append.1 hp with h | h
    · exact val_isPl h1 h
    · exact val_isPl h2 h
  · unfold Srt
    rw [List.pairwise_append]
    refine ⟨srt_srt _, srt_srt _, fun p hp q hq => ?_⟩
    have := lt p hp q hq
    cases h : befB q p
    · rfl
    · rw [bef_iff] at h
      omega
  · rw [List.nodup_append]
    refine ⟨val_nodup h1, val_nodup h2, fun p hp q hq he => ?_⟩
    have := lt p hp q hq
    rw [he] at this
    omega
  · intro p hp q hq hvv x a1 a2 a3 a4
    rcases List.mem_append.1 hp with h | h
    · rcases List.mem_append.1 hq with g | g
      · exact val_disj h1 p h q g hvv x a1 a2 a3 a4
      · have := lo p h
        have := hi q g
        omega
    · rcases List.mem_append.1 hq with g | g
      · have := lo q g
        have := hi p h
        omega
      · exact val_disj h2 p h q g hvv x a1 a2 a3 a4
theorem two_mrg {zs : List Plc} (hv : valF zs = 0) {t : Int} (h0 : 0 ≤ t) (ht : t ≤ 32768) (hl : (srt (cutL zs 0 t) ++ srt (cutL zs t 32768)).length ≤ 64) : mrgT (srt (cutL zs 0 t) ++ srt (cutL zs t 32768)) = mrgT zs := by
  refine mrg_eq (two_val hv h0 ht hl) hv fun v k n x => ?_
  rw [tells_app, cut_tells, cut_tells]
  constructor
  · rintro (h | h)
    · exact h.1
    · exact h.1
  · intro h
    have h' := h
    obtain ⟨p, hp, -, -, -, e4, e5⟩ := h'
    have := pl_lt (val_isPl hv hp)
    by_cases hx : x < t
    · exact .inl ⟨h, by omega, hx⟩
    · exact .inr ⟨h, by omega, by omega⟩
/-- What is found, as it is told. -/
def knd (o : Option Plc) : Option (Int × Int) := o.map fun p => (p.k, p.n)
theorem knd_of {zs ys : List Plc} (hd : Disj zs) (hd2 : Disj ys) {v x : Int} (h : ∀ k n, Tells zs v k n x ↔ Tells ys v k n x) : knd (fnd zs v x) = knd (fnd ys v x) := by
  cases hf : fnd zs v x with
  | none =>
    cases hg : fnd ys v x with
    | none => rfl
    | some q =>
      obtain ⟨hq, h1, h2, h3⟩ := fnd_mem hg
      obtain ⟨p, hp, e1, -, -, e4, e5⟩ := (h q.k q.n).2 ⟨q, hq, h1, rfl, rfl, h2, h3⟩
      obtain ⟨j, hj, rfl⟩ := mem_at hp
      exact (fnd_none hf hj ⟨e1, e4, e5⟩).elim
  | some p =>
    obtain ⟨hp, h1, h2, h3⟩ := fnd_mem hf
    obtain ⟨q, hq, e1, e2, e3, e4, e5⟩ := (h p.k p.n).1 ⟨p, hp, h1, rfl, rfl, h2, h3⟩
    rw [fnd_is hd2 hq e1 e4 e5]
    unfold knd
    simp [e2, e3]
end Go.Proofs.Ytdpfglpefncigaa
