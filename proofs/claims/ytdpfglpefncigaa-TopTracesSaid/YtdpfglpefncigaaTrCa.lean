/-
  Tables as sorted lists: when one is right; what is cut out of one.
-/
import Derived.Test.YtdpfglpefncigaaTrHa
import Derived.Test.YtdpfglpefncigaaTrEn
namespace Go.Proofs.Ytdpfglpefncigaa

theorem bef_irr (p : Plc) : befB p p = false := by simp [befB]
theorem bef_iff (p q : Plc) : befB p q = true ↔ (p.a < q.a ∨ p.a = q.a ∧ (p.z < q.z ∨ p.z = q.z ∧ (p.v < q.v ∨ p.v = q.v ∧ (p.k < q.k ∨ p.k = q.k ∧ p.n < q.n)))) := by
  unfold befB
  by_cases h0 : p.a = q.a
  · by_cases h1 : p.z = q.z
    · by_cases h2 : p.v = q.v
      · by_cases h3 : p.k = q.k
        · simp [h0, h1, h2, h3]
        · simp [h0, h1, h2, h3]
      · simp [h0, h1, h2]
    · simp [h0, h1]
  · simp [h0]
theorem bef_trans {p q r : Plc} (h1 : befB p q = true) (h2 : befB q r = true) : befB p r = true := by
  rw [bef_iff] at *
  omega
theorem bef_tot (p q : Plc) (h1 : befB p q = false) (h2 : befB q p = false) : p = q := by
  have h1' : ¬ befB p q = true := by rw [h1]; simp
  have h2' : ¬ befB q p = true := by rw [h2]; simp
  rw [bef_iff] at h1' h2'
  obtain ⟨a, z, v, k, n⟩ := p
  obtain ⟨b, y, u, l, m⟩ := q
  simp only at h1' h2'
  simp only [Plc.mk.injEq]
  omega
theorem bef_nt {p q r : Plc} (h1 : befB q p = false) (h2 : befB r q = false) : befB r p = false := by
  have h1' : ¬ befB q p = true := by rw [h1]; simp
  have h2' : ¬ befB r q = true := by rw [h2]; simp
  apply Bool.eq_false_iff.2
  rw [ne_eq, bef_iff]
  rw [bef_iff] at h1' h2'
  omega
/-- Sorted. -/
def Srt (l : List Plc) : Prop := l.Pairwise fun p q => befB q p = false
/-- A list, sorted. -/
def srt (l : List Plc) : List Plc := l.mergeSort fun p q => !befB q p
theorem srt_perm (l : List Plc) : (srt l).Perm l := List.mergeSort_perm _ _
theorem srt_srt (l : List Plc) : Srt (srt l) := by
  have := List.pairwise_mergeSort (le := fun p q => !befB q p) (fun a b c h1 h2 => by
    simp only [Bool.not_eq_true'] at *
    exact bef_nt h1 h2) (fun a b => by
    cases h1 : befB b a
    · simp
    · cases h2 : befB a b
      · simp
      · have := bef_trans h1 h2
        rw [bef_irr] at this
        cases this) l
  refine List.Pairwise.imp ?_ this
  intro a b h
  simpa using h
theorem srt_uniq {l r : List Plc} (hp : r.Perm l) (hs : Srt r) : r = srt l :=
  List.Perm.eq_of_pairwise (le := fun p q => befB q p = false) (fun a b _ _ h1 h2 => bef_tot a b h2 h1) hs (srt_srt l) (hp.trans (srt_perm l).symm)
/-- No address is told twice of one variable. -/
def Disj (zs : List Plc) : Prop := ∀ p ∈ zs, ∀ q ∈ zs, p.v = q.v → ∀ x : Int, p.a ≤ x → x < p.z → q.a ≤ x → x < q.z → p = q
theorem at_mem {zs : List Plc} {j : Nat} (h : j < zs.length) : zs[j]! ∈ zs := by
  rw [show zs[j]! = zs[j] by simp [h]]
  exact List.getElem_mem _
theorem mem_at {zs : List Plc} {p : Plc} (h : p ∈ zs) : ∃ j, j < zs.length ∧ zs[j]! = p := by
  obtain ⟨j, hj, rfl⟩ := List.mem_iff_getElem.1 h
  exact ⟨j, hj, by simp [hj]⟩
theorem bef_next {zs : List Plc} (h : okAll zs = true) {j : Nat} (hj : j + 1 < zs.length) : befB zs[j]! zs[j + 1]! = true := by
  have := okAll_at h hj
  unfold okAt at this
  simp only [Bool.and_eq_true, Bool.or_eq_true, Nat.add_sub_cancel] at this
  rcases this.2 with h1 | h1
  · simp at h1
  · exact h1
theorem bef_far {zs : List Plc} (h : okAll zs = true) {i : Nat} : ∀ d, i + d + 1 < zs.length → befB zs[i]! zs[i + d + 1]! = true
  | 0, hd => bef_next h hd
  | d + 1, hd => bef_trans (bef_far h d (by omega)) (bef_next h (j := i + d + 1) hd)
theorem bef_lt {zs : List Plc} (h : okAll zs = true) {i j : Nat} (hij : i < j) (hj : j < zs.length) : befB zs[i]! zs[j]! = true := by
  have := bef_far h (i := i) (j - i - 1) (by omega)
  rwa [show i + (j - i - 1) + 1 = j by omega] at this
theorem ov_at {zs : List Plc} (hv : valF zs = 0) {i j : Nat} (hij : j < i) (hi : i < zs.length) : ¬ (zs[j]!.v = zs[i]!.v ∧ zs[j]!.a ≤ zs[i]!.a ∧ zs[i]!.a < zs[j]!.z) := by
  intro hh
  have h3 : ovAny zs = false := by
    unfold valF at hv
    split at hv
    · cases hv
    · split at hv
      · cases hv
      · split at hv
        · cases hv
        · rename_i h
          simpa using h
  unfold ovAny at h3
  rw [List.any_eq_false] at h3
  apply h3 i (List.mem_range.2 hi)
  unfold ovAt
  rw [List.any_eq_true]
  refine ⟨j, List.mem_range.2 hij, ?_⟩
  simp only [Bool.and_eq_true, decide_eq_true_eq]
  exact ⟨hh.1, covB_iff.2 hh.2⟩
theorem val_isPl {zs : List Plc} (hv : valF zs = 0) {p : Plc} (hp : p ∈ zs) : isPlB p = true := by
  obtain ⟨j, hj, rfl⟩ := mem_at hp
  exact okAt_place (okAll_at (valF_ok hv).2 hj)
theorem val_srt {zs : List Plc} (hv : valF zs = 0) : Srt zs := by
  unfold Srt
  rw [List.pairwise_iff_getElem]
  intro i j hi hj hij
  have h1 := bef_lt (valF_ok hv).2 hij hj
  rw [show zs[i]! = zs[i] by simp [hi], show zs[j]! = zs[j] by simp [hj]] at h1
  cases h2 : befB zs[j] zs[i]
  · rfl
  · have := bef_trans h1 h2
    rw [bef_irr] at this
    cases this
theorem val_nodup {zs : List Plc} (hv : valF zs = 0) : zs.Nodup := by
  unfold List.Nodup
  rw [List.pairwise_iff_getElem]
  intro i j hi hj hij he
  have h1 := bef_lt (valF_ok hv).2 hij hj
  rw [show zs[i]! = zs[i] by simp [hi], show zs[j]! = zs[j] by simp [hj], he, bef_irr] at h1
  cases h1
theorem val_disj {zs : List Plc} (hv : valF zs = 0) : Disj zs := by
  have main : ∀ i j, j < i → i < zs.length → zs[j]!.v = zs[i]!.v → ∀ x : Int, zs[j]!.a ≤ x → x < zs[j]!.z → zs[i]!.a ≤ x → x < zs[i]!.z → False := by
    intro i j hij hi hvv x h1 h2 h3 h4
    have ha := a_sorted (valF_ok hv).2 (i := j) (i - j) (by omega)
    rw [show j + (i - j) = i by omega] at ha
    exact ov_at hv hij hi ⟨hvv, ha, by omega⟩
  intro p hp q hq hvv x h1 h2 h3 h4
  obtain ⟨i, hi, rfl⟩ := mem_at hp
  obtain ⟨j, hj, rfl⟩ := mem_at hq
  rcases Nat.lt_trichotomy i j with h | h | h
  · exact (main j i h hj hvv x h1 h2 h3 h4).elim
  · rw [h]
  · exact (main i j h hi hvv.symm x h3 h4 h1 h2).elim
theorem val_of {zs : List Plc} (hl : zs.length ≤ 64) (hp : ∀ p ∈ zs, isPlB p = true) (hs : Srt zs) (hn : zs.Nodup) (hd : Disj zs) : valF zs = 0 := by
  have hb : ∀ i j, i < j → j < zs.length → befB zs[i]! zs[j]! = true := by
    intro i j hij hj
    have h1 := List.pairwise_iff_getElem.1 hs i j (by omega) hj hij
    have h2 := List.pairwise_iff_getElem.1 hn i j (by omega) hj hij
    rw [show zs[i]! = zs[i] by simp [show i < zs.length by omega], show zs[j]! = zs[j] by simp [hj]]
    cases h3 : befB zs[i] zs[j]
    · exact absurd (bef_tot _ _ h3 h1) h2
    · rfl
  have hok : okAll zs = true := okAll_yes fun j hj => by
    unfold okAt
    rw [hp _ (at_mem hj), Bool.true_and]
    by_cases h0 : j = 0
    · simp [h0]
    · rw [hb (j - 1) j (by omega) hj]
      simp
  have hov : ovAny zs = false := ovAny_no fun i hi => by
    unfold ovAt
    rw [List.any_eq_false]
    intro j hj hh
    simp only [Bool.and_eq_true, decide_eq_true_eq] at hh
    have hj := List.mem_range.1 hj
    have hc := covB_iff.1 hh.2
    have hpi := hp _ (at_mem hi)
    obtain ⟨a, z, v, k, n, he, h1, -⟩ := place_nums hpi
    have e := hd _ (at_mem (show j < zs.length by omega)) _ (at_mem hi) hh.1 zs[i]!.a hc.1 hc.2 (Int.le_refl _) (by rw [he]; simp only; omega)
    have hbb := hb j i hj hi
    rw [e, bef_irr] at hbb
    cases hbb
  unfold valF
  rw [if_neg (by omega), hok, hov]
  simp
theorem fnd_mem {zs : List Plc} {v x : Int} {p : Plc} (h : fnd zs v x = some p) : p ∈ zs ∧ p.v = v ∧ p.a ≤ x ∧ x < p.z := by
  obtain ⟨k, hk, rfl, h1⟩ := fnd_some h
  exact ⟨at_mem hk, h1⟩
theorem fnd_is {zs : List Plc} (hd : Disj zs) {v x : Int} {p : Plc} (hp : p ∈ zs) (h1 : p.v = v) (h2 : p.a ≤ x) (h3 : x < p.z) : fnd zs v x = some p := by
  cases hf : fnd zs v x with
  | none =>
    obtain ⟨j, hj, rfl⟩ := mem_at hp
    exact absurd ⟨h1, h2, h3⟩ (fnd_none hf hj)
  | some q =>
    obtain ⟨hq, h4, h5, h6⟩ := fnd_mem hf
    rw [hd p hp q hq (h1.trans h4.symm) x h2 h3 h5 h6]
/-- A place cut. -/
def cutP (f t : Int) (p : Plc) : Plc := ⟨max p.a f, min p.z t, p.v, p.k, p.n⟩
def someP (p : Plc) : Bool := decide (p.a < p.z)
/-- What is cut out of the first places of a table. -/
def cutU (zs : List Plc) (f t : Int) (i : Nat) : List Plc := ((zs.take i).map (cutP f t)).filter someP
theorem cutU_succ {zs : List Plc} {f t : Int} {i : Nat} (hi : i < zs.length) : cutU zs f t (i + 1) = if someP (cutP f t zs[i]!) then cutU zs f t i ++ [cutP f t zs[i]!] else cutU zs f t i := by
  unfold cutU
  rw [show zs[i]! = zs[i] by simp [hi], List.take_succ_eq_append_getElem hi, List.map_append, List.filter_append]
  cases h : someP (cutP f t zs[i]) <;> simp [h]
theorem cutU_len (zs : List Plc) (f t : Int) (i : Nat) : (cutU zs f t i).length ≤ i := by
  unfold cutU
  have h1 := List.length_filter_le someP ((zs.take i).map (cutP f t))
  rw [List.length_map, List.length_take] at h1
  omega
def cutL (zs : List Plc) (f t : Int) : List Plc := cutU zs f t zs.length
theorem mem_cutL {zs : List Plc} {f t : Int} {q : Plc} : q ∈ cutL zs f t ↔ ∃ p ∈ zs, cutP f t p = q ∧ q.a < q.z := by
  unfold cutL cutU someP
  rw [List.take_length, List.mem_filter, List.mem_map]
  simp only [decide_eq_true_eq]
  constructor
  · rintro ⟨⟨p, hp, h1⟩, h2⟩
    exact ⟨p, hp, h1, h2⟩
  · rintro ⟨p, hp, h1, h2⟩
    exact ⟨⟨p, hp, h1⟩, h2⟩
theorem cut_inj {zs : List Plc} (hd : Disj zs) {f t : Int} {p q : Plc} (hp : p ∈ zs) (hq : q ∈ zs) (he : cutP f t p = cutP f t q) (h : (cutP f t p).a < (cutP f t p).z) : p = q := by
  have hv : (cutP f t p).v = (cutP f t q).v := by rw [he]
  have ha : (cutP f t p).a = (cutP f t q).a := by rw [he]
  have hz : (cutP f t p).z = (cutP f t q).z := by rw [he]
  simp only [cutP] at hv ha hz
  have h' : max p.a f < min p.z t := h
  exact hd p hp q hq hv (max p.a f) (by omega) (by omega) (by omega) (by omega)
theorem filter_map_nodup {zs : List Plc} {g : Plc → Plc} {P : Plc → Bool} (hn : zs.Nodup) (hi : ∀ p ∈ zs, ∀ q ∈ zs, g p = g q → P (g p) = true → p = q) : ((zs.map g).filter P).Nodup := by
  induction zs with
  | nil => simp
  | cons p zs ih =>
    have hn' := List.nodup_cons.1 hn
    have ih' := ih hn'.2 (fun a ha b hb => hi a (List.mem_cons_of_mem _ ha) b (List.mem_cons_of_mem _ hb))
    rw [List.map_cons]
    cases hP : P (g p)
    · rw [List.filter_cons_of_neg (by simp [hP])]
      exact ih'
    · rw [List.filter_cons_of_pos hP]
      refine List.nodup_cons.2 ⟨fun hm => ?_, ih'⟩
      obtain ⟨hm, _⟩ := List.mem_filter.1 hm
      obtain ⟨q, hq, he⟩ := List.mem_map.1 hm
      have := hi p (by simp) q (List.mem_cons_of_mem _ hq) he.symm hP
      subst this
      exact hn'.1 hq
theorem cut_val {zs : List Plc} (hv : valF zs = 0) {f t : Int} (hf : 0 ≤ f) (ht : t ≤ 32768) : valF (srt (cutL zs f t)) = 0 := by
  have hd := val_disj hv
  have hm : ∀ q, q ∈ srt (cutL zs f t) → ∃ p ∈ zs, cutP f t p = q ∧ q.a < q.z := fun q hq => mem_cutL.1 ((srt_perm _).mem_iff.1 hq)
  refine val_of ?_ ?_ (srt_srt _) ?_ ?_
  · rw [(srt_perm _).length_eq]
    have := cutU_len zs f t zs.length
    have := (valF_ok hv).1
    unfold cutL
    omega
  · intro q hq
    obtain ⟨p, hp, rfl, h2⟩ := hm q hq
    have hpl := val_isPl hv hp
    have h2' : max p.a f < min p.z t := h2
    obtain ⟨a, z, v, k, n⟩ := p
    unfold isPlB inB at hpl ⊢
    simp only [Bool.and_eq_true, decide_eq_true_eq] at hpl ⊢
    simp only [cutP] at h2' ⊢
    refine ⟨⟨⟨⟨⟨?_, ?_⟩, ?_⟩, hpl.1.1.2⟩, hpl.1.2⟩, hpl.2⟩
    · omega
    · omega
    · omega
  · rw [(srt_perm _).nodup_iff]
    unfold cutL cutU
    rw [List.take_length]
    exact filter_map_nodup (val_nodup hv) (fun p hp q hq he h => cut_inj hd hp hq he (by simpa [someP] using h))
  · intro p hp q hq hvv x h1 h2 h3 h4
    obtain ⟨p0, hp0, rfl, -⟩ := hm p hp
    obtain ⟨q0, hq0, rfl, -⟩ := hm q hq
    simp only [cutP] at hvv h1 h2 h3 h4
    rw [hd p0 hp0 q0 hq0 hvv x (by omega) (by omega) (by omega) (by omega)]
/-- Where a place lies in what is cut out, it is found there; elsewhere nothing is. -/
theorem cut_fnd {zs : List Plc} (hv : valF zs = 0) {f t : Int} (hf : 0 ≤ f) (ht : t ≤ 32768) {p : Plc} (hp : p ∈ zs) {x : Int} (h1 : p.a ≤ x) (h2 : x < p.z) :
    fnd (srt (cutL zs f t)) p.v x = if f ≤ x ∧ x < t then some (cutP f t p) else none := by
  have hd := val_disj (cut_val hv hf ht)
  by_cases h : f ≤ x ∧ x < t
  · rw [if_pos h]
    refine fnd_is hd ((srt_perm _).mem_iff.2 (mem_cutL.2 ⟨p, hp, rfl, ?_⟩)) rfl ?_ ?_
    · simp only [cutP]; omega
    · simp only [cutP]; omega
    · simp only [cutP]; omega
  · rw [if_neg h]
    cases hfn : fnd (srt (cutL zs f t)) p.v x with
    | none => rfl
    | some q =>
      obtain ⟨hq, -, h5, h6⟩ := fnd_mem hfn
      obtain ⟨q0, -, rfl, -⟩ := mem_cutL.1 ((srt_perm _).mem_iff.1 hq)
      simp only [cutP] at h5 h6
      omega
end Go.Proofs.Ytdpfglpefncigaa
