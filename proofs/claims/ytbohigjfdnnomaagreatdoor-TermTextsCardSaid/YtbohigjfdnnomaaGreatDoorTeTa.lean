/-
  Terms as trees, and the pool of their different nodes, as mathematics.
-/
import Derived.Test.YtbohigjfdnnomaaGreatDoorTeM
namespace Go.Proofs.YtbohigjfdnnomaaGreatDoor

/-- A term as a tree. -/
inductive Tr where
  | nd (op width flags imm : Int) (cs : List Tr) : Tr
deriving Inhabited
/-- The first place of a node in a list. -/
def ix : List Nd → Nd → Nat
  | [], _ => 0
  | x :: l, y => if x = y then 0 else ix l y + 1
/-- A pool with a node. -/
def addP (out : List Nd) (y : Nd) : List Nd := if ix out y < out.length then out else out ++ [y]
mutual
/-- A tree put into a pool: its number, and the pool. -/
def ins : Tr → List Nd → Nat × List Nd
  | .nd op wi fl im cs, out => let r := insL cs out; let y : Nd := ⟨op, wi, fl, r.1.map fun (i : Nat) => (i : Int), im⟩; (ix r.2 y, addP r.2 y)
def insL : List Tr → List Nd → List Nat × List Nd
  | [], out => ([], out)
  | c :: cs, out => let r := ins c out; let q := insL cs r.2; (r.1 :: q.1, q.2)
end
mutual
/-- A tree lies in a pool with a number. -/
def Has (out : List Nd) : Tr → Nat → Prop
  | .nd op wi fl im cs, i => ∃ is : List Nat, i < out.length ∧ out[i]! = (⟨op, wi, fl, is.map fun (i : Nat) => (i : Int), im⟩ : Nd) ∧ HasL out cs is
def HasL (out : List Nd) : List Tr → List Nat → Prop
  | [], is => is = []
  | c :: cs, is => ∃ i js, is = i :: js ∧ Has out c i ∧ HasL out cs js
end
/-- No node stands twice. -/
def Once (out : List Nd) : Prop := ∀ i j, i < out.length → j < out.length → out[i]! = out[j]! → i = j
theorem ix_le (out : List Nd) (y : Nd) : ix out y ≤ out.length := by
  induction out with
  | nil => exact Nat.le_refl _
  | cons x l ih =>
    unfold ix
    split
    · exact Nat.zero_le _
    · simpa using ih
theorem ix_get {out : List Nd} {y : Nd} (h : ix out y < out.length) : out[ix out y]! = y := by
  induction out with
  | nil => exact absurd h (by simp)
  | cons x l ih =>
    unfold ix at h ⊢
    split
    · rename_i e
      simpa using e
    · rename_i e
      rw [if_neg e] at h
      have := ih (by simpa using h)
      simpa using this
theorem ix_first {out : List Nd} {y : Nd} {j : Nat} (h : j < ix out y) : out[j]! ≠ y := by
  induction out generalizing j with
  | nil => exact absurd h (by simp [ix])
  | cons x l ih =>
    unfold ix at h
    split at h
    · omega
    · rename_i e
      match j with
      | 0 => simpa using e
      | j + 1 =>
        have := ih (j := j) (by omega)
        simpa using this
theorem ix_of {out : List Nd} (ho : Once out) {y : Nd} {i : Nat} (hi : i < out.length) (h : out[i]! = y) : ix out y = i := by
  have h1 : ix out y ≤ i := by
    apply Classical.byContradiction
    intro hh
    exact ix_first (show i < ix out y by omega) h
  exact ho _ _ (by omega) hi ((ix_get (by omega)).trans h.symm)
theorem ix_none {out : List Nd} {y : Nd} (h : ∀ i, i < out.length → out[i]! ≠ y) : ix out y = out.length := by
  have := ix_le out y
  apply Classical.byContradiction
  intro hh
  have hlt : ix out y < out.length := by omega
  exact h _ hlt (ix_get hlt)
theorem getN_app {l : List Nd} {v : Nd} {i : Nat} (h : i < l.length) : (l ++ [v])[i]! = l[i]! := by
  rw [getElem!_pos l i h, getElem!_pos (l ++ [v]) i (by simp; omega), List.getElem_append_left h]
theorem getN_last {l : List Nd} {v : Nd} : (l ++ [v])[l.length]! = v := by
  rw [getElem!_pos (l ++ [v]) l.length (by simp)]
  simp
theorem addP_old {out : List Nd} {y : Nd} (h : ix out y < out.length) : addP out y = out := if_pos h
theorem addP_new {out : List Nd} {y : Nd} (h : ¬ ix out y < out.length) : addP out y = out ++ [y] := if_neg h
theorem addP_once {out : List Nd} (ho : Once out) (y : Nd) : Once (addP out y) := by
  by_cases h : ix out y < out.length
  · rw [addP_old h]; exact ho
  · rw [addP_new h]
    have hn : ∀ i, i < out.length → out[i]! ≠ y := fun i hi e => by
      have := ix_of ho hi e
      omega
    intro i j hi hj e
    rw [List.length_append, List.length_singleton] at hi hj
    by_cases h1 : i < out.length
    · by_cases h2 : j < out.length
      · rw [getN_app h1, getN_app h2] at e
        exact ho i j h1 h2 e
      · obtain rfl : j = out.length := by omega
        rw [getN_app h1, getN_last] at e
        exact absurd e (hn i h1)
    · obtain rfl : i = out.length := by omega
      by_cases h2 : j < out.length
      · rw [getN_app h2, getN_last] at e
        exact absurd e.symm (hn j h2)
      · omega
theorem addP_pre {out : List Nd} (y : Nd) : out.length ≤ (addP out y).length ∧ ∀ i, i < out.length → (addP out y)[i]! = out[i]! := by
  by_cases h : ix out y < out.length
  · rw [addP_old h]; exact ⟨Nat.le_refl _, fun _ _ => rfl⟩
  · rw [addP_new h]
    exact ⟨by simp, fun i hi => getN_app hi⟩
theorem addP_at {out : List Nd} (y : Nd) : ix out y < (addP out y).length ∧ (addP out y)[ix out y]! = y := by
  by_cases h : ix out y < out.length
  · rw [addP_old h]; exact ⟨h, ix_get h⟩
  · rw [addP_new h]
    have e : ix out y = out.length := by have := ix_le out y; omega
    rw [e]
    exact ⟨by simp, getN_last⟩
/-- A pool that begins as another one. -/
def Pre (out o2 : List Nd) : Prop := out.length ≤ o2.length ∧ ∀ i, i < out.length → o2[i]! = out[i]!
theorem Pre.refl (out : List Nd) : Pre out out := ⟨Nat.le_refl _, fun _ _ => rfl⟩
theorem Pre.trans {a b c : List Nd} (h : Pre a b) (h2 : Pre b c) : Pre a c := ⟨Nat.le_trans h.1 h2.1, fun i hi => (h2.2 i (Nat.lt_of_lt_of_le hi h.1)).trans (h.2 i hi)⟩
mutual
theorem has_pre {out o2 : List Nd} (hp : Pre out o2) : ∀ (t : Tr) (i : Nat), Has out t i → Has o2 t i
  | .nd op wi fl im cs, i, h => by
    rw [Has] at h ⊢
    obtain ⟨is, h1, h2, h3⟩ := h
    exact ⟨is, Nat.lt_of_lt_of_le h1 hp.1, (hp.2 i h1).trans h2, hasL_pre hp cs is h3⟩
theorem hasL_pre {out o2 : List Nd} (hp : Pre out o2) : ∀ (cs : List Tr) (is : List Nat), HasL out cs is → HasL o2 cs is
  | [], is, h => by rw [HasL] at h ⊢; exact h
  | c :: cs, is, h => by
    rw [HasL] at h ⊢
    obtain ⟨i, js, h1, h2, h3⟩ := h
    exact ⟨i, js, h1, has_pre hp c i h2, hasL_pre hp cs js h3⟩
end
mutual
theorem ins_ok : ∀ (t : Tr) (out : List Nd), Once out → Once (ins t out).2 ∧ Pre out (ins t out).2 ∧ Has (ins t out).2 t (ins t out).1
  | .nd op wi fl im cs, out, ho => by
    obtain ⟨h1, h2, h3⟩ := insL_ok cs out ho
    rw [ins]
    generalize insL cs out = r at h1 h2 h3 ⊢
    simp only
    refine ⟨addP_once h1 _, h2.trans (addP_pre _), ?_⟩
    rw [Has]
    exact ⟨r.1, (addP_at _).1, (addP_at _).2, hasL_pre (addP_pre _) cs _ h3⟩
theorem insL_ok : ∀ (cs : List Tr) (out : List Nd), Once out → Once (insL cs out).2 ∧ Pre out (insL cs out).2 ∧ HasL (insL cs out).2 cs (insL cs out).1
  | [], out, ho => by
    rw [insL, HasL]
    exact ⟨ho, Pre.refl _, rfl⟩
  | c :: cs, out, ho => by
    obtain ⟨h1, h2, h3⟩ := ins_ok c out ho
    obtain ⟨h4, h5, h6⟩ := insL_ok cs (ins c out).2 h1
    rw [insL, HasL]
    exact ⟨h4, h2.trans h5, _, _, rfl, has_pre h5 c _ h3, h6⟩
end
mutual
/-- What is in the pool stays where it is. -/
theorem ins_has : ∀ (t : Tr) (out : List Nd) (i : Nat), Once out → Has out t i → ins t out = (i, out)
  | .nd op wi fl im cs, out, i, ho, h => by
    rw [Has] at h
    obtain ⟨is, h1, h2, h3⟩ := h
    rw [ins, insL_has cs out is ho h3]
    simp only
    have e := ix_of ho h1 h2
    rw [e, addP_old (by rw [e]; exact h1)]
theorem insL_has : ∀ (cs : List Tr) (out : List Nd) (is : List Nat), Once out → HasL out cs is → insL cs out = (is, out)
  | [], out, is, ho, h => by
    rw [HasL] at h
    rw [insL, h]
  | c :: cs, out, is, ho, h => by
    rw [HasL] at h
    obtain ⟨i, js, rfl, h2, h3⟩ := h
    rw [insL, ins_has c out i ho h2]
    simp only
    rw [insL_has cs out js ho h3]
end
theorem once_nil : Once [] := fun i _ hi => absurd hi (by simp)
/-- A child put in ahead changes nothing, if those before it are in. -/
theorem insL_child : ∀ (cs : List Tr) (out : List Nd) (j : Nat), Once out → j < cs.length → (∀ q, q < j → ∃ i, Has out cs[q]! i) → insL cs (ins cs[j]! out).2 = insL cs out
  | [], _, _, _, hj, _ => absurd hj (by simp)
  | c :: cs, out, 0, ho, _, _ => by
    obtain ⟨h1, h2, h3⟩ := ins_ok c out ho
    have e : (c :: cs)[0]! = c := rfl
    rw [e, insL, insL, ins_has c _ _ h1 h3]
  | c :: cs, out, j + 1, ho, hj, hp => by
    obtain ⟨i, hi⟩ := hp 0 (by omega)
    have e : (c :: cs)[j + 1]! = cs[j]! := by simp
    have e0 : (c :: cs)[0]! = c := rfl
    rw [e0] at hi
    obtain ⟨h1, h2, h3⟩ := ins_ok cs[j]! out ho
    rw [e, insL, insL, ins_has c out i ho hi, ins_has c _ i h1 (has_pre h2 c i hi)]
    simp only
    rw [insL_child cs out j ho (by simpa using hj) (fun q hq => by
      have := hp (q + 1) (by omega)
      simpa using this)]
theorem ins_child {op wi fl im : Int} {cs : List Tr} {out : List Nd} {j : Nat} (ho : Once out) (hj : j < cs.length) (hp : ∀ q, q < j → ∃ i, Has out cs[q]! i) : ins (.nd op wi fl im cs) (ins cs[j]! out).2 = ins (.nd op wi fl im cs) out := by
  rw [ins, ins, insL_child cs out j ho hj hp]
/-- The tree of a node. -/
def trF (T : List Nd) : Nat → Nat → Tr
  | 0, _ => .nd 0 0 0 0 []
  | f + 1, k => .nd T[k]!.op T[k]!.width T[k]!.flags T[k]!.imm (T[k]!.args.map fun x => trF T f x.toNat)
def tr (T : List Nd) (k : Nat) : Tr := trF T (k + 1) k
/-- Args come before their nodes. -/
def Down (T : List Nd) : Prop := ∀ k, k < T.length → ∀ j, j < T[k]!.args.length → ∃ p : Nat, T[k]!.args[j]! = (p : Int) ∧ p < k
theorem down_mem {T : List Nd} (h : Down T) {k : Nat} (hk : k < T.length) {x : Int} (hx : x ∈ T[k]!.args) : ∃ p : Nat, x = (p : Int) ∧ p < k := by
  obtain ⟨j, hj, rfl⟩ := List.getElem_of_mem hx
  obtain ⟨p, h1, h2⟩ := h k hk j hj
  rw [getElem!_pos _ j hj] at h1
  exact ⟨p, h1, h2⟩
theorem trF_more {T : List Nd} (h : Down T) : ∀ (k f : Nat), k < T.length → k < f → trF T f k = tr T k := by
  intro k
  induction k using Nat.strongRecOn with
  | _ k ih =>
    intro f hk hf
    match f, hf with
    | f + 1, hf =>
      unfold tr
      rw [trF, trF]
      congr 1
      refine List.map_congr_left fun x hx => ?_
      obtain ⟨p, rfl, hp⟩ := down_mem h hk hx
      rw [Int.toNat_natCast, ih p hp f (by omega) (by omega), ih p hp k (by omega) hp]
theorem tr_eq {T : List Nd} (h : Down T) {k : Nat} (hk : k < T.length) : tr T k = .nd T[k]!.op T[k]!.width T[k]!.flags T[k]!.imm (T[k]!.args.map fun x => tr T x.toNat) := by
  unfold tr
  rw [trF]
  congr 1
  refine List.map_congr_left fun x hx => ?_
  obtain ⟨p, rfl, hp⟩ := down_mem h hk hx
  rw [Int.toNat_natCast]
  exact trF_more h p k (by omega) hp
end Go.Proofs.YtbohigjfdnnomaaGreatDoor
