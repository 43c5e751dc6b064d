/-
  A shared term is a term, and shared again it is the same.
-/
import Derived.Test.YtbohigjfdnnomaaGreatDoorTeTj
namespace Go.Proofs.YtbohigjfdnnomaaGreatDoor
open Go.RowKit

mutual
def szT : Tr → Nat
  | .nd _ _ _ _ cs => szL cs + 1
def szL : List Tr → Nat
  | [] => 0
  | c :: cs => szT c + szL cs
end
mutual
theorem has_inj {out : List Nd} : ∀ (t t2 : Tr) (i : Nat), Has out t i → Has out t2 i → t = t2
  | .nd op wi fl im cs, .nd op2 wi2 fl2 im2 cs2, i, h, h2 => by
    rw [Has] at h h2
    obtain ⟨is, -, e1, h3⟩ := h
    obtain ⟨is2, -, e2, h4⟩ := h2
    rw [e1] at e2
    injection e2 with a1 a2 a3 a4 a5
    subst a1 a2 a3 a5
    have e3 : is = is2 := by
      have := congrArg (List.map Int.toNat) a4
      simpa [List.map_map, Function.comp_def] using this
    subst e3
    rw [hasL_inj cs cs2 is h3 h4]
theorem hasL_inj {out : List Nd} : ∀ (cs cs2 : List Tr) (is : List Nat), HasL out cs is → HasL out cs2 is → cs = cs2
  | [], [], _, _, _ => rfl
  | [], c2 :: cs2, is, h, h2 => by
    simp only [HasL] at h h2
    obtain ⟨i, js, e, -⟩ := h2
    rw [h] at e
    cases e
  | c :: cs, [], is, h, h2 => by
    simp only [HasL] at h h2
    obtain ⟨i, js, e, -⟩ := h
    rw [h2] at e
    cases e
  | c :: cs, c2 :: cs2, is, h, h2 => by
    simp only [HasL] at h h2
    obtain ⟨i, js, rfl, h3, h4⟩ := h
    obtain ⟨i2, js2, e, h5, h6⟩ := h2
    injection e with e1 e2
    subst e1 e2
    rw [has_inj c c2 i h3 h5, hasL_inj cs cs2 js h4 h6]
end
mutual
/-- What a tree brings into the pool is no larger than it. -/
theorem ins_small : ∀ (t : Tr) (out : List Nd), Once out → ∀ i, i < (ins t out).2.length → i < out.length ∨ ∃ t2, Has (ins t out).2 t2 i ∧ szT t2 ≤ szT t
  | .nd op wi fl im cs, out, ho, i, hi => by
    have hk := insL_small cs out ho
    obtain ⟨h1, h2, h3⟩ := insL_ok cs out ho
    have hh := (ins_ok (.nd op wi fl im cs) out ho).2.2
    rw [ins] at hi hh ⊢
    generalize insL cs out = r at hk h1 h2 h3 hi hh ⊢
    simp only at hi hh ⊢
    by_cases hlt : i < r.2.length
    · rcases hk i hlt with h | ⟨t2, h4, h5⟩
      · exact .inl h
      · exact .inr ⟨t2, has_pre (addP_pre _) _ _ h4, by rw [szT]; omega⟩
    · refine .inr ⟨.nd op wi fl im cs, ?_, Nat.le_refl _⟩
      have e : i = ix r.2 ⟨op, wi, fl, r.1.map fun (i : Nat) => (i : Int), im⟩ := by
        by_cases hn : ix r.2 ⟨op, wi, fl, r.1.map fun (i : Nat) => (i : Int), im⟩ < r.2.length
        · rw [addP_old hn] at hi
          omega
        · rw [addP_new hn, List.length_append, List.length_singleton] at hi
          have := ix_le r.2 ⟨op, wi, fl, r.1.map fun (i : Nat) => (i : Int), im⟩
          omega
      rw [e]
      exact hh
theorem insL_small : ∀ (cs : List Tr) (out : List Nd), Once out → ∀ i, i < (insL cs out).2.length → i < out.length ∨ ∃ t2, Has (insL cs out).2 t2 i ∧ szT t2 ≤ szL cs
  | [], out, ho, i, hi => by
    rw [insL] at hi
    exact .inl hi
  | c :: cs, out, ho, i, hi => by
    have h1 := ins_small c out ho
    obtain ⟨h2, h3, -⟩ := ins_ok c out ho
    have h4 := insL_small cs (ins c out).2 h2
    obtain ⟨-, h5, -⟩ := insL_ok cs (ins c out).2 h2
    rw [insL] at hi ⊢
    simp only at hi ⊢
    rcases h4 i hi with h | ⟨t2, h6, h7⟩
    · rcases h1 i h with h | ⟨t2, h6, h7⟩
      · exact .inl h
      · exact .inr ⟨t2, has_pre h5 _ _ h6, by rw [szL]; omega⟩
    · exact .inr ⟨t2, h6, by rw [szL]; omega⟩
end
/-- The root comes last. -/
theorem ins_last (t : Tr) : (ins t []).1 + 1 = (ins t []).2.length := by
  cases t with
  | nd op wi fl im cs =>
    have hk := insL_small cs [] once_nil
    obtain ⟨h1, h2, h3⟩ := insL_ok cs [] once_nil
    rw [ins]
    generalize insL cs [] = r at hk h1 h2 h3 ⊢
    simp only
    by_cases hn : ix r.2 ⟨op, wi, fl, r.1.map fun (i : Nat) => (i : Int), im⟩ < r.2.length
    · rcases hk _ hn with h | ⟨t2, h4, h5⟩
      · exact absurd h (by simp)
      · have h6 : Has r.2 (.nd op wi fl im cs) (ix r.2 ⟨op, wi, fl, r.1.map fun (i : Nat) => (i : Int), im⟩) := by
          rw [Has]
          exact ⟨r.1, hn, ix_get hn, h3⟩
        have e := has_inj _ _ _ h4 h6
        rw [e, szT] at h5
        omega
    · rw [addP_new hn, List.length_append, List.length_singleton]
      have := ix_le r.2 ⟨op, wi, fl, r.1.map fun (i : Nat) => (i : Int), im⟩
      omega
mutual
theorem tr_has {out : List Nd} (hd : Down out) : ∀ (t : Tr) (i : Nat), Has out t i → tr out i = t
  | .nd op wi fl im cs, i, h => by
    rw [Has] at h
    obtain ⟨is, h1, h2, h3⟩ := h
    rw [tr_eq hd h1, h2]
    simp only [List.map_map, Function.comp_def, Int.toNat_natCast]
    rw [trL_has hd cs is h3]
theorem trL_has {out : List Nd} (hd : Down out) : ∀ (cs : List Tr) (is : List Nat), HasL out cs is → is.map (fun i => tr out i) = cs
  | [], is, h => by
    rw [HasL] at h
    rw [h]
    rfl
  | c :: cs, is, h => by
    rw [HasL] at h
    obtain ⟨i, js, rfl, h3, h4⟩ := h
    rw [List.map_cons, tr_has hd c i h3, trL_has hd cs js h4]
end
/-- Shared again it is the same. -/
theorem shF_again {T : List Nd} {k : Nat} (hd : Down (shF T k)) : shF (shF T k) ((shF T k).length - 1) = shF T k := by
  have h1 := ins_last (tr T k)
  have h2 := (ins_ok (tr T k) [] once_nil).2.2
  unfold shF at hd ⊢
  rw [← h1, Nat.add_sub_cancel, tr_has hd _ _ h2]
/-- Each node of a pool is as one of the term, its Args placed before it. -/
def AsT (T out : List Nd) : Prop := ∀ i, i < out.length → ∃ x, x < T.length ∧ ∃ l : List Int, out[i]! = (⟨T[x]!.op, T[x]!.width, T[x]!.flags, l, T[x]!.imm⟩ : Nd) ∧ l.length = T[x]!.args.length ∧ ∀ q, q < l.length → ∃ p : Nat, l[q]! = (p : Int) ∧ p < i ∧ (out[p]!).width = (T[(T[x]!.args[q]!).toNat]!).width
theorem asT_add {T out : List Nd} {y : Nd} (h : AsT T out) (hy : ∃ x, x < T.length ∧ ∃ l : List Int, y = (⟨T[x]!.op, T[x]!.width, T[x]!.flags, l, T[x]!.imm⟩ : Nd) ∧ l.length = T[x]!.args.length ∧ ∀ q, q < l.length → ∃ p : Nat, l[q]! = (p : Int) ∧ p < out.length ∧ (out[p]!).width = (T[(T[x]!.args[q]!).toNat]!).width) : AsT T (addP out y) := by
  by_cases hn : ix out y < out.length
  · rw [addP_old hn]
    exact h
  · rw [addP_new hn]
    intro i hi
    rw [List.length_append, List.length_singleton] at hi
    by_cases e : i < out.length
    · obtain ⟨x, hx, l, h1, h2, h3⟩ := h i e
      refine ⟨x, hx, l, by rw [getN_app e]; exact h1, h2, fun q hq => ?_⟩
      obtain ⟨p, h4, h5, h6⟩ := h3 q hq
      exact ⟨p, h4, h5, by rw [getN_app (by omega)]; exact h6⟩
    · obtain rfl : i = out.length := by omega
      obtain ⟨x, hx, l, h1, h2, h3⟩ := hy
      refine ⟨x, hx, l, by rw [getN_last]; exact h1, h2, fun q hq => ?_⟩
      obtain ⟨p, h4, h5, h6⟩ := h3 q hq
      exact ⟨p, h4, h5, by rw [getN_app h5]; exact h6⟩
theorem has_width {T out : List Nd} (hd : Down T) {x i : Nat} (hx : x < T.length) (h : Has out (tr T x) i) : i < out.length ∧ (out[i]!).width = T[x]!.width := by
  rw [tr_eq hd hx, Has] at h
  obtain ⟨is, h1, h2, -⟩ := h
  exact ⟨h1, by rw [h2]⟩
/-- What the stack leads to: not more nodes than the term has, each as one of the term. -/
theorem shM_end {T : List Nd} {k : Nat} (hd : Down T) : ∀ (m : Nat) (out : List Nd) (st : List Nat) (a : Nat → Int), ShM T T.length k out st a → out.length + cntN a T.length ≤ T.length → AsT T out → (T.length + 1) * cntN a T.length + (st.headD 0) < m → (shF T k).length ≤ T.length ∧ AsT T (shF T k)
  | 0, _, _, _, _, _, _, h => absurd h (by omega)
  | m + 1, out, [], a, hM, hl, hA, _ => by
    have e : out = shF T k := hM.fold
    rw [← e]
    exact ⟨by omega, hA⟩
  | m + 1, out, x :: s, a, hM, hl, hA, hm => by
    have hx := hM.mem x (by simp)
    simp only [List.headD_cons] at hm
    by_cases hf : 0 ≤ firstNeg a T[x]!.args
    · obtain ⟨y, hy⟩ : ∃ y : Nat, firstNeg a T[x]!.args = (y : Int) := ⟨_, (Int.toNat_of_nonneg hf).symm⟩
      obtain ⟨h1, h2⟩ := hM.push hd rfl hy
      exact shM_end hd m out (y :: x :: s) a h1 hl hA (by simp only [List.headD_cons]; omega)
    · have h1 := hM.pop hd rfl (by omega)
      have h2 := cntN_put (a := a) (k := x) (x := ((ix out (placed T a x) : Nat) : Int)) hx.2 (by omega) T.length hx.1
      have h3 : (addP out (placed T a x)).length ≤ out.length + 1 := by
        unfold addP
        split
        · omega
        · simp
      have hall := firstNeg_none (a := a) (l := T[x]!.args) (fun y hy => by obtain ⟨p, rfl, -⟩ := down_mem hd hx.1 hy; omega) (by omega)
      refine shM_end hd m _ s _ h1 (by omega) (asT_add hA ⟨x, hx.1, _, rfl, by simp, fun q hq => ?_⟩) ?_
      · rw [List.length_map] at hq
        obtain ⟨p, hp, hpx⟩ := hd x hx.1 q hq
        have h4 := hall (T[x]!.args[q]!) (by rw [getElem!_pos _ q hq]; exact List.getElem_mem hq)
        rw [hp, Int.toNat_natCast] at h4
        obtain ⟨h5, h6⟩ := has_width hd (by omega) (hM.inv p (by omega) h4)
        refine ⟨(a p).toNat, ?_, h5, by rw [hp, Int.toNat_natCast]; exact h6⟩
        rw [getElem!_pos _ q (by simpa using hq), List.getElem_map, ← getElem!_pos _ q hq, hp, Int.toNat_natCast]
        omega
      · have h5 : s.headD 0 < T.length := by
          cases s with
          | nil => simp only [List.headD_nil]; omega
          | cons y s => exact (hM.mem y (by simp)).1
        rw [← h2, Nat.mul_succ] at hm
        omega
theorem shF_end {T : List Nd} {k : Nat} (hd : Down T) (hk : k < T.length) : (shF T k).length ≤ T.length ∧ AsT T (shF T k) :=
  shM_end hd ((T.length + 1) * cntN (fun _ => -1) T.length + k + 1) [] [k] _ (shM_start hk) (by have := cntN_le (fun _ => -1) T.length; simpa using this) (fun i hi => absurd hi (by simp)) (by simp only [List.headD_cons]; omega)
end Go.Proofs.YtbohigjfdnnomaaGreatDoor
