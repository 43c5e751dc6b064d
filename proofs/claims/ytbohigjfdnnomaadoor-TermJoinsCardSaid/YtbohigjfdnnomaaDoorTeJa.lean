/-
  A new root over terms, as mathematics.
-/
import Derived.Test.YtbohigjfdnnomaaDoorTeTl
namespace Go.Proofs.YtbohigjfdnnomaaDoor

/-- What is wrong with the first wrong part. -/
def errJ : List (List Nd) → Int
  | [] => 0
  | T :: l => if valF T = 0 then errJ l else valF T
theorem errJ_at : ∀ (Ps : List (List Nd)) (i : Nat), (∀ j, j < i → valF Ps[j]! = 0) → i < Ps.length → valF Ps[i]! ≠ 0 → errJ Ps = valF Ps[i]!
  | [], i, _, h, _ => absurd h (by simp)
  | T :: l, 0, _, _, h => if_neg h
  | T :: l, i + 1, h0, hi, h => by
    have e : valF T = 0 := h0 0 (by omega)
    rw [errJ, if_pos e]
    have := errJ_at l i (fun j hj => by have := h0 (j + 1) (by omega); simpa using this) (by simpa using hi) (by simpa using h)
    simpa using this
theorem errJ_none : ∀ (Ps : List (List Nd)), (∀ j, j < Ps.length → valF Ps[j]! = 0) → errJ Ps = 0
  | [], _ => rfl
  | T :: l, h0 => by
    have e : valF T = 0 := h0 0 (by simp)
    rw [errJ, if_pos e]
    exact errJ_none l fun j hj => by have := h0 (j + 1) (by simpa using hj); simpa using this
/-- The trees of the parts. -/
def treesJ (Ps : List (List Nd)) : List Tr := Ps.map fun T => tr T (T.length - 1)
/-- The nodes that Join makes. -/
def joinN (op wi im : Int) (Ps : List (List Nd)) : List Nd := (insL (treesJ Ps) []).2 ++ [⟨op, wi, 0, natI (insL (treesJ Ps) []).1, im⟩]
def joinF (op wi im : Int) (Ps : List (List Nd)) : Int := if errJ Ps = 0 then (if isOpB op = true then valF (joinN op wi im Ps) else 1) else errJ Ps
theorem natI_inj : ∀ {a b : List Nat}, natI a = natI b → a = b
  | [], [], _ => rfl
  | [], b :: l, h => by simp [natI] at h
  | a :: l, [], h => by simp [natI] at h
  | a :: l, b :: m, h => by
    simp only [natI, List.map_cons, List.cons.injEq, Int.natCast_inj] at h
    rw [h.1, natI_inj (a := l) (b := m) h.2]
/-- The root is new. -/
theorem join_new (op wi im : Int) (cs : List Tr) : addP (insL cs []).2 ⟨op, wi, 0, natI (insL cs []).1, im⟩ = (insL cs []).2 ++ [⟨op, wi, 0, natI (insL cs []).1, im⟩] := by
  refine addP_new fun hlt => ?_
  have hg := ix_get hlt
  rcases insL_small cs [] once_nil _ hlt with h | ⟨t2, h1, h2⟩
  · exact absurd h (by simp)
  · cases t2 with
    | nd op' wi' fl' im' cs' =>
      rw [Has] at h1
      obtain ⟨is, h3, h4, h5⟩ := h1
      rw [hg] at h4
      injection h4 with e1 e2 e3 e4 e5
      have e6 : (insL cs []).1 = is := natI_inj e4
      have h6 := (insL_ok cs [] once_nil).2.2
      rw [e6] at h6
      have h7 := hasL_inj _ _ _ h5 h6
      rw [szT, h7] at h2
      omega
/-- A term whose Args are counted from a number on. -/
def overN (T : List Nd) (d : Nat) : List Nd := T.map fun x => ⟨x.op, x.width, x.flags, x.args.map fun a => a + (d : Int), x.imm⟩
theorem overN_len (T : List Nd) (d : Nat) : (overN T d).length = T.length := by simp [overN]
theorem overN_at {T : List Nd} {d k : Nat} (h : k < T.length) : (overN T d)[k]! = (⟨T[k]!.op, T[k]!.width, T[k]!.flags, T[k]!.args.map fun a => a + (d : Int), T[k]!.imm⟩ : Nd) := by
  rw [getElem!_pos (overN T d) k (by rw [overN_len]; exact h), getElem!_pos T k h]
  simp [overN]
theorem app_lt {O X : List Nd} {k : Nat} (h : k < O.length) : (O ++ X)[k]! = O[k]! := by
  rw [getElem!_pos O k h, getElem!_pos (O ++ X) k (by rw [List.length_append]; omega), List.getElem_append_left h]
theorem app_ge {O X : List Nd} {k : Nat} (h : k < X.length) : (O ++ X)[O.length + k]! = X[k]! := by
  rw [getElem!_pos X k h, getElem!_pos (O ++ X) (O.length + k) (by rw [List.length_append]; omega), List.getElem_append_right (by omega)]
  simp
theorem down_over {O T : List Nd} (hO : Down O) (hT : Down T) : Down (O ++ overN T O.length) := fun k hk j hj => by
  rw [List.length_append, overN_len] at hk
  by_cases h : k < O.length
  · rw [app_lt h] at hj ⊢
    exact hO k h j hj
  · obtain ⟨q, rfl⟩ : ∃ q, k = O.length + q := ⟨k - O.length, by omega⟩
    have hq : q < T.length := by omega
    rw [app_ge (by rw [overN_len]; exact hq), overN_at hq] at hj ⊢
    simp only [List.length_map] at hj ⊢
    obtain ⟨p, hp, hpq⟩ := hT q hq j hj
    refine ⟨O.length + p, ?_, by omega⟩
    rw [getElem!_pos _ j (by simpa using hj), List.getElem_map, ← getElem!_pos _ j hj, hp]
    omega
theorem tr_over {O T : List Nd} (hO : Down O) (hT : Down T) : ∀ k, k < T.length → tr (O ++ overN T O.length) (O.length + k) = tr T k := by
  have hd := down_over hO hT
  intro k
  induction k using Nat.strongRecOn with
  | _ k ih =>
    intro hk
    rw [tr_eq hd (by rw [List.length_append, overN_len]; omega), app_ge (by rw [overN_len]; exact hk), overN_at hk, tr_eq hT hk]
    simp only [List.map_map]
    congr 1
    refine List.map_congr_left fun x hx => ?_
    obtain ⟨p, rfl, hp⟩ := down_mem hT hk hx
    simp only [Function.comp]
    rw [show ((p : Int) + (O.length : Int)).toNat = O.length + p by omega, Int.toNat_natCast]
    exact ih p hp (by omega)
theorem tr_old {O X : List Nd} (hO : Down O) (hd : Down (O ++ X)) : ∀ k, k < O.length → tr (O ++ X) k = tr O k := by
  intro k
  induction k using Nat.strongRecOn with
  | _ k ih =>
    intro hk
    rw [tr_eq hO hk, tr_eq hd (by rw [List.length_append]; omega), app_lt hk]
    congr 1
    refine List.map_congr_left fun x hx => ?_
    obtain ⟨p, rfl, hp⟩ := down_mem hO hk hx
    rw [Int.toNat_natCast]
    exact ih p hp (by omega)
/-- What Join of the reference has made of the first i parts: the nodes, and where the roots stand. -/
structure CatM (Ps : List (List Nd)) (i : Nat) (O : List Nd) (rs : List Nat) : Prop where
  down : Down O
  len : O.length ≤ 300 * i
  num : rs.length = i
  args : ∀ k, k < O.length → O[k]!.args.length ≤ 100
  lt : ∀ j, j < i → rs[j]! < O.length
  tr : ∀ j, j < i → Go.Proofs.YtbohigjfdnnomaaDoor.tr O rs[j]! = Go.Proofs.YtbohigjfdnnomaaDoor.tr Ps[j]! (Ps[j]!.length - 1)
theorem catM_zero (Ps : List (List Nd)) : CatM Ps 0 [] [] := ⟨fun k hk => absurd hk (by simp), by simp, rfl, fun k hk => absurd hk (by simp), fun j hj => absurd hj (by omega), fun j hj => absurd hj (by omega)⟩
theorem CatM.next {Ps : List (List Nd)} {i : Nat} {O : List Nd} {rs : List Nat} (h : CatM Ps i O rs) (hv : valF Ps[i]! = 0) : CatM Ps (i + 1) (O ++ overN Ps[i]! O.length) (rs ++ [O.length + Ps[i]!.length - 1]) := by
  have hT := down_val hv
  have hl := (val_zero.1 hv).1
  have hd := down_over h.down hT
  have e1 : ∀ j, j < i → (rs ++ [O.length + Ps[i]!.length - 1])[j]! = rs[j]! := fun j hj => get_app (by rw [h.num]; exact hj)
  have e2 : (rs ++ [O.length + Ps[i]!.length - 1])[i]! = O.length + (Ps[i]!.length - 1) := by
    have := get_last (l := rs) (v := O.length + Ps[i]!.length - 1)
    rw [h.num] at this
    rw [this]
    omega
  refine ⟨hd, by rw [List.length_append, overN_len]; have := h.len; omega, by rw [List.length_append, h.num]; rfl, fun k hk => ?_, fun j hj => ?_, fun j hj => ?_⟩
  · rw [List.length_append, overN_len] at hk
    by_cases e : k < O.length
    · rw [app_lt e]; exact h.args k e
    · obtain ⟨q, rfl⟩ : ∃ q, k = O.length + q := ⟨k - O.length, by omega⟩
      rw [app_ge (by rw [overN_len]; omega), overN_at (by omega), List.length_map]
      exact val_args hv q (by omega)
  · rw [List.length_append, overN_len]
    by_cases e : j < i
    · rw [e1 j e]
      have := h.lt j e
      omega
    · obtain rfl : j = i := by omega
      rw [e2]
      omega
  · by_cases e : j < i
    · rw [e1 j e, tr_old h.down hd _ (h.lt j e)]
      exact h.tr j e
    · obtain rfl : j = i := by omega
      rw [e2]
      exact tr_over h.down hT _ (by omega)
/-- The shared nodes of the new root are those of Join. -/
theorem CatM.shared {Ps : List (List Nd)} {O : List Nd} {rs : List Nat} (h : CatM Ps Ps.length O rs) (op wi im : Int) : Down (O ++ [⟨op, wi, 0, natI rs, im⟩]) ∧ shF (O ++ [⟨op, wi, 0, natI rs, im⟩]) O.length = joinN op wi im Ps := by
  have hrs : ∀ j, j < rs.length → (natI rs)[j]! = ((rs[j]! : Nat) : Int) := fun j hj => by
    rw [getElem!_pos (natI rs) j (by simpa [natI] using hj), getElem!_pos rs j hj]
    simp [natI]
  have hd : Down (O ++ [⟨op, wi, 0, natI rs, im⟩]) := fun k hk j hj => by
    rw [List.length_append, List.length_singleton] at hk
    by_cases e : k < O.length
    · rw [app_lt e] at hj ⊢
      exact h.down k e j hj
    · obtain rfl : k = O.length := by omega
      rw [getN_last] at hj ⊢
      simp only at hj ⊢
      have hj2 : j < rs.length := by simpa [natI] using hj
      exact ⟨rs[j]!, hrs j hj2, h.lt j (by rw [← h.num]; exact hj2)⟩
  refine ⟨hd, ?_⟩
  have e : Go.Proofs.YtbohigjfdnnomaaDoor.tr (O ++ [⟨op, wi, 0, natI rs, im⟩]) O.length = .nd op wi 0 im (treesJ Ps) := by
    rw [tr_eq hd (by simp), getN_last]
    simp only
    congr 1
    refine List.ext_getElem (by simp [natI, treesJ, h.num]) fun j h1 h2 => ?_
    have hj : j < Ps.length := by simpa [treesJ] using h2
    have hj2 : j < rs.length := by rw [h.num]; exact hj
    rw [List.getElem_map]
    have e1 : (natI rs)[j]'(by simpa [natI] using hj2) = ((rs[j]! : Nat) : Int) := by
      rw [← hrs j hj2, getElem!_pos (natI rs) j (by simpa [natI] using hj2)]
    rw [e1, Int.toNat_natCast, tr_old h.down hd _ (h.lt j hj), h.tr j hj]
    simp [treesJ, getElem!_pos Ps j hj]
  unfold shF
  rw [e, ins, joinN]
  exact join_new op wi im (treesJ Ps)
theorem treesJ_take {Ps : List (List Nd)} {i : Nat} (h : i < Ps.length) : (treesJ Ps).take (i + 1) = (treesJ Ps).take i ++ [tr Ps[i]! (Ps[i]!.length - 1)] := by
  unfold treesJ
  rw [List.take_succ_eq_append_getElem (by simpa using h), List.getElem_map, getElem!_pos Ps i h]
end Go.Proofs.YtbohigjfdnnomaaDoor
