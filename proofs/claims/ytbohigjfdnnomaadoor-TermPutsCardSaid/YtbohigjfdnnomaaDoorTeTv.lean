/-
  A variable replaced in trees.
  The value of a tree; a variable replaced has the value of what replaces it.
-/
import Derived.Test.YtbohigjfdnnomaaDoorTeTa
import Derived.Test.YtbohigjfdnnomaaDoorTeTl
import Derived.Test.YtbohigjfdnnomaaDoorTeP
namespace Go.Proofs.YtbohigjfdnnomaaDoor

mutual
/-- A tree in which the variable v is replaced by r. -/
def subT (v : Int) (r : Tr) : Tr → Tr
  | .nd op wi fl im cs => if op = 33 ∧ im = v then r else .nd op wi fl im (subL v r cs)
def subL (v : Int) (r : Tr) : List Tr → List Tr
  | [] => []
  | c :: cs => subT v r c :: subL v r cs
end
theorem subL_map (v : Int) (r : Tr) : ∀ cs : List Tr, subL v r cs = cs.map (subT v r)
  | [] => by rw [subL]; rfl
  | c :: cs => by rw [subL, subL_map v r cs]; rfl
/-- The tree of a node, where it is not the variable. -/
theorem subT_node {T : List Nd} (hd : Down T) {k : Nat} (hk : k < T.length) (v : Int) (r : Tr) (hn : ¬ (T[k]!.op = 33 ∧ T[k]!.imm = v)) : subT v r (tr T k) = .nd T[k]!.op T[k]!.width T[k]!.flags T[k]!.imm (T[k]!.args.map fun x => subT v r (tr T x.toNat)) := by
  rw [tr_eq hd hk, subT, if_neg hn, subL_map, List.map_map]
  rfl
theorem subT_var {T : List Nd} (hd : Down T) {k : Nat} (hk : k < T.length) (v : Int) (r : Tr) (hn : T[k]!.op = 33 ∧ T[k]!.imm = v) : subT v r (tr T k) = r := by
  rw [tr_eq hd hk, subT, if_pos hn]
/-- The nodes of a list are not moved by what is appended. -/
theorem tr_app {T U : List Nd} (hd : Down T) (hd2 : Down (T ++ U)) : ∀ k, k < T.length → tr (T ++ U) k = tr T k := by
  intro k
  induction k using Nat.strongRecOn with
  | _ k ih =>
    intro hk
    have e : (T ++ U)[k]! = T[k]! := by
      rw [getElem!_pos T k hk, getElem!_pos (T ++ U) k (by rw [List.length_append]; omega), List.getElem_append_left hk]
    rw [tr_eq hd hk, tr_eq hd2 (by rw [List.length_append]; omega), e]
    congr 1
    refine List.map_congr_left fun x hx => ?_
    obtain ⟨p, rfl, hp⟩ := down_mem hd hk hx
    rw [Int.toNat_natCast]
    exact ih p hp (by omega)
/-- What put of the reference has made of the first k nodes: the list, and where each one stands. -/
structure PutM (T U : List Nd) (v : Int) (r : Tr) (k : Nat) (out : List Nd) (at_ : Nat → Nat) : Prop where
  down : Down out
  pre : Pre U out
  len : out.length ≤ U.length + k
  at_lt : ∀ j, j < k → at_ j < out.length
  tr : ∀ j, j < k → tr out (at_ j) = subT v r (tr T j)
theorem getN_snoc_lt {out : List Nd} {y : Nd} {j : Nat} (h : j < out.length) : (out ++ [y])[j]! = out[j]! := getN_app h
theorem down_snoc {out : List Nd} {y : Nd} (hd : Down out) (hy : ∀ j, j < y.args.length → ∃ p : Nat, y.args[j]! = (p : Int) ∧ p < out.length) : Down (out ++ [y]) := fun k hk j hj => by
  rw [List.length_append, List.length_singleton] at hk
  by_cases e : k < out.length
  · rw [getN_app e] at hj ⊢
    exact hd k e j hj
  · obtain rfl : k = out.length := by omega
    rw [getN_last] at hj ⊢
    exact hy j hj
/-- A node that is the variable. -/
theorem PutM.var {T U : List Nd} {v : Int} {r : Tr} {k : Nat} {out : List Nd} {at_ : Nat → Nat} (h : PutM T U v r k out at_) (hd : Down T) (hk : k < T.length) (hn : T[k]!.op = 33 ∧ T[k]!.imm = v) {m : Nat} (hm : m < U.length) (hU : Down U) (hr : Go.Proofs.YtbohigjfdnnomaaDoor.tr U m = r) (hsplit : ∃ X, out = U ++ X) : PutM T U v r (k + 1) out (fun j => if j = k then m else at_ j) where
  down := h.down
  pre := h.pre
  len := by have := h.len; omega
  at_lt j hj := by
    by_cases e : j = k
    · simp only [if_pos e]
      exact Nat.lt_of_lt_of_le hm h.pre.1
    · simp only [if_neg e]
      exact h.at_lt j (by omega)
  tr j hj := by
    by_cases e : j = k
    · subst e
      rw [subT_var hd hk v r hn, if_pos rfl]
      obtain ⟨X, rfl⟩ := hsplit
      rw [tr_app hU h.down m hm, hr]
    · rw [if_neg e]
      exact h.tr j (by omega)
/-- A node that is not the variable. -/
theorem PutM.node {T U : List Nd} {v : Int} {r : Tr} {k : Nat} {out : List Nd} {at_ : Nat → Nat} (h : PutM T U v r k out at_) (hd : Down T) (hk : k < T.length) (hn : ¬ (T[k]!.op = 33 ∧ T[k]!.imm = v)) {y : Nd} (hy : y = ⟨T[k]!.op, T[k]!.width, T[k]!.flags, T[k]!.args.map fun x => ((at_ x.toNat : Nat) : Int), T[k]!.imm⟩) : PutM T U v r (k + 1) (out ++ [y]) (fun j => if j = k then out.length else at_ j) := by
  have hdy : Down (out ++ [y]) := down_snoc h.down fun j hj => by
    subst hy
    simp only [List.length_map] at hj
    obtain ⟨p, hp, hpk⟩ := hd k hk j hj
    refine ⟨at_ p, ?_, h.at_lt p hpk⟩
    simp only
    rw [getElem!_pos _ j (by simpa using hj), List.getElem_map, ← getElem!_pos _ j hj, hp, Int.toNat_natCast]
  refine ⟨hdy, h.pre.trans ⟨by simp, fun i hi => getN_app hi⟩, by have := h.len; simp; omega, fun j hj => ?_, fun j hj => ?_⟩
  · rw [List.length_append, List.length_singleton]
    by_cases e : j = k
    · simp only [if_pos e]; omega
    · simp only [if_neg e]
      have := h.at_lt j (by omega)
      omega
  · by_cases e : j = k
    · subst e
      rw [if_pos rfl, subT_node hd hk v r hn, tr_eq hdy (by simp), getN_last, hy]
      simp only [List.map_map, Function.comp_def, Int.toNat_natCast]
      congr 1
      refine List.map_congr_left fun x hx => ?_
      obtain ⟨p, rfl, hp⟩ := down_mem hd hk hx
      rw [Int.toNat_natCast, ← hy, tr_app h.down hdy _ (h.at_lt p hp)]
      exact h.tr p hp
    · rw [if_neg e, tr_app h.down hdy _ (h.at_lt j (by omega))]
      exact h.tr j (by omega)

/-- The nodes that Put makes. -/
def putN (T U : List Nd) (v : Int) : List Nd := (ins (subT v (tr U (U.length - 1)) (tr T (T.length - 1))) []).2
/-- What Put answers. -/
def putF (T U : List Nd) (v : Int) : Int :=
  if valF T = 0 then (if valF U = 0 then (if 0 ≤ v ∧ v < 4 then (if widF T T.length v.toNat = 0 then 4 else if (U[U.length - 1]!).width ≠ widF T T.length v.toNat then 6 else if oneW (putN T U v) = false then 7 else if 300 < (putN T U v).length then 3 else 0) else 1) else valF U) else valF T
def wT : Tr → Int
  | .nd _ wi _ _ _ => wi
def headW : List Tr → Int
  | [] => 0
  | c :: _ => wT c
/-- The value of a node by the values of its Args; w0 is the width of the first one. -/
def opV (op wi im w0 : Int) (l env : List Nat) : Nat :=
  if op = 0 then im.toNat
  else if op = 33 then env[im.toNat]!
  else if op = 14 then (if cmpF im.toNat w0.toNat l[0]! l[1]! then 1 else 0)
  else if op = 15 then (if l[0]! = 0 then l[2]! else l[1]!)
  else if 16 ≤ op then extF op.toNat w0.toNat wi.toNat l[0]!
  else totF op.toNat wi.toNat l[0]! l[1]!
mutual
/-- The value of a tree. -/
def evT (env : List Nat) : Tr → Nat
  | .nd op wi _ im cs => opV op wi im (headW cs) (evL env cs) env
def evL (env : List Nat) : List Tr → List Nat
  | [] => []
  | c :: cs => evT env c :: evL env cs
end
theorem evL_map (env : List Nat) : ∀ cs : List Tr, evL env cs = cs.map (evT env)
  | [] => by rw [evL]; rfl
  | c :: cs => by rw [evL, evL_map env cs]; rfl
theorem map_at {α : Type} (f : Int → α) [Inhabited α] {l : List Int} {i : Nat} (h : i < l.length) : (l.map f)[i]! = f l[i]! := by
  rw [getElem!_pos (l.map f) i (by simpa using h), List.getElem_map, getElem!_pos l i h]
theorem wT_tr (T : List Nd) (k : Nat) : wT (tr T k) = T[k]!.width := rfl
theorem headW_map (f : Int → Tr) {l : List Int} (h : 0 < l.length) : headW (l.map f) = wT (f l[0]!) := by
  match l, h with
  | a :: l, _ => rfl
/-- The values of a term's nodes are those of their trees. -/
theorem vals_tr {T : List Nd} {env : List Nat} (hv : valF T = 0) : ∀ k, k < T.length → val1 T T[k]! (vals T env k) env = evT env (tr T k) := by
  have hd := down_val hv
  intro k
  induction k using Nat.strongRecOn with
  | _ k ih =>
    intro hk
    obtain ⟨ho, -, -, hl, -, -⟩ := nod_iff.1 ((val_zero.1 hv).2.1 k hk)
    have hA : ∀ i, i < T[k]!.args.length → (evL env (T[k]!.args.map fun x => tr T x.toNat))[i]! = (vals T env k)[(T[k]!.args[i]!).toNat]! := by
      intro i hi
      obtain ⟨p, hp, hpk⟩ := hd k hk i hi
      rw [evL_map, List.map_map, map_at _ hi, hp, Int.toNat_natCast, vals_at T env hpk, ih p hpk (by omega)]
      simp
    have hH : 0 < T[k]!.args.length → headW (T[k]!.args.map fun x => tr T x.toNat) = wOf T T[k]! 0 := fun h => by
      rw [headW_map _ h, wT_tr]
      rfl
    rw [tr_eq hd hk, evT]
    unfold val1 opV
    generalize vals T env k = l at hA ⊢
    generalize evL env (T[k]!.args.map fun x => tr T x.toNat) = q at hA ⊢
    generalize headW (T[k]!.args.map fun x => tr T x.toNat) = w0 at hH ⊢
    generalize T[k]! = x at *
    by_cases c0 : x.op = 0
    · rw [if_pos c0, if_pos c0]
    rw [if_neg c0, if_neg c0]
    by_cases c33 : x.op = 33
    · rw [if_pos c33, if_pos c33]
    rw [if_neg c33, if_neg c33]
    by_cases c14 : x.op = 14
    · rw [if_pos c14, if_pos c14]
      have e : argN x.op = 2 := argN_two (by omega)
      rw [hA 0 (by omega), hA 1 (by omega), hH (by omega)]
    rw [if_neg c14, if_neg c14]
    by_cases c15 : x.op = 15
    · rw [if_pos c15, if_pos c15]
      have e : argN x.op = 3 := by rw [c15]; rfl
      rw [hA 0 (by omega), hA 1 (by omega), hA 2 (by omega)]
    rw [if_neg c15, if_neg c15]
    by_cases c16 : 16 ≤ x.op
    · rw [if_pos c16, if_pos c16]
      have e : argN x.op = 1 := by unfold argN; rw [if_neg (by omega), if_neg c15, if_neg (by omega)]
      rw [hA 0 (by omega), hH (by omega)]
    · rw [if_neg c16, if_neg c16]
      have e : argN x.op = 2 := argN_two (by omega)
      rw [hA 0 (by omega), hA 1 (by omega)]
mutual
/-- The nodes of the variable v have the width w. -/
def VW (v w : Int) : Tr → Prop
  | .nd op wi _ im cs => (op = 33 → 0 ≤ im ∧ (im = v → wi = w)) ∧ VWL v w cs
def VWL (v w : Int) : List Tr → Prop
  | [] => True
  | c :: cs => VW v w c ∧ VWL v w cs
end
theorem vwL_mem {v w : Int} : ∀ {cs : List Tr}, (∀ c ∈ cs, VW v w c) → VWL v w cs
  | [], _ => by rw [VWL]; trivial
  | c :: cs, h => by
    rw [VWL]
    exact ⟨h c (by simp), vwL_mem fun d hd => h d (by simp [hd])⟩
theorem wT_sub {v : Int} {r : Tr} : ∀ t : Tr, VW v (wT r) t → wT (subT v r t) = wT t
  | .nd op wi fl im cs, h => by
    rw [VW] at h
    rw [subT]
    split
    · rename_i e
      exact ((h.1 e.1).2 e.2).symm
    · rfl
theorem headW_sub {v : Int} {r : Tr} : ∀ cs : List Tr, VWL v (wT r) cs → headW (subL v r cs) = headW cs
  | [], _ => by rw [subL]
  | c :: cs, h => by
    rw [VWL] at h
    rw [subL, headW, headW, wT_sub c h.1]
theorem set_same {env : List Nat} {v y : Nat} (h : v < env.length) : (env.set v y)[v]! = y := by
  rw [getElem!_pos (env.set v y) v (by simpa using h), List.getElem_set_self]
theorem set_other {env : List Nat} {v y i : Nat} (h : i ≠ v) : (env.set v y)[i]! = env[i]! := by
  by_cases hi : i < env.length
  · rw [getElem!_pos (env.set v y) i (by simpa using hi), getElem!_pos env i hi, List.getElem_set_ne (fun e => h e.symm)]
  · rw [getElem!_neg env i hi, getElem!_neg (env.set v y) i (by simpa using hi)]
mutual
theorem ev_sub {v : Nat} {r : Tr} {env : List Nat} (hv : v < env.length) : ∀ t : Tr, VW v (wT r) t → evT env (subT v r t) = evT (env.set v (evT env r)) t
  | .nd op wi fl im cs, h => by
    rw [VW] at h
    rw [subT]
    by_cases c : op = 33 ∧ im = (v : Int)
    · rw [if_pos c, evT]
      obtain ⟨rfl, rfl⟩ := c
      unfold opV
      rw [if_neg (by decide), if_pos rfl, Int.toNat_natCast, set_same hv]
    · rw [if_neg c, evT, evT, headW_sub cs h.2, evL_sub hv cs h.2]
      unfold opV
      by_cases c33 : op = 33
      · have h0 := (h.1 c33).1
        have hne : im.toNat ≠ v := fun e => c ⟨c33, by omega⟩
        rw [set_other hne]
      · simp only [if_neg c33]
theorem evL_sub {v : Nat} {r : Tr} {env : List Nat} (hv : v < env.length) : ∀ cs : List Tr, VWL v (wT r) cs → evL env (subL v r cs) = evL (env.set v (evT env r)) cs
  | [], _ => by rw [subL, evL, evL]
  | c :: cs, h => by
    rw [VWL] at h
    rw [subL, evL, evL, ev_sub hv c h.1, evL_sub hv cs h.2]
end
theorem vw_tr {T : List Nd} (hv : valF T = 0) (hi : ∀ k, k < T.length → 0 ≤ T[k]!.imm) (v : Nat) : ∀ k, k < T.length → VW v (widF T T.length v) (tr T k) := by
  have hd := down_val hv
  intro k
  induction k using Nat.strongRecOn with
  | _ k ih =>
    intro hk
    rw [tr_eq hd hk, VW]
    refine ⟨fun ho => ⟨hi k hk, fun him => (widF_var (val_zero.1 hv).2.2.2 T.length (Nat.le_refl _) k hk ho v him).symm⟩, vwL_mem fun c hc => ?_⟩
    obtain ⟨x, hx, rfl⟩ := List.mem_map.1 hc
    obtain ⟨p, rfl, hp⟩ := down_mem hd hk hx
    rw [Int.toNat_natCast]
    exact ih p hp (by omega)
/-- The tree of what Put makes. -/
theorem putN_tr {T U : List Nd} {v : Int} (hd : Down (putN T U v)) : 1 ≤ (putN T U v).length ∧ tr (putN T U v) ((putN T U v).length - 1) = subT v (tr U (U.length - 1)) (tr T (T.length - 1)) := by
  have h1 := ins_last (subT v (tr U (U.length - 1)) (tr T (T.length - 1)))
  have h2 := (ins_ok (subT v (tr U (U.length - 1)) (tr T (T.length - 1))) [] once_nil).2.2
  have e : (putN T U v).length - 1 = (ins (subT v (tr U (U.length - 1)) (tr T (T.length - 1))) []).1 := by unfold putN; omega
  refine ⟨by unfold putN; omega, ?_⟩
  rw [e]
  exact tr_has hd _ _ h2
theorem evF_tr {T : List Nd} {env : List Nat} (h : errV T env = 0) : evF T env = evT env (tr T (T.length - 1)) := by
  have hv := (errV_zero h).1
  have h1 := (val_zero.1 hv).1
  unfold evF
  rw [if_pos h, vals_tr hv _ (by omega)]
theorem put_val {T U : List Nd} {env : List Nat} {v : Nat} (hi : ∀ k, k < T.length → 0 ≤ T[k]!.imm) (hp : putF T U v = 0) (hu : errV U env = 0) (ha : errV (putN T U v) env = 0) (ht : errV T (env.set v (evF U env)) = 0) : evF (putN T U v) env = evF T (env.set v (evF U env)) := by
  have hT := (errV_zero ht).1
  have hU := (errV_zero hu).1
  have h1 := (val_zero.1 hT).1
  have hv : v < 4 ∧ (U[U.length - 1]!).width = widF T T.length v := by
    unfold putF at hp
    rw [if_pos hT, if_pos hU] at hp
    by_cases c : 0 ≤ (v : Int) ∧ (v : Int) < 4
    · rw [if_pos c, Int.toNat_natCast] at hp
      by_cases c1 : widF T T.length v = 0
      · rw [if_pos c1] at hp
        exact absurd hp (by decide)
      · rw [if_neg c1] at hp
        by_cases c2 : (U[U.length - 1]!).width = widF T T.length v
        · exact ⟨by omega, c2⟩
        · rw [if_pos c2] at hp
          exact absurd hp (by decide)
    · rw [if_neg c] at hp
      exact absurd hp (by decide)
  have hlen : v < env.length := by
    have := (env_iff.1 (errV_zero hu).2).1
    omega
  rw [evF_tr ha, evF_tr ht, (putN_tr (down_val (errV_zero ha).1)).2, evF_tr hu]
  refine ev_sub hlen _ ?_
  rw [wT_tr, hv.2]
  exact vw_tr hT hi v _ (by omega)
/-- A variable that has two widths, as the program looks for it. -/
def clashB (T : List Nd) : Bool := (List.range T.length).any fun k => decide (T[k]!.op = 33) && decide (widF T T.length T[k]!.imm.toNat ≠ T[k]!.width)
theorem clash_one {T : List Nd} (hi : ∀ k, k < T.length → 0 ≤ T[k]!.imm) : clashB T = !oneW T := by
  have ho : oneW T = true ↔ ∀ k, k < T.length → ∀ i, i < k → oneB T[i]! T[k]! = true := by
    unfold oneW
    rw [List.all_eq_true]
    exact ⟨fun h k hk i hi => List.all_eq_true.1 (h k (List.mem_range.2 hk)) i (List.mem_range.2 hi), fun h k hk => List.all_eq_true.2 fun i hi => h k (List.mem_range.1 hk) i (List.mem_range.1 hi)⟩
  have hc : clashB T = false ↔ ∀ k, k < T.length → T[k]!.op = 33 → widF T T.length T[k]!.imm.toNat = T[k]!.width := by
    unfold clashB
    rw [List.any_eq_false]
    refine ⟨fun h k hk h33 => ?_, fun h k hk => ?_⟩
    · have := h k (List.mem_range.2 hk)
      have h2 : T[k]!.op = 33 → widF T T.length T[k]!.imm.toNat = T[k]!.width := by simpa using this
      exact h2 h33
    · have := h k (List.mem_range.1 hk)
      simpa using this
  cases e : oneW T
  · rw [Bool.not_false]
    apply Classical.byContradiction
    intro hh
    have h1 := hc.1 (by simpa using hh)
    have h2 : oneW T = true := ho.2 fun k hk i hik => one_iff.2 fun a b c => by
      have e1 := h1 k hk b
      have e2 := h1 i (by omega) a
      rw [← c] at e1
      omega
    rw [h2] at e
    exact absurd e (by decide)
  · rw [Bool.not_true]
    refine hc.2 fun k hk h33 => ?_
    refine widF_var (ho.1 e) T.length (Nat.le_refl _) k hk h33 _ ?_
    have := hi k hk
    omega
mutual
/-- All nodes of a tree. -/
def AllT (p : Int → Int → Prop) : Tr → Prop
  | .nd op _ _ im cs => p op im ∧ AllL p cs
def AllL (p : Int → Int → Prop) : List Tr → Prop
  | [] => True
  | c :: cs => AllT p c ∧ AllL p cs
end
theorem allL_mem {p : Int → Int → Prop} : ∀ {cs : List Tr}, (∀ c ∈ cs, AllT p c) → AllL p cs
  | [], _ => by rw [AllL]; trivial
  | c :: cs, h => by
    rw [AllL]
    exact ⟨h c (by simp), allL_mem fun d hd => h d (by simp [hd])⟩
theorem all_tr {p : Int → Int → Prop} {T : List Nd} (hd : Down T) (h : ∀ k, k < T.length → p T[k]!.op T[k]!.imm) : ∀ k, k < T.length → AllT p (tr T k) := by
  intro k
  induction k using Nat.strongRecOn with
  | _ k ih =>
    intro hk
    rw [tr_eq hd hk, AllT]
    refine ⟨h k hk, allL_mem fun c hc => ?_⟩
    obtain ⟨x, hx, rfl⟩ := List.mem_map.1 hc
    obtain ⟨q, rfl, hq⟩ := down_mem hd hk hx
    rw [Int.toNat_natCast]
    exact ih q hq (by omega)
mutual
theorem all_sub {p : Int → Int → Prop} {v : Int} {r : Tr} (hr : AllT p r) : ∀ t : Tr, AllT p t → AllT p (subT v r t)
  | .nd op wi fl im cs, h => by
    rw [AllT] at h
    rw [subT]
    split
    · exact hr
    · rw [AllT]
      exact ⟨h.1, allL_sub hr cs h.2⟩
theorem allL_sub {p : Int → Int → Prop} {v : Int} {r : Tr} (hr : AllT p r) : ∀ cs : List Tr, AllL p cs → AllL p (subL v r cs)
  | [], _ => by rw [subL, AllL]; trivial
  | c :: cs, h => by
    rw [AllL] at h
    rw [subL, AllL]
    exact ⟨all_sub hr c h.1, allL_sub hr cs h.2⟩
end
theorem addP_all {p : Nd → Prop} {out : List Nd} {y : Nd} (h : ∀ i, i < out.length → p out[i]!) (hy : p y) : ∀ i, i < (addP out y).length → p (addP out y)[i]! := by
  intro i hi
  by_cases e : ix out y < out.length
  · rw [addP_old e] at hi ⊢
    exact h i hi
  · rw [addP_new e] at hi ⊢
    rw [List.length_append, List.length_singleton] at hi
    by_cases e2 : i < out.length
    · rw [getN_app e2]
      exact h i e2
    · obtain rfl : i = out.length := by omega
      rw [getN_last]
      exact hy
mutual
theorem ins_all {p : Int → Int → Prop} : ∀ (t : Tr) (out : List Nd), AllT p t → (∀ i, i < out.length → p out[i]!.op out[i]!.imm) → ∀ i, i < (ins t out).2.length → p ((ins t out).2[i]!).op ((ins t out).2[i]!).imm
  | .nd op wi fl im cs, out, h, ho => by
    rw [AllT] at h
    have h2 := insL_all cs out h.2 ho
    rw [ins]
    exact addP_all (p := fun y => p y.op y.imm) h2 h.1
theorem insL_all {p : Int → Int → Prop} : ∀ (cs : List Tr) (out : List Nd), AllL p cs → (∀ i, i < out.length → p out[i]!.op out[i]!.imm) → ∀ i, i < (insL cs out).2.length → p ((insL cs out).2[i]!).op ((insL cs out).2[i]!).imm
  | [], out, _, ho => by
    rw [insL]
    exact ho
  | c :: cs, out, h, ho => by
    rw [AllL] at h
    rw [insL]
    exact insL_all cs _ h.2 (ins_all c out h.1 ho)
end
/-- The variables that Put leaves. -/
theorem putN_vars {T U : List Nd} {v : Int} (hv : valF T = 0) (hu : valF U = 0) (hi : ∀ k, k < T.length → 0 ≤ T[k]!.imm) (hj : ∀ k, k < U.length → 0 ≤ U[k]!.imm) : VarsOk (putN T U v) := by
  have h1 := (val_zero.1 hv).1
  have h2 := (val_zero.1 hu).1
  have hp := ins_all (p := fun op im => op = 33 → ∃ v : Nat, im = (v : Int) ∧ v < 4) (subT v (tr U (U.length - 1)) (tr T (T.length - 1))) [] (all_sub (all_tr (down_val hu) (fun k hk => vars_ok hu hj k hk) _ (by omega)) _ (all_tr (down_val hv) (fun k hk => vars_ok hv hi k hk) _ (by omega))) (fun i hi => absurd hi (by simp))
  exact fun k hk => hp k hk
end Go.Proofs.YtbohigjfdnnomaaDoor
