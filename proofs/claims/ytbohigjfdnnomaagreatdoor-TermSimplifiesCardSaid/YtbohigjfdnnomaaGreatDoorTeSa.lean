/-
  A variable replaced in trees.
  The value of a tree; a variable replaced has the value of what replaces it.
  Simplify as mathematics: nodes that mean the same as a node with other Args.
-/
import Derived.Test.YtbohigjfdnnomaaGreatDoorTeTa
import Derived.Test.YtbohigjfdnnomaaGreatDoorTeTl
import Derived.Test.YtbohigjfdnnomaaGreatDoorTeP
namespace Go.Proofs.YtbohigjfdnnomaaGreatDoor

mutual
/-- A tree in which the variable v is replaced by r. -/
def subT (v : Int) (r : Tr) : Tr → Tr
  | .nd op wi fl im cs => if op = 33 ∧ im = v then r else .nd op wi fl im (subL v r cs)
def subL (v : Int) (r : Tr) : List Tr → List Tr
  | [] => []
  | c :: cs => subT v r c :: subL v r cs
end
theorem subL_map (v : Int) (r : Tr) : ∀ cs : List Tr, subL v r cs = cs.map (subT v r)
  | [] => by rw [subL]; rfl
  | c :: cs => by rw [subL, subL_map v r cs]; rfl
/-- The tree of a node, where it is not the variable. -/
theorem subT_node {T : List Nd} (hd : Down T) {k : Nat} (hk : k < T.length) (v : Int) (r : Tr) (hn : ¬ (T[k]!.op = 33 ∧ T[k]!.imm = v)) : subT v r (tr T k) = .nd T[k]!.op T[k]!.width T[k]!.flags T[k]!.imm (T[k]!.args.map fun x => subT v r (tr T x.toNat)) := by
  rw [tr_eq hd hk, subT, if_neg hn, subL_map, List.map_map]
  rfl
theorem subT_var {T : List Nd} (hd : Down T) {k : Nat} (hk : k < T.length) (v : Int) (r : Tr) (hn : T[k]!.op = 33 ∧ T[k]!.imm = v) : subT v r (tr T k) = r := by
  rw [tr_eq hd hk, subT, if_pos hn]
/-- The nodes of a list are not moved by what is appended. -/
theorem tr_app {T U : List Nd} (hd : Down T) (hd2 : Down (T ++ U)) : ∀ k, k < T.length → tr (T ++ U) k = tr T k := by
  intro k
  induction k using Nat.strongRecOn with
  | _ k ih =>
    intro hk
    have e : (T ++ U)[k]! = T[k]! := by
      rw [getElem!_pos T k hk, getElem!_pos (T ++ U) k (by rw [List.length_append]; omega), List.getElem_append_left hk]
    rw [tr_eq hd hk, tr_eq hd2 (by rw [List.length_append]; omega), e]
    congr 1
    refine List.map_congr_left fun x hx => ?_
    obtain ⟨p, rfl, hp⟩ := down_mem hd hk hx
    rw [Int.toNat_natCast]
    exact ih p hp (by omega)
/-- What put of the reference has made of the first k nodes: the list, and where each one stands. -/
structure PutM (T U : List Nd) (v : Int) (r : Tr) (k : Nat) (out : List Nd) (at_ : Nat → Nat) : Prop where
  down : Down out
  pre : Pre U out
  len : out.length ≤ U.length + k
  at_lt : ∀ j, j < k → at_ j < out.length
  tr : ∀ j, j < k → tr out (at_ j) = subT v r (tr T j)
theorem getN_snoc_lt {out : List Nd} {y : Nd} {j : Nat} (h : j < out.length) : (out ++ [y])[j]! = out[j]! := getN_app h
theorem down_snoc {out : List Nd} {y : Nd} (hd : Down out) (hy : ∀ j, j < y.args.length → ∃ p : Nat, y.args[j]! = (p : Int) ∧ p < out.length) : Down (out ++ [y]) := fun k hk j hj => by
  rw [List.length_append, List.length_singleton] at hk
  by_cases e : k < out.length
  · rw [getN_app e] at hj ⊢
    exact hd k e j hj
  · obtain rfl : k = out.length := by omega
    rw [getN_last] at hj ⊢
    exact hy j hj
/-- A node that is the variable. -/
theorem PutM.var {T U : List Nd} {v : Int} {r : Tr} {k : Nat} {out : List Nd} {at_ : Nat → Nat} (h : PutM T U v r k out at_) (hd : Down T) (hk : k < T.length) (hn : T[k]!.op = 33 ∧ T[k]!.imm = v) {m : Nat} (hm : m < U.length) (hU : Down U) (hr : Go.Proofs.YtbohigjfdnnomaaGreatDoor.tr U m = r) (hsplit : ∃ X, out = U ++ X) : PutM T U v r (k + 1) out (fun j => if j = k then m else at_ j) where
  down := h.down
  pre := h.pre
  len := by have := h.len; omega
  at_lt j hj := by
    by_cases e : j = k
    · simp only [if_pos e]
      exact Nat.lt_of_lt_of_le hm h.pre.1
    · simp only [if_neg e]
      exact h.at_lt j (by omega)
  tr j hj := by
    by_cases e : j = k
    · subst e
      rw [subT_var hd hk v r hn, if_pos rfl]
      obtain ⟨X, rfl⟩ := hsplit
      rw [tr_app hU h.down m hm, hr]
    · rw [if_neg e]
      exact h.tr j (by omega)
/-- A node that is not the variable. -/
theorem PutM.node {T U : List Nd} {v : Int} {r : Tr} {k : Nat} {out : List Nd} {at_ : Nat → Nat} (h : PutM T U v r k out at_) (hd : Down T) (hk : k < T.length) (hn : ¬ (T[k]!.op = 33 ∧ T[k]!.imm = v)) {y : Nd} (hy : y = ⟨T[k]!.op, T[k]!.width, T[k]!.flags, T[k]!.args.map fun x => ((at_ x.toNat : Nat) : Int), T[k]!.imm⟩) : PutM T U v r (k + 1) (out ++ [y]) (fun j => if j = k then out.length else at_ j) := by
  have hdy : Down (out ++ [y]) := down_snoc h.down fun j hj => by
    subst hy
    simp only [List.length_map] at hj
    obtain ⟨p, hp, hpk⟩ := hd k hk j hj
    refine ⟨at_ p, ?_, h.at_lt p hpk⟩
    simp only
    rw [getElem!_pos _ j (by simpa using hj), List.getElem_map, ← getElem!_pos _ j hj, hp, Int.toNat_natCast]
  refine ⟨hdy, h.pre.trans ⟨by simp, fun i hi => getN_app hi⟩, by have := h.len; simp; omega, fun j hj => ?_, fun j hj => ?_⟩
  · rw [List.length_append, List.length_singleton]
    by_cases e : j = k
    · simp only [if_pos e]; omega
    · simp only [if_neg e]
      have := h.at_lt j (by omega)
      omega
  · by_cases e : j = k
    · subst e
      rw [if_pos rfl, subT_node hd hk v r hn, tr_eq hdy (by simp), getN_last, hy]
      simp only [List.map_map, Function.comp_def, Int.toNat_natCast]
      congr 1
      refine List.map_congr_left fun x hx => ?_
      obtain ⟨p, rfl, hp⟩ := down_mem hd hk hx
      rw [Int.toNat_natCast, ← hy, tr_app h.down hdy _ (h.at_lt p hp)]
      exact h.tr p hp
    · rw [if_neg e, tr_app h.down hdy _ (h.at_lt j (by omega))]
      exact h.tr j (by omega)

/-- The nodes that Put makes. -/
def putN (T U : List Nd) (v : Int) : List Nd := (ins (subT v (tr U (U.length - 1)) (tr T (T.length - 1))) []).2
/-- What Put answers. -/
def putF (T U : List Nd) (v : Int) : Int :=
  if valF T = 0 then (if valF U = 0 then (if 0 ≤ v ∧ v < 4 then (if widF T T.length v.toNat = 0 then 4 else if (U[U.length - 1]!).width ≠ widF T T.length v.toNat then 6 else if oneW (putN T U v) = false then 7 else if 300 < (putN T U v).length then 3 else 0) else 1) else valF U) else valF T
def wT : Tr → Int
  | .nd _ wi _ _ _ => wi
def headW : List Tr → Int
  | [] => 0
  | c :: _ => wT c
/-- The value of a node by the values of its Args; w0 is the width of the first one. -/
def opV (op wi im w0 : Int) (l env : List Nat) : Nat :=
  if op = 0 then im.toNat
  else if op = 33 then env[im.toNat]!
  else if op = 14 then (if cmpF im.toNat w0.toNat l[0]! l[1]! then 1 else 0)
  else if op = 15 then (if l[0]! = 0 then l[2]! else l[1]!)
  else if 16 ≤ op then extF op.toNat w0.toNat wi.toNat l[0]!
  else totF op.toNat wi.toNat l[0]! l[1]!
mutual
/-- The value of a tree. -/
def evT (env : List Nat) : Tr → Nat
  | .nd op wi _ im cs => opV op wi im (headW cs) (evL env cs) env
def evL (env : List Nat) : List Tr → List Nat
  | [] => []
  | c :: cs => evT env c :: evL env cs
end
theorem evL_map (env : List Nat) : ∀ cs : List Tr, evL env cs = cs.map (evT env)
  | [] => by rw [evL]; rfl
  | c :: cs => by rw [evL, evL_map env cs]; rfl
theorem map_at {α : Type} (f : Int → α) [Inhabited α] {l : List Int} {i : Nat} (h : i < l.length) : (l.map f)[i]! = f l[i]! := by
  rw [getElem!_pos (l.map f) i (by simpa using h), List.getElem_map, getElem!_pos l i h]
theorem wT_tr (T : List Nd) (k : Nat) : wT (tr T k) = T[k]!.width := rfl
theorem headW_map (f : Int → Tr) {l : List Int} (h : 0 < l.length) : headW (l.map f) = wT (f l[0]!) := by
  match l, h with
  | a :: l, _ => rfl
/-- The values of a term's nodes are those of their trees. -/
theorem vals_tr {T : List Nd} {env : List Nat} (hv : valF T = 0) : ∀ k, k < T.length → val1 T T[k]! (vals T env k) env = evT env (tr T k) := by
  have hd := down_val hv
  intro k
  induction k using Nat.strongRecOn with
  | _ k ih =>
    intro hk
    obtain ⟨ho, -, -, hl, -, -⟩ := nod_iff.1 ((val_zero.1 hv).2.1 k hk)
    have hA : ∀ i, i < T[k]!.args.length → (evL env (T[k]!.args.map fun x => tr T x.toNat))[i]! = (vals T env k)[(T[k]!.args[i]!).toNat]! := by
      intro i hi
      obtain ⟨p, hp, hpk⟩ := hd k hk i hi
      rw [evL_map, List.map_map, map_at _ hi, hp, Int.toNat_natCast, vals_at T env hpk, ih p hpk (by omega)]
      simp
    have hH : 0 < T[k]!.args.length → headW (T[k]!.args.map fun x => tr T x.toNat) = wOf T T[k]! 0 := fun h => by
      rw [headW_map _ h, wT_tr]
      rfl
    rw [tr_eq hd hk, evT]
    unfold val1 opV
    generalize vals T env k = l at hA ⊢
    generalize evL env (T[k]!.args.map fun x => tr T x.toNat) = q at hA ⊢
    generalize headW (T[k]!.args.map fun x => tr T x.toNat) = w0 at hH ⊢
    generalize T[k]! = x at *
    by_cases c0 : x.op = 0
    · rw [if_pos c0, if_pos c0]
    rw [if_neg c0, if_neg c0]
    by_cases c33 : x.op = 33
    · rw [if_pos c33, if_pos c33]
    rw [if_neg c33, if_neg c33]
    by_cases c14 : x.op = 14
    · rw [if_pos c14, if_pos c14]
      have e : argN x.op = 2 := argN_two (by omega)
      rw [hA 0 (by omega), hA 1 (by omega), hH (by omega)]
    rw [if_neg c14, if_neg c14]
    by_cases c15 : x.op = 15
    · rw [if_pos c15, if_pos c15]
      have e : argN x.op = 3 := by rw [c15]; rfl
      rw [hA 0 (by omega), hA 1 (by omega), hA 2 (by omega)]
    rw [if_neg c15, if_neg c15]
    by_cases c16 : 16 ≤ x.op
    · rw [if_pos c16, if_pos c16]
      have e : argN x.op = 1 := by unfold argN; rw [if_neg (by omega), if_neg c15, if_neg (by omega)]
      rw [hA 0 (by omega), hH (by omega)]
    · rw [if_neg c16, if_neg c16]
      have e : argN x.op = 2 := argN_two (by omega)
      rw [hA 0 (by omega), hA 1 (by omega)]
mutual
/-- The nodes of the variable v have the width w. -/
def VW (v w : Int) : Tr → Prop
  | .nd op wi _ im cs => (op = 33 → 0 ≤ im ∧ (im = v → wi = w)) ∧ VWL v w cs
def VWL (v w : Int) : List Tr → Prop
  | [] => True
  | c :: cs => VW v w c ∧ VWL v w cs
end
theorem vwL_mem {v w : Int} : ∀ {cs : List Tr}, (∀ c ∈ cs, VW v w c) → VWL v w cs
  | [], _ => by rw [VWL]; trivial
  | c :: cs, h => by
    rw [VWL]
    exact ⟨h c (by simp), vwL_mem fun d hd => h d (by simp [hd])⟩
theorem wT_sub {v : Int} {r : Tr} : ∀ t : Tr, VW v (wT r) t → wT (subT v r t) = wT t
  | .nd op wi fl im cs, h => by
    rw [VW] at h
    rw [subT]
    split
    · rename_i e
      exact ((h.1 e.1).2 e.2).symm
    · rfl
theorem headW_sub {v : Int} {r : Tr} : ∀ cs : List Tr, VWL v (wT r) cs → headW (subL v r cs) = headW cs
  | [], _ => by rw [subL]
  | c :: cs, h => by
    rw [VWL] at h
    rw [subL, headW, headW, wT_sub c h.1]
theorem set_same {env : List Nat} {v y : Nat} (h : v < env.length) : (env.set v y)[v]! = y := by
  rw [getElem!_pos (env.set v y) v (by simpa using h), List.getElem_set_self]
theorem set_other {env : List Nat} {v y i : Nat} (h : i ≠ v) : (env.set v y)[i]! = env[i]! := by
  by_cases hi : i < env.length
  · rw [getElem!_pos (env.set v y) i (by simpa using hi), getElem!_pos env i hi, List.getElem_set_ne (fun e => h e.symm)]
  · rw [getElem!_neg env i hi, getElem!_neg (env.set v y) i (by simpa using hi)]
mutual
theorem ev_sub {v : Nat} {r : Tr} {env : List Nat} (hv : v < env.length) : ∀ t : Tr, VW v (wT r) t → evT env (subT v r t) = evT (env.set v (evT env r)) t
  | .nd op wi fl im cs, h => by
    rw [VW] at h
    rw [subT]
    by_cases c : op = 33 ∧ im = (v : Int)
    · rw [if_pos c, evT]
      obtain ⟨rfl, rfl⟩ := c
      unfold opV
      rw [if_neg (by decide), if_pos rfl, Int.toNat_natCast, set_same hv]
    · rw [if_neg c, evT, evT, headW_sub cs h.2, evL_sub hv cs h.2]
      unfold opV
      by_cases c33 : op = 33
      · have h0 := (h.1 c33).1
        have hne : im.toNat ≠ v := fun e => c ⟨c33, by omega⟩
        rw [set_other hne]
      · simp only [if_neg c33]
theorem evL_sub {v : Nat} {r : Tr} {env : List Nat} (hv : v < env.length) : ∀ cs : List Tr, VWL v (wT r) cs → evL env (subL v r cs) = evL (env.set v (evT env r)) cs
  | [], _ => by rw [subL, evL, evL]
  | c :: cs, h => by
    rw [VWL] at h
    rw [subL, evL, evL, ev_sub hv c h.1, evL_sub hv cs h.2]
end
theorem vw_tr {T : List Nd} (hv : valF T = 0) (hi : ∀ k, k < T.length → 0 ≤ T[k]!.imm) (v : Nat) : ∀ k, k < T.length → VW v (widF T T.length v) (tr T k) := by
  have hd := down_val hv
  intro k
  induction k using Nat.strongRecOn with
  | _ k ih =>
    intro hk
    rw [tr_eq hd hk, VW]
    refine ⟨fun ho => ⟨hi k hk, fun him => (widF_var (val_zero.1 hv).2.2.2 T.length (Nat.le_refl _) k hk ho v him).symm⟩, vwL_mem fun c hc => ?_⟩
    obtain ⟨x, hx, rfl⟩ := List.mem_map.1 hc
    obtain ⟨p, rfl, hp⟩ := down_mem hd hk hx
    rw [Int.toNat_natCast]
    exact ih p hp (by omega)
/-- The tree of what Put makes. -/
theorem putN_tr {T U : List Nd} {v : Int} (hd : Down (putN T U v)) : 1 ≤ (putN T U v).length ∧ tr (putN T U v) ((putN T U v).length - 1) = subT v (tr U (U.length - 1)) (tr T (T.length - 1)) := by
  have h1 := ins_last (subT v (tr U (U.length - 1)) (tr T (T.length - 1)))
  have h2 := (ins_ok (subT v (tr U (U.length - 1)) (tr T (T.length - 1))) [] once_nil).2.2
  have e : (putN T U v).length - 1 = (ins (subT v (tr U (U.length - 1)) (tr T (T.length - 1))) []).1 := by unfold putN; omega
  refine ⟨by unfold putN; omega, ?_⟩
  rw [e]
  exact tr_has hd _ _ h2
theorem evF_tr {T : List Nd} {env : List Nat} (h : errV T env = 0) : evF T env = evT env (tr T (T.length - 1)) := by
  have hv := (errV_zero h).1
  have h1 := (val_zero.1 hv).1
  unfold evF
  rw [if_pos h, vals_tr hv _ (by omega)]
theorem put_val {T U : List Nd} {env : List Nat} {v : Nat} (hi : ∀ k, k < T.length → 0 ≤ T[k]!.imm) (hp : putF T U v = 0) (hu : errV U env = 0) (ha : errV (putN T U v) env = 0) (ht : errV T (env.set v (evF U env)) = 0) : evF (putN T U v) env = evF T (env.set v (evF U env)) := by
  have hT := (errV_zero ht).1
  have hU := (errV_zero hu).1
  have h1 := (val_zero.1 hT).1
  have hv : v < 4 ∧ (U[U.length - 1]!).width = widF T T.length v := by
    unfold putF at hp
    rw [if_pos hT, if_pos hU] at hp
    by_cases c : 0 ≤ (v : Int) ∧ (v : Int) < 4
    · rw [if_pos c, Int.toNat_natCast] at hp
      by_cases c1 : widF T T.length v = 0
      · rw [if_pos c1] at hp
        exact absurd hp (by decide)
      · rw [if_neg c1] at hp
        by_cases c2 : (U[U.length - 1]!).width = widF T T.length v
        · exact ⟨by omega, c2⟩
        · rw [if_pos c2] at hp
          exact absurd hp (by decide)
    · rw [if_neg c] at hp
      exact absurd hp (by decide)
  have hlen : v < env.length := by
    have := (env_iff.1 (errV_zero hu).2).1
    omega
  rw [evF_tr ha, evF_tr ht, (putN_tr (down_val (errV_zero ha).1)).2, evF_tr hu]
  refine ev_sub hlen _ ?_
  rw [wT_tr, hv.2]
  exact vw_tr hT hi v _ (by omega)
/-- A variable that has two widths, as the program looks for it. -/
def clashB (T : List Nd) : Bool := (List.range T.length).any fun k => decide (T[k]!.op = 33) && decide (widF T T.length T[k]!.imm.toNat ≠ T[k]!.width)
theorem clash_one {T : List Nd} (hi : ∀ k, k < T.length → 0 ≤ T[k]!.imm) : clashB T = !oneW T := by
  have ho : oneW T = true ↔ ∀ k, k < T.length → ∀ i, i < k → oneB T[i]! T[k]! = true := by
    unfold oneW
    rw [List.all_eq_true]
    exact ⟨fun h k hk i hi => List.all_eq_true.1 (h k (List.mem_range.2 hk)) i (List.mem_range.2 hi), fun h k hk => List.all_eq_true.2 fun i hi => h k (List.mem_range.1 hk) i (List.mem_range.1 hi)⟩
  have hc : clashB T = false ↔ ∀ k, k < T.length → T[k]!.op = 33 → widF T T.length T[k]!.imm.toNat = T[k]!.width := by
    unfold clashB
    rw [List.any_eq_false]
    refine ⟨fun h k hk h33 => ?_, fun h k hk => ?_⟩
    · have := h k (List.mem_range.2 hk)
      have h2 : T[k]!.op = 33 → widF T T.length T[k]!.imm.toNat = T[k]!.width := by simpa using this
      exact h2 h33
    · have := h k (List.mem_range.1 hk)
      simpa using this
  cases e : oneW T
  · rw [Bool.not_false]
    apply Classical.byContradiction
    intro hh
    have h1 := hc.1 (by simpa using hh)
    have h2 : oneW T = true := ho.2 fun k hk i hik => one_iff.2 fun a b c => by
      have e1 := h1 k hk b
      have e2 := h1 i (by omega) a
      rw [← c] at e1
      omega
    rw [h2] at e
    exact absurd e (by decide)
  · rw [Bool.not_true]
    refine hc.2 fun k hk h33 => ?_
    refine widF_var (ho.1 e) T.length (Nat.le_refl _) k hk h33 _ ?_
    have := hi k hk
    omega
mutual
/-- All nodes of a tree. -/
def AllT (p : Int → Int → Prop) : Tr → Prop
  | .nd op _ _ im cs => p op im ∧ AllL p cs
def AllL (p : Int → Int → Prop) : List Tr → Prop
  | [] => True
  | c :: cs => AllT p c ∧ AllL p cs
end
theorem allL_mem {p : Int → Int → Prop} : ∀ {cs : List Tr}, (∀ c ∈ cs, AllT p c) → AllL p cs
  | [], _ => by rw [AllL]; trivial
  | c :: cs, h => by
    rw [AllL]
    exact ⟨h c (by simp), allL_mem fun d hd => h d (by simp [hd])⟩
theorem all_tr {p : Int → Int → Prop} {T : List Nd} (hd : Down T) (h : ∀ k, k < T.length → p T[k]!.op T[k]!.imm) : ∀ k, k < T.length → AllT p (tr T k) := by
  intro k
  induction k using Nat.strongRecOn with
  | _ k ih =>
    intro hk
    rw [tr_eq hd hk, AllT]
    refine ⟨h k hk, allL_mem fun c hc => ?_⟩
    obtain ⟨x, hx, rfl⟩ := List.mem_map.1 hc
    obtain ⟨q, rfl, hq⟩ := down_mem hd hk hx
    rw [Int.toNat_natCast]
    exact ih q hq (by omega)
mutual
theorem all_sub {p : Int → Int → Prop} {v : Int} {r : Tr} (hr : AllT p r) : ∀ t : Tr, AllT p t → AllT p (subT v r t)
  | .nd op wi fl im cs, h => by
    rw [AllT] at h
    rw [subT]
    split
    · exact hr
    · rw [AllT]
      exact ⟨h.1, allL_sub hr cs h.2⟩
theorem allL_sub {p : Int → Int → Prop} {v : Int} {r : Tr} (hr : AllT p r) : ∀ cs : List Tr, AllL p cs → AllL p (subL v r cs)
  | [], _ => by rw [subL, AllL]; trivial
  | c :: cs, h => by
    rw [AllL] at h
    rw [subL, AllL]
    exact ⟨all_sub hr c h.1, allL_sub hr cs h.2⟩
end
theorem addP_all {p : Nd → Prop} {out : List Nd} {y : Nd} (h : ∀ i, i < out.length → p out[i]!) (hy : p y) : ∀ i, i < (addP out y).length → p (addP out y)[i]! := by
  intro i hi
  by_cases e : ix out y < out.length
  · rw [addP_old e] at hi ⊢
    exact h i hi
  · rw [addP_new e] at hi ⊢
    rw [List.length_append, List.length_singleton] at hi
    by_cases e2 : i < out.length
    · rw [getN_app e2]
      exact h i e2
    · obtain rfl : i = out.length := by omega
      rw [getN_last]
      exact hy
mutual
theorem ins_all {p : Int → Int → Prop} : ∀ (t : Tr) (out : List Nd), AllT p t → (∀ i, i < out.length → p out[i]!.op out[i]!.imm) → ∀ i, i < (ins t out).2.length → p ((ins t out).2[i]!).op ((ins t out).2[i]!).imm
  | .nd op wi fl im cs, out, h, ho => by
    rw [AllT] at h
    have h2 := insL_all cs out h.2 ho
    rw [ins]
    exact addP_all (p := fun y => p y.op y.imm) h2 h.1
theorem insL_all {p : Int → Int → Prop} : ∀ (cs : List Tr) (out : List Nd), AllL p cs → (∀ i, i < out.length → p out[i]!.op out[i]!.imm) → ∀ i, i < (insL cs out).2.length → p ((insL cs out).2[i]!).op ((insL cs out).2[i]!).imm
  | [], out, _, ho => by
    rw [insL]
    exact ho
  | c :: cs, out, h, ho => by
    rw [AllL] at h
    rw [insL]
    exact insL_all cs _ h.2 (ins_all c out h.1 ho)
end
/-- The variables that Put leaves. -/
theorem putN_vars {T U : List Nd} {v : Int} (hv : valF T = 0) (hu : valF U = 0) (hi : ∀ k, k < T.length → 0 ≤ T[k]!.imm) (hj : ∀ k, k < U.length → 0 ≤ U[k]!.imm) : VarsOk (putN T U v) := by
  have h1 := (val_zero.1 hv).1
  have h2 := (val_zero.1 hu).1
  have hp := ins_all (p := fun op im => op = 33 → ∃ v : Nat, im = (v : Int) ∧ v < 4) (subT v (tr U (U.length - 1)) (tr T (T.length - 1))) [] (all_sub (all_tr (down_val hu) (fun k hk => vars_ok hu hj k hk) _ (by omega)) _ (all_tr (down_val hv) (fun k hk => vars_ok hv hi k hk) _ (by omega))) (fun i hi => absurd hi (by simp))
  exact fun k hk => hp k hk

theorem wr_id {n a : Nat} (h : a < pw n) : wr n (a : Int) = a := by
  unfold wr
  rw [Int.emod_eq_of_lt (by omega) (by omega)]
  omega
theorem tot_has {op n a b : Nat} (h : hasF op n a b = true) : totF op n a b = doF op n a b := by unfold totF; rw [if_pos h]
theorem and_all {n b : Nat} (h : b < pw n) : (pw n - 1) &&& b = b := by
  unfold pw at *
  rw [Nat.and_comm, Nat.and_two_pow_sub_one_eq_mod]
  exact Nat.mod_eq_of_lt h
theorem and_all' {n b : Nat} (h : b < pw n) : b &&& (pw n - 1) = b := by
  unfold pw at *
  rw [Nat.and_two_pow_sub_one_eq_mod]
  exact Nat.mod_eq_of_lt h
/-- What drop finds: the Arg, and whether the node is equal to it. -/
def isB (out : List Nd) (p : Nat) (n : Int) : Bool := decide (out[p]!.op = 0) && decide (out[p]!.imm = n)
def drF (out : List Nd) (op wi : Int) (a : List Nat) : Nat × Bool :=
  if op = 1 ∨ op = 9 ∨ op = 10 then (if isB out a[0]! 0 then (a[1]!, true) else (a[0]!, isB out a[1]! 0 || (decide (op = 9) && decide (a[0]! = a[1]!))))
  else if op = 2 ∨ op = 11 ∨ op = 12 ∨ op = 13 then (a[0]!, isB out a[1]! 0)
  else if op = 3 then (if isB out a[0]! 1 then (a[1]!, true) else (a[0]!, isB out a[1]! 1))
  else if op = 4 then (a[0]!, isB out a[1]! 1)
  else if op = 8 then (if isB out a[0]! ((pw wi.toNat - 1 : Nat) : Int) then (a[1]!, true) else (a[0]!, isB out a[1]! ((pw wi.toNat - 1 : Nat) : Int) || decide (a[0]! = a[1]!)))
  else if op = 15 then (if isB out a[0]! 0 || decide (a[1]! = a[2]!) then (a[2]!, true) else (a[1]!, isB out a[0]! 1))
  else (0, false)
/-- An environment of the variables of a list. -/
def EnvU (U : List Nd) (env : List Nat) : Prop := env.length = 4 ∧ ∀ k, k < U.length → U[k]!.op = 33 → env[U[k]!.imm.toNat]! < pw U[k]!.width.toNat
/-- Nodes made out of those of U. -/
structure PV (U out : List Nd) : Prop where
  len : out.length ≤ 300
  val : 1 ≤ out.length → valF out = 0
  imm : ∀ k, k < out.length → 0 ≤ out[k]!.imm ∧ out[k]!.imm < 4294967296
  vars : ∀ k, k < out.length → out[k]!.op = 33 → ∃ j, j < U.length ∧ U[j]!.op = 33 ∧ U[j]!.imm = out[k]!.imm ∧ U[j]!.width = out[k]!.width
theorem pv_nil (U : List Nd) : PV U [] := ⟨by simp, fun h => absurd h (by simp), fun k hk => absurd hk (by simp), fun k hk => absurd hk (by simp)⟩
theorem PV.down {U out : List Nd} (h : PV U out) : Down out := fun k hk j hj => down_val (h.val (by omega)) k hk j hj
theorem PV.env {U out : List Nd} (h : PV U out) {env : List Nat} (he : EnvU U env) : envB out env = true := by
  refine env_iff.2 ⟨he.1, fun v hv => ?_⟩
  by_cases h0 : widF out out.length v = 0
  · exact .inl h0
  · obtain ⟨j, hj, h1, h2, h3⟩ := widF_ex out.length h0
    obtain ⟨q, hq, g1, g2, g3⟩ := h.vars j hj h1
    have := he.2 q hq g1
    rw [g2, h2, g3, h3, Int.toNat_natCast] at this
    exact .inr this
theorem PV.lt {U out : List Nd} (h : PV U out) {env : List Nat} (he : EnvU U env) {p : Nat} (hp : p < out.length) : evT env (tr out p) < pw out[p]!.width.toNat := by
  have hv := h.val (by omega)
  rw [← vals_tr hv p hp]
  exact vals_lt hv (fun k hk => (h.imm k hk).1) (h.env he) p hp
theorem PV.wid {U out : List Nd} (h : PV U out) {p : Nat} (hp : p < out.length) : 1 ≤ out[p]!.width ∧ out[p]!.width ≤ 32 := (nod_iff.1 ((val_zero.1 (h.val (by omega))).2.1 p hp)).2.2.1
theorem PV.const {U out : List Nd} (h : PV U out) {env : List Nat} {p : Nat} {n : Int} (hp : p < out.length) (hb : isB out p n = true) : evT env (tr out p) = n.toNat := by
  unfold isB at hb
  rw [Bool.and_eq_true, decide_eq_true_eq, decide_eq_true_eq] at hb
  rw [tr_eq h.down hp, evT]
  unfold opV
  rw [if_pos hb.1, hb.2]
/-- A node with new Args. -/
structure ArgX (U out : List Nd) (x : Nd) (a : List Nat) : Prop where
  op : 0 ≤ x.op ∧ x.op ≤ 18 ∨ x.op = 33
  flags : x.flags = 0
  wid : 1 ≤ x.width ∧ x.width ≤ 32
  len : (a.length : Int) = argN x.op
  imm : immB x = true
  imm0 : 0 ≤ x.imm ∧ x.imm < 4294967296
  arg : ∀ i, i < a.length → a[i]! < out.length
  fit : fitB out ⟨x.op, x.width, x.flags, natI a, x.imm⟩ = true
  var : x.op = 33 → ∃ j, j < U.length ∧ U[j]!.op = 33 ∧ U[j]!.imm = x.imm ∧ U[j]!.width = x.width
theorem natI_at {a : List Nat} {i : Nat} (h : i < a.length) : (natI a)[i]! = ((a[i]! : Nat) : Int) := by
  rw [getElem!_pos (natI a) i (by simpa [natI] using h), getElem!_pos a i h]
  simp [natI]
theorem natI_len' (a : List Nat) : (natI a).length = a.length := by simp [natI]
theorem wOf_natI {out : List Nd} {op wi fl im : Int} {a : List Nat} {i : Nat} (h : i < a.length) : wOf out ⟨op, wi, fl, natI a, im⟩ i = (out[a[i]!]!).width := by
  unfold wOf
  simp only
  rw [natI_at h, Int.toNat_natCast]
/-- The value of a node with Args in a list. -/
def argV (out : List Nd) (env : List Nat) (x : Nd) (a : List Nat) : Nat := opV x.op x.width x.imm (out[a[0]!]!).width (a.map fun p => evT env (tr out p)) env
/-- What a number in a list must be that stands for a node with Args. -/
structure NodeOK (U out : List Nd) (x : Nd) (a : List Nat) (k : Nat) (o2 : List Nd) : Prop where
  pv : PV U o2
  pre : Pre out o2
  len : o2.length ≤ out.length + 1
  lt : k < o2.length
  wid : (o2[k]!).width = x.width
  val : ∀ env, EnvU U env → evT env (tr o2 k) = argV out env x a
theorem opV_w0 {op wi im w0 w1 : Int} {l env : List Nat} (h : op = 0 ∨ op = 33) : opV op wi im w0 l env = opV op wi im w1 l env := by
  unfold opV
  rcases h with h | h
  · rw [if_pos h, if_pos h]
  · rw [if_neg (by omega), if_pos h, if_neg (by omega), if_pos h]
theorem argN_zero {op : Int} (_ : 0 ≤ op ∧ op ≤ 18 ∨ op = 33) (h : argN op = 0) : op = 0 ∨ op = 33 := by
  unfold argN at h
  split at h
  · omega
  · split at h
    · omega
    · split at h
      · assumption
      · omega
theorem pre_add (out : List Nd) (y : Nd) : Pre out (addP out y) := addP_pre y
theorem addP_len (out : List Nd) (y : Nd) : (addP out y).length ≤ out.length + 1 := by
  by_cases h : ix out y < out.length
  · rw [addP_old h]; omega
  · rw [addP_new h]; simp
theorem tr_pre {out o2 : List Nd} (hd : Down out) (h2 : Down o2) (hp : Pre out o2) : ∀ k, k < out.length → tr o2 k = tr out k := by
  intro k
  induction k using Nat.strongRecOn with
  | _ k ih =>
    intro hk
    rw [tr_eq hd hk, tr_eq h2 (Nat.lt_of_lt_of_le hk hp.1), hp.2 k hk]
    congr 1
    refine List.map_congr_left fun x hx => ?_
    obtain ⟨p, rfl, hpk⟩ := down_mem hd hk hx
    rw [Int.toNat_natCast]
    exact ih p hpk (by omega)
theorem fit_pre {out o2 : List Nd} (hp : Pre out o2) {y : Nd} (hlen : (y.args.length : Int) = argN y.op) (ha : ∀ i, i < y.args.length → (y.args[i]!).toNat < out.length) : fitB o2 y = fitB out y :=
  fit_congr rfl rfl hlen fun q hq => by
    unfold wOf
    rw [hp.2 _ (ha q hq)]
/-- A list with one more right node. -/
theorem PV.add {U out : List Nd} (h : PV U out) (hU : valF U = 0) {y : Nd} (h300 : out.length < 300) (ho : 0 ≤ y.op ∧ y.op ≤ 18 ∨ y.op = 33) (hfl : y.flags = 0) (hw : 1 ≤ y.width ∧ y.width ≤ 32) (hlen : (y.args.length : Int) = argN y.op) (ha : ∀ i, i < y.args.length → 0 ≤ y.args[i]! ∧ y.args[i]! < (out.length : Int)) (him : immB y = true) (him0 : 0 ≤ y.imm ∧ y.imm < 4294967296) (hfit : fitB out y = true) (hvar : y.op = 33 → ∃ j, j < U.length ∧ U[j]!.op = 33 ∧ U[j]!.imm = y.imm ∧ U[j]!.width = y.width) : PV U (addP out y) := by
  by_cases hin : ix out y < out.length
  · rw [addP_old hin]; exact h
  rw [addP_new hin]
  have hall : ∀ k, k < (out ++ [y]).length → k < out.length ∧ (out ++ [y])[k]! = out[k]! ∨ k = out.length ∧ (out ++ [y])[k]! = y := fun k hk => by
    rw [List.length_append, List.length_singleton] at hk
    by_cases e : k < out.length
    · exact .inl ⟨e, getN_app e⟩
    · obtain rfl : k = out.length := by omega
      exact .inr ⟨rfl, getN_last⟩
  have hpre : Pre out (out ++ [y]) := ⟨by simp, fun i hi => getN_app hi⟩
  have hvars : ∀ k, k < (out ++ [y]).length → ((out ++ [y])[k]!).op = 33 → ∃ j, j < U.length ∧ U[j]!.op = 33 ∧ U[j]!.imm = ((out ++ [y])[k]!).imm ∧ U[j]!.width = ((out ++ [y])[k]!).width := fun k hk h33 => by
    rcases hall k hk with ⟨e, e2⟩ | ⟨e, e2⟩
    · rw [e2] at h33 ⊢; exact h.vars k e h33
    · rw [e2] at h33 ⊢; exact hvar h33
  refine ⟨by simp; omega, fun _ => val_zero.2 ⟨by simp; omega, fun k hk => ?_, fun k hk => ?_, fun k hk i hi => ?_⟩, fun k hk => ?_, hvars⟩
  · rcases hall k hk with ⟨e, e2⟩ | ⟨e, e2⟩
    · rw [e2]; exact (val_zero.1 (h.val (by omega))).2.1 k e
    · rw [e2, e]
      exact nod_iff.2 ⟨ho, hfl, hw, hlen, ha, him⟩
  · rcases hall k hk with ⟨e, e2⟩ | ⟨e, e2⟩
    · rw [e2]
      have hv := h.val (by omega)
      obtain ⟨-, -, -, hl, -, -⟩ := nod_iff.1 ((val_zero.1 hv).2.1 k e)
      rw [fit_pre hpre hl (fun i hi => by obtain ⟨p, hp, hpk⟩ := down_val hv k e i hi; rw [hp, Int.toNat_natCast]; omega)]
      exact (val_zero.1 hv).2.2.1 k e
    · rw [e2, fit_pre hpre hlen (fun i hi => by have := ha i hi; omega)]
      exact hfit
  · refine one_iff.2 fun h1 h2 h3 => ?_
    obtain ⟨p, hp, p1, p2, p3⟩ := hvars i (by omega) h1
    obtain ⟨q, hq, q1, q2, q3⟩ := hvars k hk h2
    rw [← p3, ← q3]
    have hone := (val_zero.1 hU).2.2.2
    have e : U[p]!.imm = U[q]!.imm := by rw [p2, q2, h3]
    by_cases c : p = q
    · rw [c]
    · by_cases c2 : p < q
      · exact one_iff.1 (hone q hq p c2) p1 q1 e
      · exact (one_iff.1 (hone p hp q (by omega)) q1 p1 e.symm).symm
  · rcases hall k hk with ⟨e, e2⟩ | ⟨e, e2⟩
    · rw [e2]; exact h.imm k e
    · rw [e2]; exact him0
/-- The node itself put in. -/
theorem nodeOK_put {U out : List Nd} (h : PV U out) (hU : valF U = 0) {x : Nd} {a : List Nat} (hx : ArgX U out x a) (h300 : out.length < 300) : NodeOK U out x a (ix out ⟨x.op, x.width, x.flags, natI a, x.imm⟩) (addP out ⟨x.op, x.width, x.flags, natI a, x.imm⟩) := by
  have hpv := h.add hU (y := ⟨x.op, x.width, x.flags, natI a, x.imm⟩) h300 hx.op hx.flags hx.wid (by simp only [natI_len']; exact hx.len) (fun i hi => by
    simp only [natI_len'] at hi
    simp only
    rw [natI_at hi]
    have := hx.arg i hi
    omega) hx.imm hx.imm0 hx.fit hx.var
  have hat := addP_at (out := out) (⟨x.op, x.width, x.flags, natI a, x.imm⟩ : Nd)
  refine ⟨hpv, pre_add out _, addP_len out _, hat.1, by rw [hat.2], fun env he => ?_⟩
  rw [tr_eq hpv.down hat.1, hat.2]
  simp only
  rw [evT, evL_map, List.map_map]
  have e1 : ((natI a).map (evT env ∘ fun z => tr (addP out ⟨x.op, x.width, x.flags, natI a, x.imm⟩) z.toNat)) = a.map fun p => evT env (tr out p) := by
    unfold natI
    rw [List.map_map]
    refine List.map_congr_left fun p hp => ?_
    simp only [Function.comp, Int.toNat_natCast]
    obtain ⟨i, hi, rfl⟩ := List.getElem_of_mem hp
    have := hx.arg i hi
    rw [getElem!_pos a i hi] at this
    rw [← natI, tr_pre h.down hpv.down (pre_add out _) _ this]
  rw [e1]
  unfold argV
  by_cases h0 : a.length = 0
  · exact opV_w0 (argN_zero hx.op (by have := hx.len; omega))
  · congr 1
    rw [headW_map _ (by rw [natI_len']; omega), natI_at (by omega), Int.toNat_natCast, wT_tr, (pre_add out _).2 _ (hx.arg 0 (by omega))]
theorem argV_two {out : List Nd} {env : List Nat} {x : Nd} {a : List Nat} (h : x.op ≠ 0 ∧ x.op ≤ 13 ∧ 0 ≤ x.op) (hl : a.length = 2) : argV out env x a = totF x.op.toNat x.width.toNat (evT env (tr out a[0]!)) (evT env (tr out a[1]!)) := by
  unfold argV opV
  rw [if_neg h.1, if_neg (by omega), if_neg (by omega), if_neg (by omega), if_neg (by omega)]
  match a, hl with
  | [p, q], _ => rfl
theorem argV_sel {out : List Nd} {env : List Nat} {x : Nd} {a : List Nat} (h : x.op = 15) (hl : a.length = 3) : argV out env x a = if evT env (tr out a[0]!) = 0 then evT env (tr out a[2]!) else evT env (tr out a[1]!) := by
  unfold argV opV
  rw [if_neg (by omega), if_neg (by omega), if_neg (by omega), if_pos h]
  match a, hl with
  | [p, q, r], _ => rfl
/-- An Arg that stands for the node. -/
theorem nodeOK_drop {U out : List Nd} (h : PV U out) {x : Nd} {a : List Nat} (hx : ArgX U out x a) (hd : (drF out x.op x.width a).2 = true) : NodeOK U out x a (drF out x.op x.width a).1 out := by
  have hfit := hx.fit
  have hlen := hx.len
  have hkey : ∀ k, k < out.length → (out[k]!).width = x.width → (∀ env, EnvU U env → evT env (tr out k) = argV out env x a) → NodeOK U out x a k out := fun k h1 h2 h3 => ⟨h, Pre.refl _, by omega, h1, h2, h3⟩
  have two : 1 ≤ x.op ∧ x.op ≤ 13 → a.length = 2 ∧ (a[0]! < out.length ∧ a[1]! < out.length) ∧ (out[a[0]!]!).width = x.width ∧ (out[a[1]!]!).width = x.width := fun ho => by
    have e : argN x.op = 2 := argN_two (by omega)
    have hl : a.length = 2 := by omega
    unfold fitB at hfit
    rw [if_pos ho] at hfit
    rw [Bool.and_eq_true, decide_eq_true_eq, decide_eq_true_eq, wOf_natI (by omega), wOf_natI (by omega)] at hfit
    exact ⟨hl, ⟨hx.arg 0 (by omega), hx.arg 1 (by omega)⟩, hfit⟩
  have hpw : 1 < pw x.width.toNat := by
    have := pw_mono (show 1 ≤ x.width.toNat by have := hx.wid; omega)
    have e : pw 1 = 2 := rfl
    omega
  unfold drF at hd ⊢
  by_cases c1 : x.op = 1 ∨ x.op = 9 ∨ x.op = 10
  · rw [if_pos c1] at hd ⊢
    obtain ⟨hl, ⟨l0, l1⟩, w0, w1⟩ := two (by omega)
    by_cases c : isB out a[0]! 0 = true
    · rw [if_pos c]
      refine hkey _ l1 w1 fun env he => ?_
      have hb := h.lt he l1
      rw [w1] at hb
      rw [argV_two (by omega) hl, h.const l0 c]
      generalize evT env (tr out a[1]!) = b at hb ⊢
      rcases c1 with e | e | e <;> rw [e] <;> rw [tot_has (by rfl)] <;> unfold doF <;> simp
      exact (wr_id hb).symm
    · rw [if_neg c] at hd ⊢
      rw [Bool.or_eq_true, Bool.and_eq_true, decide_eq_true_eq, decide_eq_true_eq] at hd
      refine hkey _ l0 w0 fun env he => ?_
      have hb := h.lt he l0
      rw [w0] at hb
      rw [argV_two (by omega) hl]
      rcases hd with hd | ⟨e9, hd⟩
      · rw [h.const l1 hd]
        generalize evT env (tr out a[0]!) = b at hb ⊢
        rcases c1 with e | e | e <;> rw [e] <;> rw [tot_has (by rfl)] <;> unfold doF <;> simp
        exact (wr_id hb).symm
      · rw [← hd, e9, tot_has (by rfl)]
        unfold doF
        simp
  rw [if_neg c1] at hd ⊢
  by_cases c2 : x.op = 2 ∨ x.op = 11 ∨ x.op = 12 ∨ x.op = 13
  · rw [if_pos c2] at hd ⊢
    obtain ⟨hl, ⟨l0, l1⟩, w0, w1⟩ := two (by omega)
    refine hkey _ l0 w0 fun env he => ?_
    have hb := h.lt he l0
    rw [w0] at hb
    rw [argV_two (by omega) hl, h.const l1 hd]
    have hw0 : 0 < x.width.toNat := by have := hx.wid; omega
    generalize evT env (tr out a[0]!) = b at hb ⊢
    have hp0 : pw 0 = 1 := rfl
    rcases c2 with e | e | e | e <;> rw [e] <;> rw [tot_has (by unfold hasF; simp; try omega)] <;> unfold doF <;> simp [hp0]
    · exact (wr_id hb).symm
    · exact (wr_id hb).symm
    · exact (wr_sgn _ _ hb).symm
  rw [if_neg c2] at hd ⊢
  by_cases c3 : x.op = 3
  · rw [if_pos c3] at hd ⊢
    obtain ⟨hl, ⟨l0, l1⟩, w0, w1⟩ := two (by omega)
    by_cases c : isB out a[0]! 1 = true
    · rw [if_pos c]
      refine hkey _ l1 w1 fun env he => ?_
      have hb := h.lt he l1
      rw [w1] at hb
      rw [argV_two (by omega) hl, h.const l0 c, c3, tot_has (by rfl)]
      generalize evT env (tr out a[1]!) = b at hb ⊢
      unfold doF
      simp
      exact (wr_id hb).symm
    · rw [if_neg c] at hd ⊢
      refine hkey _ l0 w0 fun env he => ?_
      have hb := h.lt he l0
      rw [w0] at hb
      rw [argV_two (by omega) hl, h.const l1 hd, c3, tot_has (by rfl)]
      generalize evT env (tr out a[0]!) = b at hb ⊢
      unfold doF
      simp
      exact (wr_id hb).symm
  rw [if_neg c3] at hd ⊢
  by_cases c4 : x.op = 4
  · rw [if_pos c4] at hd ⊢
    obtain ⟨hl, ⟨l0, l1⟩, w0, w1⟩ := two (by omega)
    refine hkey _ l0 w0 fun env he => ?_
    rw [argV_two (by omega) hl, h.const l1 hd, c4, tot_has (by rfl)]
    unfold doF
    simp
  rw [if_neg c4] at hd ⊢
  by_cases c8 : x.op = 8
  · rw [if_pos c8] at hd ⊢
    obtain ⟨hl, ⟨l0, l1⟩, w0, w1⟩ := two (by omega)
    by_cases c : isB out a[0]! ((pw x.width.toNat - 1 : Nat) : Int) = true
    · rw [if_pos c]
      refine hkey _ l1 w1 fun env he => ?_
      have hb := h.lt he l1
      rw [w1] at hb
      rw [argV_two (by omega) hl, h.const l0 c, c8, tot_has (by rfl), Int.toNat_natCast]
      generalize evT env (tr out a[1]!) = b at hb ⊢
      unfold doF
      simp
      exact (and_all hb).symm
    · rw [if_neg c] at hd ⊢
      rw [Bool.or_eq_true, decide_eq_true_eq] at hd
      refine hkey _ l0 w0 fun env he => ?_
      have hb := h.lt he l0
      rw [w0] at hb
      rw [argV_two (by omega) hl, c8, tot_has (by rfl)]
      rcases hd with hd | hd
      · rw [h.const l1 hd, Int.toNat_natCast]
        generalize evT env (tr out a[0]!) = b at hb ⊢
        unfold doF
        simp
        exact (and_all' hb).symm
      · rw [← hd]
        unfold doF
        simp
  rw [if_neg c8] at hd ⊢
  by_cases c15 : x.op = 15
  · rw [if_pos c15] at hd ⊢
    have e : argN x.op = 3 := by rw [c15]; rfl
    have hl : a.length = 3 := by omega
    unfold fitB at hfit
    rw [if_neg (by simp only; omega), if_neg (by simp only; omega), if_pos c15] at hfit
    rw [Bool.and_eq_true, Bool.and_eq_true, decide_eq_true_eq, decide_eq_true_eq, decide_eq_true_eq, wOf_natI (by omega), wOf_natI (by omega), wOf_natI (by omega)] at hfit
    have l0 := hx.arg 0 (by omega)
    have l1 := hx.arg 1 (by omega)
    have l2 := hx.arg 2 (by omega)
    by_cases c : (isB out a[0]! 0 || decide (a[1]! = a[2]!)) = true
    · rw [if_pos c]
      refine hkey _ l2 hfit.2.2 fun env he => ?_
      rw [argV_sel c15 hl]
      rw [Bool.or_eq_true, decide_eq_true_eq] at c
      rcases c with c | c
      · rw [if_pos (by rw [h.const l0 c]; rfl)]
      · rw [c]; split <;> rfl
    · rw [if_neg c] at hd ⊢
      refine hkey _ l1 hfit.2.1 fun env he => ?_
      rw [argV_sel c15 hl, if_neg (by rw [h.const l0 hd]; decide)]
  · rw [if_neg c15] at hd
    exact absurd hd (by decide)
theorem val1_opV {T : List Nd} {op wi fl im : Int} {a l env : List Nat} (ho : 0 ≤ op ∧ op ≤ 18 ∨ op = 33) (hlen : (a.length : Int) = argN op) : val1 T ⟨op, wi, fl, natI a, im⟩ l env = opV op wi im (T[a[0]!]!).width (a.map fun p => l[p]!) env := by
  have hat : ∀ i, i < a.length → (a.map fun p => l[p]!)[i]! = l[((natI a)[i]!).toNat]! := fun i hi => by
    rw [natI_at hi, Int.toNat_natCast, getElem!_pos _ i (by simpa using hi), List.getElem_map, getElem!_pos a i hi]
  unfold val1 opV
  simp only
  by_cases c0 : op = 0
  · rw [if_pos c0, if_pos c0]
  rw [if_neg c0, if_neg c0]
  by_cases c33 : op = 33
  · rw [if_pos c33, if_pos c33]
  rw [if_neg c33, if_neg c33]
  by_cases c14 : op = 14
  · rw [if_pos c14, if_pos c14]
    have e : argN op = 2 := argN_two (by omega)
    rw [hat 0 (by omega), hat 1 (by omega), wOf_natI (by omega)]
  rw [if_neg c14, if_neg c14]
  by_cases c15 : op = 15
  · rw [if_pos c15, if_pos c15]
    have e : argN op = 3 := by rw [c15]; rfl
    rw [hat 0 (by omega), hat 1 (by omega), hat 2 (by omega)]
  rw [if_neg c15, if_neg c15]
  by_cases c16 : 16 ≤ op
  · rw [if_pos c16, if_pos c16]
    have e : argN op = 1 := by unfold argN; rw [if_neg (by omega), if_neg c15, if_neg (by omega)]
    rw [hat 0 (by omega), wOf_natI (by omega)]
  · rw [if_neg c16, if_neg c16]
    have e : argN op = 2 := argN_two (by omega)
    rw [hat 0 (by omega), hat 1 (by omega)]
theorem opV_env {op wi im w0 : Int} {l env env2 : List Nat} (h : op ≠ 33) : opV op wi im w0 l env = opV op wi im w0 l env2 := by
  unfold opV
  simp only [if_neg h]
/-- What constants make. -/
def foldV (out : List Nd) (x : Nd) (a : List Nat) : Nat := opV x.op x.width x.imm (out[a[0]!]!).width (a.map fun p => (out[p]!.imm).toNat) []
def cons1 (out : List Nd) (a : List Nat) : Bool := decide (0 < a.length) && a.all fun p => decide (out[p]!.op = 0)
theorem cons1_iff {out : List Nd} {a : List Nat} : cons1 out a = true ↔ 0 < a.length ∧ ∀ i, i < a.length → (out[a[i]!]!).op = 0 := by
  unfold cons1
  rw [Bool.and_eq_true, decide_eq_true_eq, List.all_eq_true]
  refine and_congr_right fun _ => ⟨fun h i hi => ?_, fun h p hp => ?_⟩
  · have := h a[i] (List.getElem_mem hi)
    rw [getElem!_pos a i hi]
    exact of_decide_eq_true this
  · obtain ⟨i, hi, rfl⟩ := List.getElem_of_mem hp
    have := h i hi
    rw [getElem!_pos a i hi] at this
    exact decide_eq_true this
theorem env_zero {U : List Nd} (hU : valF U = 0) (hi : ∀ k, k < U.length → 0 ≤ U[k]!.imm) : EnvU U [0, 0, 0, 0] := by
  refine ⟨rfl, fun k hk h33 => ?_⟩
  obtain ⟨v, hv, hv4⟩ := vars_ok hU hi k hk h33
  rw [hv, Int.toNat_natCast]
  have h0 : ([0, 0, 0, 0] : List Nat)[v]! = 0 := by
    obtain rfl | rfl | rfl | rfl : v = 0 ∨ v = 1 ∨ v = 2 ∨ v = 3 := by omega
    all_goals rfl
  rw [h0]
  exact Nat.two_pow_pos _
/-- A node all of whose Args are constants. -/
theorem nodeOK_fold {U out : List Nd} (h : PV U out) (hU : valF U = 0) (hi : ∀ k, k < U.length → 0 ≤ U[k]!.imm) {x : Nd} {a : List Nat} (hx : ArgX U out x a) (hc : cons1 out a = true) (h300 : out.length < 300) : foldV out x a < pw x.width.toNat ∧ NodeOK U out x a (ix out ⟨0, x.width, 0, [], (foldV out x a : Nat)⟩) (addP out ⟨0, x.width, 0, [], (foldV out x a : Nat)⟩) := by
  obtain ⟨hpos, hcst⟩ := cons1_iff.1 hc
  have h33 : x.op ≠ 33 := fun e => by
    have := hx.len
    rw [e] at this
    have e2 : argN 33 = 0 := rfl
    omega
  have hval : ∀ env, EnvU U env → argV out env x a = foldV out x a := fun env he => by
    unfold argV foldV
    rw [opV_env (env2 := []) h33]
    congr 1
    refine List.map_congr_left fun p hp => ?_
    obtain ⟨i, hi', rfl⟩ := List.getElem_of_mem hp
    have hl := hx.arg i hi'
    have hop := hcst i hi'
    rw [getElem!_pos a i hi'] at hl hop
    exact h.const hl (by unfold isB; rw [decide_eq_true hop, decide_eq_true rfl]; rfl)
  have he0 := env_zero hU hi
  have hput := nodeOK_put h hU hx h300
  have hlt : foldV out x a < pw x.width.toNat := by
    have h1 := hput.pv.lt he0 hput.lt
    rw [hput.wid, hput.val _ he0, hval _ he0] at h1
    exact h1
  have hw := hx.wid
  have hp32 := pw_le (show x.width.toNat ≤ 32 by omega)
  have hpv := h.add hU (y := ⟨0, x.width, 0, [], (foldV out x a : Nat)⟩) h300 (.inl ⟨by simp only; omega, by simp only; omega⟩) rfl hw rfl (fun i hi => absurd hi (by simp)) (by unfold immB; rw [if_pos rfl]; exact decide_eq_true (by simp only; omega)) ⟨by simp only; omega, by simp only; omega⟩ (by unfold fitB; rfl) (fun e => absurd (show (0 : Int) = 33 from e) (by decide))
  have hat := addP_at (out := out) (⟨0, x.width, 0, [], (foldV out x a : Nat)⟩ : Nd)
  refine ⟨hlt, hpv, pre_add out _, addP_len out _, hat.1, by rw [hat.2], fun env he => ?_⟩
  rw [hval env he, tr_eq hpv.down hat.1, hat.2]
  simp only
  rw [evT]
  unfold opV
  rw [if_pos rfl, Int.toNat_natCast]
/-- What Simplify has made of the first k nodes. -/
structure SimM (U out : List Nd) (pl : List Nat) (k : Nat) : Prop where
  pv : PV U out
  len : out.length ≤ k
  num : pl.length = k
  lt : ∀ j, j < k → pl[j]! < out.length
  wid : ∀ j, j < k → (out[pl[j]!]!).width = U[j]!.width
  val : ∀ j, j < k → ∀ env, EnvU U env → evT env (tr out pl[j]!) = evT env (tr U j)
theorem simM_zero (U : List Nd) : SimM U [] [] 0 := ⟨pv_nil U, Nat.le_refl _, rfl, fun j hj => absurd hj (by omega), fun j hj => absurd hj (by omega), fun j hj => absurd hj (by omega)⟩
/-- The Args of the node k at their new places. -/
def argP (U : List Nd) (pl : List Nat) (k : Nat) : List Nat := U[k]!.args.map fun z => pl[z.toNat]!
theorem argP_at {U : List Nd} {pl : List Nat} {k i p : Nat} (hi : i < U[k]!.args.length) (hp : U[k]!.args[i]! = (p : Int)) : (argP U pl k)[i]! = pl[p]! := by
  unfold argP
  rw [getElem!_pos _ i (by simpa using hi), List.getElem_map, ← getElem!_pos _ i hi, hp, Int.toNat_natCast]
theorem argP_len (U : List Nd) (pl : List Nat) (k : Nat) : (argP U pl k).length = U[k]!.args.length := by unfold argP; simp
theorem SimM.argX {U out : List Nd} {pl : List Nat} {k : Nat} (h : SimM U out pl k) (hU : valF U = 0) (hi : ∀ k, k < U.length → 0 ≤ U[k]!.imm ∧ U[k]!.imm < 4294967296) (hk : k < U.length) : ArgX U out U[k]! (argP U pl k) := by
  obtain ⟨ho, hf, hw, hl, -, him⟩ := nod_iff.1 ((val_zero.1 hU).2.1 k hk)
  have hd := down_val hU k hk
  refine ⟨ho, hf, hw, by rw [argP_len]; exact hl, him, hi k hk, fun i hi' => ?_, ?_, fun h33 => ⟨k, hk, h33, rfl, rfl⟩⟩
  · rw [argP_len] at hi'
    obtain ⟨p, hp, hpk⟩ := hd i hi'
    rw [argP_at hi' hp]
    exact h.lt p hpk
  · rw [← (val_zero.1 hU).2.2.1 k hk]
    refine fit_congr rfl rfl hl fun q hq => ?_
    obtain ⟨p, hp, hpk⟩ := hd q hq
    rw [wOf_natI (by rw [argP_len]; exact hq), argP_at hq hp, h.wid p hpk]
    unfold wOf
    rw [hp, Int.toNat_natCast]
theorem getNat_app {l : List Nat} {v i : Nat} (h : i < l.length) : (l ++ [v])[i]! = l[i]! := get_app h
/-- One node more. -/
theorem SimM.next {U out o2 : List Nd} {pl : List Nat} {k q : Nat} (h : SimM U out pl k) (hU : valF U = 0) (hk : k < U.length) (hn : NodeOK U out U[k]! (argP U pl k) q o2) : SimM U o2 (pl ++ [q]) (k + 1) := by
  have hd := down_val hU
  have e1 : ∀ j, j < k → (pl ++ [q])[j]! = pl[j]! := fun j hj => get_app (by rw [h.num]; exact hj)
  have e2 : (pl ++ [q])[k]! = q := by
    have := get_last (l := pl) (v := q)
    rw [h.num] at this
    exact this
  have hval : ∀ env, EnvU U env → evT env (tr o2 q) = evT env (tr U k) := fun env he => by
    rw [hn.val env he, tr_eq hd hk, evT, evL_map, List.map_map]
    obtain ⟨ho, -, -, hl, -, -⟩ := nod_iff.1 ((val_zero.1 hU).2.1 k hk)
    unfold argV
    have em : (argP U pl k).map (fun p => evT env (tr out p)) = U[k]!.args.map (evT env ∘ fun x => tr U x.toNat) := by
      unfold argP
      rw [List.map_map]
      refine List.map_congr_left fun z hz => ?_
      obtain ⟨p, rfl, hp⟩ := down_mem hd hk hz
      simp only [Function.comp, Int.toNat_natCast]
      exact h.val p hp env he
    rw [em]
    by_cases h0 : U[k]!.args.length = 0
    · exact opV_w0 (argN_zero ho (by omega))
    · obtain ⟨p, hp, hpk⟩ := hd k hk 0 (by omega)
      rw [argP_at (by omega) hp, h.wid p hpk, headW_map _ (by omega), hp, Int.toNat_natCast, wT_tr]
  refine ⟨hn.pv, by have := hn.len; have := h.len; omega, by rw [List.length_append, h.num]; rfl, fun j hj => ?_, fun j hj => ?_, fun j hj env he => ?_⟩
  · by_cases e : j = k
    · subst e; rw [e2]; exact hn.lt
    · rw [e1 j (by omega)]; exact Nat.lt_of_lt_of_le (h.lt j (by omega)) hn.pre.1
  · by_cases e : j = k
    · subst e; rw [e2]; exact hn.wid
    · rw [e1 j (by omega), hn.pre.2 _ (h.lt j (by omega))]; exact h.wid j (by omega)
  · by_cases e : j = k
    · subst e; rw [e2]; exact hval env he
    · rw [e1 j (by omega), tr_pre h.pv.down hn.pv.down hn.pre _ (h.lt j (by omega))]; exact h.val j (by omega) env he
end Go.Proofs.YtbohigjfdnnomaaGreatDoor
