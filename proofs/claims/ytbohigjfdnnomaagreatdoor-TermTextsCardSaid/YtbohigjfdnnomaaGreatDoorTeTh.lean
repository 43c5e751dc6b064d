/-
  Nodes copied by the reference.
-/
import Derived.Test.YtbohigjfdnnomaaGreatDoorTeTg
import Derived.Maps.AppendAt
namespace Go.Proofs.YtbohigjfdnnomaaGreatDoor
open Go.RowKit

theorem append_none (w : World) (B c : Nat) (ty : TypeId) : (Builtin.append_ #[35, 35] ty #[.slice (some ⟨B, 0, none⟩) 0 0, .slice none 0 c]).run Tryz.prog w = .ok (.slice (some ⟨B, 0, none⟩) 0 0) w := by
  obtain ⟨i0, hi, hz0, hz1, hz2⟩ := info_parts infoI
  simp [Builtin.append_, run_underlying (show Tryz.prog.underlying 35 = some (.slice 3) from Tryz.underlying35), sizeOf, typeInfo, hi, Builtin.lenOf, Builtin.firstCells, loadCells, loadCellsFrom, storeCells]
set_option maxRecDepth 100000 in
/-- All numbers of a slice appended to an empty row. -/
theorem wpList_append_ints {w : World} {ops : Array Oper} {rest : List Oper} {o : Oper} {a : Act} {Q : Exit → Act → World → Prop} (hgd : o.guard = none) (s x : Operand)
    (ho : o.op = .call { callee := .builtin .append, args := #[s, x], argTypes := #[35, 35] })
    (base B : Nat) (hs : a.eval s = .slice (some ⟨B, 0, none⟩) 0 0) (hown : w.ownsRow base 3 1 (.slice (some ⟨B, 0, none⟩) 0 0) 0 []) (hbase : base ≤ w.heap.size)
    {A : Option Addr} {m c : Nat} {l : List Int} (hx : a.eval x = .slice A m c) (hI : Ints w A m c l) (hm : m ≤ 100)
    (h : ∀ A' c' w', w'.ownsRow base 3 1 (.slice A' m c') m (iV l) → w.grownBy w' (some B) → wpList Tryz.prog ops Q rest (a.put o.dst (.slice A' m c')) w') : wpList Tryz.prog ops Q (o :: rest) a w := by
  obtain ⟨i0, hi, hz0, hz1, hz2⟩ := info_parts infoI
  have hl := hI.1
  have key : ∀ ad, A = some ad → (∀ j u, (iV l)[j]? = some u → w.cell? (ad.add j) = some u) → wpList Tryz.prog ops Q (o :: rest) a w := by
    rintro ad rfl hc
    refine wpList_append_own_at w hgd s x 35 ho base 3 i0 (.int .i64 0) 1 8 Tryz.underlying35 hi hz0 hz1 hz2 rfl (by decide) _ 0 [] hs hown ad m c (iV l) hx (by simp [iV]; omega) hc (fun u hu => by obtain ⟨x, _, rfl⟩ := List.mem_map.1 hu; rfl) (by unfold maxLen; omega) (by omega) hbase (fun v' w' h1 h2 _ _ => ?_)
    rw [Nat.zero_add, List.nil_append] at h1
    rcases h1.2 with ⟨rfl, h0⟩ | ⟨g, cap, cur, rfl, -⟩
    · subst h0
      exact h _ _ w' h1 h2
    · exact h _ _ w' h1 h2
  by_cases h0 : m = 0
  · subst h0
    have hl0 : l = [] := List.eq_nil_of_length_eq_zero hl.symm
    cases A with
    | none =>
      refine wpList_plain hgd fun K hK => ?_
      unfold Oper.wp execOp
      simp only [ho, resolve, invoke, builtin, Sem.run_bind, Sem.run_pure, Result.andThen_ok, List.map_toArray, List.map_cons, List.map_nil, hs, hx, append_none]
      refine hK _ _ (h (some ⟨B, 0, none⟩) 0 w ?_ ⟨rfl, rfl, rfl, Nat.le_refl _, fun _ _ _ => rfl⟩)
      rw [hl0]
      exact hown
    | some ad => exact key ad rfl (fun j u hj => by rw [hl0] at hj; simp [iV] at hj)
  · obtain ⟨b, off, rfl, -, -⟩ := hI.at_ (j := 0) (by omega)
    refine key _ rfl fun j u hj => ?_
    have hjm : j < m := by
      have h1 := (List.getElem?_eq_some_iff.1 hj).1
      rw [iV, List.length_map] at h1
      omega
    obtain ⟨b', off', e, -, hc⟩ := hI.at_ hjm
    injection e with e
    injection e with e1 e2 _
    subst e1 e2
    rw [Addr.add_lit, hc]
    have e : (iV l)[j]? = some (Value.int .i64 l[j]!) := by simp [iV, show j < l.length by omega]
    rw [e] at hj
    exact hj
/-- A row of nodes the Args of which lie beside it. -/
structure OwnS (w : World) (base : Nat) (nv : Value) (av : Nat → Value) (out : List Nd) : Prop where
  own : OwnT w base nv av out
  sep : ∀ i, i < out.length → ∀ b, (av i).ownBlock = some b → nv.ownBlock ≠ some b
theorem ownS_nil (w : World) (base : Nat) (av : Nat → Value) : OwnS w base (.slice none 0 0) av [] := ⟨ownT_nil w base av, fun i hi => absurd hi (by simp)⟩
theorem OwnS.below {w w' : World} {base : Nat} {nv : Value} {av : Nat → Value} {out : List Nd} (h : OwnS w base nv av out) (hb : Below w.heap.size w w') : OwnS w' base nv av out :=
  ⟨⟨own_below h.own.row hb, fun i hi => own_below (h.own.args i hi) hb, h.own.imm⟩, h.sep⟩
/-- A node appended. -/
theorem OwnS.snoc {w w' : World} {base S : Nat} {nv nv' v : Value} {av : Nat → Value} {out : List Nd} {y : Nd} (h : OwnS w base nv av out) (hv : w.ownsRow base 3 1 v y.args.length (iV y.args)) (hvn : ∀ b, v.ownBlock = some b → nv.ownBlock ≠ some b) (himm : 0 ≤ y.imm ∧ y.imm < 4294967296)
    (hrow : w'.ownsRow base 38 5 nv' (out.length + 1) (rowC out av ++ nodC y v)) (hg : w.grownBy w' nv.ownBlock) (hS : w.heap.size ≤ S) (hloc : nv'.ownBlock = nv.ownBlock ∨ nv'.ownBlock = some S) :
    OwnS w' base nv' (fun i => if i = out.length then v else av i) (out ++ [y]) where
  own := {
    row := by rw [rowC_app, List.length_append, List.length_singleton]; exact hrow
    args := fun i hi => by
      rw [List.length_append, List.length_singleton] at hi
      by_cases e : i = out.length
      · simp only [if_pos e]
        rw [e, getN_last]
        exact ownsRow_keep hv fun b hb => hg.block b (own_lt hv b hb) (fun e => hvn b hb e.symm)
      · simp only [if_neg e]
        rw [getN_app (by omega)]
        exact ownsRow_keep (h.own.args i (by omega)) fun b hb => hg.block b (own_lt (h.own.args i (by omega)) b hb) (fun e => h.sep i (by omega) b hb e.symm)
    imm := fun i hi => by
      rw [List.length_append, List.length_singleton] at hi
      by_cases e : i = out.length
      · rw [e, getN_last]; exact himm
      · rw [getN_app (by omega)]; exact h.own.imm i (by omega) }
  sep := fun i hi b hb => by
    rw [List.length_append, List.length_singleton] at hi
    have h1 : b < w.heap.size ∧ nv.ownBlock ≠ some b := by
      by_cases e : i = out.length
      · simp only [if_pos e] at hb
        exact ⟨own_lt hv b hb, hvn b hb⟩
      · simp only [if_neg e] at hb
        exact ⟨own_lt (h.own.args i (by omega)) b hb, h.sep i (by omega) b hb⟩
    rcases hloc with e | e
    · rw [e]; exact h1.2
    · rw [e]
      intro e2
      injection e2 with e2
      omega
theorem take_snoc {T : List Nd} {i : Nat} (hi : i < T.length) : T.take (i + 1) = T.take i ++ [T[i]!] := by
  rw [List.take_succ_eq_append_getElem hi, getElem!_pos T i hi]
theorem infoNod : ∃ j0, Tryz.prog.info? 38 = some j0 ∧ j0.zero = some (.agg #[.int .i64 0, .int .i64 0, .int .i64 0, .slice none 0 0, .int .u32 0]) ∧ j0.size = 5 ∧ j0.bytes = 56 := info_parts infoN
end Go.Proofs.YtbohigjfdnnomaaGreatDoor
