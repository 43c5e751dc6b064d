/-
  Nodes copied by the reference.
-/
import Derived.Test.YtbohigjfdnnomaaDoorTeTg
import Derived.Maps.AppendAt
namespace Go.Proofs.YtbohigjfdnnomaaDoor
open Go.RowKit

theorem append_none (w : World) (B c : Nat) (ty : TypeId) : (Builtin.append_ #[25, 25] ty #[.slice (some ⟨B, 0, none⟩) 0 0, .slice none 0 c]).run Tryd.prog w = .ok (.slice (some ⟨B, 0, none⟩) 0 0) w := by
  obtain ⟨i0, hi, hz0, hz1, hz2⟩ := info_parts infoI
  simp [Builtin.append_, run_underlying (show Tryd.prog.underlying 25 = some (.slice 3) from Tryd.underlying25), sizeOf, typeInfo, hi, Builtin.lenOf, Builtin.firstCells, loadCells, loadCellsFrom, storeCells]
set_option maxRecDepth 100000 in
/-- All numbers of a slice appended to an empty row. -/
theorem wpList_append_ints {w : World} {ops : Array Oper} {rest : List Oper} {o : Oper} {a : Act} {Q : Exit → Act → World → Prop} (hgd : o.guard = none) (s x : Operand)
    (ho : o.op = .call { callee := .builtin .append, args := #[s, x], argTypes := #[25, 25] })
    (base B : Nat) (hs : a.eval s = .slice (some ⟨B, 0, none⟩) 0 0) (hown : w.ownsRow base 3 1 (.slice (some ⟨B, 0, none⟩) 0 0) 0 []) (hbase : base ≤ w.heap.size)
    {A : Option Addr} {m c : Nat} {l : List Int} (hx : a.eval x = .slice A m c) (hI : Ints w A m c l) (hm : m ≤ 100)
    (h : ∀ A' c' w', w'.ownsRow base 3 1 (.slice A' m c') m (iV l) → w.grownBy w' (some B) → wpList Tryd.prog ops Q rest (a.put o.dst (.slice A' m c')) w') : wpList Tryd.prog ops Q (o :: rest) a w := by
  obtain ⟨i0, hi, hz0, hz1, hz2⟩ := info_parts infoI
  have hl := hI.1
  have key : ∀ ad, A = some ad → (∀ j u, (iV l)[j]? = some u → w.cell? (ad.add j) = some u) → wpList Tryd.prog ops Q (o :: rest) a w := by
    rintro ad rfl hc
    refine wpList_append_own_at w hgd s x 25 ho base 3 i0 (.int .i64 0) 1 8 Tryd.underlying25 hi hz0 hz1 hz2 rfl (by decide) _ 0 [] hs hown ad m c (iV l) hx (by simp [iV]; omega) hc (fun u hu => by obtain ⟨x, _, rfl⟩ := List.mem_map.1 hu; rfl) (by unfold maxLen; omega) (by omega) hbase (fun v' w' h1 h2 _ _ => ?_)
    rw [Nat.zero_add, List.nil_append] at h1
    rcases h1.2 with ⟨rfl, h0⟩ | ⟨g, cap, cur, rfl, -⟩
    · subst h0
      exact h _ _ w' h1 h2
    · exact h _ _ w' h1 h2
  by_cases h0 : m = 0
  · subst h0
    have hl0 : l = [] := List.eq_nil_of_length_eq_zero hl.symm
    cases A with
    | none =>
      refine wpList_plain hgd fun K hK => ?_
      unfold Oper.wp execOp
      simp only [ho, resolve, invoke, builtin, Sem.run_bind, Sem.run_pure, Result.andThen_ok, List.map_toArray, List.map_cons, List.map_nil, hs, hx, append_none]
      refine hK _ _ (h (some ⟨B, 0, none⟩) 0 w ?_ ⟨rfl, rfl, rfl, Nat.le_refl _, fun _ _ _ => rfl⟩)
      rw [hl0]
      exact hown
    | some ad => exact key ad rfl (fun j u hj => by rw [hl0] at hj; simp [iV] at hj)
  · obtain ⟨b, off, rfl, -, -⟩ := hI.at_ (j := 0) (by omega)
    refine key _ rfl fun j u hj => ?_
    have hjm : j < m := by
      have h1 := (List.getElem?_eq_some_iff.1 hj).1
      rw [iV, List.length_map] at h1
      omega
    obtain ⟨b', off', e, -, hc⟩ := hI.at_ hjm
    injection e with e
    injection e with e1 e2 _
    subst e1 e2
    rw [Addr.add_lit, hc]
    have e : (iV l)[j]? = some (Value.int .i64 l[j]!) := by simp [iV, show j < l.length by omega]
    rw [e] at hj
    exact hj
/-- A row of nodes the Args of which lie beside it. -/
structure OwnS (w : World) (base : Nat) (nv : Value) (av : Nat → Value) (out : List Nd) : Prop where
  own : OwnT w base nv av out
  sep : ∀ i, i < out.length → ∀ b, (av i).ownBlock = some b → nv.ownBlock ≠ some b
theorem ownS_nil (w : World) (base : Nat) (av : Nat → Value) : OwnS w base (.slice none 0 0) av [] := ⟨ownT_nil w base av, fun i hi => absurd hi (by simp)⟩
theorem OwnS.below {w w' : World} {base : Nat} {nv : Value} {av : Nat → Value} {out : List Nd} (h : OwnS w base nv av out) (hb : Below w.heap.size w w') : OwnS w' base nv av out :=
  ⟨⟨own_below h.own.row hb, fun i hi => own_below (h.own.args i hi) hb, h.own.imm⟩, h.sep⟩
/-- A node appended. -/
theorem OwnS.snoc {w w' : World} {base S : Nat} {nv nv' v : Value} {av : Nat → Value} {out : List Nd} {y : Nd} (h : OwnS w base nv av out) (hv : w.ownsRow base 3 1 v y.args.length (iV y.args)) (hvn : ∀ b, v.ownBlock = some b → nv.ownBlock ≠ some b) (himm : 0 ≤ y.imm ∧ y.imm < 4294967296)
    (hrow : w'.ownsRow base 47 5 nv' (out.length + 1) (rowC out av ++ nodC y v)) (hg : w.grownBy w' nv.ownBlock) (hS : w.heap.size ≤ S) (hloc : nv'.ownBlock = nv.ownBlock ∨ nv'.ownBlock = some S) :
    OwnS w' base nv' (fun i => if i = out.length then v else av i) (out ++ [y]) where
  own := {
    row := by rw [rowC_app, List.length_append, List.length_singleton]; exact hrow
    args := fun i hi => by
      rw [List.length_append, List.length_singleton] at hi
      by_cases e : i = out.length
      · simp only [if_pos e]
        rw [e, getN_last]
        exact ownsRow_keep hv fun b hb => hg.block b (own_lt hv b hb) (fun e => hvn b hb e.symm)
      · simp only [if_neg e]
        rw [getN_app (by omega)]
        exact ownsRow_keep (h.own.args i (by omega)) fun b hb => hg.block b (own_lt (h.own.args i (by omega)) b hb) (fun e => h.sep i (by omega) b hb e.symm)
    imm := fun i hi => by
      rw [List.length_append, List.length_singleton] at hi
      by_cases e : i = out.length
      · rw [e, getN_last]; exact himm
      · rw [getN_app (by omega)]; exact h.own.imm i (by omega) }
  sep := fun i hi b hb => by
    rw [List.length_append, List.length_singleton] at hi
    have h1 : b < w.heap.size ∧ nv.ownBlock ≠ some b := by
      by_cases e : i = out.length
      · simp only [if_pos e] at hb
        exact ⟨own_lt hv b hb, hvn b hb⟩
      · simp only [if_neg e] at hb
        exact ⟨own_lt (h.own.args i (by omega)) b hb, h.sep i (by omega) b hb⟩
    rcases hloc with e | e
    · rw [e]; exact h1.2
    · rw [e]
      intro e2
      injection e2 with e2
      omega
theorem take_snoc {T : List Nd} {i : Nat} (hi : i < T.length) : T.take (i + 1) = T.take i ++ [T[i]!] := by
  rw [List.take_succ_eq_append_getElem hi, getElem!_pos T i hi]
theorem infoNod : ∃ j0, Tryd.prog.info? 47 = some j0 ∧ j0.zero = some (.agg #[.int .i64 0, .int .i64 0, .int .i64 0, .slice none 0 0, .int .u32 0]) ∧ j0.size = 5 ∧ j0.bytes = 56 := info_parts infoN
set_option maxRecDepth 100000 in
set_option maxHeartbeats 8000000 in
theorem copyNodes_any {w : World} {A : Option Addr} {n c : Nat} {T : List Nd} (h : Term w A n c T) (h300 : n ≤ 1000) (h20 : ∀ k, k < n → T[k]!.args.length ≤ 100) :
    Calls Tryd.prog 23 #[.slice A n c] w fun e w' => ∃ nv av, e = .returned nv ∧ OwnS w' w.heap.size nv av T ∧ Below w.heap.size w w' := by
  obtain ⟨j0, ji, jz0, jz1, jz2⟩ := infoNod
  have hcap := h.2.1
  have hmax := h.2.2.1
  have H := Lib.hid h
  have H20 := Lib.hid h20
  have HN := Lib.hid h.1
  clear h h20
  go_enter Tryd.func23, Tryd.ntmps23
  go_wp2
  go_loopw [3, 4] (fun zl zi wr => ∃ (i : Nat) (av : Nat → Value), i ≤ n ∧ zi = .int .i64 (i : Int) ∧ OwnS wr w.heap.size zl av (T.take i) ∧ Below w.heap.size w wr) (fun _ zi _ => n - (intOf zi).toNat)
  case atStart => exact ⟨0, fun _ => undef, by omega, rfl, by rw [List.take_zero]; exact ownS_nil _ _ _, Below.refl _ _⟩
  case round =>
    obtain ⟨i, av, hi', rfl, hO, hb⟩ := hrel
    by_cases hlt : i < n
    · obtain ⟨b, off, A', n', c', rfl, hg, ⟨a0, a1, a2, a3, a4⟩, hI, him⟩ := (H.out.below hb).at_ hlt
      have hn' : n' ≤ 100 := by have := H20.out i hlt; have := hI.1; omega
      have HTK := Lib.hid (take_snoc (T := T) (i := i) (by rw [← HN.out]; exact hlt))
      have HLEN := Lib.hid (show (T.take i).length = i by rw [List.length_take]; have := HN.out; omega)
      have hcap' := hI.2.1
      have hmax' := hI.2.2.1
      generalize T[i]! = x at a0 a1 a2 a3 a4 hI him hn' HTK
      obtain ⟨op, wid, fl, args, imm⟩ := x
      simp only at a0 a1 a2 a3 a4 hI him hn'
      have hX := heap_alloc_new wr (.cells #[.int .i64 op, .int .i64 wid, .int .i64 fl, .slice A' n' c', .int .u32 imm] 47)
      have hbX : Below wr.heap.size wr (wr.alloc (.cells #[.int .i64 op, .int .i64 wid, .int .i64 fl, .slice A' n' c', .int .u32 imm] 47)) := (Below.refl _ _).alloc (Nat.le_refl _) _
      have hzX : (wr.alloc (.cells #[.int .i64 op, .int .i64 wid, .int .i64 fl, .slice A' n' c', .int .u32 imm] 47)).heap.size = wr.heap.size + 1 := by simp
      go_upto_region 6 with fail
      generalize World.alloc wr _ = W1 at hX hbX hzX ⊢
      clear a0 a1 a2 a3 a4
      obtain ⟨X, hXE⟩ : ∃ X, wr.heap.size = X := ⟨_, rfl⟩
      have HXE := Lib.hid hXE
      have HBX := Lib.hid hbX
      have HZX := Lib.hid hzX
      have HBR := Lib.hid hb
      have HO := Lib.hid hO
      have HI1 := Lib.hid (hI.below hbX)
      rw [hXE] at hX ⊢
      clear hXE hbX hzX hb hO hI
      have hXl := lt_of_block hX
      obtain ⟨d0, d1, d2, d3, d4⟩ := cells5 (x := ⟨op, wid, fl, args, imm⟩) hX
      simp only at d0 d1 d2 d3 d4
      have HD5 := Lib.hid hX
      clear hX d0 d1 d2 d4
      go_wp2_with (at_builtin; refine wpList_append_ints rfl _ _ rfl W1.heap.size W1.heap.size rfl (World.ownsRow_made W1 #[] 0 (Nat.le_refl _) (Nat.zero_le _) rfl) (by simp) rfl (HI1.out.below ((Below.refl _ _).alloc (Nat.le_refl _) _)) hn' ?_)
      intro A5 c5 W3 hown5 hgrow5
      have hX3 := (hgrow5.block X (by simp; omega) (by intro e; injection e with e; omega)).trans ((heap_alloc_old W1 (.cells #[] 3) hXl).trans HD5.out)
      have hs3 := hgrow5.size
      have hX3l := lt_of_block hX3
      have hX3f : W3.frozen? ⟨X, 3, none⟩ = false := by simp [World.frozen?, hX3]
      have hX3c := (cells5 (x := ⟨op, wid, fl, args, imm⟩) hX3).2.2.2.1
      have hnotX : ∀ b', (Value.slice A5 n' c5).ownBlock = some b' → b' ≠ X := fun b' e => by have := own_base hown5 b' e; omega
      go_upto_region 7 with fail
      have hX4 : (W3.setCell ⟨X, 3, none⟩ (.slice A5 n' c5)).heap[X]? = some (.cells #[.int .i64 op, .int .i64 wid, .int .i64 fl, .slice A5 n' c5, .int .u32 imm] 47 (0, 0)) := (heap_setCell_same W3 X 3 _ _ _ hX3).trans rfl
      have hown4 := ownsRow_keep hown5 (w' := W3.setCell ⟨X, 3, none⟩ (.slice A5 n' c5)) (fun b' e => heap_setCell_other W3 ⟨X, 3, none⟩ b' _ (hnotX b' e))
      have hb4 : Below wr.heap.size wr (W3.setCell ⟨X, 3, none⟩ (.slice A5 n' c5)) := ((HBX.out.alloc HBX.out.size _).grown hgrow5 (by have := HBX.out.size; simp; omega) (by intro k hk; injection hk with hk; have := HBX.out.size; omega)).setCell (p := ⟨X, 3, none⟩) (by have := HXE.out; simp only; omega) _
      generalize World.setCell W3 _ _ = W4 at hX4 hown4 hb4 ⊢
      have HO4 := HO.out.below hb4
      have hb4w := HBR.out.trans (hb4.mono HBR.out.size)
      have hXs := HXE.out
      have hvn : ∀ b', (Value.slice A5 n' c5).ownBlock = some b' → u3.ownBlock ≠ some b' := fun b' e e2 => by
        have h1 := own_base hown5 b' e
        have h2 := own_lt HO.out.own.row b' e2
        omega
      have hown4w := ownsRow_mono hown4 (base2 := w.heap.size) (by have := HBR.out.size; omega)
      obtain ⟨d0, d1, d2, d3, d4⟩ := cells5 (x := ⟨op, wid, fl, args, imm⟩) hX4
      simp only at d0 d1 d2 d3 d4
      have hX4l := lt_of_block hX4
      have hrow := own_below HO4.own.row ((Below.refl _ _).alloc (Nat.le_refl W4.heap.size) (.cells #[.int .i64 op, .int .i64 wid, .int .i64 fl, .slice A5 n' c5, .int .u32 imm] 47))
      have HROW := Lib.hid hrow
      clear hX3 hs3 hX3l hX3f hX3c hnotX hX4 hown5 hgrow5 hown4 hXs hrow
      go_wp2_with (at_builtin; refine wpList_append_own_at _ rfl _ _ 22 rfl w.heap.size 47 j0 (.agg #[.int .i64 0, .int .i64 0, .int .i64 0, .slice none 0 0, .int .u32 0]) 5 56 Tryd.underlying22 ji jz0 jz1 jz2 rfl (by decide) _ _ _ rfl HROW.out ⟨W4.heap.size, 0, none⟩ 1 1 (nodC ⟨op, wid, fl, args, imm⟩ (.slice A5 n' c5)) rfl rfl (five_new W4 _ _ _ _ _ _) ?q1 ?q2 ?q3 ?q4 ?_)
      case q1 => intro u hu; simp [nodC] at hu; rcases hu with rfl | rfl | rfl | rfl | rfl <;> rfl
      case q2 => have := HLEN.out; unfold maxLen; omega
      case q3 => have := HLEN.out; omega
      case q4 => have := hb4w.size; simp; omega
      intro v' W6 hrow6 hgrow6 _ hloc6
      have hbA : Below W4.heap.size W4 (W4.alloc (.cells #[.int .i64 op, .int .i64 wid, .int .i64 fl, .slice A5 n' c5, .int .u32 imm] 47)) := (Below.refl _ _).alloc (Nat.le_refl _) _
      have HFIN := Lib.hid ((HO4.below hbA).snoc (y := ⟨op, wid, fl, args, imm⟩) (by have := own_below hown4w hbA; have e := HI1.out.1; rw [← e]; exact this) hvn him (by rw [List.length_take]; exact hrow6) hgrow6 (S := W4.heap.size + 1) (by simp) hloc6)
      have HB6 := Lib.hid ((hb4w.alloc hb4w.size (.cells #[.int .i64 op, .int .i64 wid, .int .i64 fl, .slice A5 n' c5, .int .u32 imm] 47)).grown hgrow6 (by have := hb4w.size; simp; omega) (fun k hk => own_base HO4.own.row k hk))
      clear hrow6 hgrow6 hloc6 hbA d0 d1 d2 d3 d4 hb4 hb4w HO4 hvn hown4w hX4l
      go_wp2
      go_roundw
      case rel => exact ⟨i + 1, _, by omega, by go_num, by rw [HTK.out]; exact HFIN.out, HB6.out⟩
      case measure => simp [intOf]; omega
    · obtain rfl : i = n := by omega
      have HFIN := Lib.hid (show OwnS wr w.heap.size u3 av T by have := hO; rw [List.take_of_length_le (by have := HN.out; omega)] at this; exact this)
      clear hO
      go_wp2
      go_ret
      exact ⟨_, av, rfl, HFIN.out, hb⟩
end Go.Proofs.YtbohigjfdnnomaaDoor
