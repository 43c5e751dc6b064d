/-
  Shared of the reference.
-/
import Derived.Test.YtbohigjfdnnomaaGreatDoorTeTi
namespace Go.Proofs.YtbohigjfdnnomaaGreatDoor
open Go.RowKit

theorem stack_len : ∀ (l : List Nat) (b n : Nat), l.Pairwise (· < ·) → (∀ y ∈ l, b ≤ y ∧ y < n) → l.length ≤ n - b
  | [], _, _, _, _ => Nat.zero_le _
  | x :: l, b, n, hp, h => by
    have h1 := h x (by simp)
    have hp := List.pairwise_cons.1 hp
    have := stack_len l (x + 1) n hp.2 (fun y hy => ⟨by have := hp.1 y hy; omega, (h y (by simp [hy])).2⟩)
    rw [List.length_cons]
    omega
/-- What Shared has in memory. -/
structure ShW (w0 : World) (n R : Nat) (nv : Value) (av : Nat → Value) (out : List Nd) (ov : Value) (st : List Nat) (a : Nat → Int) (w : World) : Prop where
  below : Below w0.heap.size w0 w
  row : RowZ w R n a
  own : OwnS w w0.heap.size nv av out
  stk : w.ownsRow w0.heap.size 3 1 ov st.length (iV (natI st.reverse))
  hR : w0.heap.size ≤ R
  sepR : nv.ownBlock ≠ some R ∧ ov.ownBlock ≠ some R ∧ ∀ i, i < out.length → (av i).ownBlock ≠ some R
  sepO : ∀ b, ov.ownBlock = some b → nv.ownBlock ≠ some b ∧ ∀ i, i < out.length → (av i).ownBlock ≠ some b
  len : out.length + cntN a n ≤ n
theorem own_one (w : World) (base : Nat) (hb : base ≤ w.heap.size) (x : Int) : (w.alloc (.cells #[.int .i64 x] 3)).ownsRow base 3 1 (.slice (some ⟨w.heap.size, 0, none⟩) 1 1) 1 (iV [x]) :=
  ⟨rfl, .inr ⟨w.heap.size, 1, #[.int .i64 x], rfl, hb, heap_alloc_new w _, Nat.le_refl _, by unfold maxLen; omega, rfl, rfl⟩⟩
/-- New blocks change nothing. -/
theorem ShW.grow {w0 : World} {n R : Nat} {nv : Value} {av : Nat → Value} {out : List Nd} {ov : Value} {st : List Nat} {a : Nat → Int} {w w' : World} (h : ShW w0 n R nv av out ov st a w) (hb : Below w.heap.size w w') : ShW w0 n R nv av out ov st a w' where
  below := h.below.trans (hb.mono h.below.size)
  row := h.row.keep (hb.block _ h.row.lt)
  own := h.own.below hb
  stk := own_below h.stk hb
  hR := h.hR
  sepR := h.sepR
  sepO := h.sepO
  len := h.len
theorem OwnS.keep {w w' : World} {base : Nat} {nv : Value} {av : Nat → Value} {out : List Nd} (h : OwnS w base nv av out) (h1 : ∀ b, nv.ownBlock = some b → w'.heap[b]? = w.heap[b]?) (h2 : ∀ i, i < out.length → ∀ b, (av i).ownBlock = some b → w'.heap[b]? = w.heap[b]?) : OwnS w' base nv av out :=
  ⟨⟨ownsRow_keep h.own.row h1, fun i hi => ownsRow_keep (h.own.args i hi) (h2 i hi), h.own.imm⟩, h.sep⟩
theorem natI_len (l : List Nat) : (natI l).length = l.length := by simp [natI]
/-- A number more on the stack. -/
theorem ShW.push {w0 : World} {n R S m : Nat} {nv : Value} {av : Nat → Value} {out : List Nd} {ov ov' : Value} {st : List Nat} {a : Nat → Int} {w w' : World} (h : ShW w0 n R nv av out ov st a w) (hg : w.grownBy w' ov.ownBlock)
    (hstk : w'.ownsRow w0.heap.size 3 1 ov' (st.length + 1) (iV (natI st.reverse) ++ [.int .i64 (m : Int)])) (hS : w.heap.size ≤ S) (hloc : ov'.ownBlock = ov.ownBlock ∨ ov'.ownBlock = some S) : ShW w0 n R nv av out ov' (m :: st) a w' where
  below := h.below.grown hg h.below.size (fun k hk => own_base h.stk k hk)
  row := h.row.keep (hg.block R h.row.lt (fun e => h.sepR.2.1 e.symm))
  own := h.own.keep (fun b hb => hg.block b (own_lt h.own.own.row b hb) (fun e => (h.sepO b e.symm).1 hb)) (fun i hi b hb => hg.block b (own_lt (h.own.own.args i hi) b hb) (fun e => (h.sepO b e.symm).2 i hi hb))
  stk := by
    rw [List.length_cons, List.reverse_cons, natI_snoc, iV_app]
    exact hstk
  hR := h.hR
  sepR := ⟨h.sepR.1, by
    rcases hloc with e | e
    · rw [e]; exact h.sepR.2.1
    · rw [e]; intro e2; injection e2 with e2; have := h.row.lt; omega, h.sepR.2.2⟩
  sepO := fun b hb => by
    rcases hloc with e | e
    · exact h.sepO b (by rw [← e]; exact hb)
    · rw [e] at hb
      injection hb with hb
      subst hb
      exact ⟨fun e2 => by have := own_lt h.own.own.row S e2; omega, fun i hi e2 => by have := own_lt (h.own.own.args i hi) S e2; omega⟩
  len := h.len
/-- The top comes off the stack. -/
theorem ShW.popS {w0 : World} {n R g L cap x : Nat} {nv : Value} {av : Nat → Value} {out : List Nd} {s : List Nat} {a : Nat → Int} {w : World} (h : ShW w0 n R nv av out (.slice (some ⟨g, 0, none⟩) (L + 1) cap) (x :: s) a w) (hL : s.length = L) : ShW w0 n R nv av out (.slice (some ⟨g, 0, none⟩) L cap) s a w where
  below := h.below
  row := h.row
  own := h.own
  stk := by
    have h0 := h.stk
    rcases h0.2 with ⟨h2, _⟩ | ⟨g', cap', cur, h2, h3, h4, h5, h6, h7, h8⟩
    · cases h2
    · injection h2 with h2 _ h2c
      injection h2 with h2
      injection h2 with h2 _
      subst h2 h2c
      refine ⟨by simp [iV, natI], .inr ⟨g, cap, cur, by rw [hL], h3, h4, by rw [List.length_cons] at h5; omega, h6, h7, ?_⟩⟩
      rw [List.reverse_cons, natI_snoc, iV_app, List.length_cons] at h8
      have h9 := congrArg (List.take (s.length * 1)) h8
      rw [List.take_take, Nat.min_eq_left (by omega)] at h9
      rw [h9, List.take_append_of_le_length (by simp [iV, natI])]
      exact List.take_of_length_le (by simp [iV, natI])
  hR := h.hR
  sepR := h.sepR
  sepO := h.sepO
  len := h.len
theorem ShW.move {w0 : World} {n R : Nat} {nv : Value} {av : Nat → Value} {out : List Nd} {ov : Value} {st : List Nat} {a a' : Nat → Int} {w w' : World} (h : ShW w0 n R nv av out ov st a w) (hk : KeepF (fun b => b = R) w w') (hr : RowZ w' R n a') (hl : out.length + cntN a' n ≤ n) : ShW w0 n R nv av out ov st a' w' where
  below := h.below.trans (hk.below (fun b e => by have := h.hR; omega) h.below.size)
  row := hr
  own := h.own.keep (fun b hb => hk.block b (own_lt h.own.own.row b hb) (fun e => h.sepR.1 (by rw [hb, e]))) (fun i hi b hb => hk.block b (own_lt (h.own.own.args i hi) b hb) (fun e => h.sepR.2.2 i hi (by rw [hb, e])))
  stk := ownsRow_keep h.stk (fun b hb => hk.block b (own_lt h.stk b hb) (fun e => h.sepR.2.1 (by rw [hb, e])))
  hR := h.hR
  sepR := h.sepR
  sepO := h.sepO
  len := hl
/-- A node more in the row. -/
theorem ShW.app {w0 : World} {n R S : Nat} {nv nv' v : Value} {av : Nat → Value} {out : List Nd} {y : Nd} {ov : Value} {st : List Nat} {a : Nat → Int} {w w' : World} (h : ShW w0 n R nv av out ov st a w) (hv : w.ownsRow w0.heap.size 3 1 v y.args.length (iV y.args)) (hvn : ∀ b, v.ownBlock = some b → nv.ownBlock ≠ some b ∧ ov.ownBlock ≠ some b ∧ b ≠ R) (himm : 0 ≤ y.imm ∧ y.imm < 4294967296)
    (hrow : w'.ownsRow w0.heap.size 38 5 nv' (out.length + 1) (rowC out av ++ nodC y v)) (hg : w.grownBy w' nv.ownBlock) (hS : w.heap.size ≤ S) (hloc : nv'.ownBlock = nv.ownBlock ∨ nv'.ownBlock = some S) (hl : out.length + 1 + cntN a n ≤ n) :
    ShW w0 n R nv' (fun i => if i = out.length then v else av i) (out ++ [y]) ov st a w' where
  below := h.below.grown hg h.below.size (fun k hk => own_base h.own.own.row k hk)
  row := h.row.keep (hg.block R h.row.lt (fun e => h.sepR.1 e.symm))
  own := h.own.snoc hv (fun b hb => (hvn b hb).1) himm hrow hg hS hloc
  stk := ownsRow_keep h.stk (fun b hb => hg.block b (own_lt h.stk b hb) (fun e => (h.sepO b hb).1 e.symm))
  hR := h.hR
  sepR := ⟨by
    rcases hloc with e | e
    · rw [e]; exact h.sepR.1
    · rw [e]; intro e2; injection e2 with e2; have := h.row.lt; omega, h.sepR.2.1, fun i hi e => by
    rw [List.length_append, List.length_singleton] at hi
    by_cases e2 : i = out.length
    · simp only [if_pos e2] at e
      exact (hvn R e).2.2 rfl
    · simp only [if_neg e2] at e
      exact h.sepR.2.2 i (by omega) e⟩
  sepO := fun b hb => ⟨by
    rcases hloc with e | e
    · rw [e]; exact (h.sepO b hb).1
    · rw [e]; intro e2; injection e2 with e2; have := own_lt h.stk b hb; omega, fun i hi e => by
    rw [List.length_append, List.length_singleton] at hi
    by_cases e2 : i = out.length
    · simp only [if_pos e2] at e
      exact (hvn b e).2.1 hb
    · simp only [if_neg e2] at e
      exact (h.sepO b hb).2 i (by omega) e⟩
  len := by rw [List.length_append, List.length_singleton]; exact hl
theorem top_le {w0 : World} {n R k : Nat} {nv : Value} {av : Nat → Value} {out out2 : List Nd} {ov : Value} {st : List Nat} {a : Nat → Int} {w : World} {T : List Nd} (h : ShW w0 n R nv av out ov st a w) (hm : ShM T n k out2 st a) : topZ ov w ≤ n := by
  cases st with
  | nil =>
    obtain ⟨A, c, rfl, -⟩ := own_ints (l := []) h.stk
    cases A <;> exact Nat.zero_le _
  | cons x s =>
    have := hm.mem x (by simp)
    rw [topZ_row (x := x) (st := natI s.reverse) (by have := h.stk; rw [List.reverse_cons, natI_snoc, List.length_cons] at this; rw [natI_len, List.length_reverse]; exact this)]
    omega
theorem own_ints2 {w : World} {base n c : Nat} {A : Option Addr} {l : List Int} (h : w.ownsRow base 3 1 (.slice A n c) n (iV l)) : Ints w A n c l := by
  obtain ⟨A2, c2, e, h2⟩ := own_ints h
  injection e with e1 _ e3
  subst e1 e3
  exact h2
theorem own_term2 {w : World} {base n c : Nat} {A : Option Addr} {av : Nat → Value} {out : List Nd} (h : OwnT w base (.slice A n c) av out) (hn : out.length = n) : Term w A n c out := by
  obtain ⟨A2, c2, e, h2⟩ := own_term h
  injection e with e1 _ e3
  subst e1 e3
  rw [hn] at h2
  exact h2
theorem cell_eq {w w' : World} {b j : Nat} (h : w'.heap[b]? = w.heap[b]?) : w'.cell? ⟨b, j, none⟩ = w.cell? ⟨b, j, none⟩ := by simp [World.cell?, h]
theorem drop_at {l : List Int} {q : Nat} (h : q < l.length) : l.drop q = l[q]! :: l.drop (q + 1) := by
  rw [List.drop_eq_getElem_cons h, getElem!_pos l q h]
section
variable {w : World} {A : Option Addr} {n c : Nat} {T : List Nd}
set_option maxRecDepth 100000 in
set_option maxHeartbeats 8000000 in
theorem shared_any (h : Term w A n c T) (hdn : Down T) (h100 : ∀ k, k < T.length → T[k]!.args.length ≤ 100) (hbig : n ≤ 100000) {k : Nat} (hk : k < n) :
    Calls Tryz.prog 19 #[.slice A n c, .int .i64 (k : Int)] w fun e w' => ∃ nv av, e = .returned nv ∧ OwnS w' w.heap.size nv av (shF T k) ∧ Below w.heap.size w w' := by
  obtain ⟨j0, ji, jz0, jz1, jz2⟩ := infoNod
  obtain ⟨i0, hi, hz0, hz1, hz2⟩ := info_parts infoI
  have hcap := h.2.1
  have hmax := h.2.2.1
  have H := Lib.hid h
  have HF := Lib.hid hdn
  have H100 := Lib.hid h100
  have HN := Lib.hid h.1
  clear h hdn h100
  go_enter Tryz.func19, Tryz.ntmps19
  go_upto_region 3 with (refine wpList_make_row _ rfl _ _ 35 rfl 3 i0 (.int .i64 0) Tryz.underlying35 hi hz0 hz1 rfl .i64 .i64 n rfl rfl (by rw [hz2]; omega) (by omega) ?_)
  have hR0 : RowZ (w.alloc (.cells (madeCells #[.int .i64 0] n) 3)) w.heap.size n (fun _ => 0) := ⟨_, heap_alloc_new w _, size_madeCells _ _, fun j hj => by simp [madeCells, hj, Nat.mod_one]⟩
  have hb0 := (Below.refl w.heap.size w).alloc (Nat.le_refl _) (.cells (madeCells #[.int .i64 0] n) 3)
  generalize World.alloc w _ = W1 at hR0 hb0 ⊢
  obtain ⟨R, hRE⟩ : ∃ R, w.heap.size = R := ⟨_, rfl⟩
  have HRE := Lib.hid hRE
  rw [hRE] at hR0
  have hRR : (⟨w.heap.size, 0, none⟩ : Addr) = ⟨R, 0, none⟩ := by rw [hRE]
  rw [hRR]
  clear hRE hRR
  go_upto_region 4 with fail
  go_loopw [7] (fun zi wr => ∃ i : Nat, i ≤ n ∧ zi = .int .i64 (i : Int) ∧ Below w.heap.size w wr ∧ RowZ wr R n (fun j => if j < i then -1 else 0)) (fun zi _ => n - (intOf zi).toNat)
  case atStart => exact ⟨0, by omega, rfl, hb0, by simpa using hR0⟩
  case round =>
    clear hb0 hR0
    obtain ⟨i, hin, rfl, hbw, hrw⟩ := hrel
    by_cases hlt : i < n
    · obtain ⟨hrc, hrf⟩ := hrw.cell hlt
      have hrl := hrw.lt
      have HP' := Lib.hid (hrw.put i (-1))
      have HBW := Lib.hid (hbw.setCell (p := ⟨R, i, none⟩) (by have := HRE.out; simp only; omega) (.int .i64 (-1)))
      go_wp2
      go_roundw
      case rel =>
        refine ⟨i + 1, by omega, by go_num, HBW.out, ?_⟩
        obtain ⟨arr, g1, g2, g3⟩ := HP'.out
        refine ⟨arr, g1, g2, fun j hj => (g3 j hj).trans ?_⟩
        simp only [updZ]
        by_cases e : j = i
        · rw [if_pos e, if_pos (by omega)]
        · rw [if_neg e]
          by_cases e2 : j < i
          · rw [if_pos e2, if_pos (by omega)]
          · rw [if_neg e2, if_neg (by omega)]
      case measure => simp [intOf]; omega
    · obtain rfl : i = n := by omega
      go_upto_region 8 with fail
      have hst := own_one wr w.heap.size hbw.size (k : Int)
      have hr2 := hrw.keep (heap_alloc_old wr (.cells #[.int .i64 (k : Int)] 3) hrw.lt)
      have hb2 := hbw.alloc hbw.size (.cells #[.int .i64 (k : Int)] 3)
      have hne : wr.heap.size ≠ R := by have := hrw.lt; omega
      generalize World.alloc wr _ = W2 at hst hr2 hb2 ⊢
      have HW0 := Lib.hid (show ShW w i R (.slice none 0 0) (fun _ => undef) [] (.slice (some ⟨wr.heap.size, 0, none⟩) 1 1) [k] (fun j => if j < i then -1 else 0) W2 from {
        below := hb2
        row := hr2
        own := ownS_nil _ _ _
        stk := hst
        hR := by have := HRE.out; omega
        sepR := ⟨by simp [Value.ownBlock], by simpa [Value.ownBlock] using hne, fun j hj => absurd hj (by simp)⟩
        sepO := fun b _ => ⟨by simp [Value.ownBlock], fun j hj => absurd hj (by simp)⟩
        len := by have := cntN_le (fun j => if j < i then -1 else 0) i; simpa using this })
      have HM0 := Lib.hid (show ShM T i k [] [k] (fun j => if j < i then -1 else 0) from {
        once := once_nil
        inv := fun j hj h => by rw [if_pos hj] at h; omega
        mem := fun x hx => by
          rw [List.mem_singleton] at hx
          subst hx
          exact ⟨hk, by rw [if_pos hk]; omega⟩
        chain := (shM_start hk (T := T)).chain
        fold := rfl
        pw := (shM_start hk (T := T)).pw })
      clear hst hr2 hb2 hne hrw hbw hlt
      generalize Value.slice (some ⟨wr.heap.size, 0, none⟩) 1 1 = ov0 at HW0 ⊢
      generalize (fun j => if j < i then (-1 : Int) else 0) = a0 at HW0 HM0
      go_loopw [5, 8] (fun nv ov wr => ∃ (av : Nat → Value) (out : List Nd) (st : List Nat) (a : Nat → Int), ShW w i R nv av out ov st a wr ∧ Hid (ShM T i k out st a)) (fun _ ov wr => mesZ R i ov wr)
      case atStart => exact ⟨_, [], [k], a0, HW0.out, HM0⟩
      case round =>
        clear HW0 HM0
        obtain ⟨av, out, st, a, hW, HM⟩ := hrel
        cases st with
        | nil =>
          have HFIN := Lib.hid (show OwnS wr w.heap.size u5 av (shF T k) by
            have e : out = shF T k := HM.out.fold
            rw [← e]
            exact hW.own)
          have HB := Lib.hid hW.below
          obtain ⟨AO, cO, rfl, -⟩ := own_ints (l := []) hW.stk
          clear hW HM
          rw [List.length_nil]
          go_wp2
          go_ret
          exact ⟨_, av, rfl, HFIN.out, HB.out⟩
        | cons x s =>
          obtain ⟨g, cap, rfl, hcap1, hcap2, hgl, hgc⟩ := own_at (l := natI (x :: s).reverse) hW.stk (by simp)
          have hgx := hgc s.length (by simp)
          rw [show (natI (x :: s).reverse)[s.length]! = (x : Int) by simp [natI]] at hgx
          have hx := HM.out.mem x (by simp)
          have HPW := Lib.hid (show s.length + 1 ≤ i by
            have := stack_len (x :: s) 0 i HM.out.pw (fun y hy => ⟨Nat.zero_le _, (HM.out.mem y hy).1⟩)
            simpa using this)
          have hlen := HPW.out
          obtain ⟨b, off, A', n', c', rfl, hbs0, ht0, hI0, him⟩ := H.out.at_ hx.1
          have hbs := Nat.lt_of_lt_of_le hbs0 hW.below.size
          obtain ⟨t0, t1, t2, t3, t4⟩ := ht0.below hbs0 hW.below
          have hI := hI0.below hW.below
          have HDN := Lib.hid (HF.out x (by rw [← HN.out]; exact hx.1))
          have HLE := Lib.hid (H100.out x (by rw [← HN.out]; exact hx.1))
          have HPUSH := Lib.hid (fun m hm => HM.out.push HF.out HN.out (m := m) hm)
          have HPOP := Lib.hid (HM.out.pop HF.out HN.out)
          have HX := Lib.hid hx
          have HW := Lib.hid hW
          have HII := Lib.hid hI
          have HIM := Lib.hid him
          have hcapI := hI.2.1
          have hmaxI := hI.2.2.1
          have hx1 := hx.1
          clear hgc hbs0 ht0 hI0 hI him hx hW
          rw [List.length_cons] at hcap1 ⊢
          obtain ⟨L, hL⟩ : ∃ L, s.length = L := ⟨_, rfl⟩
          have HLL := Lib.hid hL
          rw [hL] at hgx hcap1 hlen HPW ⊢
          replace HW := Lib.hid (show ShW w i R u5 av out (.slice (some ⟨g, 0, none⟩) (L + 1) cap) (x :: s) a wr by have := HW.out; rw [List.length_cons, hL] at this; exact this)
          clear hL
          unfold placed at HPOP
          generalize T[x]! = y at t0 t1 t2 t3 t4 HDN HLE HPUSH HPOP HII HIM
          obtain ⟨op, wid, fl, args, imm⟩ := y
          simp only at t0 t1 t2 t3 t4 HDN HLE HPUSH HPOP HII HIM
          have hXb := heap_alloc_new wr (.cells #[.int .i64 op, .int .i64 wid, .int .i64 fl, .slice A' n' c', .int .u32 imm] 38)
          have hbX : Below wr.heap.size wr (wr.alloc (.cells #[.int .i64 op, .int .i64 wid, .int .i64 fl, .slice A' n' c', .int .u32 imm] 38)) := (Below.refl _ _).alloc (Nat.le_refl _) _
          have hzX : (wr.alloc (.cells #[.int .i64 op, .int .i64 wid, .int .i64 fl, .slice A' n' c', .int .u32 imm] 38)).heap.size = wr.heap.size + 1 := by simp
          go_upto_region 12 with fail
          generalize World.alloc wr _ = W3 at hXb hbX hzX ⊢
          obtain ⟨X, hXE⟩ : ∃ X, wr.heap.size = X := ⟨_, rfl⟩
          have HXE := Lib.hid hXE
          have HBX := Lib.hid hbX
          have HZX := Lib.hid hzX
          rw [hXE] at hXb ⊢
          have hXl := lt_of_block hXb
          have hX3 := (cells5 (x := ⟨op, wid, fl, args, imm⟩) hXb).2.2.2.1
          have HXB := Lib.hid hXb
          clear hXE hbX hzX hXb t0 t1 t2 t3 t4
          go_upto_region 13 with fail
          go_loopw [11, 12] (fun zm zi wq => ∃ (q : Nat) (z : Int), q ≤ n' ∧ z = (q : Int) - 1 ∧ zi = .int .i64 z ∧ zm = .int .i64 (firstNeg a (args.drop q)) ∧ Below W3.heap.size W3 wq) (fun _ zi _ => (intOf zi + 1).toNat)
          case atStart =>
            exact ⟨n', _, Nat.le_refl _, rfl, by go_num, by rw [List.drop_eq_nil_of_le (by have := HII.out.1; omega)]; rfl, Below.refl _ _⟩
          case round =>
            obtain ⟨q, z, hq, hz, rfl, rfl, hbq⟩ := hrel
            rename World => wq
            have hXq := (hbq.block _ hXl).trans HXB.out
            have hXql := lt_of_block hXq
            have hXq3 := (cells5 (x := ⟨op, wid, fl, args, imm⟩) hXq).2.2.2.1
            clear hXl hX3
            have HWQ := Lib.hid ((HW.out.grow HBX.out).grow hbq)
            cases q with
            | zero =>
              obtain rfl : z = -1 := by omega
              have HZ3 := Lib.hid hbq.size
              clear hz hq
              rw [List.drop_zero]
              by_cases hm : 0 ≤ firstNeg a args
              · obtain ⟨m, hmm⟩ : ∃ m : Nat, firstNeg a args = (m : Int) := ⟨_, (Int.toNat_of_nonneg hm).symm⟩
                have HP := Lib.hid (HPUSH.out m hmm)
                rw [hmm]
                clear hm hmm
                have hbA1 : Below wq.heap.size wq (wq.alloc (.cells #[.int .i64 (m : Int)] 3)) := (Below.refl _ _).alloc (Nat.le_refl _) _
                have HWA := Lib.hid (HWQ.out.grow hbA1)
                have HSTA := Lib.hid (show (wq.alloc (.cells #[.int .i64 (m : Int)] 3)).ownsRow w.heap.size 3 1 (.slice (some ⟨g, 0, none⟩) (L + 1) cap) (L + 1) (iV (natI (x :: s).reverse)) by have := HWA.out.stk; rw [List.length_cons, HLL.out] at this; exact this)
                have HSZ := Lib.hid (show w.heap.size ≤ (wq.alloc (.cells #[.int .i64 (m : Int)] 3)).heap.size from HWA.out.below.size)
                clear hbA1
                go_wp2_with (at_builtin; refine wpList_append_own_at _ rfl _ _ 35 rfl w.heap.size 3 i0 (.int .i64 0) 1 8 Tryz.underlying35 hi hz0 hz1 hz2 rfl (by decide) _ _ _ rfl HSTA.out ⟨wq.heap.size, 0, none⟩ 1 1 [.int .i64 (m : Int)] rfl rfl (one_new wq _ _) ?q1 ?q2 ?q3 ?q4 ?_)
                case q1 => intro u hu; simp at hu; rcases hu with rfl; rfl
                case q2 => unfold maxLen; omega
                case q3 => omega
                case q4 => exact HSZ.out
                intro v' W6 hrow6 hgrow6 _ hloc6
                have HFIN := Lib.hid (HWA.out.push (m := m) (ov' := v') hgrow6 (by rw [List.length_cons, HLL.out, List.reverse_cons]; exact hrow6) (S := wq.heap.size + 1) (by simp) hloc6)
                have HMES := Lib.hid (show mesZ R i v' W6 < mesZ R i (.slice (some ⟨g, 0, none⟩) (L + 1) cap) wr from by
                  unfold mesZ
                  rw [cellZ_row HFIN.out.row, cellZ_row HW.out.row, topZ_row (x := m) (st := natI (x :: s).reverse) (by have := HFIN.out.stk; rw [List.reverse_cons, natI_snoc, List.length_cons] at this; rw [natI_len, List.length_reverse]; exact this), topZ_row (x := x) (st := natI s.reverse) (by have := HW.out.stk; rw [List.reverse_cons, natI_snoc, List.length_cons] at this; rw [natI_len, List.length_reverse]; exact this)]
                  have := HP.out.2
                  omega)
                clear hrow6 hgrow6 hloc6
                go_wp2
                go_roundw
                case rel => exact ⟨av, out, m :: x :: s, a, HFIN.out, Lib.hid HP.out.1⟩
                case measure => exact HMES.out
              · have HP := Lib.hid (HPOP.out (by omega))
                have e1 : decide (0 ≤ firstNeg a args) = false := decide_eq_false hm
                clear hm HPOP HPUSH
                generalize firstNeg a args = fm at e1 ⊢
                obtain ⟨x0, x1, x2, -, x4⟩ := cells5 (x := ⟨op, wid, fl, args, imm⟩) hXq
                have HXQ := Lib.hid hXq
                have HBQ := Lib.hid hbq
                have hYb := heap_alloc_new wq (.cells #[.int .i64 op, .int .i64 wid, .int .i64 fl, .slice none 0 0, .int .u32 imm] 38)
                have hbY : Below wq.heap.size wq (wq.alloc (.cells #[.int .i64 op, .int .i64 wid, .int .i64 fl, .slice none 0 0, .int .u32 imm] 38)) := (Below.refl _ _).alloc (Nat.le_refl _) _
                have hzY : (wq.alloc (.cells #[.int .i64 op, .int .i64 wid, .int .i64 fl, .slice none 0 0, .int .u32 imm] 38)).heap.size = wq.heap.size + 1 := by simp
                clear hXq hbq
                go_upto_region 21 with fail
                generalize World.alloc wq _ = W5 at hYb hbY hzY ⊢
                obtain ⟨Y, hYE⟩ : ∃ Y, wq.heap.size = Y := ⟨_, rfl⟩
                have HYE := Lib.hid hYE
                have HBY := Lib.hid hbY
                rw [hYE] at hYb hzY ⊢
                clear hYE x0 x1 x2 x4 hXq3 hXql hbY
                go_upto_region 22 with fail
                go_loopw [14] (fun zi wv => ∃ (q : Nat) (vl : Value), q ≤ n' ∧ zi = .int .i64 (q : Int) ∧ Hid (Below wq.heap.size wq wv) ∧ wv.heap[Y]? = some (.cells #[.int .i64 op, .int .i64 wid, .int .i64 fl, vl, .int .u32 imm] 38 (0, 0)) ∧ wv.ownsRow (Y + 1) 3 1 vl q (iV ((args.take q).map fun y => a y.toNat)) ∧ Y + 1 ≤ wv.heap.size) (fun zi _ => n' - (intOf zi).toNat)
                case atStart => exact ⟨0, .slice none 0 0, Nat.zero_le _, rfl, HBY, hYb, by rw [List.take_zero]; exact World.ownsRow_nil _ _ _ _, by omega⟩
                case round =>
                  clear hYb hzY
                  obtain ⟨q, vl, hq, rfl, HBV, hYv, hown, hsv⟩ := hrel
                  rename World => wv
                  have HWV := Lib.hid (HWQ.out.grow HBV.out)
                  have HYV := Lib.hid hYv
                  have hXv := (HBV.out.block X (lt_of_block HXQ.out)).trans HXQ.out
                  have hXvl := lt_of_block hXv
                  have hXv3 := (cells5 (x := ⟨op, wid, fl, args, imm⟩) hXv).2.2.2.1
                  by_cases hqn : q < n'
                  · obtain ⟨r, hr, hrx⟩ := HDN.out q (by have := HII.out.1; omega)
                    obtain ⟨bA, oA, rfl, hbA0, hcA0⟩ := ((HII.out.below HBX.out).below HBQ.out).at_ hqn
                    have hbAl : bA < Y := by have := HYE.out; omega
                    have hbA := Nat.lt_of_lt_of_le hbA0 HBV.out.size
                    have hcA := (HBV.out.cell (p := ⟨bA, oA + q, none⟩) hbA0).trans hcA0
                    clear hbA0 hcA0
                    obtain ⟨hrc, hrf⟩ := HWV.out.row.cell (j := r) (by omega)
                    have hrl := HWV.out.row.lt
                    obtain ⟨Av, cv, rfl, hcv, hcvm⟩ := own_slice hown
                    have hYl := lt_of_block hYv
                    have hYc : wv.cell? ⟨Y, 3, none⟩ = some (.slice Av q cv) := by simp [World.cell?, hYv]
                    rw [hr] at hcA
                    have HOWN := Lib.hid hown
                    have HTS := Lib.hid (show (args.take (q + 1)).map (fun y => a y.toNat) = (args.take q).map (fun y => a y.toNat) ++ [a r] by
                      have := HII.out.1
                      have e : args[q]? = some (r : Int) := by rw [List.getElem?_eq_getElem (show q < args.length by omega), ← hr, getElem!_pos args q (by omega)]
                      rw [List.take_add_one, e, List.map_append]
                      simp)
                    generalize hak : a r = ar at hrc HTS
                    clear hr hak hown hYv hXv
                    have hri : r < i := by omega
                    have hn3 : n' ≤ 100 := by have := HLE.out; have := HII.out.1; omega
                    go_upto_region 24 with fail
                    have HFIN := Lib.hid (fun A9 c9 (w9 : World) (h1 : w9.ownsRow (Y + 1) 3 1 (.slice A9 (q + 1) c9) (q + 1) (iV ((args.take q).map fun y => a y.toNat) ++ [.int .i64 ar])) (h2 : (wv.alloc (.cells #[.int .i64 ar] 3)).grownBy w9 (Value.slice Av q cv).ownBlock) =>
                      (show Below wq.heap.size wq (w9.setCell ⟨Y, 3, none⟩ (.slice A9 (q + 1) c9)) ∧ (w9.setCell ⟨Y, 3, none⟩ (.slice A9 (q + 1) c9)).heap[Y]? = some (.cells #[.int .i64 op, .int .i64 wid, .int .i64 fl, .slice A9 (q + 1) c9, .int .u32 imm] 38 (0, 0)) ∧ (w9.setCell ⟨Y, 3, none⟩ (.slice A9 (q + 1) c9)).ownsRow (Y + 1) 3 1 (.slice A9 (q + 1) c9) (q + 1) (iV ((args.take (q + 1)).map fun y => a y.toNat)) ∧ Y + 1 ≤ (w9.setCell ⟨Y, 3, none⟩ (.slice A9 (q + 1) c9)).heap.size from by
                        have hks := keep_set w9 Y 3 (.slice A9 (q + 1) c9)
                        have hvD : ∀ b', (Value.slice Av q cv).ownBlock = some b' → Y + 1 ≤ b' := fun b' e => own_base HOWN.out b' e
                        have hY9 := (h2.block Y (by simp; omega) (fun e => by have := hvD Y e.symm; omega)).trans ((heap_alloc_old wv (.cells #[.int .i64 ar] 3) hYl).trans HYV.out)
                        refine ⟨((HBV.out.alloc HBV.out.size _).grown h2 (by have := HBV.out.size; simp; omega) (fun b' e => by have := hvD b' e; have := HYE.out; omega)).setCell (p := ⟨Y, 3, none⟩) (by have := HYE.out; simp only; omega) _, (heap_setCell_same w9 Y 3 _ _ _ hY9).trans rfl, ?_, ?_⟩
                        · rw [HTS.out, iV_app]
                          exact ownsRow_keep h1 (fun b' e => hks.block b' (own_lt h1 b' e) (fun e2 => by have := own_base h1 b' e; omega))
                        · have h3 := h2.size
                          have h4 := hks.size
                          have h5 : (wv.alloc (.cells #[.int .i64 ar] 3)).heap.size = wv.heap.size + 1 := by simp
                          omega))
                    have hXlt : X < Y := by have := lt_of_block HXQ.out; have := HYE.out; omega
                    have hRlt : R < Y := by have := HWQ.out.row.lt; have := HYE.out; omega
                    have HS := Lib.hid (fun (U : World) (hU : ∀ b', b' < Y → U.heap[b']? = wv.heap[b']?) => (⟨(cell_eq (hU X hXlt)).trans hXv3, (cell_eq (hU bA hbAl)).trans hcA, (cell_eq (hU R hRlt)).trans hrc⟩ : U.cell? ⟨X, 3, none⟩ = some (.slice (some ⟨bA, oA, none⟩) n' c') ∧ U.cell? ⟨bA, oA + q, none⟩ = some (.int .i64 (r : Int)) ∧ U.cell? ⟨R, r, none⟩ = some (.int .i64 ar)))
                    refine wp_region_held_drew (S := (fun U => U.cell? ⟨X, 3, none⟩ = some (.slice (some ⟨bA, oA, none⟩) n' c') ∧ U.cell? ⟨bA, oA + q, none⟩ = some (.int .i64 (r : Int)) ∧ U.cell? ⟨R, r, none⟩ = some (.int .i64 ar))) (by kernel_rfl) ?_ (fun hHeld => ?_)
                    · exact HS.out _ (by first | exact fun _ _ => rfl | exact fun b' hb' => heap_alloc_old wv _ (by omega) | exact hU9 | exact hU10)
                    refine wpAnyH_take (i := 0) (oi := ({ dst := some 92, op := Op.fieldAddr 38 (Operand.tmp 13) 3, type := 0, pos := "ref.go:209", after := #[], guard := none } : Oper)) (v := ?a1_v0) rfl (by kernel_rfl) (by kernel_rfl) (by kernel_rfl) (fun _ _ _ h => h) (Or.inl ⟨by rfl, ?a1_y0⟩) (by assumption) ?a1_r0
                    case a1_y0 =>
                      intro w hSw
                      (try dsimp only at hSw)
                      go_simp
                      (try with_reducible rfl)
                    try simp only [Act.put, List.setIfInBounds_toArray, List.set_cons_zero, List.set_cons_succ]
                    refine wpAnyH_take (i := 2) (oi := ({ dst := some 94, op := Op.move (Operand.tmp 6), type := 35, pos := "ref.go:209", after := #[], guard := none } : Oper)) (v := ?a2_v2) rfl (by kernel_rfl) (by kernel_rfl) (by kernel_rfl) (fun _ _ _ h => h) (Or.inl ⟨by rfl, ?a2_y2⟩) (by assumption) ?a2_r2
                    case a2_y2 =>
                      intro w hSw
                      (try dsimp only at hSw)
                      go_simp
                      (try with_reducible rfl)
                    try simp only [Act.put, List.setIfInBounds_toArray, List.set_cons_zero, List.set_cons_succ]
                    refine wpAnyH_take (i := 3) (oi := ({ dst := some 95, op := Op.fieldAddr 38 (Operand.tmp 10) 3, type := 0, pos := "ref.go:209", after := #[], guard := none } : Oper)) (v := ?a3_v3) rfl (by kernel_rfl) (by kernel_rfl) (by kernel_rfl) (fun _ _ _ h => h) (Or.inl ⟨by rfl, ?a3_y3⟩) (by assumption) ?a3_r3
                    case a3_y3 =>
                      intro w hSw
                      (try dsimp only at hSw)
                      go_simp
                      (try with_reducible rfl)
                    try simp only [Act.put, List.setIfInBounds_toArray, List.set_cons_zero, List.set_cons_succ]
                    refine wpAnyH_take (i := 4) (oi := ({ dst := some 96, op := Op.load 35 (Operand.tmp 95), type := 35, pos := "ref.go:209", after := #[{ on := 3, ground := Ground.data }], guard := none } : Oper)) (v := ?a4_v4) rfl (by kernel_rfl) (by kernel_rfl) (by kernel_rfl) (fun _ _ _ h => h) (Or.inl ⟨by rfl, ?a4_y4⟩) (by assumption) ?a4_r4
                    case a4_y4 =>
                      intro w hSw
                      (try dsimp only at hSw)
                      go_simp
                      (try with_reducible rfl)
                    try simp only [Act.put, List.setIfInBounds_toArray, List.set_cons_zero, List.set_cons_succ]
                    refine wpAnyH_take (i := 5) (oi := ({ dst := some 97, op := Op.move (Operand.tmp 14), type := 3, pos := "ref.go:209", after := #[], guard := none } : Oper)) (v := ?a5_v5) rfl (by kernel_rfl) (by kernel_rfl) (by kernel_rfl) (fun _ _ _ h => h) (Or.inl ⟨by rfl, ?a5_y5⟩) (by assumption) ?a5_r5
                    case a5_y5 =>
                      intro w hSw
                      (try dsimp only at hSw)
                      go_simp
                      (try with_reducible rfl)
                    try simp only [Act.put, List.setIfInBounds_toArray, List.set_cons_zero, List.set_cons_succ]
                    refine wpAnyH_take (i := 6) (oi := ({ dst := some 98, op := Op.indexAddr 35 (Operand.tmp 96) (Operand.tmp 97), type := 0, pos := "ref.go:209", after := #[{ on := 4, ground := Ground.data }, { on := 5, ground := Ground.data }], guard := none } : Oper)) (v := ?a6_v6) rfl (by kernel_rfl) (by kernel_rfl) (by kernel_rfl) (fun _ _ _ h => h) (Or.inl ⟨by rfl, ?a6_y6⟩) (by assumption) ?a6_r6
                    case a6_y6 =>
                      intro w hSw
                      (try dsimp only at hSw)
                      go_simp
                      (try with_reducible rfl)
                    try simp only [Act.put, List.setIfInBounds_toArray, List.set_cons_zero, List.set_cons_succ]
                    refine wpAnyH_take (i := 7) (oi := ({ dst := some 99, op := Op.load 3 (Operand.tmp 98), type := 3, pos := "ref.go:209", after := #[{ on := 6, ground := Ground.data }], guard := none } : Oper)) (v := ?a7_v7) rfl (by kernel_rfl) (by kernel_rfl) (by kernel_rfl) (fun _ _ _ h => h) (Or.inl ⟨by rfl, ?a7_y7⟩) (by assumption) ?a7_r7
                    case a7_y7 =>
                      intro w hSw
                      (try dsimp only at hSw)
                      go_simp
                      (try with_reducible rfl)
                    try simp only [Act.put, List.setIfInBounds_toArray, List.set_cons_zero, List.set_cons_succ]
                    refine wpAnyH_take (i := 8) (oi := ({ dst := some 100, op := Op.indexAddr 35 (Operand.tmp 94) (Operand.tmp 99), type := 0, pos := "ref.go:209", after := #[{ on := 2, ground := Ground.data }, { on := 7, ground := Ground.data }], guard := none } : Oper)) (v := ?a8_v8) rfl (by kernel_rfl) (by kernel_rfl) (by kernel_rfl) (fun _ _ _ h => h) (Or.inl ⟨by rfl, ?a8_y8⟩) (by assumption) ?a8_r8
                    case a8_y8 =>
                      intro w hSw
                      (try dsimp only at hSw)
                      go_simp
                      (try with_reducible rfl)
                    try simp only [Act.put, List.setIfInBounds_toArray, List.set_cons_zero, List.set_cons_succ]
                    refine wpAnyH_take (i := 9) (oi := ({ dst := some 101, op := Op.load 3 (Operand.tmp 100), type := 3, pos := "ref.go:209", after := #[{ on := 8, ground := Ground.data }], guard := none } : Oper)) (v := ?a9_v9) rfl (by kernel_rfl) (by kernel_rfl) (by kernel_rfl) (fun _ _ _ h => h) (Or.inl ⟨by rfl, ?a9_y9⟩) (by assumption) ?a9_r9
                    case a9_y9 =>
                      intro w hSw
                      (try dsimp only at hSw)
                      go_simp
                      (try with_reducible rfl)
                    try simp only [Act.put, List.setIfInBounds_toArray, List.set_cons_zero, List.set_cons_succ]
                    refine wpAnyH_ready (rs := [1, 10]) (by kernel_rfl) (by simp) ?_
                    refine AllReadyH.cons (o := ({ dst := some 93, op := Op.load 35 (Operand.tmp 92), type := 35, pos := "ref.go:209", after := #[{ on := 0, ground := Ground.data }], guard := none } : Oper)) rfl (fun K hKK => ?ab10_1) (AllReadyH.cons (o := ({ dst := some 102, op := Op.buildSlice 35 1 #[(0, Operand.tmp 101)], type := 35, pos := "ref.go:209", after := #[{ on := 9, ground := Ground.data }], guard := none } : Oper)) rfl (fun K hKK => ?ab10_10) AllReadyH.nil)
                    case ab10_1 =>
                      go_simp
                      refine hKK.out _ _ (HS.out _ (by first | exact fun _ _ => rfl | exact fun b' hb' => heap_alloc_old wv _ (by omega) | exact hU9 | exact hU10)) (fun hS1_10 => ?_)
                      try simp only [Act.put, List.setIfInBounds_toArray, List.set_cons_zero, List.set_cons_succ]
                      refine wpAnyH_ready (rs := [10]) (by kernel_rfl) (by simp) ?_
                      refine AllReadyH.cons (o := ({ dst := some 102, op := Op.buildSlice 35 1 #[(0, Operand.tmp 101)], type := 35, pos := "ref.go:209", after := #[{ on := 9, ground := Ground.data }], guard := none } : Oper)) rfl (fun K hKK => ?_) AllReadyH.nil
                      go_simp
                      refine hKK.out _ _ (HS.out _ (by first | exact fun _ _ => rfl | exact fun b' hb' => heap_alloc_old wv _ (by omega) | exact hU9 | exact hU10)) (fun hS10_10 => ?_)
                      try simp only [Act.put, List.setIfInBounds_toArray, List.set_cons_zero, List.set_cons_succ]
                      refine wpAnyH_ready (rs := [11]) (by kernel_rfl) (by simp) ?_
                      refine AllReadyH.cons (o := ({ dst := some 103, op := Op.call { callee := Callee.builtin Builtin.append, args := #[Operand.tmp 93, Operand.tmp 102], argTypes := #[35, 35] }, type := 35, pos := "ref.go:209", after := #[{ on := 1, ground := Ground.data }, { on := 10, ground := Ground.data }], guard := none } : Oper)) rfl (fun K hKK => ?_) AllReadyH.nil
                      rw [if_pos (by kernel_rfl)]
                      refine wp_append_at _ _ 35 rfl (Y + 1) 3 i0 (.int .i64 0) 1 8 Tryz.underlying35 hi hz0 hz1 hz2 rfl (by decide) _ _ _ rfl ((HOWN.out.alloc _).drew) ⟨wv.heap.size, 0, none⟩ 1 1 [.int .i64 ar] rfl rfl (one_new wv _ _) ?q1 ?q2 ?q3 ?q4 (fun v9 w9 hown9 hgrow9 _ hloc9 => ?_)
                      case q1 => intro u hu; simp at hu; rcases hu with rfl; rfl
                      case q2 => unfold maxLen; omega
                      case q3 => omega
                      case q4 => show _ ≤ (wv.alloc _).heap.size; simp; omega
                      obtain ⟨A9, c9, rfl, -, -⟩ := own_slice hown9
                      have hY9 : w9.heap[Y]? = _ := (hgrow9.block Y (by show Y < (wv.alloc _).heap.size; simp; omega) (fun e => by have := own_base HOWN.out Y e.symm; omega)).trans ((heap_alloc_old wv (.cells #[.int .i64 ar] 3) hYl).trans HYV.out)
                      have hU9 : ∀ b', b' < Y → w9.heap[b']? = wv.heap[b']? := fun b' hb' => (hgrow9.block b' (by show b' < (wv.alloc _).heap.size; simp; omega) (fun e => by have := own_base HOWN.out b' e.symm; omega)).trans (heap_alloc_old wv (.cells #[.int .i64 ar] 3) (by omega))
                      have hU10 : ∀ b', b' < Y → (w9.setCell ⟨Y, 3, none⟩ (.slice A9 (q + 1) c9)).heap[b']? = wv.heap[b']? := fun b' hb' => (heap_setCell_other w9 ⟨Y, 3, none⟩ b' _ (by simp only; omega)).trans (hU9 b' hb')
                      have hY9l := lt_of_block hY9
                      have hY9c : w9.cell? ⟨Y, 3, none⟩ = some (.slice Av q cv) := by simp [World.cell?, hY9]
                      have hY9f : w9.frozen? ⟨Y, 3, none⟩ = false := by simp [World.frozen?, hY9]
                      have HF9 := Lib.hid (HFIN.out A9 c9 w9 hown9 ⟨hgrow9.os, hgrow9.tape, hgrow9.output, hgrow9.size, hgrow9.block⟩)
                      refine hKK.out _ _ (HS.out _ (by first | exact fun _ _ => rfl | exact fun b' hb' => heap_alloc_old wv _ (by omega) | exact hU9 | exact hU10)) (fun hS11_10 => ?_)
                      try simp only [Act.put, List.setIfInBounds_toArray, List.set_cons_zero, List.set_cons_succ]
                      refine wpAnyH_take (i := 12) (oi := ({ dst := some 104, op := Op.fieldAddr 38 (Operand.tmp 13) 3, type := 0, pos := "ref.go:209", after := #[{ on := 0, ground := Ground.phase }, { on := 1, ground := Ground.phase }, { on := 2, ground := Ground.phase }, { on := 3, ground := Ground.phase }, { on := 4, ground := Ground.phase }, { on := 5, ground := Ground.phase }, { on := 6, ground := Ground.phase }, { on := 7, ground := Ground.phase }, { on := 8, ground := Ground.phase }, { on := 9, ground := Ground.phase }, { on := 10, ground := Ground.phase }, { on := 11, ground := Ground.phase }], guard := none } : Oper)) (v := ?a11_v12) rfl (by kernel_rfl) (by kernel_rfl) (by kernel_rfl) (fun _ _ _ h => h) (Or.inl ⟨by rfl, ?a11_y12⟩) (by assumption) ?a11_r12
                      case a11_y12 =>
                        intro w hSw
                        (try dsimp only at hSw)
                        go_simp
                        (try with_reducible rfl)
                      try simp only [Act.put, List.setIfInBounds_toArray, List.set_cons_zero, List.set_cons_succ]
                      refine wpAnyH_ready (rs := [13]) (by kernel_rfl) (by simp) ?_
                      refine AllReadyH.cons (o := ({ dst := none, op := Op.store 35 (Operand.tmp 104) (Operand.tmp 103), type := 0, pos := "ref.go:209", after := #[{ on := 12, ground := Ground.data }, { on := 11, ground := Ground.data }, { on := 11, ground := Ground.chain }, { on := 0, ground := Ground.phase }, { on := 1, ground := Ground.phase }, { on := 2, ground := Ground.phase }, { on := 3, ground := Ground.phase }, { on := 4, ground := Ground.phase }, { on := 5, ground := Ground.phase }, { on := 6, ground := Ground.phase }, { on := 7, ground := Ground.phase }, { on := 8, ground := Ground.phase }, { on := 9, ground := Ground.phase }, { on := 10, ground := Ground.phase }, { on := 11, ground := Ground.phase }], guard := none } : Oper)) rfl (fun K hKK => ?_) AllReadyH.nil
                      go_simp
                      refine hKK.out _ _ (HS.out _ (by first | exact fun _ _ => rfl | exact fun b' hb' => heap_alloc_old wv _ (by omega) | exact hU9 | exact hU10)) (fun hS13_11 => ?_)
                      try simp only [Act.put, List.setIfInBounds_toArray, List.set_cons_zero, List.set_cons_succ]
                      refine wpAnyH_done (by kernel_rfl) ?_ _
                      clear hY9 hU9 hU10 hY9l hY9c hY9f hown9 hgrow9 hloc9
                      go_wp2
                      go_roundw
                      case rel => exact ⟨q + 1, _, by omega, by go_num, Lib.hid HF9.out.1, HF9.out.2.1, HF9.out.2.2.1, HF9.out.2.2.2⟩
                      case measure => simp [intOf]; omega
                    case ab10_10 =>
                      go_simp
                      refine hKK.out _ _ (HS.out _ (by first | exact fun _ _ => rfl | exact fun b' hb' => heap_alloc_old wv _ (by omega) | exact hU9 | exact hU10)) (fun hS10_11 => ?_)
                      try simp only [Act.put, List.setIfInBounds_toArray, List.set_cons_zero, List.set_cons_succ]
                      refine wpAnyH_ready (rs := [1]) (by kernel_rfl) (by simp) ?_
                      refine AllReadyH.cons (o := ({ dst := some 93, op := Op.load 35 (Operand.tmp 92), type := 35, pos := "ref.go:209", after := #[{ on := 0, ground := Ground.data }], guard := none } : Oper)) rfl (fun K hKK => ?_) AllReadyH.nil
                      go_simp
                      refine hKK.out _ _ (HS.out _ (by first | exact fun _ _ => rfl | exact fun b' hb' => heap_alloc_old wv _ (by omega) | exact hU9 | exact hU10)) (fun hS1_11 => ?_)
                      try simp only [Act.put, List.setIfInBounds_toArray, List.set_cons_zero, List.set_cons_succ]
                      refine wpAnyH_ready (rs := [11]) (by kernel_rfl) (by simp) ?_
                      refine AllReadyH.cons (o := ({ dst := some 103, op := Op.call { callee := Callee.builtin Builtin.append, args := #[Operand.tmp 93, Operand.tmp 102], argTypes := #[35, 35] }, type := 35, pos := "ref.go:209", after := #[{ on := 1, ground := Ground.data }, { on := 10, ground := Ground.data }], guard := none } : Oper)) rfl (fun K hKK => ?_) AllReadyH.nil
                      rw [if_pos (by kernel_rfl)]
                      refine wp_append_at _ _ 35 rfl (Y + 1) 3 i0 (.int .i64 0) 1 8 Tryz.underlying35 hi hz0 hz1 hz2 rfl (by decide) _ _ _ rfl ((HOWN.out.alloc _).drew) ⟨wv.heap.size, 0, none⟩ 1 1 [.int .i64 ar] rfl rfl (one_new wv _ _) ?q1 ?q2 ?q3 ?q4 (fun v9 w9 hown9 hgrow9 _ hloc9 => ?_)
                      case q1 => intro u hu; simp at hu; rcases hu with rfl; rfl
                      case q2 => unfold maxLen; omega
                      case q3 => omega
                      case q4 => show _ ≤ (wv.alloc _).heap.size; simp; omega
                      obtain ⟨A9, c9, rfl, -, -⟩ := own_slice hown9
                      have hY9 : w9.heap[Y]? = _ := (hgrow9.block Y (by show Y < (wv.alloc _).heap.size; simp; omega) (fun e => by have := own_base HOWN.out Y e.symm; omega)).trans ((heap_alloc_old wv (.cells #[.int .i64 ar] 3) hYl).trans HYV.out)
                      have hU9 : ∀ b', b' < Y → w9.heap[b']? = wv.heap[b']? := fun b' hb' => (hgrow9.block b' (by show b' < (wv.alloc _).heap.size; simp; omega) (fun e => by have := own_base HOWN.out b' e.symm; omega)).trans (heap_alloc_old wv (.cells #[.int .i64 ar] 3) (by omega))
                      have hU10 : ∀ b', b' < Y → (w9.setCell ⟨Y, 3, none⟩ (.slice A9 (q + 1) c9)).heap[b']? = wv.heap[b']? := fun b' hb' => (heap_setCell_other w9 ⟨Y, 3, none⟩ b' _ (by simp only; omega)).trans (hU9 b' hb')
                      have hY9l := lt_of_block hY9
                      have hY9c : w9.cell? ⟨Y, 3, none⟩ = some (.slice Av q cv) := by simp [World.cell?, hY9]
                      have hY9f : w9.frozen? ⟨Y, 3, none⟩ = false := by simp [World.frozen?, hY9]
                      have HF9 := Lib.hid (HFIN.out A9 c9 w9 hown9 ⟨hgrow9.os, hgrow9.tape, hgrow9.output, hgrow9.size, hgrow9.block⟩)
                      refine hKK.out _ _ (HS.out _ (by first | exact fun _ _ => rfl | exact fun b' hb' => heap_alloc_old wv _ (by omega) | exact hU9 | exact hU10)) (fun hS11_11 => ?_)
                      try simp only [Act.put, List.setIfInBounds_toArray, List.set_cons_zero, List.set_cons_succ]
                      refine wpAnyH_take (i := 12) (oi := ({ dst := some 104, op := Op.fieldAddr 38 (Operand.tmp 13) 3, type := 0, pos := "ref.go:209", after := #[{ on := 0, ground := Ground.phase }, { on := 1, ground := Ground.phase }, { on := 2, ground := Ground.phase }, { on := 3, ground := Ground.phase }, { on := 4, ground := Ground.phase }, { on := 5, ground := Ground.phase }, { on := 6, ground := Ground.phase }, { on := 7, ground := Ground.phase }, { on := 8, ground := Ground.phase }, { on := 9, ground := Ground.phase }, { on := 10, ground := Ground.phase }, { on := 11, ground := Ground.phase }], guard := none } : Oper)) (v := ?a12_v12) rfl (by kernel_rfl) (by kernel_rfl) (by kernel_rfl) (fun _ _ _ h => h) (Or.inl ⟨by rfl, ?a12_y12⟩) (by assumption) ?a12_r12
                      case a12_y12 =>
                        intro w hSw
                        (try dsimp only at hSw)
                        go_simp
                        (try with_reducible rfl)
                      try simp only [Act.put, List.setIfInBounds_toArray, List.set_cons_zero, List.set_cons_succ]
                      refine wpAnyH_ready (rs := [13]) (by kernel_rfl) (by simp) ?_
                      refine AllReadyH.cons (o := ({ dst := none, op := Op.store 35 (Operand.tmp 104) (Operand.tmp 103), type := 0, pos := "ref.go:209", after := #[{ on := 12, ground := Ground.data }, { on := 11, ground := Ground.data }, { on := 11, ground := Ground.chain }, { on := 0, ground := Ground.phase }, { on := 1, ground := Ground.phase }, { on := 2, ground := Ground.phase }, { on := 3, ground := Ground.phase }, { on := 4, ground := Ground.phase }, { on := 5, ground := Ground.phase }, { on := 6, ground := Ground.phase }, { on := 7, ground := Ground.phase }, { on := 8, ground := Ground.phase }, { on := 9, ground := Ground.phase }, { on := 10, ground := Ground.phase }, { on := 11, ground := Ground.phase }], guard := none } : Oper)) rfl (fun K hKK => ?_) AllReadyH.nil
                      go_simp
                      refine hKK.out _ _ (HS.out _ (by first | exact fun _ _ => rfl | exact fun b' hb' => heap_alloc_old wv _ (by omega) | exact hU9 | exact hU10)) (fun hS13_12 => ?_)
                      try simp only [Act.put, List.setIfInBounds_toArray, List.set_cons_zero, List.set_cons_succ]
                      refine wpAnyH_done (by kernel_rfl) ?_ _
                      clear hY9 hU9 hU10 hY9l hY9c hY9f hown9 hgrow9 hloc9
                      go_wp2
                      go_roundw
                      case rel => exact ⟨q + 1, _, by omega, by go_num, Lib.hid HF9.out.1, HF9.out.2.1, HF9.out.2.2.1, HF9.out.2.2.2⟩
                      case measure => simp [intOf]; omega
                  · obtain rfl : q = n' := by omega
                    have hown2 : wv.ownsRow (Y + 1) 3 1 vl q (iV (args.map fun y => a y.toNat)) := by
                      have := hown
                      rw [List.take_of_length_le (by have := HII.out.1; omega)] at this
                      exact this
                    generalize (args.map fun y => a y.toNat) = args2 at hown2 HP
                    obtain ⟨AV, cV, rfl, hIV⟩ := own_ints hown2
                    have HIX := Lib.hid (And.intro (ix_le out ⟨op, wid, fl, args2, imm⟩) (And.intro (fun (j : Nat) (h : j < ix out ⟨op, wid, fl, args2, imm⟩) => ix_first h) (fun (h : ix out ⟨op, wid, fl, args2, imm⟩ < out.length) => ix_get h)))
                    have HAD := Lib.hid (And.intro (fun h => addP_old (out := out) (y := ⟨op, wid, fl, args2, imm⟩) h) (fun h => addP_new (out := out) (y := ⟨op, wid, fl, args2, imm⟩) h))
                    generalize addP out ⟨op, wid, fl, args2, imm⟩ = out2 at HP HAD
                    generalize ix out ⟨op, wid, fl, args2, imm⟩ = I at HP HIX HAD
                    have HWP := Lib.hid (HWV.out.popS HLL.out)
                    obtain ⟨A2, c2, rfl, hTM⟩ := own_term HWP.out.own.own
                    have HCN := Lib.hid (fun (z : Int) (hz : 0 ≤ z) => cntN_put (a := a) (k := x) (x := z) HX.out.2 hz i hx1)
                    have HTM := Lib.hid hTM
                    have HVI := Lib.hid hIV
                    have HOV := Lib.hid hown2
                    have hcap2 := hTM.2.1
                    have hmax2 := hTM.2.2.1
                    have hlenI : out.length ≤ i := by have := HWP.out.len; omega
                    clear hown hown2 hIV hTM hYv hqn
                    obtain ⟨N, hNE⟩ : ∃ N, out.length = N := ⟨_, rfl⟩
                    have HNE := Lib.hid hNE
                    rw [hNE] at hcap2 hlenI ⊢
                    clear hNE
                    go_upto_region 26 with fail
                    clear hXv hXvl hXv3
                    go_loopw [15] (fun zi w2 => ∃ j : Nat, j ≤ N ∧ zi = .int .i64 (j : Int) ∧ Hid (KeepF (fun b => b = R) wv w2) ∧ ((Hid (j ≤ I) ∧ RowZ w2 R i a) ∨ (Hid (j = I + 1 ∧ I < N) ∧ RowZ w2 R i (updZ a x (I : Int))))) (fun zi _ => N - (intOf zi).toNat)
                    case atStart => exact ⟨0, Nat.zero_le _, rfl, Lib.hid (KeepF.refl _ _), .inl ⟨Lib.hid (Nat.zero_le _), HWV.out.row⟩⟩
                    case round =>
                      obtain ⟨j, hj, rfl, HK, hcase⟩ := hrel
                      rename World => w2
                      rcases hcase with ⟨HJ, hrow⟩ | ⟨HJ, hrow⟩
                      · obtain ⟨hrc, hrf⟩ := hrow.cell (j := x) hx1
                        have hrl := hrow.lt
                        have HROW := Lib.hid hrow
                        have e2 : decide (a x < 0) = true := decide_eq_true HX.out.2
                        have HAX := Lib.hid (show a x = a x from rfl)
                        clear hrow
                        by_cases hjn : j < N
                        · have HW2 := Lib.hid (HWP.out.move HK.out HROW.out HWP.out.len)
                          have hYR : Y ≠ R := by have := HWQ.out.row.lt; have := HYE.out; omega
                          have hY2 := (HK.out.block Y (by omega) hYR).trans HYV.out
                          have hYl2 := lt_of_block hY2
                          obtain ⟨f0, f1, f2, f3, f4⟩ := cells5 (x := ⟨op, wid, fl, args2, imm⟩) hY2
                          have hIV2 := own_ints2 (ownsRow_keep HOV.out (w' := w2) (fun b' e => HK.out.block b' (own_lt HOV.out b' e) (fun e2 => by have := own_base HOV.out b' e; have := HWQ.out.row.lt; have := HYE.out; omega)))
                          have hTN := own_term2 HW2.out.own.own rfl
                          rw [HNE.out] at hTN
                          obtain ⟨bO, oO, AO, nO, cO, rfl, hgO, ⟨d0, d1, d2, d3, d4⟩, hIO, -⟩ := hTN.at_ hjn
                          have HC := Lib.hid (fun w3 (hb3 : Below w2.heap.size w2 w3) => sameNode_any (y := ⟨op, wid, fl, args2, imm⟩) (hIO.below hb3) (hIV2.below hb3))
                          have HYES := Lib.hid (show out[j]! = ⟨op, wid, fl, args2, imm⟩ → j = I from fun e => by
                            have h1 := HJ.out
                            have h2 := HIX.out.2.1 j
                            have h3 : ¬ j < I := fun h => h2 h e
                            omega)
                          have HNOT := Lib.hid (show out[j]! ≠ ⟨op, wid, fl, args2, imm⟩ → j + 1 ≤ I from fun e => by
                            have h1 := HJ.out
                            have h2 : j ≠ I := fun h => by subst h; exact e (HIX.out.2.2 (by rw [HNE.out]; exact hjn))
                            omega)
                          clear hIV2 hIO hTN hY2
                          generalize out[j]! = xj at d0 d1 d2 d3 d4 HC HYES HNOT
                          by_cases e : xj = ⟨op, wid, fl, args2, imm⟩
                          · have HJI := Lib.hid (HYES.out e)
                            have e3 : decide (xj = ⟨op, wid, fl, args2, imm⟩) = true := decide_eq_true e
                            rw [e3] at HC
                            clear e e3 HYES HNOT
                            obtain ⟨op2, wid2, fl2, args3, imm2⟩ := xj
                            simp only at d0 d1 d2 d3 d4 f0 f1 f2 f3 f4 HC
                            have HS := Lib.hid (fun U (hU : Below w2.heap.size w2 U) => (⟨⟨(hU.cell (p := ⟨bO, oO + j * 5, none⟩) hgO).trans d0, (hU.cell (p := ⟨bO, oO + j * 5 + 1, none⟩) hgO).trans d1, (hU.cell (p := ⟨bO, oO + j * 5 + 2, none⟩) hgO).trans d2, (hU.cell (p := ⟨bO, oO + j * 5 + 3, none⟩) hgO).trans d3, (hU.cell (p := ⟨bO, oO + j * 5 + 4, none⟩) hgO).trans d4⟩, (hU.cell (p := ⟨Y, 0, none⟩) hYl2).trans f0, (hU.cell (p := ⟨Y, 1, none⟩) hYl2).trans f1, (hU.cell (p := ⟨Y, 2, none⟩) hYl2).trans f2, (hU.cell (p := ⟨Y, 3, none⟩) hYl2).trans f3, (hU.cell (p := ⟨Y, 4, none⟩) hYl2).trans f4⟩ : (U.cell? ⟨bO, oO + j * 5, none⟩ = some (.int .i64 op2) ∧ U.cell? ⟨bO, oO + j * 5 + 1, none⟩ = some (.int .i64 wid2) ∧ U.cell? ⟨bO, oO + j * 5 + 2, none⟩ = some (.int .i64 fl2) ∧ U.cell? ⟨bO, oO + j * 5 + 3, none⟩ = some (.slice AO nO cO) ∧ U.cell? ⟨bO, oO + j * 5 + 4, none⟩ = some (.int .u32 imm2)) ∧ U.cell? ⟨Y, 0, none⟩ = some (.int .i64 op) ∧ U.cell? ⟨Y, 1, none⟩ = some (.int .i64 wid) ∧ U.cell? ⟨Y, 2, none⟩ = some (.int .i64 fl) ∧ U.cell? ⟨Y, 3, none⟩ = some (.slice AV q cV) ∧ U.cell? ⟨Y, 4, none⟩ = some (.int .u32 imm)))
                            go_upto_region 28 with fail
                            refine wp_region_held_drew (S := (fun U => (U.cell? ⟨bO, oO + j * 5, none⟩ = some (.int .i64 op2) ∧ U.cell? ⟨bO, oO + j * 5 + 1, none⟩ = some (.int .i64 wid2) ∧ U.cell? ⟨bO, oO + j * 5 + 2, none⟩ = some (.int .i64 fl2) ∧ U.cell? ⟨bO, oO + j * 5 + 3, none⟩ = some (.slice AO nO cO) ∧ U.cell? ⟨bO, oO + j * 5 + 4, none⟩ = some (.int .u32 imm2)) ∧ U.cell? ⟨Y, 0, none⟩ = some (.int .i64 op) ∧ U.cell? ⟨Y, 1, none⟩ = some (.int .i64 wid) ∧ U.cell? ⟨Y, 2, none⟩ = some (.int .i64 fl) ∧ U.cell? ⟨Y, 3, none⟩ = some (.slice AV q cV) ∧ U.cell? ⟨Y, 4, none⟩ = some (.int .u32 imm))) (by kernel_rfl) ?_ (fun hHeld => ?_)
                            · exact HS.out _ (by first | exact Below.refl _ _ | exact drewD (Below.refl _ _) | exact drewR (Below.refl _ _) | exact hw3 | exact drewD hw3 | exact drewR hw3)
                            refine wpAnyH_take (i := 0) (oi := ({ dst := some 118, op := Op.move (Operand.tmp 5), type := 22, pos := "ref.go:212", after := #[], guard := none } : Oper)) (v := ?b1_v0) rfl (by kernel_rfl) (by kernel_rfl) (by kernel_rfl) (fun _ _ _ h => h) (Or.inl ⟨by rfl, ?b1_y0⟩) (by assumption) ?b1_r0
                            case b1_y0 =>
                              intro w hSw
                              (try dsimp only at hSw)
                              go_simp
                              (try with_reducible rfl)
                            try simp only [Act.put, List.setIfInBounds_toArray, List.set_cons_zero, List.set_cons_succ]
                            refine wpAnyH_take (i := 1) (oi := ({ dst := some 119, op := Op.move (Operand.tmp 15), type := 3, pos := "ref.go:212", after := #[], guard := none } : Oper)) (v := ?b2_v1) rfl (by kernel_rfl) (by kernel_rfl) (by kernel_rfl) (fun _ _ _ h => h) (Or.inl ⟨by rfl, ?b2_y1⟩) (by assumption) ?b2_r1
                            case b2_y1 =>
                              intro w hSw
                              (try dsimp only at hSw)
                              go_simp
                              (try with_reducible rfl)
                            try simp only [Act.put, List.setIfInBounds_toArray, List.set_cons_zero, List.set_cons_succ]
                            refine wpAnyH_take (i := 2) (oi := ({ dst := some 120, op := Op.indexAddr 22 (Operand.tmp 118) (Operand.tmp 119), type := 0, pos := "ref.go:212", after := #[{ on := 0, ground := Ground.data }, { on := 1, ground := Ground.data }], guard := none } : Oper)) (v := ?b3_v2) rfl (by kernel_rfl) (by kernel_rfl) (by kernel_rfl) (fun _ _ _ h => h) (Or.inl ⟨by rfl, ?b3_y2⟩) (by assumption) ?b3_r2
                            case b3_y2 =>
                              intro w hSw
                              (try dsimp only at hSw)
                              go_simp
                              (try with_reducible rfl)
                            try simp only [Act.put, List.setIfInBounds_toArray, List.set_cons_zero, List.set_cons_succ]
                            refine wpAnyH_take (i := 3) (oi := ({ dst := some 121, op := Op.load 38 (Operand.tmp 120), type := 38, pos := "ref.go:212", after := #[{ on := 2, ground := Ground.data }], guard := none } : Oper)) (v := ?b4_v3) rfl (by kernel_rfl) (by kernel_rfl) (by kernel_rfl) (fun _ _ _ h => h) (Or.inl ⟨by rfl, ?b4_y3⟩) (by assumption) ?b4_r3
                            case b4_y3 =>
                              intro w hSw
                              (try dsimp only at hSw)
                              go_simp
                              (try with_reducible rfl)
                            try simp only [Act.put, List.setIfInBounds_toArray, List.set_cons_zero, List.set_cons_succ]
                            refine wpAnyH_take (i := 4) (oi := ({ dst := some 122, op := Op.load 38 (Operand.tmp 13), type := 38, pos := "ref.go:212", after := #[], guard := none } : Oper)) (v := ?b5_v4) rfl (by kernel_rfl) (by kernel_rfl) (by kernel_rfl) (fun _ _ _ h => h) (Or.inl ⟨by rfl, ?b5_y4⟩) (by assumption) ?b5_r4
                            case b5_y4 =>
                              intro w hSw
                              (try dsimp only at hSw)
                              go_simp
                              (try with_reducible rfl)
                            try simp only [Act.put, List.setIfInBounds_toArray, List.set_cons_zero, List.set_cons_succ]
                            refine wpAnyH_ready (rs := [5]) (by kernel_rfl) (by simp) ?_
                            refine AllReadyH.cons (o := ({ dst := some 123, op := Op.call { callee := Callee.value (Operand.func 34), args := #[Operand.tmp 121, Operand.tmp 122], argTypes := #[38, 38] }, type := 4, pos := "ref.go:212", after := #[{ on := 3, ground := Ground.data }, { on := 4, ground := Ground.data }], guard := none } : Oper)) rfl (fun K hKK => ?_) AllReadyH.nil
                            go_simp
                            refine (HC.out _ (by first | exact Below.refl _ _ | exact drewD (Below.refl _ _) | exact drewR (Below.refl _ _) | exact hw3 | exact drewD hw3 | exact drewR hw3)).mono ?_
                            rintro e w3 ⟨rfl, hb3⟩
                            have hw3 : Below w2.heap.size w2 w3 := ⟨hb3.os, hb3.tape, hb3.output, hb3.size, hb3.block⟩
                            refine hKK.out _ _ (HS.out _ (by first | exact Below.refl _ _ | exact drewD (Below.refl _ _) | exact drewR (Below.refl _ _) | exact hw3 | exact drewD hw3 | exact drewR hw3)) (fun hS5_5 => ?_)
                            try simp only [Act.put, List.setIfInBounds_toArray, List.set_cons_zero, List.set_cons_succ]
                            refine wpAnyH_done (by kernel_rfl) ?_ _
                            have hrow3 := HROW.out.keep (hw3.block R hrl)
                            obtain ⟨hrc3, hrf3⟩ := hrow3.cell (j := x) hx1
                            have hrl3 := hrow3.lt
                            have HK3 := Lib.hid (HK.out.trans (keep_of_below (F := fun _ => False) hw3) (fun _ e => e.elim))
                            have HP3 := Lib.hid (hrow3.put x (j : Int))
                            have HK4 := Lib.hid (HK3.out.trans (keep_set w3 R x (.int .i64 (j : Int))) (fun b' e => .inl e))
                            clear hrow3 hw3 hb3 d0 d1 d2 d3 d4 f0 f1 f2 f3 f4
                            go_wp2
                            go_roundw
                            case rel => exact ⟨j + 1, by omega, by go_num, HK4, .inr ⟨Lib.hid (by have := HJI.out; exact ⟨by omega, by omega⟩), by rw [← HJI.out]; exact HP3.out⟩⟩
                            case measure => simp [intOf]; omega
                          · have HJI := Lib.hid (HNOT.out e)
                            have e3 : decide (xj = ⟨op, wid, fl, args2, imm⟩) = false := decide_eq_false e
                            rw [e3] at HC
                            clear e e3 HYES HNOT
                            obtain ⟨op2, wid2, fl2, args3, imm2⟩ := xj
                            simp only at d0 d1 d2 d3 d4 f0 f1 f2 f3 f4 HC
                            have HS := Lib.hid (fun U (hU : Below w2.heap.size w2 U) => (⟨⟨(hU.cell (p := ⟨bO, oO + j * 5, none⟩) hgO).trans d0, (hU.cell (p := ⟨bO, oO + j * 5 + 1, none⟩) hgO).trans d1, (hU.cell (p := ⟨bO, oO + j * 5 + 2, none⟩) hgO).trans d2, (hU.cell (p := ⟨bO, oO + j * 5 + 3, none⟩) hgO).trans d3, (hU.cell (p := ⟨bO, oO + j * 5 + 4, none⟩) hgO).trans d4⟩, (hU.cell (p := ⟨Y, 0, none⟩) hYl2).trans f0, (hU.cell (p := ⟨Y, 1, none⟩) hYl2).trans f1, (hU.cell (p := ⟨Y, 2, none⟩) hYl2).trans f2, (hU.cell (p := ⟨Y, 3, none⟩) hYl2).trans f3, (hU.cell (p := ⟨Y, 4, none⟩) hYl2).trans f4⟩ : (U.cell? ⟨bO, oO + j * 5, none⟩ = some (.int .i64 op2) ∧ U.cell? ⟨bO, oO + j * 5 + 1, none⟩ = some (.int .i64 wid2) ∧ U.cell? ⟨bO, oO + j * 5 + 2, none⟩ = some (.int .i64 fl2) ∧ U.cell? ⟨bO, oO + j * 5 + 3, none⟩ = some (.slice AO nO cO) ∧ U.cell? ⟨bO, oO + j * 5 + 4, none⟩ = some (.int .u32 imm2)) ∧ U.cell? ⟨Y, 0, none⟩ = some (.int .i64 op) ∧ U.cell? ⟨Y, 1, none⟩ = some (.int .i64 wid) ∧ U.cell? ⟨Y, 2, none⟩ = some (.int .i64 fl) ∧ U.cell? ⟨Y, 3, none⟩ = some (.slice AV q cV) ∧ U.cell? ⟨Y, 4, none⟩ = some (.int .u32 imm)))
                            go_upto_region 28 with fail
                            refine wp_region_held_drew (S := (fun U => (U.cell? ⟨bO, oO + j * 5, none⟩ = some (.int .i64 op2) ∧ U.cell? ⟨bO, oO + j * 5 + 1, none⟩ = some (.int .i64 wid2) ∧ U.cell? ⟨bO, oO + j * 5 + 2, none⟩ = some (.int .i64 fl2) ∧ U.cell? ⟨bO, oO + j * 5 + 3, none⟩ = some (.slice AO nO cO) ∧ U.cell? ⟨bO, oO + j * 5 + 4, none⟩ = some (.int .u32 imm2)) ∧ U.cell? ⟨Y, 0, none⟩ = some (.int .i64 op) ∧ U.cell? ⟨Y, 1, none⟩ = some (.int .i64 wid) ∧ U.cell? ⟨Y, 2, none⟩ = some (.int .i64 fl) ∧ U.cell? ⟨Y, 3, none⟩ = some (.slice AV q cV) ∧ U.cell? ⟨Y, 4, none⟩ = some (.int .u32 imm))) (by kernel_rfl) ?_ (fun hHeld => ?_)
                            · exact HS.out _ (by first | exact Below.refl _ _ | exact drewD (Below.refl _ _) | exact drewR (Below.refl _ _) | exact hw3 | exact drewD hw3 | exact drewR hw3)
                            refine wpAnyH_take (i := 0) (oi := ({ dst := some 118, op := Op.move (Operand.tmp 5), type := 22, pos := "ref.go:212", after := #[], guard := none } : Oper)) (v := ?c1_v0) rfl (by kernel_rfl) (by kernel_rfl) (by kernel_rfl) (fun _ _ _ h => h) (Or.inl ⟨by rfl, ?c1_y0⟩) (by assumption) ?c1_r0
                            case c1_y0 =>
                              intro w hSw
                              (try dsimp only at hSw)
                              go_simp
                              (try with_reducible rfl)
                            try simp only [Act.put, List.setIfInBounds_toArray, List.set_cons_zero, List.set_cons_succ]
                            refine wpAnyH_take (i := 1) (oi := ({ dst := some 119, op := Op.move (Operand.tmp 15), type := 3, pos := "ref.go:212", after := #[], guard := none } : Oper)) (v := ?c2_v1) rfl (by kernel_rfl) (by kernel_rfl) (by kernel_rfl) (fun _ _ _ h => h) (Or.inl ⟨by rfl, ?c2_y1⟩) (by assumption) ?c2_r1
                            case c2_y1 =>
                              intro w hSw
                              (try dsimp only at hSw)
                              go_simp
                              (try with_reducible rfl)
                            try simp only [Act.put, List.setIfInBounds_toArray, List.set_cons_zero, List.set_cons_succ]
                            refine wpAnyH_take (i := 2) (oi := ({ dst := some 120, op := Op.indexAddr 22 (Operand.tmp 118) (Operand.tmp 119), type := 0, pos := "ref.go:212", after := #[{ on := 0, ground := Ground.data }, { on := 1, ground := Ground.data }], guard := none } : Oper)) (v := ?c3_v2) rfl (by kernel_rfl) (by kernel_rfl) (by kernel_rfl) (fun _ _ _ h => h) (Or.inl ⟨by rfl, ?c3_y2⟩) (by assumption) ?c3_r2
                            case c3_y2 =>
                              intro w hSw
                              (try dsimp only at hSw)
                              go_simp
                              (try with_reducible rfl)
                            try simp only [Act.put, List.setIfInBounds_toArray, List.set_cons_zero, List.set_cons_succ]
                            refine wpAnyH_take (i := 3) (oi := ({ dst := some 121, op := Op.load 38 (Operand.tmp 120), type := 38, pos := "ref.go:212", after := #[{ on := 2, ground := Ground.data }], guard := none } : Oper)) (v := ?c4_v3) rfl (by kernel_rfl) (by kernel_rfl) (by kernel_rfl) (fun _ _ _ h => h) (Or.inl ⟨by rfl, ?c4_y3⟩) (by assumption) ?c4_r3
                            case c4_y3 =>
                              intro w hSw
                              (try dsimp only at hSw)
                              go_simp
                              (try with_reducible rfl)
                            try simp only [Act.put, List.setIfInBounds_toArray, List.set_cons_zero, List.set_cons_succ]
                            refine wpAnyH_take (i := 4) (oi := ({ dst := some 122, op := Op.load 38 (Operand.tmp 13), type := 38, pos := "ref.go:212", after := #[], guard := none } : Oper)) (v := ?c5_v4) rfl (by kernel_rfl) (by kernel_rfl) (by kernel_rfl) (fun _ _ _ h => h) (Or.inl ⟨by rfl, ?c5_y4⟩) (by assumption) ?c5_r4
                            case c5_y4 =>
                              intro w hSw
                              (try dsimp only at hSw)
                              go_simp
                              (try with_reducible rfl)
                            try simp only [Act.put, List.setIfInBounds_toArray, List.set_cons_zero, List.set_cons_succ]
                            refine wpAnyH_ready (rs := [5]) (by kernel_rfl) (by simp) ?_
                            refine AllReadyH.cons (o := ({ dst := some 123, op := Op.call { callee := Callee.value (Operand.func 34), args := #[Operand.tmp 121, Operand.tmp 122], argTypes := #[38, 38] }, type := 4, pos := "ref.go:212", after := #[{ on := 3, ground := Ground.data }, { on := 4, ground := Ground.data }], guard := none } : Oper)) rfl (fun K hKK => ?_) AllReadyH.nil
                            go_simp
                            refine (HC.out _ (by first | exact Below.refl _ _ | exact drewD (Below.refl _ _) | exact drewR (Below.refl _ _) | exact hw3 | exact drewD hw3 | exact drewR hw3)).mono ?_
                            rintro e w3 ⟨rfl, hb3⟩
                            have hw3 : Below w2.heap.size w2 w3 := ⟨hb3.os, hb3.tape, hb3.output, hb3.size, hb3.block⟩
                            refine hKK.out _ _ (HS.out _ (by first | exact Below.refl _ _ | exact drewD (Below.refl _ _) | exact drewR (Below.refl _ _) | exact hw3 | exact drewD hw3 | exact drewR hw3)) (fun hS5_5 => ?_)
                            try simp only [Act.put, List.setIfInBounds_toArray, List.set_cons_zero, List.set_cons_succ]
                            refine wpAnyH_done (by kernel_rfl) ?_ _
                            have hrow3 := HROW.out.keep (hw3.block R hrl)
                            obtain ⟨hrc3, hrf3⟩ := hrow3.cell (j := x) hx1
                            have hrl3 := hrow3.lt
                            have HK3 := Lib.hid (HK.out.trans (keep_of_below (F := fun _ => False) hw3) (fun _ e => e.elim))
                            have HR3 := Lib.hid hrow3
                            clear hrow3 hw3 hb3 d0 d1 d2 d3 d4 f0 f1 f2 f3 f4
                            go_wp2
                            go_roundw
                            case rel => exact ⟨j + 1, by omega, by go_num, HK3, .inl ⟨HJI, HR3.out⟩⟩
                            case measure => simp [intOf]; omega
                        · obtain rfl : j = N := by omega
                          have hIN : I = j := by have h1 := HJ.out; have h2 := HIX.out.1; have h3 := HNE.out; omega
                          subst hIN
                          have hYR : Y ≠ R := by have := HWQ.out.row.lt; have := HYE.out; omega
                          have HK4 := HK.out.trans (keep_set w2 R x (.int .i64 (I : Int))) (fun b' e => .inl e)
                          have hY4 := (HK4.block Y (by omega) hYR).trans HYV.out
                          have HW4 := Lib.hid (HWP.out.move (a' := updZ a x (I : Int)) HK4 (HROW.out.put x (I : Int)) (by have := HCN.out (I : Int) (by omega); have := HWP.out.len; omega))
                          have HO4 := Lib.hid (ownsRow_keep HOV.out (fun b' e => HK4.block b' (own_lt HOV.out b' e) (fun e2 => by have := own_base HOV.out b' e; have := HWQ.out.row.lt; have := HYE.out; omega)))
                          have HPM := Lib.hid (show ShM T i k (out ++ [⟨op, wid, fl, args2, imm⟩]) s (updZ a x (I : Int)) by have h1 := HP.out; rw [HAD.out.2 (by rw [HNE.out]; exact Nat.lt_irrefl _)] at h1; exact h1)
                          go_upto_region 32 with fail
                          generalize World.setCell w2 _ _ = w4 at hY4 HW4 HO4 ⊢
                          obtain ⟨f0, f1, f2, f3, f4⟩ := cells5 (x := ⟨op, wid, fl, args2, imm⟩) hY4
                          simp only at f0 f1 f2 f3 f4
                          have hYl4 := lt_of_block hY4
                          have hbA : Below w4.heap.size w4 (w4.alloc (.cells #[.int .i64 op, .int .i64 wid, .int .i64 fl, .slice AV q cV, .int .u32 imm] 38)) := (Below.refl _ _).alloc (Nat.le_refl _) _
                          have HWA := Lib.hid (HW4.out.grow hbA)
                          have HOA := Lib.hid (own_below HO4.out hbA)
                          have HSZ := Lib.hid (show w.heap.size ≤ (w4.alloc (.cells #[.int .i64 op, .int .i64 wid, .int .i64 fl, .slice AV q cV, .int .u32 imm] 38)).heap.size from HWA.out.below.size)
                          have HROWA := Lib.hid (show (w4.alloc (.cells #[.int .i64 op, .int .i64 wid, .int .i64 fl, .slice AV q cV, .int .u32 imm] 38)).ownsRow w.heap.size 38 5 (.slice A2 I c2) I (rowC out av) by have := HWA.out.own.own.row; rw [HNE.out] at this; exact this)
                          have HWB := Lib.hid (show ShW w i R (.slice A2 I c2) av out (.slice (some ⟨g, 0, none⟩) L cap) s (updZ a x (I : Int)) (w4.alloc (.cells #[.int .i64 op, .int .i64 wid, .int .i64 fl, .slice AV q cV, .int .u32 imm] 38)) by have h9 := HWA.out; rw [HNE.out] at h9; exact h9)
                          clear hbA hY4 hrc hrf hrl HK4
                          go_wp2_with (at_builtin; refine wpList_append_own_at _ rfl _ _ 22 rfl w.heap.size 38 j0 (.agg #[.int .i64 0, .int .i64 0, .int .i64 0, .slice none 0 0, .int .u32 0]) 5 56 Tryz.underlying22 ji jz0 jz1 jz2 rfl (by decide) _ _ _ rfl HROWA.out ⟨w4.heap.size, 0, none⟩ 1 1 (nodC ⟨op, wid, fl, args2, imm⟩ (.slice AV q cV)) rfl rfl (five_new w4 _ _ _ _ _ _) ?q1 ?q2 ?q3 ?q4 ?_)
                          case q1 => intro u hu; simp [nodC] at hu; rcases hu with rfl | rfl | rfl | rfl | rfl <;> rfl
                          case q2 => unfold maxLen; omega
                          case q3 => omega
                          case q4 => have h9 := HSZ.out; simpa using h9
                          intro v' W6 hrow6 hgrow6 _ hloc6
                          have HFIN := Lib.hid (HWB.out.app (y := ⟨op, wid, fl, args2, imm⟩) (v := .slice AV q cV) (nv' := v') (S := w4.heap.size + 1) (by have h1 := ownsRow_mono HOA.out (base2 := w.heap.size) (by have := HWQ.out.below.size; have := HYE.out; omega); have h2 := HVI.out.1; rw [← h2]; exact h1) (fun b' e => by
                            have h1 := own_base HOV.out b' e
                            have h2 := HYE.out
                            refine ⟨fun e2 => ?_, fun e2 => ?_, ?_⟩
                            · have := own_lt HWQ.out.own.own.row b' (by rw [HNE.out]; exact e2)
                              omega
                            · have := own_lt HWQ.out.stk b' e2
                              omega
                            · have := HWQ.out.row.lt
                              omega) HIM.out (by rw [HNE.out]; exact hrow6) hgrow6 (by simp) hloc6 (by have := HCN.out (I : Int) (by omega); have := HWP.out.len; omega))
                          have HME2 := Lib.hid (show mesZ R i (.slice (some ⟨g, 0, none⟩) L cap) W6 < mesZ R i (.slice (some ⟨g, 0, none⟩) (L + 1) cap) wr from by
                            have h1 := top_le HFIN.out HPM.out
                            unfold mesZ
                            rw [cellZ_row HFIN.out.row, cellZ_row HW.out.row, ← HCN.out (I : Int) (by omega), Nat.mul_succ]
                            omega)
                          clear hrow6 hgrow6 hloc6 f0 f1 f2 f3 f4
                          go_wp2
                          go_roundw
                          case rel => exact ⟨_, _, s, updZ a x (I : Int), HFIN.out, HPM⟩
                          case measure => exact HME2.out
                      · have HFIN := Lib.hid (HWP.out.move (a' := updZ a x (I : Int)) HK.out hrow (by have := HCN.out (I : Int) (by omega); have := HWP.out.len; omega))
                        have HPM := Lib.hid (show ShM T i k out s (updZ a x (I : Int)) by have h1 := HP.out; rw [HAD.out.1 (by have := HJ.out; have := HNE.out; omega)] at h1; exact h1)
                        have HMES := Lib.hid (show mesZ R i (.slice (some ⟨g, 0, none⟩) L cap) w2 < mesZ R i (.slice (some ⟨g, 0, none⟩) (L + 1) cap) wr from by
                          have h1 := top_le HFIN.out HPM.out
                          unfold mesZ
                          rw [cellZ_row HFIN.out.row, cellZ_row HW.out.row, ← HCN.out (I : Int) (by omega), Nat.mul_succ]
                          omega)
                        have HFIN2 := Lib.hid (show ShW w i R (.slice A2 N c2) av out (.slice (some ⟨g, 0, none⟩) L cap) s (updZ a x (I : Int)) w2 by have := HFIN.out; rw [HNE.out] at this; exact this)
                        obtain ⟨hrc, hrf⟩ := hrow.cell (j := x) hx1
                        rw [show updZ a x (I : Int) x = (I : Int) from if_pos rfl] at hrc
                        have hrl := hrow.lt
                        have e2 : decide ((I : Int) < 0) = false := decide_eq_false (by omega)
                        clear hrow hcap2 hmax2
                        by_cases hjn : j < N
                        · go_wp2
                          go_roundw
                          case rel => exact ⟨av, out, s, updZ a x (I : Int), HFIN2.out, HPM⟩
                          case measure => exact HMES.out
                        · obtain rfl : j = N := by omega
                          go_wp2
                          go_roundw
                          case rel => exact ⟨av, out, s, updZ a x (I : Int), HFIN2.out, HPM⟩
                          case measure => exact HMES.out
            | succ p =>
              obtain rfl : z = (p : Int) := by omega
              obtain ⟨r, hr, hrx⟩ := HDN.out p (by have := HII.out.1; omega)
              obtain ⟨bA, oA, rfl, hbA, hcA⟩ := ((HII.out.below HBX.out).below hbq).at_ (j := p) (by omega)
              obtain ⟨hrc, hrf⟩ := HWQ.out.row.cell (j := r) (by omega)
              have hrl := HWQ.out.row.lt
              have HDR := Lib.hid (drop_at (l := args) (q := p) (by have := HII.out.1; omega))
              rw [hr] at hcA HDR
              by_cases hneg : a r < 0
              · have HFN := Lib.hid (show firstNeg a (args.drop p) = (r : Int) by rw [HDR.out, firstNeg, if_pos (by rw [Int.toNat_natCast]; exact hneg)])
                have e1 : decide (a r < 0) = true := decide_eq_true hneg
                clear hneg hr hz
                go_wp2
                go_roundw
                case rel => exact ⟨p, (p : Int) - 1, by omega, rfl, by go_num, by rw [HFN.out], hbq⟩
                case measure => simp [intOf]
              · have HFN := Lib.hid (show firstNeg a (args.drop p) = firstNeg a (args.drop (p + 1)) by rw [HDR.out, firstNeg, if_neg (by rw [Int.toNat_natCast]; exact hneg)])
                have e1 : decide (a r < 0) = false := decide_eq_false hneg
                clear hneg hr hz
                go_wp2
                go_roundw
                case rel => exact ⟨p, (p : Int) - 1, by omega, rfl, by go_num, by rw [HFN.out], hbq⟩
                case measure => simp [intOf]
end
end Go.Proofs.YtbohigjfdnnomaaGreatDoor
