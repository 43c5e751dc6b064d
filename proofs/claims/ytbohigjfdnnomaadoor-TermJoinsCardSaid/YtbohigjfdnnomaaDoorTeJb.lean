/-
  Copies whose rows of Args lie apart; Over of the reference.
  Rows of nodes put together; Join of the reference.
  Join of the program; the walk of TermJoins.
  The walk of TermJoins.
-/
import Derived.Test.YtbohigjfdnnomaaDoorTeJa
import Derived.Test.YtbohigjfdnnomaaDoorTeOq
import Derived.Test.YtbohigjfdnnomaaDoorTeSk
namespace Go.Proofs.YtbohigjfdnnomaaDoor
section
open Go.RowKit

theorem own_set {w : World} {base e size g cap n i : Nat} {xs : List Value} {x : Value} (h : w.ownsRow base e size (.slice (some ⟨g, 0, none⟩) n cap) n xs) (hx : xs[i]? = some x) (u : Value) :
    w.cell? ⟨g, i, none⟩ = some x ∧ w.frozen? ⟨g, i, none⟩ = false ∧ base ≤ g ∧ (w.setCell ⟨g, i, none⟩ u).ownsRow base e size (.slice (some ⟨g, 0, none⟩) n cap) n (xs.set i u) := by
  have hc := h.cells (g := g) rfl i x hx
  have ea : (⟨g, 0, none⟩ : Addr).add i = ⟨g, i, none⟩ := by
    unfold Addr.add
    split
    · rename_i h0
      simp
    · simp
  rw [ea] at hc
  obtain ⟨h1, h2⟩ := h
  rcases h2 with ⟨h2, _⟩ | ⟨g', cap', cur, h2, h3, h4, h5, h6, h7, h8⟩
  · cases h2
  · injection h2 with h2 _ h9
    injection h2 with h2
    injection h2 with h2 _
    subst h2 h9
    refine ⟨hc, by simp [World.frozen?, h4], h3, by simpa using h1, .inr ⟨g, cap, _, rfl, h3, heap_setCell_same w g i _ _ u h4, h5, h6, ?_, ?_⟩⟩
    · simpa using h7
    · rw [← h8]
      simp [List.take_set]
/-- The rows of Args lie apart. -/
def DisN (av : Nat → Value) (n : Nat) : Prop := ∀ p q, p < q → q < n → ∀ b, (av p).ownBlock = some b → (av q).ownBlock ≠ some b
set_option maxRecDepth 100000 in
set_option maxHeartbeats 8000000 in
theorem copyD_any {w : World} {A : Option Addr} {n c : Nat} {T : List Nd} (h : Term w A n c T) (h300 : n ≤ 1000) (h20 : ∀ k, k < n → T[k]!.args.length ≤ 100) :
    Calls Tryd.prog 23 #[.slice A n c] w fun e w' => ∃ nv av, e = .returned nv ∧ OwnS w' w.heap.size nv av T ∧ DisN av T.length ∧ Below w.heap.size w w' := by
  obtain ⟨j0, ji, jz0, jz1, jz2⟩ := infoNod
  have hcap := h.2.1
  have hmax := h.2.2.1
  have H := Lib.hid h
  have H20 := Lib.hid h20
  have HN := Lib.hid h.1
  clear h h20
  go_enter Tryd.func23, Tryd.ntmps23
  go_wp2
  go_loopw [3, 4] (fun zl zi wr => ∃ (i : Nat) (av : Nat → Value), i ≤ n ∧ zi = .int .i64 (i : Int) ∧ OwnS wr w.heap.size zl av (T.take i) ∧ Below w.heap.size w wr ∧ Hid (DisN av i)) (fun _ zi _ => n - (intOf zi).toNat)
  case atStart => exact ⟨0, fun _ => undef, by omega, rfl, by rw [List.take_zero]; exact ownS_nil _ _ _, Below.refl _ _, Lib.hid fun p q hpq hq => absurd hq (by omega)⟩
  case round =>
    obtain ⟨i, av, hi', rfl, hO, hb, HD⟩ := hrel
    by_cases hlt : i < n
    · obtain ⟨b, off, A', n', c', rfl, hg, ⟨a0, a1, a2, a3, a4⟩, hI, him⟩ := (H.out.below hb).at_ hlt
      have hn' : n' ≤ 100 := by have := H20.out i hlt; have := hI.1; omega
      have HTK := Lib.hid (take_snoc (T := T) (i := i) (by rw [← HN.out]; exact hlt))
      have HLEN := Lib.hid (show (T.take i).length = i by rw [List.length_take]; have := HN.out; omega)
      have hcap' := hI.2.1
      have hmax' := hI.2.2.1
      generalize T[i]! = x at a0 a1 a2 a3 a4 hI him hn' HTK
      obtain ⟨op, wid, fl, args, imm⟩ := x
      simp only at a0 a1 a2 a3 a4 hI him hn'
      have hX := heap_alloc_new wr (.cells #[.int .i64 op, .int .i64 wid, .int .i64 fl, .slice A' n' c', .int .u32 imm] 47)
      have hbX : Below wr.heap.size wr (wr.alloc (.cells #[.int .i64 op, .int .i64 wid, .int .i64 fl, .slice A' n' c', .int .u32 imm] 47)) := (Below.refl _ _).alloc (Nat.le_refl _) _
      have hzX : (wr.alloc (.cells #[.int .i64 op, .int .i64 wid, .int .i64 fl, .slice A' n' c', .int .u32 imm] 47)).heap.size = wr.heap.size + 1 := by simp
      go_upto_region 6 with fail
      generalize World.alloc wr _ = W1 at hX hbX hzX ⊢
      clear a0 a1 a2 a3 a4
      obtain ⟨X, hXE⟩ : ∃ X, wr.heap.size = X := ⟨_, rfl⟩
      have HXE := Lib.hid hXE
      have HBX := Lib.hid hbX
      have HZX := Lib.hid hzX
      have HBR := Lib.hid hb
      have HO := Lib.hid hO
      have HI1 := Lib.hid (hI.below hbX)
      rw [hXE] at hX ⊢
      clear hXE hbX hzX hb hO hI
      have hXl := lt_of_block hX
      obtain ⟨d0, d1, d2, d3, d4⟩ := cells5 (x := ⟨op, wid, fl, args, imm⟩) hX
      simp only at d0 d1 d2 d3 d4
      have HD5 := Lib.hid hX
      clear hX d0 d1 d2 d4
      go_wp2_with (at_builtin; refine wpList_append_ints rfl _ _ rfl W1.heap.size W1.heap.size rfl (World.ownsRow_made W1 #[] 0 (Nat.le_refl _) (Nat.zero_le _) rfl) (by simp) rfl (HI1.out.below ((Below.refl _ _).alloc (Nat.le_refl _) _)) hn' ?_)
      intro A5 c5 W3 hown5 hgrow5
      have hX3 := (hgrow5.block X (by simp; omega) (by intro e; injection e with e; omega)).trans ((heap_alloc_old W1 (.cells #[] 3) hXl).trans HD5.out)
      have hs3 := hgrow5.size
      have hX3l := lt_of_block hX3
      have hX3f : W3.frozen? ⟨X, 3, none⟩ = false := by simp [World.frozen?, hX3]
      have hX3c := (cells5 (x := ⟨op, wid, fl, args, imm⟩) hX3).2.2.2.1
      have hnotX : ∀ b', (Value.slice A5 n' c5).ownBlock = some b' → b' ≠ X := fun b' e => by have := own_base hown5 b' e; omega
      go_upto_region 7 with fail
      have hX4 : (W3.setCell ⟨X, 3, none⟩ (.slice A5 n' c5)).heap[X]? = some (.cells #[.int .i64 op, .int .i64 wid, .int .i64 fl, .slice A5 n' c5, .int .u32 imm] 47 (0, 0)) := (heap_setCell_same W3 X 3 _ _ _ hX3).trans rfl
      have hown4 := ownsRow_keep hown5 (w' := W3.setCell ⟨X, 3, none⟩ (.slice A5 n' c5)) (fun b' e => heap_setCell_other W3 ⟨X, 3, none⟩ b' _ (hnotX b' e))
      have hb4 : Below wr.heap.size wr (W3.setCell ⟨X, 3, none⟩ (.slice A5 n' c5)) := ((HBX.out.alloc HBX.out.size _).grown hgrow5 (by have := HBX.out.size; simp; omega) (by intro k hk; injection hk with hk; have := HBX.out.size; omega)).setCell (p := ⟨X, 3, none⟩) (by have := HXE.out; simp only; omega) _
      generalize World.setCell W3 _ _ = W4 at hX4 hown4 hb4 ⊢
      have HO4 := HO.out.below hb4
      have hb4w := HBR.out.trans (hb4.mono HBR.out.size)
      have hXs := HXE.out
      have hvn : ∀ b', (Value.slice A5 n' c5).ownBlock = some b' → u3.ownBlock ≠ some b' := fun b' e e2 => by
        have h1 := own_base hown5 b' e
        have h2 := own_lt HO.out.own.row b' e2
        omega
      have HDIS := Lib.hid (show DisN (fun q => if q = (T.take i).length then .slice A5 n' c5 else av q) (i + 1) from fun p q hpq hq b' hb1 hb2 => by
        have hp : ¬ p = (T.take i).length := by have := HLEN.out; omega
        simp only [if_neg hp] at hb1
        by_cases e : q = (T.take i).length
        · simp only [if_pos e] at hb2
          have h1 := own_base hown5 b' hb2
          have h2 := own_lt (HO.out.own.args p (by have := HLEN.out; omega)) b' hb1
          have := HBX.out.size
          omega
        · simp only [if_neg e] at hb2
          exact HD.out p q hpq (by have := HLEN.out; omega) b' hb1 hb2)
      have hown4w := ownsRow_mono hown4 (base2 := w.heap.size) (by have := HBR.out.size; omega)
      obtain ⟨d0, d1, d2, d3, d4⟩ := cells5 (x := ⟨op, wid, fl, args, imm⟩) hX4
      simp only at d0 d1 d2 d3 d4
      have hX4l := lt_of_block hX4
      have hrow := own_below HO4.own.row ((Below.refl _ _).alloc (Nat.le_refl W4.heap.size) (.cells #[.int .i64 op, .int .i64 wid, .int .i64 fl, .slice A5 n' c5, .int .u32 imm] 47))
      have HROW := Lib.hid hrow
      clear hX3 hs3 hX3l hX3f hX3c hnotX hX4 hown5 hgrow5 hown4 hXs hrow
      go_wp2_with (at_builtin; refine wpList_append_own_at _ rfl _ _ 22 rfl w.heap.size 47 j0 (.agg #[.int .i64 0, .int .i64 0, .int .i64 0, .slice none 0 0, .int .u32 0]) 5 56 Tryd.underlying22 ji jz0 jz1 jz2 rfl (by decide) _ _ _ rfl HROW.out ⟨W4.heap.size, 0, none⟩ 1 1 (nodC ⟨op, wid, fl, args, imm⟩ (.slice A5 n' c5)) rfl rfl (five_new W4 _ _ _ _ _ _) ?q1 ?q2 ?q3 ?q4 ?_)
      case q1 => intro u hu; simp [nodC] at hu; rcases hu with rfl | rfl | rfl | rfl | rfl <;> rfl
      case q2 => have := HLEN.out; unfold maxLen; omega
      case q3 => have := HLEN.out; omega
      case q4 => have := hb4w.size; simp; omega
      intro v' W6 hrow6 hgrow6 _ hloc6
      have hbA : Below W4.heap.size W4 (W4.alloc (.cells #[.int .i64 op, .int .i64 wid, .int .i64 fl, .slice A5 n' c5, .int .u32 imm] 47)) := (Below.refl _ _).alloc (Nat.le_refl _) _
      have HFIN := Lib.hid ((HO4.below hbA).snoc (y := ⟨op, wid, fl, args, imm⟩) (by have := own_below hown4w hbA; have e := HI1.out.1; rw [← e]; exact this) hvn him (by rw [List.length_take]; exact hrow6) hgrow6 (S := W4.heap.size + 1) (by simp) hloc6)
      have HB6 := Lib.hid ((hb4w.alloc hb4w.size (.cells #[.int .i64 op, .int .i64 wid, .int .i64 fl, .slice A5 n' c5, .int .u32 imm] 47)).grown hgrow6 (by have := hb4w.size; simp; omega) (fun k hk => own_base HO4.own.row k hk))
      clear hrow6 hgrow6 hloc6 hbA d0 d1 d2 d3 d4 hb4 hb4w HO4 hvn hown4w hX4l
      go_wp2
      go_roundw
      case rel => exact ⟨i + 1, _, by omega, by go_num, by rw [HTK.out]; exact HFIN.out, HB6.out, HDIS⟩
      case measure => simp [intOf]; omega
    · obtain rfl : i = n := by omega
      have HFIN := Lib.hid (show OwnS wr w.heap.size u3 av T by have := hO; rw [List.take_of_length_le (by have := HN.out; omega)] at this; exact this)
      clear hO
      go_wp2
      go_ret
      exact ⟨_, av, rfl, HFIN.out, by rw [← HN.out]; exact HD.out, hb⟩
/-- A node whose first m Args are counted from d on. -/
def ovN (x : Nd) (d m : Nat) : Nd := ⟨x.op, x.width, x.flags, (List.range x.args.length).map fun q => if q < m then x.args[q]! + (d : Int) else x.args[q]!, x.imm⟩
def ovK (T : List Nd) (d i m : Nat) : List Nd := (List.range T.length).map fun k => if k < i then ovN T[k]! d T[k]!.args.length else if k = i then ovN T[k]! d m else T[k]!
theorem ovK_len (T : List Nd) (d i m : Nat) : (ovK T d i m).length = T.length := by simp [ovK]
theorem ovK_at {T : List Nd} {d i m k : Nat} (h : k < T.length) : (ovK T d i m)[k]! = if k < i then ovN T[k]! d T[k]!.args.length else if k = i then ovN T[k]! d m else T[k]! := by
  rw [getElem!_pos (ovK T d i m) k (by rw [ovK_len]; exact h)]
  simp [ovK]
theorem ovN_zero (x : Nd) (d : Nat) : ovN x d 0 = x := by
  obtain ⟨a, b, c, l, e⟩ := x
  unfold ovN
  congr 1
  refine List.ext_getElem (by simp) fun q h1 h2 => ?_
  simp [h2]
theorem ovN_all (x : Nd) (d : Nat) : ovN x d x.args.length = ⟨x.op, x.width, x.flags, x.args.map fun a => a + (d : Int), x.imm⟩ := by
  unfold ovN
  congr 1
  refine List.ext_getElem (by simp) fun q h1 h2 => ?_
  have hq : q < x.args.length := by simpa using h2
  simp [hq]
theorem ovK_zero (T : List Nd) (d : Nat) : ovK T d 0 0 = T := by
  refine List.ext_getElem (by rw [ovK_len]) fun k h1 h2 => ?_
  have e := ovK_at (d := d) (i := 0) (m := 0) h2
  rw [getElem!_pos _ k h1, if_neg (by omega)] at e
  rw [e]
  split
  · rename_i e0
    rw [ovN_zero, getElem!_pos T k h2]
  · rw [getElem!_pos T k h2]
theorem ovK_next {T : List Nd} {d i : Nat} : ovK T d (i + 1) 0 = ovK T d i T[i]!.args.length := by
  refine List.ext_getElem (by rw [ovK_len, ovK_len]) fun k h1 h2 => ?_
  have hk : k < T.length := by rw [ovK_len] at h1; exact h1
  have e1 := ovK_at (d := d) (i := i + 1) (m := 0) hk
  have e2 := ovK_at (d := d) (i := i) (m := T[i]!.args.length) hk
  rw [getElem!_pos _ k h1] at e1
  rw [getElem!_pos _ k h2] at e2
  rw [e1, e2]
  by_cases c1 : k < i
  · rw [if_pos c1, if_pos (by omega)]
  · by_cases c2 : k = i
    · subst c2
      rw [if_pos (by omega), if_neg c1, if_pos rfl]
    · rw [if_neg (by omega), if_neg c1, if_neg c2]
      by_cases c3 : k = i + 1
      · rw [if_pos c3, ovN_zero]
      · rw [if_neg c3]
theorem ovK_end {T : List Nd} {d : Nat} : ovK T d T.length 0 = overN T d := by
  refine List.ext_getElem (by rw [ovK_len, overN_len]) fun k h1 h2 => ?_
  have hk : k < T.length := by rw [ovK_len] at h1; exact h1
  have e1 := ovK_at (d := d) (i := T.length) (m := 0) hk
  have e2 := overN_at (d := d) hk
  rw [getElem!_pos _ k h1] at e1
  rw [getElem!_pos _ k h2] at e2
  rw [e1, e2, if_pos hk, ovN_all]
theorem ovK_args {T : List Nd} {d i m k : Nat} (h : k < T.length) : ((ovK T d i m)[k]!).args.length = T[k]!.args.length := by
  rw [ovK_at h]
  split
  · simp [ovN]
  · split
    · simp [ovN]
    · rfl
theorem ovK_arg {T : List Nd} {d i m : Nat} (h : i < T.length) (hm : m < T[i]!.args.length) : ((ovK T d i m)[i]!).args[m]! = T[i]!.args[m]! := by
  rw [ovK_at h, if_neg (by omega), if_pos rfl]
  unfold ovN
  simp only
  rw [getElem!_pos _ m (by simpa using hm), List.getElem_map, List.getElem_range, if_neg (Nat.lt_irrefl _)]
theorem ovK_put {T : List Nd} {d i m : Nat} (h : i < T.length) (_ : m < T[i]!.args.length) : (iV ((ovK T d i m)[i]!).args).set m (.int .i64 (T[i]!.args[m]! + (d : Int))) = iV ((ovK T d i (m + 1))[i]!).args := by
  rw [ovK_at h, ovK_at h, if_neg (by omega), if_pos rfl, if_neg (by omega), if_pos rfl]
  unfold ovN iV
  refine List.ext_getElem (by simp) fun q h1 h2 => ?_
  have hq : q < T[i]!.args.length := by simpa using h2
  rw [List.getElem_set]
  by_cases e : m = q
  · subst e
    simp
  · rw [if_neg e]
    simp only [List.getElem_map, List.getElem_range]
    by_cases e2 : q < m
    · rw [if_pos e2, if_pos (by omega)]
    · rw [if_neg e2, if_neg (by omega)]
theorem rowC_ovK (T : List Nd) (d i m m2 : Nat) (av : Nat → Value) : rowC (ovK T d i m) av = rowC (ovK T d i m2) av := by
  unfold rowC
  rw [ovK_len, ovK_len]
  refine flatMap_congr' fun k hk => ?_
  have hk := List.mem_range.1 hk
  rw [ovK_at hk, ovK_at hk]
  split
  · rfl
  · split
    · rfl
    · rfl
/-- An Arg counted from d on. -/
theorem OwnS.over {w : World} {base : Nat} {nv : Value} {av : Nat → Value} {T : List Nd} {d i m g n cap : Nat} (h : OwnS w base nv av (ovK T d i m)) (hd : DisN av T.length) (hi : i < T.length) (hm : m < T[i]!.args.length) (hav : av i = .slice (some ⟨g, 0, none⟩) n cap) (hn : n = T[i]!.args.length) :
    OwnS (w.setCell ⟨g, m, none⟩ (.int .i64 (T[i]!.args[m]! + (d : Int)))) base nv av (ovK T d i (m + 1)) := by
  have hk := keep_set w g m (.int .i64 (T[i]!.args[m]! + (d : Int)))
  have hl := ovK_len T d i m
  have hgi : (av i).ownBlock = some g := by rw [hav]; rfl
  refine ⟨⟨?_, fun j hj => ?_, fun j hj => ?_⟩, fun j hj b hb => h.sep j (by rw [ovK_len] at hj ⊢; exact hj) b hb⟩
  · have hr := h.own.row
    rw [ovK_len, rowC_ovK T d i m (m + 1)] at hr
    rw [ovK_len]
    exact ownsRow_keep hr fun b hb => hk.block b (own_lt hr b hb) (fun e => h.sep i (by rw [hl]; exact hi) g hgi (by rw [hb, e]))
  · rw [ovK_len] at hj
    have ha := h.own.args j (by rw [hl]; exact hj)
    by_cases e : j = i
    · subst e
      rw [ovK_args hj]
      rw [ovK_args hj, hav, ← hn] at ha
      rw [hav, ← hn]
      have hx : (iV ((ovK T d j m)[j]!).args)[m]? = some (.int .i64 (((ovK T d j m)[j]!).args[m]!)) := by
        have : m < ((ovK T d j m)[j]!).args.length := by rw [ovK_args hj]; exact hm
        unfold iV
        rw [List.getElem?_map, List.getElem?_eq_getElem this, getElem!_pos _ m this]
        rfl
      have hs := (own_set ha hx (.int .i64 (T[j]!.args[m]! + (d : Int)))).2.2.2
      rw [ovK_put hj hm] at hs
      exact hs
    · have e2 : (ovK T d i (m + 1))[j]! = (ovK T d i m)[j]! := by
        rw [ovK_at hj, ovK_at hj, if_neg e, if_neg e]
      rw [e2]
      refine ownsRow_keep ha fun b hb => hk.block b (own_lt ha b hb) (fun eb => ?_)
      subst eb
      by_cases e3 : j < i
      · exact hd j i e3 hi b hb hgi
      · exact hd i j (by omega) hj b hgi hb
  · have hj2 : j < T.length := by rw [ovK_len] at hj; exact hj
    have := h.own.imm j (by rw [hl]; exact hj2)
    rw [ovK_at hj2] at this ⊢
    split
    · rename_i c
      rw [if_pos c] at this
      exact this
    · rename_i c
      rw [if_neg c] at this
      split
      · rename_i c2
        rw [if_pos c2] at this
        exact this
      · rename_i c2
        rw [if_neg c2] at this
        exact this
set_option maxRecDepth 100000 in
set_option maxHeartbeats 8000000 in
theorem over_any {w : World} {A : Option Addr} {n c : Nat} {T : List Nd} (h : Term w A n c T) (hv : valF T = 0) {d : Nat} (hd : d ≤ 100000) :
    Calls Tryd.prog 54 #[.slice A n c, .int .i64 (d : Int)] w fun e w' => ∃ nv av, e = .returned nv ∧ OwnS w' w.heap.size nv av (overN T d) ∧ Below w.heap.size w w' := by
  have hl := (val_zero.1 hv).1
  have HC := Lib.hid (copyD_any h (by have := h.1; omega) (fun k hk => val_args hv k (by rw [← h.1]; exact hk)))
  have HN := Lib.hid h.1
  have HD := Lib.hid (down_val hv)
  have HLE := Lib.hid (val_args hv)
  rw [← h.1] at hl
  clear h hv
  go_enter Tryd.func54, Tryd.ntmps54
  go_wp2_with fail
  refine HC.out.mono ?_
  rintro e w1 ⟨nv, av, rfl, hO, hdis, hb1⟩
  obtain ⟨A1, c1, rfl, hT1⟩ := own_term hO.own
  have HDIS := Lib.hid hdis
  rw [← HN.out] at hT1 ⊢
  obtain ⟨gN, hgN⟩ : ∃ g, A1 = some ⟨g, 0, none⟩ := by
    rcases hO.own.row.2 with ⟨q1, q2⟩ | ⟨g, cap, cur, q1, -⟩
    · have := HN.out
      omega
    · injection q1 with q1 _ _
      exact ⟨g, q1⟩
  subst hgN
  have hcap1 := hT1.2.1
  have hmax1 := hT1.2.2.1
  have HO1 := Lib.hid (show OwnS w1 w.heap.size (.slice (some ⟨gN, 0, none⟩) n c1) av (ovK T d 0 0) by rw [ovK_zero, HN.out]; exact hO)
  clear hO hdis hT1
  go_wp2
  go_loopw [6] (fun zi wv => ∃ i : Nat, i ≤ n ∧ zi = .int .i64 (i : Int) ∧ Hid (OwnS wv w.heap.size (.slice (some ⟨gN, 0, none⟩) n c1) av (ovK T d i 0) ∧ Below w.heap.size w wv)) (fun zi _ => n - (intOf zi).toNat)
  case atStart => exact ⟨0, by omega, rfl, Lib.hid ⟨HO1.out, hb1⟩⟩
  case round =>
    clear HO1 hb1
    obtain ⟨i, hi, rfl, HW⟩ := hrel
    rename World => wv
    by_cases hlt : i < n
    · have hiT : i < T.length := by rw [← HN.out]; exact hlt
      have HL100 := Lib.hid (HLE.out i hiT)
      have HDI := Lib.hid (HD.out i hiT)
      have HSTEP := Lib.hid (fun (wu : World) m g q cap (h : OwnS wu w.heap.size (.slice (some ⟨gN, 0, none⟩) n c1) av (ovK T d i m)) hm (hav : av i = .slice (some ⟨g, 0, none⟩) q cap) hq => h.over (g := g) (n := q) (cap := cap) HDIS.out hiT hm hav hq)
      obtain ⟨q, hq⟩ : ∃ q, T[i]!.args.length = q := ⟨_, rfl⟩
      have hav0 := HW.out.1.own.args i (by rw [ovK_len]; exact hiT)
      rw [ovK_args hiT, hq] at hav0
      obtain ⟨Ai, ci, havE, hI0⟩ := own_ints hav0
      have HAV := Lib.hid havE
      have hIcap := hI0.2.1
      have hImax := hI0.2.2.1
      have HQ := Lib.hid hq
      have HROW := Lib.hid (fun (wu : World) m (h : OwnS wu w.heap.size (.slice (some ⟨gN, 0, none⟩) n c1) av (ovK T d i m)) => show wu.cell? ⟨gN, i * 5 + 3, none⟩ = some (.slice Ai q ci) ∧ gN < wu.heap.size from by
        have h1 := h.own.row
        rw [ovK_len, ← HN.out] at h1
        have h2 := own_cell h1 (i := i * 5 + 3) (x := .slice Ai q ci) (by rw [rowC_at av (by rw [ovK_len]; exact hiT) (by omega), HAV.out]; rfl)
        exact ⟨h2.1, own_lt h1 gN rfl⟩)
      obtain ⟨r0, rl0⟩ := HROW.out wv 0 HW.out.1
      clear hav0 havE hI0 hq
      go_wp2
      go_loopw [7] (fun zm wu => ∃ m : Nat, m ≤ q ∧ zm = .int .i64 (m : Int) ∧ Hid (OwnS wu w.heap.size (.slice (some ⟨gN, 0, none⟩) n c1) av (ovK T d i m) ∧ Below w.heap.size w wu)) (fun zm _ => q - (intOf zm).toNat)
      case atStart => exact ⟨0, by omega, rfl, HW⟩
      case round =>
        clear HW r0 rl0
        obtain ⟨m, hm, rfl, HW⟩ := hrel
        rename World => wu
        obtain ⟨r0, rl0⟩ := HROW.out wu m HW.out.1
        by_cases hltm : m < q
        · have hmT : m < T[i]!.args.length := by rw [HQ.out]; exact hltm
          have hava := HW.out.1.own.args i (by rw [ovK_len]; exact hiT)
          rw [ovK_args hiT, HQ.out] at hava
          obtain ⟨gA, cA, hgA, -, -, hgl, hcells⟩ := own_at hava (by omega)
          have hcm := hcells m hltm
          rw [ovK_arg hiT hmT] at hcm
          have e0 := HAV.out.symm.trans hgA
          injection e0 with e0 _ e2
          subst e0 e2
          have hcf : wu.frozen? ⟨gA, m, none⟩ = false := (own_cell (by rw [HAV.out] at hava; exact hava) (i := m) (x := .int .i64 (((ovK T d i m)[i]!).args[m]!)) (by
            have : m < ((ovK T d i m)[i]!).args.length := by rw [ovK_args hiT]; exact hmT
            unfold iV
            rw [List.getElem?_map, List.getElem?_eq_getElem this, getElem!_pos _ m this]
            rfl)).2
          obtain ⟨p, hp, hpi⟩ := HDI.out m hmT
          have hbase := own_base hava gA (by rw [HAV.out]; rfl)
          have HNX := Lib.hid (HSTEP.out wu m gA q ci HW.out.1 hmT HAV.out HQ.out.symm)
          rw [hp] at hcm HNX
          have HBN := Lib.hid (HW.out.2.setCell (p := ⟨gA, m, none⟩) hbase (.int .i64 ((p : Int) + (d : Int))))
          clear hava hcells hp hbase
          have hpn : p < n := by omega
          go_wp2
          go_roundw
          case rel => exact ⟨m + 1, by omega, by go_num, Lib.hid ⟨HNX.out, HBN.out⟩⟩
          case measure => simp [intOf]; omega
        · obtain rfl : m = q := by omega
          have HNX := Lib.hid (show OwnS wu w.heap.size (.slice (some ⟨gN, 0, none⟩) n c1) av (ovK T d (i + 1) 0) by rw [ovK_next, HQ.out]; exact HW.out.1)
          go_wp2
          go_roundw
          case rel => exact ⟨i + 1, by omega, by go_num, Lib.hid ⟨HNX.out, HW.out.2⟩⟩
          case measure => simp [intOf]; omega
    · obtain rfl : i = n := by omega
      have HFIN := Lib.hid (show OwnS wv w.heap.size (.slice (some ⟨gN, 0, none⟩) i c1) av (overN T d) by have := HW.out.1; rw [HN.out, ovK_end, ← HN.out] at this; exact this)
      go_wp2
      go_ret
      exact ⟨_, av, rfl, HFIN.out, HW.out.2⟩
end
section
open Go.RowKit

theorem rowC_app2 (O N : List Nd) (av av2 : Nat → Value) : rowC (O ++ N) (fun i => if i < O.length then av i else av2 (i - O.length)) = rowC O av ++ rowC N av2 := by
  unfold rowC
  rw [List.length_append, List.range_add, List.flatMap_append, List.flatMap_map]
  congr 1
  · refine flatMap_congr' fun i hi => ?_
    have hi := List.mem_range.1 hi
    rw [app_lt hi]
    exact congrArg (nodC O[i]!) (if_pos hi)
  · refine flatMap_congr' fun i hi => ?_
    have hi := List.mem_range.1 hi
    rw [app_ge hi]
    refine congrArg (nodC N[i]!) ?_
    simp only
    rw [if_neg (by omega)]
    congr 1
    omega
theorem own_onecell {w : World} {base e size n : Nat} {v : Value} {xs : List Value} (h : w.ownsRow base e size v n xs) : v.oneCell' = true := by
  rcases h.2 with ⟨rfl, -⟩ | ⟨g, cap, cur, rfl, -⟩ <;> rfl
theorem rowC_one {w : World} {base : Nat} {av : Nat → Value} {N : List Nd} (h : ∀ i, i < N.length → w.ownsRow base 3 1 (av i) (N[i]!).args.length (iV (N[i]!).args)) : ∀ u ∈ rowC N av, u.oneCell' = true := by
  intro u hu
  unfold rowC at hu
  rw [List.mem_flatMap] at hu
  obtain ⟨i, hi, hu⟩ := hu
  have hi := List.mem_range.1 hi
  simp only [nodC, List.mem_cons, List.not_mem_nil, or_false] at hu
  rcases hu with rfl | rfl | rfl | rfl | rfl
  · rfl
  · rfl
  · rfl
  · exact own_onecell (h i hi)
  · rfl
theorem OwnS.app2 {w w' : World} {base S : Nat} {nv nv2 nv' : Value} {av av2 : Nat → Value} {O N : List Nd} (h : OwnS w base nv av O) (h2 : OwnS w base nv2 av2 N) (hvn : ∀ i, i < N.length → ∀ b, (av2 i).ownBlock = some b → nv.ownBlock ≠ some b)
    (hrow : w'.ownsRow base 47 5 nv' (O.length + N.length) (rowC O av ++ rowC N av2)) (hg : w.grownBy w' nv.ownBlock) (hS : w.heap.size ≤ S) (hloc : nv'.ownBlock = nv.ownBlock ∨ nv'.ownBlock = some S) :
    OwnS w' base nv' (fun i => if i < O.length then av i else av2 (i - O.length)) (O ++ N) where
  own := {
    row := by rw [rowC_app2, List.length_append]; exact hrow
    args := fun i hi => by
      rw [List.length_append] at hi
      by_cases e : i < O.length
      · simp only [if_pos e]
        rw [app_lt e]
        exact ownsRow_keep (h.own.args i e) fun b hb => hg.block b (own_lt (h.own.args i e) b hb) (fun e2 => h.sep i e b hb e2.symm)
      · obtain ⟨q, rfl⟩ : ∃ q, i = O.length + q := ⟨i - O.length, by omega⟩
        simp only [if_neg e, Nat.add_sub_cancel_left]
        rw [app_ge (by omega)]
        exact ownsRow_keep (h2.own.args q (by omega)) fun b hb => hg.block b (own_lt (h2.own.args q (by omega)) b hb) (fun e2 => hvn q (by omega) b hb e2.symm)
    imm := fun i hi => by
      rw [List.length_append] at hi
      by_cases e : i < O.length
      · rw [app_lt e]; exact h.own.imm i e
      · obtain ⟨q, rfl⟩ : ∃ q, i = O.length + q := ⟨i - O.length, by omega⟩
        rw [app_ge (by omega)]; exact h2.own.imm q (by omega) }
  sep := fun i hi b hb => by
    rw [List.length_append] at hi
    have h1 : b < w.heap.size ∧ nv.ownBlock ≠ some b := by
      by_cases e : i < O.length
      · simp only [if_pos e] at hb
        exact ⟨own_lt (h.own.args i e) b hb, h.sep i e b hb⟩
      · simp only [if_neg e] at hb
        exact ⟨own_lt (h2.own.args (i - O.length) (by omega)) b hb, hvn (i - O.length) (by omega) b hb⟩
    rcases hloc with e | e
    · rw [e]; exact h1.2
    · rw [e]
      intro e2
      injection e2 with e2
      omega
/-- What Join of the reference has in memory. -/
structure JoW (w0 : World) (R : Nat) (op wid imm : Int) (nv vl : Value) (av : Nat → Value) (O : List Nd) (rs : List Nat) (w : World) : Prop where
  below : Below w0.heap.size w0 w
  root : w.heap[R]? = some (.cells #[.int .i64 op, .int .i64 wid, .int .i64 0, vl, .int .u32 imm] 47 (0, 0))
  own : OwnS w w0.heap.size nv av O
  row : w.ownsRow w0.heap.size 3 1 vl rs.length (iV (natI rs))
  hR : w0.heap.size ≤ R
  sepR : nv.ownBlock ≠ some R ∧ (∀ j, j < O.length → (av j).ownBlock ≠ some R) ∧ vl.ownBlock ≠ some R
  sepV : ∀ b, vl.ownBlock = some b → nv.ownBlock ≠ some b ∧ ∀ j, j < O.length → (av j).ownBlock ≠ some b
theorem JoW.grow {w0 w w' : World} {R : Nat} {op wid imm : Int} {nv vl : Value} {av : Nat → Value} {O : List Nd} {rs : List Nat} (h : JoW w0 R op wid imm nv vl av O rs w) (hb : Below w.heap.size w w') : JoW w0 R op wid imm nv vl av O rs w' where
  below := h.below.trans (hb.mono h.below.size)
  root := (hb.block _ (lt_of_block h.root)).trans h.root
  own := h.own.below hb
  row := own_below h.row hb
  hR := h.hR
  sepR := h.sepR
  sepV := h.sepV
/-- A part appended. -/
theorem JoW.part {w0 w w' : World} {R S : Nat} {op wid imm : Int} {nv vl nv2 nv' : Value} {av av2 : Nat → Value} {O N : List Nd} {rs : List Nat} {B : Nat} (h : JoW w0 R op wid imm nv vl av O rs w) (h2 : OwnS w B nv2 av2 N) (hB : w0.heap.size ≤ B) (hRB : R < B) (hnB : ∀ b, nv.ownBlock = some b → b < B) (hvB : ∀ b, vl.ownBlock = some b → b < B)
    (hrow : w'.ownsRow w0.heap.size 47 5 nv' (O.length + N.length) (rowC O av ++ rowC N av2)) (hg : w.grownBy w' nv.ownBlock) (hS : w.heap.size ≤ S) (hloc : nv'.ownBlock = nv.ownBlock ∨ nv'.ownBlock = some S) :
    JoW w0 R op wid imm nv' vl (fun i => if i < O.length then av i else av2 (i - O.length)) (O ++ N) rs w' where
  below := h.below.grown hg h.below.size (fun k hk => own_base h.own.own.row k hk)
  root := (hg.block R (lt_of_block h.root) (fun e => h.sepR.1 e.symm)).trans h.root
  own := h.own.app2 (N := N) ⟨h2.own.mono hB, h2.sep⟩ (fun i hi b hb e => by
    have h1 := own_base (h2.own.args i hi) b hb
    have h3 := hnB b e
    omega) hrow hg hS hloc
  row := ownsRow_keep h.row fun b hb => hg.block b (own_lt h.row b hb) (fun e => (h.sepV b hb).1 e.symm)
  hR := h.hR
  sepR := ⟨by
    rcases hloc with e | e
    · rw [e]; exact h.sepR.1
    · rw [e]; intro e2; injection e2 with e2; have := lt_of_block h.root; omega, fun j hj e => by
    rw [List.length_append] at hj
    by_cases c : j < O.length
    · simp only [if_pos c] at e
      exact h.sepR.2.1 j c e
    · simp only [if_neg c] at e
      have := own_base (h2.own.args (j - O.length) (by omega)) R e
      omega, h.sepR.2.2⟩
  sepV := fun b hb => ⟨by
    rcases hloc with e | e
    · rw [e]; exact (h.sepV b hb).1
    · rw [e]; intro e2; injection e2 with e2; have := own_lt h.row b hb; omega, fun j hj e => by
    rw [List.length_append] at hj
    by_cases c : j < O.length
    · simp only [if_pos c] at e
      exact (h.sepV b hb).2 j c e
    · simp only [if_neg c] at e
      have h1 := own_base (h2.own.args (j - O.length) (by omega)) b e
      have h3 := hvB b hb
      omega⟩
/-- The place of a root appended. -/
theorem JoW.arg {w0 w w' : World} {R S : Nat} {op wid imm : Int} {nv vl vl' : Value} {av : Nat → Value} {O : List Nd} {rs : List Nat} {x : Nat} (h : JoW w0 R op wid imm nv vl av O rs w)
    (hrow : w'.ownsRow w0.heap.size 3 1 vl' (rs.length + 1) (iV (natI rs) ++ [.int .i64 (x : Int)])) (hg : w.grownBy w' vl.ownBlock) (hS : w.heap.size ≤ S) (hloc : vl'.ownBlock = vl.ownBlock ∨ vl'.ownBlock = some S) :
    JoW w0 R op wid imm nv vl' av O (rs ++ [x]) (w'.setCell ⟨R, 3, none⟩ vl') := by
  have hr := (hg.block R (lt_of_block h.root) (fun e => h.sepR.2.2 e.symm)).trans h.root
  have hk := keep_set w' R 3 vl'
  have hs := hg.size
  have blk : ∀ b, b < w.heap.size → vl.ownBlock ≠ some b → b ≠ R → (w'.setCell ⟨R, 3, none⟩ vl').heap[b]? = w.heap[b]? := fun b hb hn hne => (hk.block b (by omega) hne).trans (hg.block b hb (fun e => hn e.symm))
  have hvR : vl'.ownBlock ≠ some R := by
    rcases hloc with e | e
    · rw [e]; exact h.sepR.2.2
    · rw [e]; intro e2; injection e2 with e2; have := lt_of_block h.root; omega
  exact {
    below := (h.below.grown hg h.below.size (fun k hk => own_base h.row k hk)).setCell (p := ⟨R, 3, none⟩) h.hR _
    root := (heap_setCell_same w' R 3 _ _ _ hr).trans rfl
    own := h.own.keep (fun b hb => blk b (own_lt h.own.own.row b hb) (fun e => (h.sepV b e).1 hb) (fun e => h.sepR.1 (by rw [hb, e]))) (fun j hj b hb => blk b (own_lt (h.own.own.args j hj) b hb) (fun e => (h.sepV b e).2 j hj hb) (fun e => h.sepR.2.1 j hj (by rw [hb, e])))
    row := by
      rw [natI_snoc, iV_app, List.length_append, List.length_singleton]
      exact ownsRow_keep hrow fun b hb => hk.block b (own_lt hrow b hb) (fun e => hvR (by rw [hb, e]))
    hR := h.hR
    sepR := ⟨h.sepR.1, h.sepR.2.1, hvR⟩
    sepV := fun b hb => by
      rcases hloc with e | e
      · rw [e] at hb
        exact h.sepV b hb
      · rw [e] at hb
        injection hb with hb
        refine ⟨fun e2 => ?_, fun j hj e2 => ?_⟩
        · have := own_lt h.own.own.row b e2
          omega
        · have := own_lt (h.own.own.args j hj) b e2
          omega }
theorem arN_neg (op : Int) : decide (arN op < 0) = !isOpB op := by
  unfold arN
  cases h : isOpB op
  · simp
  · have h1 : 0 ≤ argN op := by
      unfold argN
      split
      · omega
      · split
        · omega
        · split <;> omega
    simp
    exact h1
section
variable {w : World} {A : Option Addr} {n c : Nat} {Ps : List (List Nd)} {op wid imm : Int}
set_option maxRecDepth 100000 in
set_option maxHeartbeats 8000000 in
theorem refJoin_any (h : RTm w A n c Ps) (hn : n ≤ 10) (him : 0 ≤ imm ∧ imm < 4294967296) :
    Calls Tryd.prog 32 #[.int .i64 op, .int .i64 wid, .int .u32 imm, .slice A n c] w fun e w' => ∃ nv av, e = .returned (.tuple #[nv, .int .i64 (joinF op wid imm Ps)]) ∧ OwnT w' w.heap.size nv av (if joinF op wid imm Ps = 0 then joinN op wid imm Ps else []) ∧ Below w.heap.size w w' := by
  obtain ⟨j0, ji, jz0, jz1, jz2⟩ := infoNod
  obtain ⟨i0, hi, hz0, hz1, hz2⟩ := info_parts infoI
  have hcap := h.2.1
  have hmax := h.2.2.1
  have HN := Lib.hid h.1
  have H := Lib.hid h
  have HA := Lib.hid (fun w1 => arity_any op w1)
  have HFJ := Lib.hid (show joinF op wid imm Ps = _ from rfl)
  have HNL := Lib.hid (show joinF op wid imm Ps ≠ 0 → (if joinF op wid imm Ps = 0 then joinN op wid imm Ps else []) = [] from fun e => if_neg e)
  have HNY := Lib.hid (show joinF op wid imm Ps = 0 → (if joinF op wid imm Ps = 0 then joinN op wid imm Ps else []) = joinN op wid imm Ps from fun e => if_pos e)
  generalize (if joinF op wid imm Ps = 0 then joinN op wid imm Ps else []) = NL at HNL HNY ⊢
  have HJF := Lib.hid (show ∀ i, (∀ j, j < i → valF Ps[j]! = 0) → i < Ps.length → valF Ps[i]! ≠ 0 → joinF op wid imm Ps = valF Ps[i]! from fun i h1 h2 h3 => by
    unfold joinF
    rw [errJ_at Ps i h1 h2 h3, if_neg h3])
  have HJN := Lib.hid (show (∀ j, j < Ps.length → valF Ps[j]! = 0) → joinF op wid imm Ps = if isOpB op = true then valF (joinN op wid imm Ps) else 1 from fun h1 => by
    unfold joinF
    rw [errJ_none Ps h1, if_pos rfl])
  generalize joinF op wid imm Ps = F at HNL HNY HJF HJN ⊢
  clear h HFJ
  go_enter Tryd.func32, Tryd.ntmps32
  go_wp2
  go_loopw [10] (fun zi wv => ∃ i : Nat, i ≤ n ∧ zi = .int .i64 (i : Int) ∧ Below w.heap.size w wv ∧ Hid (∀ j, j < i → valF Ps[j]! = 0)) (fun zi _ => n - (intOf zi).toNat)
  case atStart => exact ⟨0, by omega, rfl, Below.refl _ _, Lib.hid fun j hj => absurd hj (by omega)⟩
  case round =>
    obtain ⟨i, hi', rfl, hb, HV0⟩ := hrel
    rename World => wv
    by_cases hlt : i < n
    · obtain ⟨b, off, A', n', c', rfl, hbs, hcel, hT⟩ := (H.out.below hb).at_ hlt
      have HVA := Lib.hid (refValidate_any hT)
      have HJ1 := Lib.hid (HJF.out i HV0.out (by rw [← HN.out]; exact hlt))
      have HV1 := Lib.hid (show valF Ps[i]! = 0 → ∀ j, j < i + 1 → valF Ps[j]! = 0 from fun e j hj => by
        by_cases e2 : j = i
        · rw [e2]; exact e
        · exact HV0.out j (by omega))
      have HB := Lib.hid hb
      clear hb hT
      generalize valF Ps[i]! = V at HVA HJ1 HV1
      go_wp2_with fail
      refine HVA.out.mono ?_
      rintro e w2 ⟨rfl, hb2⟩
      have HB2 := Lib.hid (HB.out.trans (hb2.mono HB.out.size))
      clear hcel hb2 hbs
      by_cases hv : V = 0
      · subst hv
        go_wp2
        go_roundw
        case rel => exact ⟨i + 1, by omega, by go_num, HB2.out, Lib.hid (HV1.out trivial)⟩
        case measure => simp [intOf]; omega
      · have e1 : (V != 0) = true := bne_iff_ne.2 hv
        have HR := Lib.hid (HJ1.out hv)
        have HR0 := Lib.hid (show F ≠ 0 by rw [HR.out]; exact hv)
        clear hv
        go_wp2
        go_ret2
        exact ⟨_, fun _ => undef, by exact ret_vi HR.out, by rw [HNL.out HR0.out]; exact ownT_nil _ _ _, HB2.out⟩
    · obtain rfl : i = n := by omega
      have HR := Lib.hid (HJN.out (by rw [← HN.out]; exact HV0.out))
      have e0 := arN_neg op
      have HB := Lib.hid hb
      clear hb HJF HJN
      generalize arN op = ar at HA e0
      cases hop : isOpB op
      · rw [hop] at e0 HR
        have HR1 := Lib.hid (show F = 1 by rw [HR.out]; rfl)
        clear hop HR
        go_wp2_with fail
        refine (HA.out _).mono ?_
        rintro e w2 ⟨rfl, rfl⟩
        go_wp2
        go_ret2
        exact ⟨_, fun _ => undef, by exact ret_vi HR1.out, by rw [HNL.out (by rw [HR1.out]; decide)]; exact ownT_nil _ _ _, HB.out⟩
      · rw [hop, if_pos rfl] at HR
        rw [hop] at e0
        clear hop
        go_wp2_with fail
        refine (HA.out _).mono ?_
        rintro e w2 ⟨rfl, rfl⟩
        go_upto_region 10 with fail
        have hx := heap_alloc_new wv (.cells #[.int .i64 op, .int .i64 wid, .int .i64 0, .slice none 0 0, .int .u32 imm] 47)
        have hbx := HB.out.alloc HB.out.size (.cells #[.int .i64 op, .int .i64 wid, .int .i64 0, .slice none 0 0, .int .u32 imm] 47)
        have HRS := Lib.hid HB.out.size
        generalize World.alloc wv _ = w3 at hx hbx ⊢
        generalize wv.heap.size = R at hx HRS ⊢
        have HJ0 := Lib.hid (show JoW w R op wid imm (.slice none 0 0) (.slice none 0 0) (fun _ => undef) [] [] w3 from {
          below := hbx
          root := hx
          own := ownS_nil _ _ _
          row := World.ownsRow_nil _ _ _ _
          hR := HRS.out
          sepR := ⟨by simp [Value.ownBlock], fun j hj => absurd hj (by simp), by simp [Value.ownBlock]⟩
          sepV := fun b hb => by simp [Value.ownBlock] at hb })
        clear hx hbx
        have HVV := Lib.hid HV0.out
        clear HV0 HA e0
        go_upto_region 12 with fail
        go_loopw [13, 14] (fun zl zi wr => ∃ (j : Nat) (vl : Value) (av : Nat → Value) (O : List Nd) (rs : List Nat), j ≤ i ∧ zi = .int .i64 (j : Int) ∧ JoW w R op wid imm zl vl av O rs wr ∧ Hid (CatM Ps j O rs)) (fun _ zi _ => i - (intOf zi).toNat)
        case atStart => exact ⟨0, _, _, [], [], by omega, rfl, HJ0.out, Lib.hid (catM_zero Ps)⟩
        case round =>
          clear HJ0
          obtain ⟨j, vl, av, O, rs, hj, rfl, hW, HC⟩ := hrel
          rename World => wr
          have HW := Lib.hid hW
          obtain ⟨A1, c1, hzl, hTO⟩ := own_term hW.own.own
          have hcapO := hTO.2.1
          have hmaxO := hTO.2.2.1
          have HLO := Lib.hid HC.out.len
          obtain ⟨lo, hlo⟩ : ∃ lo, O.length = lo := ⟨_, rfl⟩
          have HLOE := Lib.hid hlo
          rw [hlo] at hzl hcapO HLO
          by_cases hlt : j < i
          · clear hTO hlo
            obtain ⟨b, off, A', n', c', rfl, hbs, hcel, hT⟩ := (H.out.below hW.below).at_ hlt
            have hvj := HVV.out j hlt
            have hlo10 : lo ≤ 3000 := by have := HLO.out; omega
            have HOV := Lib.hid (over_any hT hvj (d := lo) (by omega))
            have HNX := Lib.hid (HC.out.next hvj)
            rw [HLOE.out] at HNX
            have hlp := (val_zero.1 hvj).1
            rw [← hT.1] at hlp
            have HTL := Lib.hid hT.1
            have HOL := Lib.hid (show (overN Ps[j]! lo).length = n' by rw [overN_len, ← hT.1])
            rw [← hT.1] at HNX
            generalize overN Ps[j]! lo = N at HOV HNX HOL
            subst hzl
            clear hW hT hvj
            go_wp2_with fail
            refine HOV.out.mono ?_
            rintro e w4 ⟨nv2, av2, rfl, hO2, hb4⟩
            obtain ⟨A2, c2, hnv2, hT2⟩ := own_term hO2.own
            rw [HOL.out] at hnv2 hT2
            subst hnv2
            obtain ⟨g2, rfl⟩ : ∃ g, A2 = some ⟨g, 0, none⟩ := by
              rcases hO2.own.row.2 with ⟨q1, q2⟩ | ⟨g, cap, cur, q1, -⟩
              · have := HOL.out
                omega
              · injection q1 with q1 _ _
                exact ⟨g, q1⟩
            have HO2 := Lib.hid hO2
            have HW4 := Lib.hid (HW.out.grow hb4)
            have HB4 := Lib.hid hb4
            have hcap2 := hT2.2.1
            have hmax2 := hT2.2.2.1
            have HCELL := Lib.hid (show ∀ q u, (rowC N av2)[q]? = some u → w4.cell? ((⟨g2, 0, none⟩ : Addr).add q) = some u from fun q u hq => by
              rw [add_lit0]
              have h1 := hO2.own.row
              rw [HOL.out] at h1
              exact (own_cell h1 hq).1)
            have hrow4 := HW4.out.own.own.row
            rw [HLOE.out] at hrow4
            have HROW4 := Lib.hid hrow4
            have hbase4 : w.heap.size ≤ w4.heap.size := HW4.out.below.size
            clear hO2 hT2 hb4 hrow4
            go_wp2_with (at_builtin; refine wpList_append_own_at _ rfl _ _ 22 rfl w.heap.size 47 j0 (.agg #[.int .i64 0, .int .i64 0, .int .i64 0, .slice none 0 0, .int .u32 0]) 5 56 Tryd.underlying22 ji jz0 jz1 jz2 rfl (by decide) _ _ _ rfl HROW4.out ⟨g2, 0, none⟩ n' c2 (rowC N av2) rfl ?q0 HCELL.out ?q1 ?q2 ?q3 hbase4 ?_)
            case q0 => rw [rowC_len, HOL.out]
            case q1 => exact rowC_one HO2.out.own.args
            case q2 => unfold maxLen; omega
            case q3 => omega
            intro v5 w5 hrow5 hg5 _ hloc5
            have hJ5 := HW4.out.part HO2.out HW.out.below.size (by have := lt_of_block HW.out.root; omega) (fun b hb => own_lt HW.out.own.own.row b hb) (fun b hb => own_lt HW.out.row b hb) (by rw [HOL.out, HLOE.out]; exact hrow5) hg5 (S := w4.heap.size) (Nat.le_refl _) hloc5
            obtain ⟨A5, c5, hv5, hT5⟩ := own_term hJ5.own.own
            obtain ⟨lq, hlq⟩ : ∃ q, lo + n' = q := ⟨_, rfl⟩
            have HLQ := Lib.hid hlq
            rw [List.length_append, HOL.out, HLOE.out, hlq] at hv5 hT5
            have hlq1 : 1 ≤ lq ∧ lq ≤ 4000 := by omega
            clear hlq
            have hcap5 := hT5.2.1
            have hmax5 := hT5.2.2.1
            subst hv5
            have HJ5 := Lib.hid hJ5
            obtain ⟨Av, cv, hvl, hIv⟩ := own_ints hJ5.row
            have HNUM := Lib.hid HC.out.num
            rw [HNUM.out] at hvl hIv
            have hcapv := hIv.2.1
            have hmaxv := hIv.2.2.1
            subst hvl
            have hrc : w5.cell? ⟨R, 3, none⟩ = some (.slice Av j cv) ∧ w5.frozen? ⟨R, 3, none⟩ = false := ⟨by simp [World.cell?, hJ5.root], by simp [World.frozen?, hJ5.root]⟩
            obtain ⟨hrc1, hrc2⟩ := hrc
            have hRl := lt_of_block hJ5.root
            have hrowv := hJ5.row
            rw [HNUM.out] at hrowv
            have HROWV := Lib.hid (own_below hrowv ((Below.refl _ _).alloc (Nat.le_refl w5.heap.size) (.cells #[.int .i64 ((lq - 1 : Nat) : Int)] 3)))
            have e9 : ((lq : Nat) : Int) - 1 = ((lq - 1 : Nat) : Int) := by omega
            have hbase5 : w.heap.size ≤ w5.heap.size := hJ5.below.size
            clear hrow5 hg5 hloc5 hT5 hJ5 hIv hrowv HO2 HCELL HROW4
            go_wp2_with (at_builtin; refine wpList_append_own_at _ rfl _ _ 25 rfl w.heap.size 3 i0 (.int .i64 0) 1 8 Tryd.underlying25 hi hz0 hz1 hz2 rfl (by decide) _ _ _ rfl HROWV.out ⟨w5.heap.size, 0, none⟩ 1 1 [.int .i64 ((lq - 1 : Nat) : Int)] rfl rfl (one_new w5 _ _) ?k2 ?k3 ?k4 ?k5 ?_)
            case k2 => simp [Value.oneCell']
            case k3 => unfold maxLen; omega
            case k4 => omega
            case k5 => simp; omega
            intro v6 w6 hrow6 hg6 _ hloc6
            obtain ⟨A6, c6, rfl, hc6, hc6m⟩ := own_slice hrow6
            have hb5a : Below w5.heap.size w5 (w5.alloc (.cells #[.int .i64 ((lq - 1 : Nat) : Int)] 3)) := (Below.refl _ _).alloc (Nat.le_refl _) _
            have hJ6 := (HJ5.out.grow hb5a).arg (x := lq - 1) (by rw [HNUM.out]; exact hrow6) hg6 (S := w5.heap.size + 1) (by simp) hloc6
            have HJ6 := Lib.hid hJ6
            have hR6 := (hg6.block R (by simp; omega) (fun e => HJ5.out.sepR.2.2 e.symm)).trans ((heap_alloc_old w5 _ hRl).trans HJ5.out.root)
            have hr6f : w6.frozen? ⟨R, 3, none⟩ = false := by simp [World.frozen?, hR6]
            have hr6c : w6.cell? ⟨R, 3, none⟩ = some (.slice Av j cv) := by simp [World.cell?, hR6]
            have hR6l := lt_of_block hR6
            clear hrow6 hg6 hloc6 hb5a hJ6 hR6 hrc1 hrc2 hRl
            go_wp2
            go_roundw
            case rel => exact ⟨j + 1, _, _, _, _, by omega, by go_num, HJ6.out, Lib.hid (by have := HNX.out; rw [HLQ.out] at this; exact this)⟩
            case measure => simp [intOf]; omega
          · obtain rfl : j = i := by omega
            subst hzl
            clear hlo hTO
            obtain ⟨Av, cv, hvl, hIv⟩ := own_ints hW.row
            have HNUM := Lib.hid HC.out.num
            rw [HNUM.out] at hvl
            subst hvl
            obtain ⟨d0, d1, d2, d3, d4⟩ := cells5 (x := ⟨op, wid, 0, [], imm⟩) hW.root
            simp only at d0 d1 d2 d3 d4
            have hRl := lt_of_block hW.root
            have HSHR := Lib.hid (show CatM Ps Ps.length O rs by rw [← HN.out]; exact HC.out)
            have hbA : Below wr.heap.size wr (wr.alloc (.cells #[.int .i64 op, .int .i64 wid, .int .i64 0, .slice Av j cv, .int .u32 imm] 47)) := (Below.refl _ _).alloc (Nat.le_refl _) _
            have hrow4 := own_below hW.own.own.row hbA
            rw [HLOE.out] at hrow4
            have HROW4 := Lib.hid hrow4
            have HBA := Lib.hid hbA
            have hbase4 : w.heap.size ≤ wr.heap.size + 1 := by have := hW.below.size; omega
            have hlo10 : lo ≤ 3000 := by have := HLO.out; omega
            clear hW hIv hrow4 hbA
            go_wp2_with (at_builtin; refine wpList_append_own_at _ rfl _ _ 22 rfl w.heap.size 47 j0 (.agg #[.int .i64 0, .int .i64 0, .int .i64 0, .slice none 0 0, .int .u32 0]) 5 56 Tryd.underlying22 ji jz0 jz1 jz2 rfl (by decide) _ _ _ rfl HROW4.out ⟨wr.heap.size, 0, none⟩ 1 1 (nodC ⟨op, wid, 0, natI rs, imm⟩ (.slice Av j cv)) rfl rfl (five_new wr _ _ _ _ _ _) ?q1 ?q2 ?q3 ?q4 ?_)
            case q1 => intro u hu; simp [nodC] at hu; rcases hu with rfl | rfl | rfl | rfl | rfl <;> rfl
            case q2 => unfold maxLen; omega
            case q3 => omega
            case q4 => simp; omega
            intro v5 w5 hrow5 hg5 _ hloc5
            have hrv := own_below HW.out.row HBA.out
            have hO5 := (HW.out.own.below HBA.out).snoc (y := ⟨op, wid, 0, natI rs, imm⟩) (v := .slice Av j cv) (by rw [natI_len]; exact hrv) (fun b hb => (HW.out.sepV b hb).1) him (by rw [HLOE.out]; exact hrow5) hg5 (S := wr.heap.size + 1) (by simp) hloc5
            have hb5 := ((HW.out.below.alloc HW.out.below.size (.cells #[.int .i64 op, .int .i64 wid, .int .i64 0, .slice Av j cv, .int .u32 imm] 47)).grown hg5 (by have := HW.out.below.size; simp; omega) (fun k hk => own_base HW.out.own.own.row k hk))
            obtain ⟨A5, c5, hv5, hT5⟩ := own_term hO5.own
            have hlen5 : (O ++ [(⟨op, wid, 0, natI rs, imm⟩ : Nd)]).length = lo + 1 := by rw [List.length_append, List.length_singleton, HLOE.out]
            rw [hlen5] at hv5 hT5
            subst hv5
            have hsh := HSHR.out.shared op wid imm
            have HSH := Lib.hid (shared_any (k := lo) hT5 hsh.1 (fun k hk => by
              rw [hlen5] at hk
              by_cases e : k < O.length
              · rw [app_lt e]
                exact HSHR.out.args k e
              · obtain rfl : k = O.length := by have := HLOE.out; omega
                rw [getN_last]
                show (natI rs).length ≤ 100
                rw [natI_len, HNUM.out]
                omega) (by omega) (by omega))
            rw [show shF (O ++ [(⟨op, wid, 0, natI rs, imm⟩ : Nd)]) lo = joinN op wid imm Ps by rw [← HLOE.out]; exact hsh.2] at HSH
            have e9 : ((lo + 1 : Nat) : Int) - 1 = (lo : Int) := by omega
            have hcap5 := hT5.2.1
            have hmax5 := hT5.2.2.1
            have HB5 := Lib.hid hb5
            generalize joinN op wid imm Ps = N at HSH HR HNY
            clear hrow5 hg5 hloc5 hrv hO5 hb5 hT5 hlen5 hsh d0 d1 d2 d3 d4 hRl
            go_wp2_with fail
            refine HSH.out.mono ?_
            rintro e w6 ⟨nv6, av6, rfl, hO6, hb6⟩
            have HB6 := Lib.hid (HB5.out.trans (hb6.mono HB5.out.size))
            have HO6 := Lib.hid (hO6.own.mono HB5.out.size)
            obtain ⟨A6, c6, rfl, hT6⟩ := own_term hO6.own
            have HVA := Lib.hid (refValidate_any hT6)
            generalize valF N = V at HVA HR
            clear hO6 hb6 hT6
            go_wp2_with fail
            refine HVA.out.mono ?_
            rintro e w7 ⟨rfl, hb7⟩
            have HB7 := Lib.hid (HB6.out.trans (hb7.mono HB6.out.size))
            have HO7 := Lib.hid (show OwnT w7 w.heap.size (.slice A6 N.length c6) av6 N from ⟨own_below HO6.out.row hb7, fun q hq => own_below (HO6.out.args q hq) hb7, HO6.out.imm⟩)
            clear hb7
            by_cases hv : V = 0
            · subst hv
              go_wp2
              go_ret2
              exact ⟨_, av6, by exact ret_vi HR.out, by rw [HNY.out HR.out]; exact HO7.out, HB7.out⟩
            · have e1 : (V != 0) = true := bne_iff_ne.2 hv
              have HR0 := Lib.hid (show F ≠ 0 by rw [HR.out]; exact hv)
              clear hv
              go_wp2
              go_ret2
              exact ⟨_, fun _ => undef, by exact ret_vi HR.out, by rw [HNL.out HR0.out]; exact ownT_nil _ _ _, HB7.out⟩
end
end
section
open Go.RowKit

section
variable {w : World} {A : Option Addr} {n c : Nat} {Ps : List (List Nd)} {op wid imm : Int}
set_option maxRecDepth 100000 in
set_option maxHeartbeats 4000000 in
theorem nodesS_any {P M base : Nat} {F : Nat → Prop} {out : List Nd} (hP : Pool w base P M F out) :
    Calls Tryd.prog 50 #[ptr P] w fun e w' => ∃ nv av, e = .returned nv ∧ OwnS w base nv av out ∧ (∀ b, nv.ownBlock = some b → F b) ∧ w' = w := by
  obtain ⟨nv, av, D, h⟩ := hP
  have hO : OwnS w base nv av out := ⟨⟨h.row, h.args, fun i hi => (h.fine i hi).imm⟩, fun i hi b e => (h.argF i hi b e).2.2.2⟩
  have hB := h.blk
  have HNF := Lib.hid (fun b e => (h.nvF b e).1)
  obtain ⟨⟨c0, -⟩, -⟩ := cells2 hB
  have hl := lt_of_block hB
  have HF := Lib.hid hO
  obtain ⟨A2, c2, rfl, -⟩ := own_term hO.own
  clear h hO hB
  go_enter Tryd.func50, Tryd.ntmps50
  go_wp2
  go_ret
  exact ⟨_, av, rfl, HF.out, HNF.out, rfl⟩
set_option maxRecDepth 100000 in
set_option maxHeartbeats 8000000 in
theorem join_any (h : RTm w A n c Ps) (hn : n ≤ 10) (him : 0 ≤ imm ∧ imm < 4294967296) :
    Calls Tryd.prog 31 #[.int .i64 op, .int .i64 wid, .int .u32 imm, .slice A n c] w fun e w' => ∃ nv av, e = .returned (.tuple #[nv, .int .i64 (joinF op wid imm Ps)]) ∧ OwnT w' w.heap.size nv av (if joinF op wid imm Ps = 0 then joinN op wid imm Ps else []) ∧ Below w.heap.size w w' := by
  obtain ⟨j0, ji, jz0, jz1, jz2⟩ := infoNod
  obtain ⟨i0, hi, hz0, hz1, hz2⟩ := info_parts infoI
  have hcap := h.2.1
  have hmax := h.2.2.1
  have HN := Lib.hid h.1
  have H := Lib.hid h
  have HA := Lib.hid (fun w1 => isOp_any op w1)
  have HNL := Lib.hid (show joinF op wid imm Ps ≠ 0 → (if joinF op wid imm Ps = 0 then joinN op wid imm Ps else []) = [] from fun e => if_neg e)
  have HNY := Lib.hid (show joinF op wid imm Ps = 0 → (if joinF op wid imm Ps = 0 then joinN op wid imm Ps else []) = joinN op wid imm Ps from fun e => if_pos e)
  generalize (if joinF op wid imm Ps = 0 then joinN op wid imm Ps else []) = NL at HNL HNY ⊢
  have HJF := Lib.hid (show ∀ i, (∀ j, j < i → valF Ps[j]! = 0) → i < Ps.length → valF Ps[i]! ≠ 0 → joinF op wid imm Ps = valF Ps[i]! from fun i h1 h2 h3 => by
    unfold joinF
    rw [errJ_at Ps i h1 h2 h3, if_neg h3])
  have HJN := Lib.hid (show (∀ j, j < Ps.length → valF Ps[j]! = 0) → joinF op wid imm Ps = if isOpB op = true then valF (joinN op wid imm Ps) else 1 from fun h1 => by
    unfold joinF
    rw [errJ_none Ps h1, if_pos rfl])
  generalize joinF op wid imm Ps = F at HNL HNY HJF HJN ⊢
  clear h
  go_enter Tryd.func31, Tryd.ntmps31
  go_wp2
  go_loopw [22] (fun zi wv => ∃ i : Nat, i ≤ n ∧ zi = .int .i64 (i : Int) ∧ Below w.heap.size w wv ∧ Hid (∀ j, j < i → valF Ps[j]! = 0)) (fun zi _ => n - (intOf zi).toNat)
  case atStart => exact ⟨0, by omega, rfl, Below.refl _ _, Lib.hid fun j hj => absurd hj (by omega)⟩
  case round =>
    obtain ⟨i, hi', rfl, hb, HV0⟩ := hrel
    rename World => wv
    by_cases hlt : i < n
    · obtain ⟨b, off, A', n', c', rfl, hbs, hcel, hT⟩ := (H.out.below hb).at_ hlt
      have HVA := Lib.hid (validate_any hT)
      have HJ1 := Lib.hid (HJF.out i HV0.out (by rw [← HN.out]; exact hlt))
      have HV1 := Lib.hid (show valF Ps[i]! = 0 → ∀ j, j < i + 1 → valF Ps[j]! = 0 from fun e j hj => by
        by_cases e2 : j = i
        · rw [e2]; exact e
        · exact HV0.out j (by omega))
      have HB := Lib.hid hb
      clear hb hT
      generalize valF Ps[i]! = V at HVA HJ1 HV1
      go_wp2_with fail
      refine HVA.out.mono ?_
      rintro e w2 ⟨rfl, hb2⟩
      have HB2 := Lib.hid (HB.out.trans (hb2.mono HB.out.size))
      clear hcel hb2 hbs
      by_cases hv : V = 0
      · subst hv
        go_wp2
        go_roundw
        case rel => exact ⟨i + 1, by omega, by go_num, HB2.out, Lib.hid (HV1.out trivial)⟩
        case measure => simp [intOf]; omega
      · have e1 : (V != 0) = true := bne_iff_ne.2 hv
        have HR := Lib.hid (HJ1.out hv)
        have HR0 := Lib.hid (show F ≠ 0 by rw [HR.out]; exact hv)
        clear hv
        go_wp2
        go_ret2
        exact ⟨_, fun _ => undef, by exact ret_vi HR.out, by rw [HNL.out HR0.out]; exact ownT_nil _ _ _, HB2.out⟩
    · obtain rfl : i = n := by omega
      have HR := Lib.hid (HJN.out (by rw [← HN.out]; exact HV0.out))
      have HB := Lib.hid hb
      clear hb HJF HJN
      cases hop : isOpB op
      · rw [hop] at HA HR
        have HR1 := Lib.hid (show F = 1 by rw [HR.out]; rfl)
        clear hop HR
        go_wp2_with fail
        refine (HA.out _).mono ?_
        rintro e w2 ⟨rfl, rfl⟩
        go_wp2
        go_ret2
        exact ⟨_, fun _ => undef, by exact ret_vi HR1.out, by rw [HNL.out (by rw [HR1.out]; decide)]; exact ownT_nil _ _ _, HB.out⟩
      · rw [hop] at HA
        rw [hop, if_pos rfl] at HR
        clear hop
        go_wp2_with fail
        refine (HA.out _).mono ?_
        rintro e w2 ⟨rfl, rfl⟩
        have HPN := Lib.hid (poolNew_any wv)
        go_wp2_with fail
        refine HPN.out.mono ?_
        rintro e w3 ⟨P, M, F0, rfl, hP0, hb3⟩
        have HB3 := Lib.hid (HB.out.trans (hb3.mono HB.out.size))
        have HBS := Lib.hid HB.out.size
        generalize wv.heap.size = base at hP0 HBS
        have HP0 := Lib.hid hP0
        have HVV := Lib.hid HV0.out
        have HTK := Lib.hid (fun j (h : j < i) => treesJ_take (Ps := Ps) (i := j) (by rw [← HN.out]; exact h))
        have HALL := Lib.hid (show (treesJ Ps).take i = treesJ Ps from List.take_of_length_le (by simp [treesJ, HN.out]))
        have HNE := Lib.hid (show joinN op wid imm Ps = (insL (treesJ Ps) []).2 ++ [⟨op, wid, 0, natI (insL (treesJ Ps) []).1, imm⟩] from rfl)
        have HIL := Lib.hid (insL_len (treesJ Ps) [])
        have HTL := Lib.hid (show (treesJ Ps).length = i by simp [treesJ, HN.out])
        generalize treesJ Ps = cs at HTK HALL HNE HIL HTL
        clear hP0 hb3 HPN HA HV0
        go_upto_region 12 with fail
        go_wp2
        go_loopw [14, 38] (fun vl zi wr => ∃ (j : Nat) (Fq : Nat → Prop), j ≤ i ∧ zi = .int .i64 (j : Int) ∧ Pool wr base P M Fq (insL (cs.take j) []).2 ∧ wr.ownsRow w.heap.size 3 1 vl j (iV (natI (insL (cs.take j) []).1)) ∧ Hid ((∀ b, vl.ownBlock = some b → ¬ Fq b) ∧ Below w.heap.size w wr ∧ (insL (cs.take j) []).2.length ≤ 300 * j)) (fun _ zi _ => i - (intOf zi).toNat)
        case atStart => exact ⟨0, F0, by omega, rfl, by rw [List.take_zero, insL]; exact HP0.out, World.ownsRow_nil _ _ _ _, Lib.hid ⟨fun b hb => by simp [Value.ownBlock] at hb, HB3.out, by rw [List.take_zero, insL]; exact Nat.le_refl _⟩⟩
        case round =>
          clear HP0 HB3
          obtain ⟨j, Fq, hj, rfl, hP, hown, HH⟩ := hrel
          rename World => wr
          by_cases hlt2 : j < i
          · obtain ⟨b, off, A', n', c', rfl, hbs, hcel, hT⟩ := (H.out.below HH.out.2.1).at_ hlt2
            have hvj := HVV.out j hlt2
            have hlp := (val_zero.1 hvj).1
            have hnn : n' = Ps[j]!.length := hT.1
            rw [← hnn] at hlp
            obtain ⟨b0, off0, A0', n0', c0', q1, hbs0, hcel0, hT0⟩ := H.out.at_ hlt2
            injection q1 with q1
            injection q1 with q1 q2 _
            subst q1 q2
            have q3 := hcel.symm.trans ((HH.out.2.1.cell (p := ⟨b, off + j, none⟩) hbs0).trans hcel0)
            injection q3 with q3
            injection q3 with q3 q4 q5
            subst q3 q4 q5
            have HTA := Lib.hid (take_any (k := n' - 1) hT0 (val_fine hvj (term_imm hT0)) HH.out.2.1 HBS.out hP (by have := HH.out.2.2; omega) (by omega))
            rw [show tr Ps[j]! (n' - 1) = tr Ps[j]! (Ps[j]!.length - 1) by rw [hnn]] at HTA
            have HNX := Lib.hid (show insL (cs.take (j + 1)) [] = ((insL (cs.take j) []).1 ++ [(ins (tr Ps[j]! (Ps[j]!.length - 1)) (insL (cs.take j) []).2).1], (ins (tr Ps[j]! (Ps[j]!.length - 1)) (insL (cs.take j) []).2).2) by rw [HTK.out j hlt2, insL_snoc])
            have e9 : ((n' : Nat) : Int) - 1 = ((n' - 1 : Nat) : Int) := by omega
            have hcap0 := hT0.2.1
            have hmax0 := hT0.2.2.1
            have HOWN := Lib.hid hown
            have HP := Lib.hid hP
            obtain ⟨Av, cv, hvl, hIv⟩ := own_ints hown
            have hcapv := hIv.2.1
            have hmaxv := hIv.2.2.1
            subst hvl
            generalize (ins (tr Ps[j]! (Ps[j]!.length - 1)) (insL (cs.take j) []).2) = J at HTA HNX
            clear hT hT0 hcel0 hbs0 hown hP hIv hvj hnn
            go_wp2_with fail
            refine HTA.out.mono ?_
            rintro e w4 ⟨F4, rfl, hP4, g1, g2, g3, g4⟩
            have hvs := own_lt HOWN.out
            have hvb := own_base HOWN.out
            have hown4 := ownsRow_keep HOWN.out (fun b e => g3.block b (hvs b e) (fun e2 => HH.out.1 b e e2))
            have hv4F : ∀ b, (Value.slice Av j cv).ownBlock = some b → ¬ F4 b := fun b e e2 => by
              rcases g2 b e2 with e3 | e3
              · exact HH.out.1 b e e3
              · have := hvs b e
                omega
            have hb4 := HH.out.2.1.trans (g3.below (fun b e => Nat.le_trans HBS.out (HP.out.lt b e).2) HH.out.2.1.size)
            have HB4 := Lib.hid (And.intro hb4 (And.intro hP4 (And.intro hv4F g4)))
            have HROWV := Lib.hid (own_below hown4 ((Below.refl _ _).alloc (Nat.le_refl w4.heap.size) (.cells #[.int .i64 (J.1 : Int)] 3)))
            have hbase4 : w.heap.size ≤ w4.heap.size := hb4.size
            clear g1 g2 g3 g4 hvs hvb hown4 hv4F hb4 hP4 hcel
            generalize J.1 = z at HROWV HNX HB4 ⊢
            go_wp2_with (at_builtin; refine wpList_append_own_at _ rfl _ _ 25 rfl w.heap.size 3 i0 (.int .i64 0) 1 8 Tryd.underlying25 hi hz0 hz1 hz2 rfl (by decide) _ _ _ rfl HROWV.out ⟨w4.heap.size, 0, none⟩ 1 1 [.int .i64 (z : Int)] rfl rfl (one_new w4 _ _) ?k2 ?k3 ?k4 ?k5 ?_)
            case k2 => simp [Value.oneCell']
            case k3 => unfold maxLen; omega
            case k4 => omega
            case k5 => simp; omega
            intro v6 w6 hrow6 hg6 _ hloc6
            obtain ⟨A6, c6, rfl, hc6, hc6m⟩ := own_slice hrow6
            have hb5 : Below w4.heap.size w4 (w4.alloc (.cells #[.int .i64 (z : Int)] 3)) := (Below.refl _ _).alloc (Nat.le_refl _) _
            have hP5 := HB4.out.2.1.keep hb5.size (fun b e => hb5.block b (HB4.out.2.1.lt b e).1)
            have hs5 : (w4.alloc (.cells #[.int .i64 (z : Int)] 3)).heap.size = w4.heap.size + 1 := by simp
            have hP6 := Lib.hid (hP5.keep hg6.size (fun b e => hg6.block b (hP5.lt b e).1 (fun e2 => HB4.out.2.2.1 b e2.symm e)))
            have HF6 := Lib.hid (show ∀ b, (Value.slice A6 (j + 1) c6).ownBlock = some b → ¬ F4 b from fun b hb => by
              rcases hloc6 with e | e
              · rw [e] at hb
                exact HB4.out.2.2.1 b hb
              · rw [e] at hb
                injection hb with hb
                intro e2
                have := (HB4.out.2.1.lt b e2).1
                rw [← hb] at this
                omega)
            have HB6 := Lib.hid ((HB4.out.1.trans (hb5.mono HB4.out.1.size)).grown hg6 (Nat.le_trans HB4.out.1.size hb5.size) (fun q hq => own_base HOWN.out q hq))
            have HROW6 := Lib.hid (show w6.ownsRow w.heap.size 3 1 (.slice A6 (j + 1) c6) (j + 1) (iV (natI (insL (cs.take (j + 1)) []).1)) by
              rw [HNX.out, natI_snoc, iV_app]
              exact hrow6)
            have HPJ := Lib.hid (show Pool w6 base P M F4 (insL (cs.take (j + 1)) []).2 by rw [HNX.out]; exact hP6.out)
            have HLJ := Lib.hid (show (insL (cs.take (j + 1)) []).2.length ≤ 300 * (j + 1) by rw [HNX.out]; have h1 := HB4.out.2.2.2; have h2 := HH.out.2.2; simp only; omega)
            clear hrow6 hg6 hloc6 hb5 hP5 hP6 hs5
            go_wp2
            go_roundw
            case rel => exact ⟨j + 1, F4, by omega, by go_num, HPJ.out, HROW6.out, Lib.hid ⟨HF6.out, HB6.out, HLJ.out⟩⟩
            case measure => simp [intOf]; omega
          · obtain rfl : j = i := by omega
            rw [HALL.out] at hP hown
            have HND := Lib.hid (nodesS_any hP)
            obtain ⟨Av, cv, hvl, hIv⟩ := own_ints hown
            subst hvl
            have HOWN := Lib.hid hown
            have HVF := Lib.hid HH.out.1
            have HBW := Lib.hid HH.out.2.1
            have HOL := Lib.hid (show (insL cs []).2.length ≤ 3000 by have h1 := HH.out.2.2; rw [HALL.out] at h1; omega)
            clear hP hown hIv HTK HALL
            generalize hO : (insL cs []).2 = O at HND HNE HOL
            clear hO
            go_wp2_with fail
            refine HND.out.mono ?_
            rintro e w4 ⟨nv, av, rfl, hS, hnF, rfl⟩
            obtain ⟨A1, c1, rfl, hT1⟩ := own_term hS.own
            have hcap1 := hT1.2.1
            have hmax1 := hT1.2.2.1
            obtain ⟨lo, hlo⟩ : ∃ lo, O.length = lo := ⟨_, rfl⟩
            have HLO := Lib.hid hlo
            rw [hlo] at hcap1 HOL
            have hS2 : OwnS w4 w.heap.size (.slice A1 lo c1) av O := by rw [← hlo]; exact ⟨hS.own.mono HBS.out, hS.sep⟩
            rw [hlo] at hnF ⊢
            have HS := Lib.hid hS2
            have HNF := Lib.hid hnF
            have hbA : Below w4.heap.size w4 (w4.alloc (.cells #[.int .i64 op, .int .i64 wid, .int .i64 0, .slice Av j cv, .int .u32 imm] 47)) := (Below.refl _ _).alloc (Nat.le_refl _) _
            have hrow4 := own_below hS2.own.row hbA
            rw [hlo] at hrow4
            have HROW4 := Lib.hid hrow4
            have HBA := Lib.hid hbA
            have hlo10 := HOL.out
            have hbase4 : w.heap.size ≤ w4.heap.size + 1 := by have := HBW.out.size; omega
            clear hS hT1 hS2 hnF hrow4 hbA hlo HND
            go_wp2_with (at_builtin; refine wpList_append_own_at _ rfl _ _ 22 rfl w.heap.size 47 j0 (.agg #[.int .i64 0, .int .i64 0, .int .i64 0, .slice none 0 0, .int .u32 0]) 5 56 Tryd.underlying22 ji jz0 jz1 jz2 rfl (by decide) _ _ _ rfl HROW4.out ⟨w4.heap.size, 0, none⟩ 1 1 (nodC ⟨op, wid, 0, natI (insL cs []).1, imm⟩ (.slice Av j cv)) rfl rfl (five_new w4 _ _ _ _ _ _) ?q1 ?q2 ?q3 ?q4 ?_)
            case q1 => intro u hu; simp [nodC] at hu; rcases hu with rfl | rfl | rfl | rfl | rfl <;> rfl
            case q2 => unfold maxLen; omega
            case q3 => omega
            case q4 => simp; omega
            intro v5 w5 hrow5 hg5 _ hloc5
            have hlen2 : (natI (insL cs []).1).length = j := by rw [natI_len, HIL.out, HTL.out]
            have hrv := own_below HOWN.out HBA.out
            have hO5 := (HS.out.below HBA.out).snoc (y := ⟨op, wid, 0, natI (insL cs []).1, imm⟩) (v := .slice Av j cv) (by simp only; rw [hlen2]; exact hrv) (fun b hb e => HVF.out b hb (HNF.out b e)) him (by rw [HLO.out]; exact hrow5) hg5 (S := w4.heap.size + 1) (by simp) hloc5
            have HB5 := Lib.hid ((HBW.out.alloc HBW.out.size (.cells #[.int .i64 op, .int .i64 wid, .int .i64 0, .slice Av j cv, .int .u32 imm] 47)).grown hg5 (by have := HBW.out.size; simp; omega) (fun k hk => own_base HS.out.own.row k hk))
            rw [← HNE.out] at hO5
            generalize joinN op wid imm Ps = N at hO5 HR HNY
            obtain ⟨A5, c5, rfl, hT5⟩ := own_term hO5.own
            have HO5 := Lib.hid hO5.own
            have HVA := Lib.hid (validate_any hT5)
            have hcap5 := hT5.2.1
            have hmax5 := hT5.2.2.1
            generalize valF N = V at HVA HR
            clear hrow5 hg5 hloc5 hrv hO5 hT5
            go_wp2_with fail
            refine HVA.out.mono ?_
            rintro e w7 ⟨rfl, hb7⟩
            have HB7 := Lib.hid (HB5.out.trans (hb7.mono HB5.out.size))
            have HO7 := Lib.hid (show OwnT w7 w.heap.size (.slice A5 N.length c5) _ N from ⟨own_below HO5.out.row hb7, fun q hq => own_below (HO5.out.args q hq) hb7, HO5.out.imm⟩)
            clear hb7
            by_cases hv : V = 0
            · subst hv
              go_wp2
              go_ret2
              exact ⟨_, _, by exact ret_vi HR.out, by rw [HNY.out HR.out]; exact HO7.out, HB7.out⟩
            · have e1 : (V != 0) = true := bne_iff_ne.2 hv
              have HR0 := Lib.hid (show F ≠ 0 by rw [HR.out]; exact hv)
              clear hv
              go_wp2
              go_ret2
              exact ⟨_, fun _ => undef, by exact ret_vi HR.out, by rw [HNL.out HR0.out]; exact ownT_nil _ _ _, HB7.out⟩
end
end
section
open Go.RowKit

section
variable {w : World} {A : Option Addr} {n c : Nat} {Ps : List (List Nd)}
set_option maxRecDepth 100000 in
set_option maxHeartbeats 8000000 in
/-- The walk of TermJoins. -/
theorem joins_walk (h : RTm w A n c Ps) (hM : Masks w) (op wid imm : Int) (him : 0 ≤ imm ∧ imm < 4294967296) : Calls Tryd.prog 8 #[.agg #[.int .i64 op, .int .i64 wid, .int .u32 imm], .slice A n c] w fun e w' => e = .returned (.bool true) ∧ Below w.heap.size w w' := by
  have HK := Lib.hid (fun w1 (hb : Below w.heap.size w w1) => known_any (hM.below hb (Nat.le_refl _)))
  have hcap := h.2.1
  have hmax := h.2.2.1
  have H := Lib.hid h
  have HJ := Lib.hid (fun w1 (hb : Below w.heap.size w w1) (hn : n ≤ 10) => join_any (op := op) (wid := wid) (h.below hb) hn him)
  have HR := Lib.hid (fun w1 (hb : Below w.heap.size w w1) (hn : n ≤ 10) => refJoin_any (op := op) (wid := wid) (h.below hb) hn him)
  clear h hM
  generalize (if joinF op wid imm Ps = 0 then joinN op wid imm Ps else []) = N at HJ HR
  generalize joinF op wid imm Ps = E at HJ HR
  have eE : (E == E) = true := beq_self_eq_true E
  by_cases h10 : 10 < n
  · have e1 : decide (10 < (n : Int)) = true := decide_eq_true (by omega)
    clear HJ HR h10
    go_enter Tryd.func8, Tryd.ntmps8
    go_wp2_with fail
    refine (HK.out _ ((Below.refl _ _).alloc (Nat.le_refl _) _)).mono ?_
    rintro e w2 ⟨rfl, hb⟩
    have hb2 := ((Below.refl w.heap.size w).alloc (Nat.le_refl _) (.cells #[.int .i64 op, .int .i64 wid, .int .u32 imm] 55)).trans (hb.mono (by simp))
    go_wp2
    go_ret
    exact ⟨rfl, hb2⟩
  · have e1 : decide (10 < (n : Int)) = false := decide_eq_false (by omega)
    have hn10 : n ≤ 10 := by omega
    clear h10
    go_enter Tryd.func8, Tryd.ntmps8
    go_upto_region 1 with fail
    have hx := heap_alloc_new w (.cells #[.int .i64 op, .int .i64 wid, .int .u32 imm] 55)
    have hb0 : Below w.heap.size w (w.alloc (.cells #[.int .i64 op, .int .i64 wid, .int .u32 imm] 55)) := (Below.refl _ _).alloc (Nat.le_refl _) _
    generalize World.alloc w _ = W1 at hx hb0 ⊢
    obtain ⟨X, hXE⟩ : ∃ X, w.heap.size = X := ⟨_, rfl⟩
    rw [hXE] at hx ⊢
    have hxl := lt_of_block hx
    have HX := Lib.hid (show ∀ U, Below W1.heap.size W1 U → U.cell? ⟨X, 0, none⟩ = some (.int .i64 op) ∧ U.cell? ⟨X, 1, none⟩ = some (.int .i64 wid) ∧ U.cell? ⟨X, 2, none⟩ = some (.int .u32 imm) ∧ X < U.heap.size from fun U hU => by
      have h := (hU.block _ hxl).trans hx
      exact ⟨by simp [World.cell?, h], by simp [World.cell?, h], by simp [World.cell?, h], Nat.lt_of_lt_of_le hxl hU.size⟩)
    have HBR := Lib.hid (fun U (hU : Below W1.heap.size W1 U) => hb0.trans (hU.mono hb0.size))
    clear hx hb0 hXE hxl
    go_wp2
    go_loopw [5] (fun zi wv => ∃ i : Nat, i ≤ n ∧ zi = .int .i64 (i : Int) ∧ Below W1.heap.size W1 wv) (fun zi _ => n - (intOf zi).toNat)
    case atStart => exact ⟨0, by omega, rfl, Below.refl _ _⟩
    case round =>
      obtain ⟨i, hi, rfl, hb⟩ := hrel
      rename World => wv
      by_cases hlt : i < n
      · obtain ⟨b, off, A', n', c', rfl, hbs, hcel, hT⟩ := (H.out.below (HBR.out _ hb)).at_ hlt
        have HL := Lib.hid (long_any hT)
        clear hT
        cases hlg : longB Ps[i]!
        · rw [hlg] at HL
          clear hlg
          go_wp2_with fail
          refine HL.out.mono ?_
          rintro e w2 ⟨rfl, hb2⟩
          have hb3 := hb.trans (hb2.mono hb.size)
          clear hcel hb hb2 hbs
          go_wp2
          go_roundw
          case rel => exact ⟨i + 1, by omega, by go_num, hb3⟩
          case measure => simp [intOf]; omega
        · rw [hlg] at HL
          clear hlg
          go_wp2_with fail
          refine HL.out.mono ?_
          rintro e w2 ⟨rfl, hb2⟩
          have hb3 := hb.trans (hb2.mono hb.size)
          clear hcel hb hb2 hbs
          go_wp2_with fail
          refine (HK.out _ (HBR.out _ hb3)).mono ?_
          rintro e w3 ⟨rfl, hb⟩
          have hb4 := hb3.trans (hb.mono hb3.size)
          go_wp2
          go_ret
          exact ⟨rfl, HBR.out _ hb4⟩
      · obtain rfl : i = n := by omega
        obtain ⟨x0, x1, x2, xl⟩ := HX.out _ hb
        go_wp2_with fail
        refine (HJ.out _ (HBR.out _ hb) hn10).mono ?_
        rintro e w2 ⟨na, ava, rfl, hOa, hb2⟩
        have b2 := hb.trans (hb2.mono hb.size)
        have HOA := Lib.hid hOa
        obtain ⟨Aa, ca, rfl, -⟩ := own_term hOa
        clear hOa hb2 x0 x1 x2 xl hb
        obtain ⟨x0, x1, x2, xl⟩ := HX.out _ b2
        go_wp2_with fail
        refine (HR.out _ (HBR.out _ b2) hn10).mono ?_
        rintro e w3 ⟨nb, avb, rfl, hOb, hb3⟩
        have b3 := b2.trans (hb3.mono b2.size)
        obtain ⟨Aa2, ca2, hna, hTa⟩ := own_term HOA.out
        injection hna with q1 _ q3
        subst q1 q3
        obtain ⟨Ab, cb, rfl, hTb⟩ := own_term hOb
        have HSN := Lib.hid (sameNodes_any (hTa.below hb3) hTb)
        rw [decide_eq_true rfl] at HSN
        clear hOb hTa hTb hb3 x0 x1 x2 xl
        go_wp2_with fail
        refine HSN.out.mono ?_
        rintro e w4 ⟨rfl, hb4⟩
        have b4 := b3.trans (hb4.mono b3.size)
        clear hb4
        go_wp2_with fail
        refine (HK.out _ (HBR.out _ b4)).mono ?_
        rintro e w5 ⟨rfl, hb5⟩
        have b5 := b4.trans (hb5.mono b4.size)
        go_wp2
        go_ret
        exact ⟨rfl, HBR.out _ b5⟩
end
end
end Go.Proofs.YtbohigjfdnnomaaDoor
