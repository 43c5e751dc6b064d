/-
 put of the reference.
 Put of the reference.
-/
import Derived.Test.YtbohigjfdnnomaaDoorTeTl
import Derived.Test.YtbohigjfdnnomaaDoorTeTv
namespace Go.Proofs.YtbohigjfdnnomaaDoor
section
open Go.RowKit

/-- What put has in memory. -/
structure PuW (w0 : World) (n R : Nat) (nv : Value) (av : Nat → Value) (out : List Nd) (a : Nat → Int) (w : World) : Prop where
 below : Below w0.heap.size w0 w
 row : RowZ w R n a
 own : OwnS w w0.heap.size nv av out
 hR : w0.heap.size ≤ R
 sepR : nv.ownBlock ≠ some R ∧ ∀ i, i < out.length → (av i).ownBlock ≠ some R
theorem PuW.grow {w0 : World} {n R : Nat} {nv : Value} {av : Nat → Value} {out : List Nd} {a : Nat → Int} {w w' : World} (h : PuW w0 n R nv av out a w) (hb : Below w.heap.size w w') : PuW w0 n R nv av out a w' where
 below := h.below.trans (hb.mono h.below.size)
 row := h.row.keep (hb.block _ h.row.lt)
 own := h.own.below hb
 hR := h.hR
 sepR := h.sepR
theorem PuW.move {w0 : World} {n R : Nat} {nv : Value} {av : Nat → Value} {out : List Nd} {a a' : Nat → Int} {w w' : World} (h : PuW w0 n R nv av out a w) (hk : KeepF (fun b => b = R) w w') (hr : RowZ w' R n a') : PuW w0 n R nv av out a' w' where
 below := h.below.trans (hk.below (fun b e => by have := h.hR; omega) h.below.size)
 row := hr
 own := h.own.keep (fun b hb => hk.block b (own_lt h.own.own.row b hb) (fun e => h.sepR.1 (by rw [hb, e]))) (fun i hi b hb => hk.block b (own_lt (h.own.own.args i hi) b hb) (fun e => h.sepR.2 i hi (by rw [hb, e])))
 hR := h.hR
 sepR := h.sepR
theorem PuW.app {w0 : World} {n R S : Nat} {nv nv' v : Value} {av : Nat → Value} {out : List Nd} {y : Nd} {a : Nat → Int} {w w' : World} (h : PuW w0 n R nv av out a w) (hv : w.ownsRow w0.heap.size 3 1 v y.args.length (iV y.args)) (hvn : ∀ b, v.ownBlock = some b → nv.ownBlock ≠ some b ∧ b ≠ R) (himm : 0 ≤ y.imm ∧ y.imm < 4294967296)
  (hrow : w'.ownsRow w0.heap.size 47 5 nv' (out.length + 1) (rowC out av ++ nodC y v)) (hg : w.grownBy w' nv.ownBlock) (hS : w.heap.size ≤ S) (hloc : nv'.ownBlock = nv.ownBlock ∨ nv'.ownBlock = some S) :
  PuW w0 n R nv' (fun i => if i = out.length then v else av i) (out ++ [y]) a w' where
 below := h.below.grown hg h.below.size (fun k hk => own_base h.own.own.row k hk)
 row := h.row.keep (hg.block R h.row.lt (fun e => h.sepR.1 e.symm))
 own := h.own.snoc hv (fun b hb => (hvn b hb).1) himm hrow hg hS hloc
 hR := h.hR
 sepR := ⟨by
  rcases hloc with e | e
  ·rw [e]; exact h.sepR.1
  ·rw [e]; intro e2; injection e2 with e2; have := h.row.lt; omega, fun i hi e => by
  rw [List.length_append, List.length_singleton] at hi
  by_cases e2 : i = out.length
  ·simp only [if_pos e2] at e
   exact (hvn R e).2 rfl
  ·simp only [if_neg e2] at e
   exact h.sepR.2 i (by omega) e⟩
def atZ (i : Nat) (at_ : Nat → Nat) : Nat → Int := fun j => if j < i then ((at_ j : Nat) : Int) else 0
theorem atZ_put (i m : Nat) (at_ : Nat → Nat) : updZ (atZ i at_) i (m : Int) = atZ (i + 1) (fun j => if j = i then m else at_ j) := by
 funext j
 unfold updZ atZ
 by_cases e : j = i
 ·rw [if_pos e, if_pos (by omega)]
  simp only [if_pos e]
 ·rw [if_neg e]
  by_cases e2 : j < i
  ·rw [if_pos e2, if_pos (by omega)]
   simp only [if_neg e]
  ·rw [if_neg e2, if_neg (by omega)]
section
variable {w : World} {A A2 : Option Addr} {n c n2 c2 : Nat} {T U : List Nd}
set_option maxRecDepth 100000 in
set_option maxHeartbeats 8000000 in
theorem refput_any (h : Term w A n c T) (h2 : Term w A2 n2 c2 U) (hv : valF T = 0) (hu : valF U = 0) (v : Int) :
  Calls Tryd.prog 51 #[.slice A n c, .int .i64 v, .slice A2 n2 c2] w fun e w' => ∃ nv av, e = .returned nv ∧ OwnS w' w.heap.size nv av (ins (subT v (tr U (U.length - 1)) (tr T (T.length - 1))) []).2 ∧ Below w.heap.size w w' := by
 obtain ⟨j0, ji, jz0, jz1, jz2⟩ := infoNod
 obtain ⟨i0, hi, hz0, hz1, hz2⟩ := info_parts infoI
 have hcap := h.2.1
 have hmax := h.2.2.1
 have hcap2 := h2.2.1
 have hmax2 := h2.2.2.1
 have hl1 := (val_zero.1 hv).1
 have hl2 := (val_zero.1 hu).1
 have HC := Lib.hid (copyNodes_any h2 (by have := h2.1; omega) (fun k hk => val_args hu k (by rw [← h2.1]; exact hk)))
 rw [← h.1] at hl1
 rw [← h2.1] at hl2
 have H := Lib.hid h
 have H2 := Lib.hid h2
 clear h h2
 go_enter Tryd.func51, Tryd.ntmps51
 go_wp2_with fail
 refine HC.out.mono ?_
 rintro e w1 ⟨nv, av, rfl, hO, hb1⟩
 go_upto_region 3 with (refine wpList_make_row _ rfl _ _ 25 rfl 3 i0 (.int .i64 0) Tryd.underlying25 hi hz0 hz1 rfl .i64 .i64 n rfl rfl (by rw [hz2]; omega) (by omega) ?_)
 have hR0 : RowZ (w1.alloc (.cells (madeCells #[.int .i64 0] n) 3)) w1.heap.size n (atZ 0 fun _ => 0) := ⟨_, heap_alloc_new w1 _, size_madeCells _ _, fun j hj => by simp [madeCells, hj, Nat.mod_one, atZ]⟩
 have hbA := (Below.refl w1.heap.size w1).alloc (Nat.le_refl _) (.cells (madeCells #[.int .i64 0] n) 3)
 have hW0 : PuW w n w1.heap.size nv av U (atZ 0 fun _ => 0) (w1.alloc (.cells (madeCells #[.int .i64 0] n) 3)) := {
  below := hb1.trans (hbA.mono hb1.size)
  row := hR0
  own := hO.below hbA
  hR := hb1.size
  sepR := ⟨fun e => by have := own_lt hO.own.row _ e; omega, fun i hi e => by have := own_lt (hO.own.args i hi) _ e; omega⟩ }
 have HM0 := Lib.hid (show PutM T U v (tr U (U.length - 1)) 0 U (fun _ => 0) ∧ (∃ X, U = U ++ X) ∧ ∀ j, j < U.length → (U[j]!).args.length ≤ 100 from ⟨⟨down_val hu, Pre.refl _, Nat.le_refl _, fun j hj => absurd hj (by omega), fun j hj => absurd hj (by omega)⟩, ⟨[], by simp⟩, val_args hu⟩)
 have HW0 := Lib.hid hW0
 have HRL := Lib.hid hb1.size
 have HVU := Lib.hid (And.intro hv hu)
 clear hR0 hbA hW0 hO hb1 hv hu
 generalize World.alloc w1 _ = W1 at HW0 ⊢
 generalize w1.heap.size = R at HW0 HRL ⊢
 go_upto_region 4 with fail
 go_loopw [7, 9] (fun nv zi wr => ∃ (i : Nat) (av : Nat → Value) (out : List Nd) (at_ : Nat → Nat), i ≤ n ∧ zi = .int .i64 (i : Int) ∧ PuW w n R nv av out (atZ i at_) wr ∧ Hid (PutM T U v (tr U (U.length - 1)) i out at_ ∧ (∃ X, out = U ++ X) ∧ ∀ j, j < out.length → (out[j]!).args.length ≤ 100)) (fun _ zi _ => n - (intOf zi).toNat)
 case atStart => exact ⟨0, av, U, fun _ => 0, by omega, rfl, HW0.out, HM0⟩
 case round =>
  clear HW0 HM0
  obtain ⟨i, av2, out, at_, hin, rfl, hW, HM⟩ := hrel
  rename World => wr
  have HW := Lib.hid hW
  by_cases hlt : i < n
  ·obtain ⟨b, off, A', n', c', rfl, hbs0, ht0, hI0, him⟩ := H.out.at_ hlt
   have hbs := Nat.lt_of_lt_of_le hbs0 hW.below.size
   obtain ⟨t0, t1, t2, t3, t4⟩ := ht0.below hbs0 hW.below
   have hI := hI0.below hW.below
   have hiT : i < T.length := by rw [← H.out.1]; exact hlt
   have HDN := Lib.hid (down_val HVU.out.1 i hiT)
   have HLE := Lib.hid (val_args HVU.out.1 i hiT)
   have HVAR := Lib.hid (fun hn => HM.out.1.var (down_val HVU.out.1) hiT hn (m := U.length - 1) (by have := (val_zero.1 HVU.out.2).1.1; omega) (down_val HVU.out.2) rfl HM.out.2.1)
   have HNOD := Lib.hid (fun hn y hy => HM.out.1.node (down_val HVU.out.1) hiT hn (y := y) hy)
   have HII := Lib.hid hI
   have HIM := Lib.hid him
   have him0 := him.1
   have him1 := him.2
   have hcapI := hI.2.1
   have hmaxI := hI.2.2.1
   clear hbs0 ht0 hI0 hI him hW
   generalize T[i]! = y at t0 t1 t2 t3 t4 HDN HLE HVAR HNOD HII HIM him0 him1
   obtain ⟨op, wid, fl, args, imm⟩ := y
   simp only at t0 t1 t2 t3 t4 HDN HLE HVAR HNOD HII HIM him0 him1
   by_cases hvar : op = 33 ∧ imm = v
   ·have HV1 := Lib.hid (HVAR.out hvar)
    obtain ⟨rfl, rfl⟩ := hvar
    obtain ⟨hrc, hrf⟩ := HW.out.row.cell hlt
    have hrl := HW.out.row.lt
    have HPUT := Lib.hid (HW.out.row.put i ((U.length - 1 : Nat) : Int))
    have HKS := Lib.hid (keep_set wr R i (.int .i64 ((U.length - 1 : Nat) : Int)))
    have e3 : ((n2 : Nat) : Int) - 1 = ((U.length - 1 : Nat) : Int) := by have := H2.out.1; omega
    have HFIN := Lib.hid (HW.out.move HKS.out HPUT.out)
    rw [atZ_put] at HFIN
    clear HVAR HNOD
    go_wp2
    go_roundw
    case rel => exact ⟨i + 1, av2, out, _, by omega, by go_num, HFIN.out, Lib.hid ⟨HV1.out, HM.out.2⟩⟩
    case measure => simp [intOf]; omega
   ·have HV1 := Lib.hid (HNOD.out hvar _ rfl)
    have hbit : (op == 33) = false ∨ ((op == 33) = true ∧ (imm == v) = false) := by
     by_cases e : op = 33
     ·exact .inr ⟨by simp [e], by rw [beq_eq_false_iff_ne]; exact fun e2 => hvar ⟨e, e2⟩⟩
     ·exact .inl (by simp [e])
    clear HVAR HNOD hvar
    rcases hbit with e1 | ⟨e1, e2⟩
    ·have hXb := heap_alloc_new wr (.cells #[.int .i64 op, .int .i64 wid, .int .i64 fl, .slice A' n' c', .int .u32 imm] 47)
     have hbX : Below wr.heap.size wr (wr.alloc (.cells #[.int .i64 op, .int .i64 wid, .int .i64 fl, .slice A' n' c', .int .u32 imm] 47)) := (Below.refl _ _).alloc (Nat.le_refl _) _
     have hzX : (wr.alloc (.cells #[.int .i64 op, .int .i64 wid, .int .i64 fl, .slice A' n' c', .int .u32 imm] 47)).heap.size = wr.heap.size + 1 := by simp
     go_upto_region 10 with fail
     generalize World.alloc wr _ = W3 at hXb hbX hzX ⊢
     obtain ⟨X, hXE⟩ : ∃ X, wr.heap.size = X := ⟨_, rfl⟩
     have HXE := Lib.hid hXE
     have HBX := Lib.hid hbX
     rw [hXE] at hXb hzX ⊢
     have HZX := Lib.hid hzX
     have HXB := Lib.hid hXb
     have hXl := lt_of_block hXb
     have hX3 := (cells5 (x := ⟨op, wid, fl, args, imm⟩) hXb).2.2.2.1
     clear hXE hbX hzX hXb t0 t1 t2 t3 t4
     go_upto_region 11 with fail
     go_loopw [11, 12] (fun zl zi wv => ∃ q : Nat, q ≤ n' ∧ zi = .int .i64 (q : Int) ∧ Hid (Below W3.heap.size W3 wv) ∧ wv.ownsRow (X + 1) 3 1 zl q (iV ((args.take q).map fun y => ((at_ y.toNat : Nat) : Int)))) (fun _ zi _ => n' - (intOf zi).toNat)
     case atStart => exact ⟨0, Nat.zero_le _, rfl, Lib.hid (Below.refl _ _), by rw [List.take_zero]; exact World.ownsRow_nil _ _ _ _⟩
     case round =>
      clear hXl hX3
      obtain ⟨q, hq, rfl, HBV, hown⟩ := hrel
      rename World => wv
      have hXv := (HBV.out.block X (lt_of_block HXB.out)).trans HXB.out
      have hXvl := lt_of_block hXv
      have hXv3 := (cells5 (x := ⟨op, wid, fl, args, imm⟩) hXv).2.2.2.1
      have HWV := Lib.hid ((HW.out.grow HBX.out).grow HBV.out)
      have hn3 : n' ≤ 100 := by have := HLE.out; have := HII.out.1; omega
      by_cases hqn : q < n'
      ·obtain ⟨r, hr, hrx⟩ := HDN.out q (by have := HII.out.1; omega)
       obtain ⟨bA, oA, rfl, hbA, hcA⟩ := ((HII.out.below HBX.out).below HBV.out).at_ hqn
       obtain ⟨hrc, hrf⟩ := HWV.out.row.cell (j := r) (by omega)
       rw [show atZ i at_ r = ((at_ r : Nat) : Int) from if_pos hrx] at hrc
       have hrl := HWV.out.row.lt
       rw [hr] at hcA
       have hri : r < n := by omega
       have HTS := Lib.hid (show (args.take (q + 1)).map (fun y => ((at_ y.toNat : Nat) : Int)) = (args.take q).map (fun y => ((at_ y.toNat : Nat) : Int)) ++ [((at_ r : Nat) : Int)] by
        have := HII.out.1
        have e : args[q]? = some (r : Int) := by rw [List.getElem?_eq_getElem (show q < args.length by omega), ← hr, getElem!_pos args q (by omega)]
        rw [List.take_add_one, e, List.map_append]
        simp)
       generalize at_ r = ar at hrc HTS
       have HOWA := Lib.hid (hown.alloc (.cells #[.int .i64 (ar : Int)] 3))
       have HSZ := Lib.hid (show X + 1 ≤ wv.heap.size by have := HBV.out.size; have := HZX.out; omega)
       have HBA := Lib.hid (show Below W3.heap.size W3 (wv.alloc (.cells #[.int .i64 (ar : Int)] 3)) from HBV.out.alloc HBV.out.size _)
       have HOB := Lib.hid (own_base hown)
       clear hr hown hXv
       go_wp2_with (at_builtin; refine wpList_append_own_at _ rfl _ _ 25 rfl (X + 1) 3 i0 (.int .i64 0) 1 8 Tryd.underlying25 hi hz0 hz1 hz2 rfl (by decide) _ _ _ rfl HOWA.out ⟨wv.heap.size, 0, none⟩ 1 1 [.int .i64 (ar : Int)] rfl rfl (one_new wv _ _) ?q1 ?q2 ?q3 ?q4 ?_)
       case q1 => intro u hu; simp at hu; rcases hu with rfl; rfl
       case q2 => unfold maxLen; omega
       case q3 => omega
       case q4 => have h9 := HSZ.out; simp; omega
       intro v' W6 hrow6 hgrow6 _ _
       have HR6 := Lib.hid hrow6
       have HB6 := Lib.hid (HBA.out.grown hgrow6 HBA.out.size (fun b' e => by have := HOB.out b' e; have := HZX.out; omega))
       clear hrow6 hgrow6
       go_wp2
       go_roundw
       case rel => exact ⟨q + 1, by omega, by go_num, HB6, by rw [HTS.out, iV_app, List.map_take]; exact HR6.out⟩
       case measure => simp [intOf]; omega
      ·obtain rfl : q = n' := by omega
       have hown2 := hown
       rw [List.take_of_length_le (by have := HII.out.1; omega)] at hown2
       generalize (args.map fun y => ((at_ y.toNat : Nat) : Int)) = args2 at hown2 HV1
       obtain ⟨AV, cV, rfl, hIV⟩ := own_ints hown2
       have HVI := Lib.hid hIV
       have HOV := Lib.hid hown2
       have hXvf : wv.frozen? ⟨X, 3, none⟩ = false := by simp [World.frozen?, hXv]
       have HXV := Lib.hid hXv
       clear hown hown2 hIV hXv hqn
       go_upto_region 15 with fail
       have hX4 := (heap_setCell_same wv X 3 _ _ (.slice AV q cV) HXV.out).trans rfl
       have hb4 : Below wr.heap.size wr (wv.setCell ⟨X, 3, none⟩ (.slice AV q cV)) := (HBX.out.trans (HBV.out.mono HBX.out.size)).setCell (p := ⟨X, 3, none⟩) (by have := HXE.out; simp only; omega) _
       have hown4 := ownsRow_keep HOV.out (w' := wv.setCell ⟨X, 3, none⟩ (.slice AV q cV)) (fun b' e => heap_setCell_other wv ⟨X, 3, none⟩ b' _ (by have := own_base HOV.out b' e; simp only; omega))
       generalize World.setCell wv _ _ = W4 at hX4 hb4 hown4 ⊢
       have HW4 := Lib.hid (HW.out.grow hb4)
       have HX4 := Lib.hid hX4
       have HO4 := Lib.hid hown4
       obtain ⟨Ao, co, rfl, hTo⟩ := own_term HW.out.own.own
       have hco1 := hTo.2.1
       have hco2 := hTo.2.2.1
       have HOL := Lib.hid (show out.length ≤ 600 by have := HM.out.1.len; have := H2.out.1; omega)
       obtain ⟨hrc, hrf⟩ := HW4.out.row.cell hlt
       have hrl := HW4.out.row.lt
       have HKR := Lib.hid (keep_set W4 R i (.int .i64 ((out.length : Nat) : Int)))
       have HW5 := Lib.hid (HW4.out.move HKR.out (HW4.out.row.put i ((out.length : Nat) : Int)))
       rw [atZ_put] at HW5
       clear hXvl hXv3 hXvf hX4 hb4 hown4 hTo
       obtain ⟨N, hN⟩ : ∃ N, out.length = N := ⟨_, rfl⟩
       have HNE := Lib.hid hN
       rw [hN] at hco1 HKR ⊢
       have HW6 := Lib.hid (show PuW w n R (.slice Ao N co) av2 out (atZ (i + 1) fun j => if j = i then out.length else at_ j) (W4.setCell ⟨R, i, none⟩ (.int .i64 (N : Int))) by have h9 := HW5.out; rw [hN] at h9 ⊢; exact h9)
       clear hN HW5
       go_upto_region 16 with fail
       have hXR : X ≠ R := by have := HW.out.row.lt; have := HXE.out; omega
       have hX5 := (HKR.out.block X (lt_of_block HX4.out) hXR).trans HX4.out
       have hown5 := ownsRow_keep HO4.out (fun b' e => HKR.out.block b' (own_lt HO4.out b' e) (by have := own_base HO4.out b' e; have := HW.out.row.lt; have := HXE.out; omega))
       generalize World.setCell W4 _ _ = W5 at hX5 hown5 HW6 ⊢
       obtain ⟨f0, f1, f2, f3, f4⟩ := cells5 (x := ⟨op, wid, fl, args2, imm⟩) hX5
       simp only at f0 f1 f2 f3 f4
       have hXl5 := lt_of_block hX5
       have hbA : Below W5.heap.size W5 (W5.alloc (.cells #[.int .i64 op, .int .i64 wid, .int .i64 fl, .slice AV q cV, .int .u32 imm] 47)) := (Below.refl _ _).alloc (Nat.le_refl _) _
       have HWA := Lib.hid (HW6.out.grow hbA)
       have HOA := Lib.hid (own_below hown5 hbA)
       have HROWA := Lib.hid (show (W5.alloc (.cells #[.int .i64 op, .int .i64 wid, .int .i64 fl, .slice AV q cV, .int .u32 imm] 47)).ownsRow w.heap.size 47 5 (.slice Ao N co) N (rowC out av2) by have := HWA.out.own.own.row; rw [HNE.out] at this; exact this)
       have HSZ := Lib.hid HWA.out.below.size
       clear hbA hX5 hown5 hrc hrf hrl
       go_wp2_with (at_builtin; refine wpList_append_own_at _ rfl _ _ 22 rfl w.heap.size 47 j0 (.agg #[.int .i64 0, .int .i64 0, .int .i64 0, .slice none 0 0, .int .u32 0]) 5 56 Tryd.underlying22 ji jz0 jz1 jz2 rfl (by decide) _ _ _ rfl HROWA.out ⟨W5.heap.size, 0, none⟩ 1 1 (nodC ⟨op, wid, fl, args2, imm⟩ (.slice AV q cV)) rfl rfl (five_new W5 _ _ _ _ _ _) ?q1 ?q2 ?q3 ?q4 ?_)
       case q1 => intro u hu; simp [nodC] at hu; rcases hu with rfl | rfl | rfl | rfl | rfl <;> rfl
       case q2 => have := HOL.out; have := HNE.out; unfold maxLen; omega
       case q3 => have := HOL.out; have := HNE.out; omega
       case q4 => have h9 := HSZ.out; simpa using h9
       intro v' W6 hrow6 hgrow6 _ hloc6
       have HFIN := Lib.hid (HWA.out.app (y := ⟨op, wid, fl, args2, imm⟩) (v := .slice AV q cV) (nv' := v') (S := W5.heap.size + 1) (by have h1 := ownsRow_mono HOA.out (base2 := w.heap.size) (by have := HW.out.below.size; have := HXE.out; omega); have h2 := HVI.out.1; rw [← h2]; exact h1) (fun b' e => by
        have h1 := own_base HO4.out b' e
        have h2 := HXE.out
        refine ⟨fun e2 => ?_, ?_⟩
        ·have := own_lt HW.out.own.own.row b' (by rw [HNE.out]; exact e2)
         omega
        ·have := HW.out.row.lt
         omega) HIM.out (by rw [HNE.out]; exact hrow6) hgrow6 (by simp) hloc6)
       have HARG := Lib.hid (show ∀ j, j < (out ++ [(⟨op, wid, fl, args2, imm⟩ : Nd)]).length → ((out ++ [(⟨op, wid, fl, args2, imm⟩ : Nd)])[j]!).args.length ≤ 100 from fun j hj => by
        rw [List.length_append, List.length_singleton] at hj
        by_cases e : j < out.length
        ·rw [getN_app e]; exact HM.out.2.2 j e
        ·obtain rfl : j = out.length := by omega
         rw [getN_last]
         have := HVI.out.1
         simp only
         omega)
       have HX2 := Lib.hid (show ∃ X, out ++ [(⟨op, wid, fl, args2, imm⟩ : Nd)] = U ++ X by obtain ⟨X, e⟩ := HM.out.2.1; exact ⟨X ++ [⟨op, wid, fl, args2, imm⟩], by rw [e, List.append_assoc]⟩)
       clear hrow6 hgrow6 hloc6 f0 f1 f2 f3 f4
       go_wp2
       go_roundw
       case rel => exact ⟨i + 1, _, _, _, by omega, by go_num, HFIN.out, Lib.hid ⟨HV1.out, HX2.out, HARG.out⟩⟩
       case measure => simp [intOf]; omega
    ·have hXb := heap_alloc_new wr (.cells #[.int .i64 op, .int .i64 wid, .int .i64 fl, .slice A' n' c', .int .u32 imm] 47)
     have hbX : Below wr.heap.size wr (wr.alloc (.cells #[.int .i64 op, .int .i64 wid, .int .i64 fl, .slice A' n' c', .int .u32 imm] 47)) := (Below.refl _ _).alloc (Nat.le_refl _) _
     have hzX : (wr.alloc (.cells #[.int .i64 op, .int .i64 wid, .int .i64 fl, .slice A' n' c', .int .u32 imm] 47)).heap.size = wr.heap.size + 1 := by simp
     go_upto_region 10 with fail
     generalize World.alloc wr _ = W3 at hXb hbX hzX ⊢
     obtain ⟨X, hXE⟩ : ∃ X, wr.heap.size = X := ⟨_, rfl⟩
     have HXE := Lib.hid hXE
     have HBX := Lib.hid hbX
     rw [hXE] at hXb hzX ⊢
     have HZX := Lib.hid hzX
     have HXB := Lib.hid hXb
     have hXl := lt_of_block hXb
     have hX3 := (cells5 (x := ⟨op, wid, fl, args, imm⟩) hXb).2.2.2.1
     clear hXE hbX hzX hXb t0 t1 t2 t3 t4
     go_upto_region 11 with fail
     go_loopw [11, 12] (fun zl zi wv => ∃ q : Nat, q ≤ n' ∧ zi = .int .i64 (q : Int) ∧ Hid (Below W3.heap.size W3 wv) ∧ wv.ownsRow (X + 1) 3 1 zl q (iV ((args.take q).map fun y => ((at_ y.toNat : Nat) : Int)))) (fun _ zi _ => n' - (intOf zi).toNat)
     case atStart => exact ⟨0, Nat.zero_le _, rfl, Lib.hid (Below.refl _ _), by rw [List.take_zero]; exact World.ownsRow_nil _ _ _ _⟩
     case round =>
      clear hXl hX3
      obtain ⟨q, hq, rfl, HBV, hown⟩ := hrel
      rename World => wv
      have hXv := (HBV.out.block X (lt_of_block HXB.out)).trans HXB.out
      have hXvl := lt_of_block hXv
      have hXv3 := (cells5 (x := ⟨op, wid, fl, args, imm⟩) hXv).2.2.2.1
      have HWV := Lib.hid ((HW.out.grow HBX.out).grow HBV.out)
      have hn3 : n' ≤ 100 := by have := HLE.out; have := HII.out.1; omega
      by_cases hqn : q < n'
      ·obtain ⟨r, hr, hrx⟩ := HDN.out q (by have := HII.out.1; omega)
       obtain ⟨bA, oA, rfl, hbA, hcA⟩ := ((HII.out.below HBX.out).below HBV.out).at_ hqn
       obtain ⟨hrc, hrf⟩ := HWV.out.row.cell (j := r) (by omega)
       rw [show atZ i at_ r = ((at_ r : Nat) : Int) from if_pos hrx] at hrc
       have hrl := HWV.out.row.lt
       rw [hr] at hcA
       have hri : r < n := by omega
       have HTS := Lib.hid (show (args.take (q + 1)).map (fun y => ((at_ y.toNat : Nat) : Int)) = (args.take q).map (fun y => ((at_ y.toNat : Nat) : Int)) ++ [((at_ r : Nat) : Int)] by
        have := HII.out.1
        have e : args[q]? = some (r : Int) := by rw [List.getElem?_eq_getElem (show q < args.length by omega), ← hr, getElem!_pos args q (by omega)]
        rw [List.take_add_one, e, List.map_append]
        simp)
       generalize at_ r = ar at hrc HTS
       have HOWA := Lib.hid (hown.alloc (.cells #[.int .i64 (ar : Int)] 3))
       have HSZ := Lib.hid (show X + 1 ≤ wv.heap.size by have := HBV.out.size; have := HZX.out; omega)
       have HBA := Lib.hid (show Below W3.heap.size W3 (wv.alloc (.cells #[.int .i64 (ar : Int)] 3)) from HBV.out.alloc HBV.out.size _)
       have HOB := Lib.hid (own_base hown)
       clear hr hown hXv
       go_wp2_with (at_builtin; refine wpList_append_own_at _ rfl _ _ 25 rfl (X + 1) 3 i0 (.int .i64 0) 1 8 Tryd.underlying25 hi hz0 hz1 hz2 rfl (by decide) _ _ _ rfl HOWA.out ⟨wv.heap.size, 0, none⟩ 1 1 [.int .i64 (ar : Int)] rfl rfl (one_new wv _ _) ?q1 ?q2 ?q3 ?q4 ?_)
       case q1 => intro u hu; simp at hu; rcases hu with rfl; rfl
       case q2 => unfold maxLen; omega
       case q3 => omega
       case q4 => have h9 := HSZ.out; simp; omega
       intro v' W6 hrow6 hgrow6 _ _
       have HR6 := Lib.hid hrow6
       have HB6 := Lib.hid (HBA.out.grown hgrow6 HBA.out.size (fun b' e => by have := HOB.out b' e; have := HZX.out; omega))
       clear hrow6 hgrow6
       go_wp2
       go_roundw
       case rel => exact ⟨q + 1, by omega, by go_num, HB6, by rw [HTS.out, iV_app, List.map_take]; exact HR6.out⟩
       case measure => simp [intOf]; omega
      ·obtain rfl : q = n' := by omega
       have hown2 := hown
       rw [List.take_of_length_le (by have := HII.out.1; omega)] at hown2
       generalize (args.map fun y => ((at_ y.toNat : Nat) : Int)) = args2 at hown2 HV1
       obtain ⟨AV, cV, rfl, hIV⟩ := own_ints hown2
       have HVI := Lib.hid hIV
       have HOV := Lib.hid hown2
       have hXvf : wv.frozen? ⟨X, 3, none⟩ = false := by simp [World.frozen?, hXv]
       have HXV := Lib.hid hXv
       clear hown hown2 hIV hXv hqn
       go_upto_region 15 with fail
       have hX4 := (heap_setCell_same wv X 3 _ _ (.slice AV q cV) HXV.out).trans rfl
       have hb4 : Below wr.heap.size wr (wv.setCell ⟨X, 3, none⟩ (.slice AV q cV)) := (HBX.out.trans (HBV.out.mono HBX.out.size)).setCell (p := ⟨X, 3, none⟩) (by have := HXE.out; simp only; omega) _
       have hown4 := ownsRow_keep HOV.out (w' := wv.setCell ⟨X, 3, none⟩ (.slice AV q cV)) (fun b' e => heap_setCell_other wv ⟨X, 3, none⟩ b' _ (by have := own_base HOV.out b' e; simp only; omega))
       generalize World.setCell wv _ _ = W4 at hX4 hb4 hown4 ⊢
       have HW4 := Lib.hid (HW.out.grow hb4)
       have HX4 := Lib.hid hX4
       have HO4 := Lib.hid hown4
       obtain ⟨Ao, co, rfl, hTo⟩ := own_term HW.out.own.own
       have hco1 := hTo.2.1
       have hco2 := hTo.2.2.1
       have HOL := Lib.hid (show out.length ≤ 600 by have := HM.out.1.len; have := H2.out.1; omega)
       obtain ⟨hrc, hrf⟩ := HW4.out.row.cell hlt
       have hrl := HW4.out.row.lt
       have HKR := Lib.hid (keep_set W4 R i (.int .i64 ((out.length : Nat) : Int)))
       have HW5 := Lib.hid (HW4.out.move HKR.out (HW4.out.row.put i ((out.length : Nat) : Int)))
       rw [atZ_put] at HW5
       clear hXvl hXv3 hXvf hX4 hb4 hown4 hTo
       obtain ⟨N, hN⟩ : ∃ N, out.length = N := ⟨_, rfl⟩
       have HNE := Lib.hid hN
       rw [hN] at hco1 HKR ⊢
       have HW6 := Lib.hid (show PuW w n R (.slice Ao N co) av2 out (atZ (i + 1) fun j => if j = i then out.length else at_ j) (W4.setCell ⟨R, i, none⟩ (.int .i64 (N : Int))) by have h9 := HW5.out; rw [hN] at h9 ⊢; exact h9)
       clear hN HW5
       go_upto_region 16 with fail
       have hXR : X ≠ R := by have := HW.out.row.lt; have := HXE.out; omega
       have hX5 := (HKR.out.block X (lt_of_block HX4.out) hXR).trans HX4.out
       have hown5 := ownsRow_keep HO4.out (fun b' e => HKR.out.block b' (own_lt HO4.out b' e) (by have := own_base HO4.out b' e; have := HW.out.row.lt; have := HXE.out; omega))
       generalize World.setCell W4 _ _ = W5 at hX5 hown5 HW6 ⊢
       obtain ⟨f0, f1, f2, f3, f4⟩ := cells5 (x := ⟨op, wid, fl, args2, imm⟩) hX5
       simp only at f0 f1 f2 f3 f4
       have hXl5 := lt_of_block hX5
       have hbA : Below W5.heap.size W5 (W5.alloc (.cells #[.int .i64 op, .int .i64 wid, .int .i64 fl, .slice AV q cV, .int .u32 imm] 47)) := (Below.refl _ _).alloc (Nat.le_refl _) _
       have HWA := Lib.hid (HW6.out.grow hbA)
       have HOA := Lib.hid (own_below hown5 hbA)
       have HROWA := Lib.hid (show (W5.alloc (.cells #[.int .i64 op, .int .i64 wid, .int .i64 fl, .slice AV q cV, .int .u32 imm] 47)).ownsRow w.heap.size 47 5 (.slice Ao N co) N (rowC out av2) by have := HWA.out.own.own.row; rw [HNE.out] at this; exact this)
       have HSZ := Lib.hid HWA.out.below.size
       clear hbA hX5 hown5 hrc hrf hrl
       go_wp2_with (at_builtin; refine wpList_append_own_at _ rfl _ _ 22 rfl w.heap.size 47 j0 (.agg #[.int .i64 0, .int .i64 0, .int .i64 0, .slice none 0 0, .int .u32 0]) 5 56 Tryd.underlying22 ji jz0 jz1 jz2 rfl (by decide) _ _ _ rfl HROWA.out ⟨W5.heap.size, 0, none⟩ 1 1 (nodC ⟨op, wid, fl, args2, imm⟩ (.slice AV q cV)) rfl rfl (five_new W5 _ _ _ _ _ _) ?q1 ?q2 ?q3 ?q4 ?_)
       case q1 => intro u hu; simp [nodC] at hu; rcases hu with rfl | rfl | rfl | rfl | rfl <;> rfl
       case q2 => have := HOL.out; have := HNE.out; unfold maxLen; omega
       case q3 => have := HOL.out; have := HNE.out; omega
       case q4 => have h9 := HSZ.out; simpa using h9
       intro v' W6 hrow6 hgrow6 _ hloc6
       have HFIN := Lib.hid (HWA.out.app (y := ⟨op, wid, fl, args2, imm⟩) (v := .slice AV q cV) (nv' := v') (S := W5.heap.size + 1) (by have h1 := ownsRow_mono HOA.out (base2 := w.heap.size) (by have := HW.out.below.size; have := HXE.out; omega); have h2 := HVI.out.1; rw [← h2]; exact h1) (fun b' e => by
        have h1 := own_base HO4.out b' e
        have h2 := HXE.out
        refine ⟨fun e2 => ?_, ?_⟩
        ·have := own_lt HW.out.own.own.row b' (by rw [HNE.out]; exact e2)
         omega
        ·have := HW.out.row.lt
         omega) HIM.out (by rw [HNE.out]; exact hrow6) hgrow6 (by simp) hloc6)
       have HARG := Lib.hid (show ∀ j, j < (out ++ [(⟨op, wid, fl, args2, imm⟩ : Nd)]).length → ((out ++ [(⟨op, wid, fl, args2, imm⟩ : Nd)])[j]!).args.length ≤ 100 from fun j hj => by
        rw [List.length_append, List.length_singleton] at hj
        by_cases e : j < out.length
        ·rw [getN_app e]; exact HM.out.2.2 j e
        ·obtain rfl : j = out.length := by omega
         rw [getN_last]
         have := HVI.out.1
         simp only
         omega)
       have HX2 := Lib.hid (show ∃ X, out ++ [(⟨op, wid, fl, args2, imm⟩ : Nd)] = U ++ X by obtain ⟨X, e⟩ := HM.out.2.1; exact ⟨X ++ [⟨op, wid, fl, args2, imm⟩], by rw [e, List.append_assoc]⟩)
       clear hrow6 hgrow6 hloc6 f0 f1 f2 f3 f4
       go_wp2
       go_roundw
       case rel => exact ⟨i + 1, _, _, _, by omega, by go_num, HFIN.out, Lib.hid ⟨HV1.out, HX2.out, HARG.out⟩⟩
       case measure => simp [intOf]; omega
  ·obtain rfl : i = n := by omega
   have hn1 : i - 1 < i := by omega
   obtain ⟨hrc, hrf⟩ := HW.out.row.cell hn1
   rw [show atZ i at_ (i - 1) = ((at_ (i - 1) : Nat) : Int) from if_pos hn1] at hrc
   have hrl := HW.out.row.lt
   have hat := HM.out.1.at_lt (i - 1) hn1
   obtain ⟨Ao, co, rfl, hTo⟩ := own_term HW.out.own.own
   have hsh := shared_any hTo HM.out.1.down HM.out.2.2 (by have := HM.out.1.len; have := H2.out.1; omega) hat
   have HE := Lib.hid (show shF out (at_ (i - 1)) = (ins (subT v (tr U (U.length - 1)) (tr T (T.length - 1))) []).2 by unfold shF; rw [HM.out.1.tr (i - 1) hn1, ← H.out.1])
   rw [HE.out] at hsh
   have HSH := Lib.hid hsh
   have e4 : ((i : Nat) : Int) - 1 = ((i - 1 : Nat) : Int) := by omega
   have hco1 := hTo.2.1
   have hco2 := hTo.2.2.1
   have HB := Lib.hid HW.out.below
   clear hTo hsh hW
   generalize at_ (i - 1) = am at hrc HSH
   go_wp2_with fail
   refine HSH.out.mono ?_
   rintro e w9 ⟨n9, a9, rfl, hO9, hb9⟩
   have HO9 := Lib.hid hO9
   have hbf := HB.out.trans (hb9.mono HB.out.size)
   have HBS := Lib.hid HB.out.size
   clear hO9 hb9
   go_wp2
   go_ret
   exact ⟨_, a9, rfl, ⟨HO9.out.own.mono HBS.out, HO9.out.sep⟩, hbf⟩
end
end
section
open Go.RowKit

section
variable {w : World} {A A2 : Option Addr} {n c n2 c2 : Nat} {T U : List Nd}
set_option maxRecDepth 100000 in
set_option maxHeartbeats 8000000 in
theorem ownT_below {w w' : World} {base : Nat} {nv : Value} {av : Nat → Value} {out : List Nd} (h : OwnT w base nv av out) (hb : Below w.heap.size w w') : OwnT w' base nv av out :=
 ⟨own_below h.row hb, fun i hi => own_below (h.args i hi) hb, h.imm⟩
set_option maxRecDepth 100000 in
set_option maxHeartbeats 8000000 in
theorem refPut_any (h : Term w A n c T) (h2 : Term w A2 n2 c2 U) (v : Int) :
  Calls Tryd.prog 30 #[.slice A n c, .int .i64 v, .slice A2 n2 c2] w fun e w' => ∃ nv av, e = .returned (.tuple #[nv, .int .i64 (putF T U v)]) ∧ OwnT w' w.heap.size nv av (if putF T U v = 0 then putN T U v else []) ∧ Below w.heap.size w w' := by
 have HV := Lib.hid (refValidate_any h)
 have hcap := h.2.1
 have hmax := h.2.2.1
 have hcap2 := h2.2.1
 have hmax2 := h2.2.2.1
 by_cases hv : valF T = 0
 ·by_cases hu : valF U = 0
  ·by_cases hb4 : 0 ≤ v ∧ v < 4
   ·obtain ⟨j, rfl⟩ : ∃ j : Nat, v = (j : Int) := ⟨v.toNat, by omega⟩
    have hj4 : j < 4 := by omega
    have HVU := Lib.hid (fun w1 (hb : Below w.heap.size w w1) => refValidate_any (h2.below hb))
    have HW := Lib.hid (fun w1 (hb : Below w.heap.size w w1) => refwidths_any (h.below hb) (vars_ok hv (fun k hk => (term_imm h k hk).1)))
    have HP := Lib.hid (fun w1 (hb : Below w.heap.size w w1) => refput_any (h.below hb) (h2.below hb) hv hu (j : Int))
    have HR := Lib.hid (show putF T U (j : Int) = _ by unfold putF; rw [if_pos hv, if_pos hu, if_pos hb4, Int.toNat_natCast])
    have hl1 := (val_zero.1 hv).1
    have hl2 := (val_zero.1 hu).1
    rw [← h.1] at hl1
    rw [← h2.1] at hl2
    rw [← h.1] at HR
    have H2 := Lib.hid h2
    have e1 : decide ((j : Int) < 0) = false := decide_eq_false (by omega)
    have e2 : decide (4 ≤ (j : Int)) = false := decide_eq_false (by omega)
    rw [hv] at HV
    rw [hu] at HVU
    generalize widF T n = wf at HW HR
    have HNL := Lib.hid (show putF T U (j : Int) ≠ 0 → (if putF T U (j : Int) = 0 then putN T U (j : Int) else []) = [] from fun e => if_neg e)
    have HNY := Lib.hid (show putF T U (j : Int) = 0 → (if putF T U (j : Int) = 0 then putN T U (j : Int) else []) = putN T U (j : Int) from fun e => if_pos e)
    generalize (if putF T U (j : Int) = 0 then putN T U (j : Int) else []) = NL at HNL HNY ⊢
    generalize putF T U (j : Int) = F at HR HNL HNY ⊢
    clear h h2 hv hu hb4
    go_enter Tryd.func30, Tryd.ntmps30
    go_wp2_with fail
    refine HV.out.mono ?_
    rintro e w1 ⟨rfl, hb1⟩
    go_wp2_with fail
    refine (HVU.out _ hb1).mono ?_
    rintro e w2 ⟨rfl, hb2⟩
    have hb3 := hb1.trans (hb2.mono hb1.size)
    clear hb1 hb2
    go_wp2_with fail
    refine (HW.out _ hb3).mono ?_
    rintro e w4 ⟨⟨B, rfl, h4, hB⟩, hb4⟩
    have hb5 := hb3.trans (hb4.mono hb3.size)
    have hc := (h4.cell hj4).1
    have hBl := lt_of_block h4
    have HB5 := Lib.hid hb5
    clear hb3 hb4 h4 hB
    by_cases hz : wf j = 0
    ·have HR2 := Lib.hid (show F = 4 by rw [HR.out, if_pos hz])
     have e3 : (wf j == 0) = true := by simp [hz]
     generalize wf j = wj at hc e3
     clear HR HP hz hb5
     go_wp2
     go_ret2
     exact ⟨_, fun _ => undef, by exact ret_vi HR2.out, by rw [HNL.out (by rw [HR2.out]; decide)]; exact ownT_nil _ _ _, HB5.out⟩
    ·have e3 : (wf j == 0) = false := by simp [hz]
     obtain ⟨b, off, A', n', c', rfl, hg, ⟨a0, a1, a2, a3, a4⟩, hI, -⟩ := (H2.out.below hb5).at_ (j := n2 - 1) (by omega)
     have e4 : ((n2 : Nat) : Int) - 1 = ((n2 - 1 : Nat) : Int) := by omega
     have hlast : n2 - 1 < n2 := by omega
     by_cases ht : (U[n2 - 1]!).width = wf j
     ·have HTX := Lib.hid ht
      have e5 : ((U[n2 - 1]!).width != wf j) = false := bne_eq_false_iff_eq.2 ht
      have HZN := Lib.hid hz
      have HR2 := Lib.hid (show F = if oneW (putN T U (j : Int)) = false then 7 else if 300 < (putN T U (j : Int)).length then 3 else 0 by rw [HR.out, if_neg hz, if_neg (by rw [← H2.out.1]; exact fun e => e ht)])
      clear a0 a2 a3 a4 hI hz ht HR HW HVU HV
      generalize (U[n2 - 1]!).width = ww at a1 e5
      generalize wf j = wj at hc e3 e5
      have HPP := Lib.hid (HP.out _ hb5)
      clear HP
      go_wp2_with fail
      refine HPP.out.mono ?_
      rintro e w6 ⟨nv, av, rfl, hO, hb6⟩
      have HB6 := Lib.hid (hb5.trans (hb6.mono hb5.size))
      have hO2 := hO.own.mono hb5.size
      rw [show (ins (subT (j : Int) (tr U (U.length - 1)) (tr T (T.length - 1))) []).2 = putN T U (j : Int) from rfl] at hO2
      generalize putN T U (j : Int) = N at hO2 HR2 HNY
      clear hO hb6 hb5 a1 hg hc hBl HPP HTX HZN
      obtain ⟨A6, c6, hnv, hT6⟩ := own_term hO2
      have HO := Lib.hid hO2
      clear hO2
      subst hnv
      have H6 := Lib.hid hT6
      have hcap6 := hT6.2.1
      have hmax6 := hT6.2.2.1
      clear hT6
      have HONE := Lib.hid (show (∀ q, q < N.length → ∀ i, i < q → oneB N[i]! N[q]! = true) → oneW N = true from fun h => by
       unfold oneW
       rw [List.all_eq_true]
       exact fun k hk => List.all_eq_true.2 fun i hi => h k (List.mem_range.1 hk) i (List.mem_range.1 hi))
      have HBAD := Lib.hid (show ∀ q i, q < N.length → i < q → oneB N[i]! N[q]! = false → oneW N = false from fun q i hq hi hb => by
       unfold oneW
       rw [List.all_eq_false]
       refine ⟨q, List.mem_range.2 hq, ?_⟩
       rw [Bool.not_eq_true, List.all_eq_false]
       exact ⟨i, List.mem_range.2 hi, by rw [hb]; decide⟩)
      obtain ⟨m, hm⟩ : ∃ m, N.length = m := ⟨_, rfl⟩
      have HM := Lib.hid hm
      rw [hm] at H6 hcap6 HONE HBAD ⊢
      clear hm
      go_wp2
      go_loopw [12] (fun zi wv => ∃ i : Nat, i ≤ m ∧ zi = .int .i64 (i : Int) ∧ Below w6.heap.size w6 wv ∧ Hid (∀ q, q < i → ∀ j, j < q → oneB N[j]! N[q]! = true)) (fun zi _ => m - (intOf zi).toNat)
      case atStart => exact ⟨0, by omega, rfl, Below.refl _ _, Lib.hid fun j hj => absurd hj (by omega)⟩
      case round =>
       obtain ⟨i, hi, rfl, hb, HJ⟩ := hrel
       rename World => wv
       by_cases hlt : i < m
       ·obtain ⟨b, off, A', n', c', rfl, hbs, ⟨x0, x1, x2, x3, x4⟩, hI0, h0, h1⟩ := (H6.out.below hb).at_ hlt
        have HXC := Lib.hid (And.intro x0 (And.intro x1 x4))
        clear x0 x1 x2 x3 x4 hI0 h0 h1
        have HBS := Lib.hid hbs
        have HBV := Lib.hid hb
        clear hbs
        go_wp2
        go_loopw [13] (fun zi wu => ∃ j : Nat, j ≤ i ∧ zi = .int .i64 (j : Int) ∧ Below wv.heap.size wv wu ∧ Hid (∀ q, q < j → oneB N[q]! N[i]! = true)) (fun zi _ => i - (intOf zi).toNat)
        case atStart => exact ⟨0, by omega, rfl, Below.refl _ _, Lib.hid fun j hj => absurd hj (by omega)⟩
        case round =>
         clear hb
         obtain ⟨j, hj, rfl, hb, HQ⟩ := hrel
         rename World => wu
         by_cases hltj : j < i
         ·obtain ⟨b', off', A', n', c', q1, hbs, ⟨y0, y1, -, -, y4⟩, -⟩ := (H6.out.below HBV.out).at_ (show j < m by omega)
          injection q1 with q1
          injection q1 with q1 q2 _
          subst q1 q2
          have HS := Lib.hid (show ∀ W, Below wu.heap.size wu W → (W.cell? ⟨b, off + i * 5, none⟩ = some (.int .i64 (N[i]!).op) ∧ W.cell? ⟨b, off + i * 5 + 1, none⟩ = some (.int .i64 (N[i]!).width) ∧ W.cell? ⟨b, off + i * 5 + 4, none⟩ = some (.int .u32 (N[i]!).imm)) ∧ W.cell? ⟨b, off + j * 5, none⟩ = some (.int .i64 (N[j]!).op) ∧ W.cell? ⟨b, off + j * 5 + 1, none⟩ = some (.int .i64 (N[j]!).width) ∧ W.cell? ⟨b, off + j * 5 + 4, none⟩ = some (.int .u32 (N[j]!).imm) from fun W hW => by
           have hb9 := hb.trans (hW.mono hb.size)
           exact ⟨⟨(hb9.cell (p := ⟨b, off + i * 5, none⟩) HBS.out).trans HXC.out.1, (hb9.cell (p := ⟨b, off + i * 5 + 1, none⟩) HBS.out).trans HXC.out.2.1, (hb9.cell (p := ⟨b, off + i * 5 + 4, none⟩) HBS.out).trans HXC.out.2.2⟩, (hb9.cell (p := ⟨b, off + j * 5, none⟩) HBS.out).trans y0, (hb9.cell (p := ⟨b, off + j * 5 + 1, none⟩) HBS.out).trans y1, (hb9.cell (p := ⟨b, off + j * 5 + 4, none⟩) HBS.out).trans y4⟩)
          have HBU := Lib.hid hb
          have hjk : j < m := by omega
          have HNX := Lib.hid (show oneB N[j]! N[i]! = true → ∀ q, q < j + 1 → oneB N[q]! N[i]! = true from fun hh q hq => by
           by_cases e : q = j
           ·rw [e]; exact hh
           ·exact HQ.out q (by omega))
          have HBD := Lib.hid (HBAD.out i j hlt hltj)
          have HYE := Lib.hid (one_iff (x := N[j]!) (y := N[i]!))
          generalize oneB N[j]! N[i]! = ob at HNX HBD HYE
          generalize N[i]! = x at HS HYE HNX
          generalize N[j]! = y at HS HYE
          obtain ⟨op, wid, fl, ar, imm⟩ := x
          obtain ⟨op', wid', fl', ar', imm'⟩ := y
          simp only at HS HYE HNX
          clear y0 y1 y4 hb hbs
          by_cases o1 : op' = 33
          ·have e1 : (op' == 33) = true := by simp [o1]
           by_cases o2 : op = 33
           ·have e2 : (op == 33) = true := by simp [o2]
            by_cases o3 : imm' = imm
            ·have e3 : (imm' == imm) = true := by simp [o3]
             by_cases o4 : wid' = wid
             ·have e4 : (wid' != wid) = false := by simp [o4]
              have HK := Lib.hid (HNX.out (HYE.out.2 fun _ _ _ => o4))
              clear o1 o2 o3 o4
              go_upto_region 21 with fail
              refine wp_region_held_drew (S := (fun W => (W.cell? ⟨b, off + i * 5, none⟩ = some (.int .i64 op) ∧ W.cell? ⟨b, off + i * 5 + 1, none⟩ = some (.int .i64 wid) ∧ W.cell? ⟨b, off + i * 5 + 4, none⟩ = some (.int .u32 imm)) ∧ W.cell? ⟨b, off + j * 5, none⟩ = some (.int .i64 op') ∧ W.cell? ⟨b, off + j * 5 + 1, none⟩ = some (.int .i64 wid') ∧ W.cell? ⟨b, off + j * 5 + 4, none⟩ = some (.int .u32 imm'))) (by kernel_rfl) ?_ (fun hHeld => ?_)
              ·exact HS.out _ (by first | exact Below.refl _ _ | exact drewD (Below.refl _ _))
              refine wpAnyH_take (i := 0) (oi := ({ dst := some 61, op := Op.move (Operand.tmp 11), type := 22, pos := "ref.go:331", after := #[], guard := none } : Oper)) (v := ?a1_v0) rfl (by kernel_rfl) (by kernel_rfl) (by kernel_rfl) (fun _ _ _ h => h) (Or.inl ⟨by rfl, ?a1_y0⟩) (by assumption) ?a1_r0
              case a1_y0 =>
               intro w hSw
               (try dsimp only at hSw)
               go_simp
               (try with_reducible rfl)
              try simp only [Act.put, List.setIfInBounds_toArray, List.set_cons_zero, List.set_cons_succ]
              refine wpAnyH_take (i := 1) (oi := ({ dst := some 62, op := Op.move (Operand.tmp 13), type := 3, pos := "ref.go:331", after := #[], guard := none } : Oper)) (v := ?a2_v1) rfl (by kernel_rfl) (by kernel_rfl) (by kernel_rfl) (fun _ _ _ h => h) (Or.inl ⟨by rfl, ?a2_y1⟩) (by assumption) ?a2_r1
              case a2_y1 =>
               intro w hSw
               (try dsimp only at hSw)
               go_simp
               (try with_reducible rfl)
              try simp only [Act.put, List.setIfInBounds_toArray, List.set_cons_zero, List.set_cons_succ]
              refine wpAnyH_take (i := 2) (oi := ({ dst := some 63, op := Op.indexAddr 22 (Operand.tmp 61) (Operand.tmp 62), type := 0, pos := "ref.go:331", after := #[{ on := 0, ground := Ground.data }, { on := 1, ground := Ground.data }], guard := none } : Oper)) (v := ?a3_v2) rfl (by kernel_rfl) (by kernel_rfl) (by kernel_rfl) (fun _ _ _ h => h) (Or.inl ⟨by rfl, ?a3_y2⟩) (by assumption) ?a3_r2
              case a3_y2 =>
               intro w hSw
               (try dsimp only at hSw)
               go_simp
               (try with_reducible rfl)
              try simp only [Act.put, List.setIfInBounds_toArray, List.set_cons_zero, List.set_cons_succ]
              refine wpAnyH_take (i := 3) (oi := ({ dst := some 64, op := Op.fieldAddr 47 (Operand.tmp 63) 0, type := 0, pos := "ref.go:331", after := #[{ on := 2, ground := Ground.data }], guard := none } : Oper)) (v := ?a4_v3) rfl (by kernel_rfl) (by kernel_rfl) (by kernel_rfl) (fun _ _ _ h => h) (Or.inl ⟨by rfl, ?a4_y3⟩) (by assumption) ?a4_r3
              case a4_y3 =>
               intro w hSw
               (try dsimp only at hSw)
               go_simp
               (try with_reducible rfl)
              try simp only [Act.put, List.setIfInBounds_toArray, List.set_cons_zero, List.set_cons_succ]
              refine wpAnyH_take (i := 4) (oi := ({ dst := some 65, op := Op.load 3 (Operand.tmp 64), type := 3, pos := "ref.go:331", after := #[{ on := 3, ground := Ground.data }], guard := none } : Oper)) (v := ?a5_v4) rfl (by kernel_rfl) (by kernel_rfl) (by kernel_rfl) (fun _ _ _ h => h) (Or.inl ⟨by rfl, ?a5_y4⟩) (by assumption) ?a5_r4
              case a5_y4 =>
               intro w hSw
               (try dsimp only at hSw)
               go_simp
               (try with_reducible rfl)
              try simp only [Act.put, List.setIfInBounds_toArray, List.set_cons_zero, List.set_cons_succ]
              refine wpAnyH_take (i := 5) (oi := ({ dst := some 66, op := Op.binOp BinOp.eql 3 (Operand.tmp 65) (Operand.const (Value.int IntKind.i64 33)) 3, type := 4, pos := "ref.go:331", after := #[{ on := 4, ground := Ground.data }], guard := none } : Oper)) (v := ?a6_v5) rfl (by kernel_rfl) (by kernel_rfl) (by kernel_rfl) (fun _ _ _ h => h) (Or.inl ⟨by rfl, ?a6_y5⟩) (by assumption) ?a6_r5
              case a6_y5 =>
               intro w hSw
               (try dsimp only at hSw)
               go_simp
               (try with_reducible rfl)
              try simp only [Act.put, List.setIfInBounds_toArray, List.set_cons_zero, List.set_cons_succ]
              refine wpAnyH_take (i := 6) (oi := ({ dst := some 67, op := Op.move (Operand.tmp 66), type := 4, pos := "ref.go:331", after := #[{ on := 5, ground := Ground.data }], guard := none } : Oper)) (v := ?a7_v6) rfl (by kernel_rfl) (by kernel_rfl) (by kernel_rfl) (fun _ _ _ h => h) (Or.inl ⟨by rfl, ?a7_y6⟩) (by assumption) ?a7_r6
              case a7_y6 =>
               intro w hSw
               (try dsimp only at hSw)
               go_simp
               (try with_reducible rfl)
              try simp only [Act.put, List.setIfInBounds_toArray, List.set_cons_zero, List.set_cons_succ]
              refine wpAnyH_take (i := 7) (oi := ({ dst := some 68, op := Op.move (Operand.tmp 11), type := 22, pos := "ref.go:331", after := #[{ on := 6, ground := Ground.guard }], guard := some (6, true) } : Oper)) (v := ?a8_v7) rfl (by kernel_rfl) (by kernel_rfl) (by kernel_rfl) (fun _ _ _ h => h) (Or.inl ⟨by rfl, ?a8_y7⟩) (by assumption) ?a8_r7
              case a8_y7 =>
               intro w hSw
               (try dsimp only at hSw)
               go_simp
               (try with_reducible rfl)
              try simp only [Act.put, List.setIfInBounds_toArray, List.set_cons_zero, List.set_cons_succ]
              refine wpAnyH_take (i := 8) (oi := ({ dst := some 69, op := Op.move (Operand.tmp 12), type := 3, pos := "ref.go:331", after := #[{ on := 6, ground := Ground.guard }], guard := some (6, true) } : Oper)) (v := ?a9_v8) rfl (by kernel_rfl) (by kernel_rfl) (by kernel_rfl) (fun _ _ _ h => h) (Or.inl ⟨by rfl, ?a9_y8⟩) (by assumption) ?a9_r8
              case a9_y8 =>
               intro w hSw
               (try dsimp only at hSw)
               go_simp
               (try with_reducible rfl)
              try simp only [Act.put, List.setIfInBounds_toArray, List.set_cons_zero, List.set_cons_succ]
              refine wpAnyH_take (i := 9) (oi := ({ dst := some 70, op := Op.indexAddr 22 (Operand.tmp 68) (Operand.tmp 69), type := 0, pos := "ref.go:331", after := #[{ on := 7, ground := Ground.data }, { on := 8, ground := Ground.data }, { on := 6, ground := Ground.guard }], guard := some (6, true) } : Oper)) (v := ?a10_v9) rfl (by kernel_rfl) (by kernel_rfl) (by kernel_rfl) (fun _ _ _ h => h) (Or.inl ⟨by rfl, ?a10_y9⟩) (by assumption) ?a10_r9
              case a10_y9 =>
               intro w hSw
               (try dsimp only at hSw)
               go_simp
               (try with_reducible rfl)
              try simp only [Act.put, List.setIfInBounds_toArray, List.set_cons_zero, List.set_cons_succ]
              refine wpAnyH_take (i := 10) (oi := ({ dst := some 71, op := Op.fieldAddr 47 (Operand.tmp 70) 0, type := 0, pos := "ref.go:331", after := #[{ on := 9, ground := Ground.data }, { on := 6, ground := Ground.guard }], guard := some (6, true) } : Oper)) (v := ?a11_v10) rfl (by kernel_rfl) (by kernel_rfl) (by kernel_rfl) (fun _ _ _ h => h) (Or.inl ⟨by rfl, ?a11_y10⟩) (by assumption) ?a11_r10
              case a11_y10 =>
               intro w hSw
               (try dsimp only at hSw)
               go_simp
               (try with_reducible rfl)
              try simp only [Act.put, List.setIfInBounds_toArray, List.set_cons_zero, List.set_cons_succ]
              refine wpAnyH_take (i := 11) (oi := ({ dst := some 72, op := Op.load 3 (Operand.tmp 71), type := 3, pos := "ref.go:331", after := #[{ on := 10, ground := Ground.data }, { on := 6, ground := Ground.guard }], guard := some (6, true) } : Oper)) (v := ?a12_v11) rfl (by kernel_rfl) (by kernel_rfl) (by kernel_rfl) (fun _ _ _ h => h) (Or.inl ⟨by rfl, ?a12_y11⟩) (by assumption) ?a12_r11
              case a12_y11 =>
               intro w hSw
               (try dsimp only at hSw)
               go_simp
               (try with_reducible rfl)
              try simp only [Act.put, List.setIfInBounds_toArray, List.set_cons_zero, List.set_cons_succ]
              refine wpAnyH_take (i := 12) (oi := ({ dst := some 73, op := Op.binOp BinOp.eql 3 (Operand.tmp 72) (Operand.const (Value.int IntKind.i64 33)) 3, type := 4, pos := "ref.go:331", after := #[{ on := 11, ground := Ground.data }, { on := 6, ground := Ground.guard }], guard := some (6, true) } : Oper)) (v := ?a13_v12) rfl (by kernel_rfl) (by kernel_rfl) (by kernel_rfl) (fun _ _ _ h => h) (Or.inl ⟨by rfl, ?a13_y12⟩) (by assumption) ?a13_r12
              case a13_y12 =>
               intro w hSw
               (try dsimp only at hSw)
               go_simp
               (try with_reducible rfl)
              try simp only [Act.put, List.setIfInBounds_toArray, List.set_cons_zero, List.set_cons_succ]
              refine wpAnyH_take (i := 13) (oi := ({ dst := some 74, op := Op.pick (Operand.tmp 67) (Operand.tmp 73) (Operand.const (Value.bool false)), type := 4, pos := "ref.go:331", after := #[{ on := 6, ground := Ground.data }, { on := 12, ground := Ground.data }], guard := none } : Oper)) (v := ?a14_v13) rfl (by kernel_rfl) (by kernel_rfl) (by kernel_rfl) (fun _ _ _ h => h) (Or.inl ⟨by rfl, ?a14_y13⟩) (by assumption) ?a14_r13
              case a14_y13 =>
               intro w hSw
               (try dsimp only at hSw)
               go_simp
               (try with_reducible rfl)
              try simp only [Act.put, List.setIfInBounds_toArray, List.set_cons_zero, List.set_cons_succ]
              refine wpAnyH_take (i := 14) (oi := ({ dst := some 75, op := Op.move (Operand.tmp 74), type := 4, pos := "ref.go:331", after := #[{ on := 13, ground := Ground.data }, { on := 6, ground := Ground.chain }], guard := none } : Oper)) (v := ?a15_v14) rfl (by kernel_rfl) (by kernel_rfl) (by kernel_rfl) (fun _ _ _ h => h) (Or.inl ⟨by rfl, ?a15_y14⟩) (by assumption) ?a15_r14
              case a15_y14 =>
               intro w hSw
               (try dsimp only at hSw)
               go_simp
               (try with_reducible rfl)
              try simp only [Act.put, List.setIfInBounds_toArray, List.set_cons_zero, List.set_cons_succ]
              refine wpAnyH_take (i := 15) (oi := ({ dst := some 76, op := Op.move (Operand.tmp 11), type := 22, pos := "ref.go:331", after := #[{ on := 14, ground := Ground.guard }], guard := some (14, true) } : Oper)) (v := ?a16_v15) rfl (by kernel_rfl) (by kernel_rfl) (by kernel_rfl) (fun _ _ _ h => h) (Or.inl ⟨by rfl, ?a16_y15⟩) (by assumption) ?a16_r15
              case a16_y15 =>
               intro w hSw
               (try dsimp only at hSw)
               go_simp
               (try with_reducible rfl)
              try simp only [Act.put, List.setIfInBounds_toArray, List.set_cons_zero, List.set_cons_succ]
              refine wpAnyH_take (i := 16) (oi := ({ dst := some 77, op := Op.move (Operand.tmp 13), type := 3, pos := "ref.go:331", after := #[{ on := 14, ground := Ground.guard }], guard := some (14, true) } : Oper)) (v := ?a17_v16) rfl (by kernel_rfl) (by kernel_rfl) (by kernel_rfl) (fun _ _ _ h => h) (Or.inl ⟨by rfl, ?a17_y16⟩) (by assumption) ?a17_r16
              case a17_y16 =>
               intro w hSw
               (try dsimp only at hSw)
               go_simp
               (try with_reducible rfl)
              try simp only [Act.put, List.setIfInBounds_toArray, List.set_cons_zero, List.set_cons_succ]
              refine wpAnyH_take (i := 17) (oi := ({ dst := some 78, op := Op.indexAddr 22 (Operand.tmp 76) (Operand.tmp 77), type := 0, pos := "ref.go:331", after := #[{ on := 15, ground := Ground.data }, { on := 16, ground := Ground.data }, { on := 14, ground := Ground.guard }], guard := some (14, true) } : Oper)) (v := ?a18_v17) rfl (by kernel_rfl) (by kernel_rfl) (by kernel_rfl) (fun _ _ _ h => h) (Or.inl ⟨by rfl, ?a18_y17⟩) (by assumption) ?a18_r17
              case a18_y17 =>
               intro w hSw
               (try dsimp only at hSw)
               go_simp
               (try with_reducible rfl)
              try simp only [Act.put, List.setIfInBounds_toArray, List.set_cons_zero, List.set_cons_succ]
              refine wpAnyH_take (i := 18) (oi := ({ dst := some 79, op := Op.fieldAddr 47 (Operand.tmp 78) 4, type := 0, pos := "ref.go:331", after := #[{ on := 17, ground := Ground.data }, { on := 14, ground := Ground.guard }], guard := some (14, true) } : Oper)) (v := ?a19_v18) rfl (by kernel_rfl) (by kernel_rfl) (by kernel_rfl) (fun _ _ _ h => h) (Or.inl ⟨by rfl, ?a19_y18⟩) (by assumption) ?a19_r18
              case a19_y18 =>
               intro w hSw
               (try dsimp only at hSw)
               go_simp
               (try with_reducible rfl)
              try simp only [Act.put, List.setIfInBounds_toArray, List.set_cons_zero, List.set_cons_succ]
              refine wpAnyH_take (i := 19) (oi := ({ dst := some 80, op := Op.load 34 (Operand.tmp 79), type := 34, pos := "ref.go:331", after := #[{ on := 18, ground := Ground.data }, { on := 14, ground := Ground.guard }], guard := some (14, true) } : Oper)) (v := ?a20_v19) rfl (by kernel_rfl) (by kernel_rfl) (by kernel_rfl) (fun _ _ _ h => h) (Or.inl ⟨by rfl, ?a20_y19⟩) (by assumption) ?a20_r19
              case a20_y19 =>
               intro w hSw
               (try dsimp only at hSw)
               go_simp
               (try with_reducible rfl)
              try simp only [Act.put, List.setIfInBounds_toArray, List.set_cons_zero, List.set_cons_succ]
              refine wpAnyH_take (i := 20) (oi := ({ dst := some 81, op := Op.move (Operand.tmp 11), type := 22, pos := "ref.go:331", after := #[{ on := 14, ground := Ground.guard }], guard := some (14, true) } : Oper)) (v := ?a21_v20) rfl (by kernel_rfl) (by kernel_rfl) (by kernel_rfl) (fun _ _ _ h => h) (Or.inl ⟨by rfl, ?a21_y20⟩) (by assumption) ?a21_r20
              case a21_y20 =>
               intro w hSw
               (try dsimp only at hSw)
               go_simp
               (try with_reducible rfl)
              try simp only [Act.put, List.setIfInBounds_toArray, List.set_cons_zero, List.set_cons_succ]
              refine wpAnyH_take (i := 21) (oi := ({ dst := some 82, op := Op.move (Operand.tmp 12), type := 3, pos := "ref.go:331", after := #[{ on := 14, ground := Ground.guard }], guard := some (14, true) } : Oper)) (v := ?a22_v21) rfl (by kernel_rfl) (by kernel_rfl) (by kernel_rfl) (fun _ _ _ h => h) (Or.inl ⟨by rfl, ?a22_y21⟩) (by assumption) ?a22_r21
              case a22_y21 =>
               intro w hSw
               (try dsimp only at hSw)
               go_simp
               (try with_reducible rfl)
              try simp only [Act.put, List.setIfInBounds_toArray, List.set_cons_zero, List.set_cons_succ]
              refine wpAnyH_take (i := 22) (oi := ({ dst := some 83, op := Op.indexAddr 22 (Operand.tmp 81) (Operand.tmp 82), type := 0, pos := "ref.go:331", after := #[{ on := 20, ground := Ground.data }, { on := 21, ground := Ground.data }, { on := 14, ground := Ground.guard }], guard := some (14, true) } : Oper)) (v := ?a23_v22) rfl (by kernel_rfl) (by kernel_rfl) (by kernel_rfl) (fun _ _ _ h => h) (Or.inl ⟨by rfl, ?a23_y22⟩) (by assumption) ?a23_r22
              case a23_y22 =>
               intro w hSw
               (try dsimp only at hSw)
               go_simp
               (try with_reducible rfl)
              try simp only [Act.put, List.setIfInBounds_toArray, List.set_cons_zero, List.set_cons_succ]
              refine wpAnyH_take (i := 23) (oi := ({ dst := some 84, op := Op.fieldAddr 47 (Operand.tmp 83) 4, type := 0, pos := "ref.go:331", after := #[{ on := 22, ground := Ground.data }, { on := 14, ground := Ground.guard }], guard := some (14, true) } : Oper)) (v := ?a24_v23) rfl (by kernel_rfl) (by kernel_rfl) (by kernel_rfl) (fun _ _ _ h => h) (Or.inl ⟨by rfl, ?a24_y23⟩) (by assumption) ?a24_r23
              case a24_y23 =>
               intro w hSw
               (try dsimp only at hSw)
               go_simp
               (try with_reducible rfl)
              try simp only [Act.put, List.setIfInBounds_toArray, List.set_cons_zero, List.set_cons_succ]
              refine wpAnyH_take (i := 24) (oi := ({ dst := some 85, op := Op.load 34 (Operand.tmp 84), type := 34, pos := "ref.go:331", after := #[{ on := 23, ground := Ground.data }, { on := 14, ground := Ground.guard }], guard := some (14, true) } : Oper)) (v := ?a25_v24) rfl (by kernel_rfl) (by kernel_rfl) (by kernel_rfl) (fun _ _ _ h => h) (Or.inl ⟨by rfl, ?a25_y24⟩) (by assumption) ?a25_r24
              case a25_y24 =>
               intro w hSw
               (try dsimp only at hSw)
               go_simp
               (try with_reducible rfl)
              try simp only [Act.put, List.setIfInBounds_toArray, List.set_cons_zero, List.set_cons_succ]
              refine wpAnyH_take (i := 25) (oi := ({ dst := some 86, op := Op.binOp BinOp.eql 34 (Operand.tmp 80) (Operand.tmp 85) 34, type := 4, pos := "ref.go:331", after := #[{ on := 19, ground := Ground.data }, { on := 24, ground := Ground.data }, { on := 14, ground := Ground.guard }], guard := some (14, true) } : Oper)) (v := ?a26_v25) rfl (by kernel_rfl) (by kernel_rfl) (by kernel_rfl) (fun _ _ _ h => h) (Or.inl ⟨by rfl, ?a26_y25⟩) (by assumption) ?a26_r25
              case a26_y25 =>
               intro w hSw
               (try dsimp only at hSw)
               go_simp
               (try with_reducible rfl)
              try simp only [Act.put, List.setIfInBounds_toArray, List.set_cons_zero, List.set_cons_succ]
              refine wpAnyH_take (i := 26) (oi := ({ dst := some 87, op := Op.pick (Operand.tmp 75) (Operand.tmp 86) (Operand.const (Value.bool false)), type := 4, pos := "ref.go:331", after := #[{ on := 14, ground := Ground.data }, { on := 25, ground := Ground.data }], guard := none } : Oper)) (v := ?a27_v26) rfl (by kernel_rfl) (by kernel_rfl) (by kernel_rfl) (fun _ _ _ h => h) (Or.inl ⟨by rfl, ?a27_y26⟩) (by assumption) ?a27_r26
              case a27_y26 =>
               intro w hSw
               (try dsimp only at hSw)
               go_simp
               (try with_reducible rfl)
              try simp only [Act.put, List.setIfInBounds_toArray, List.set_cons_zero, List.set_cons_succ]
              refine wpAnyH_take (i := 27) (oi := ({ dst := some 88, op := Op.move (Operand.tmp 87), type := 4, pos := "ref.go:331", after := #[{ on := 26, ground := Ground.data }, { on := 14, ground := Ground.chain }], guard := none } : Oper)) (v := ?a28_v27) rfl (by kernel_rfl) (by kernel_rfl) (by kernel_rfl) (fun _ _ _ h => h) (Or.inl ⟨by rfl, ?a28_y27⟩) (by assumption) ?a28_r27
              case a28_y27 =>
               intro w hSw
               (try dsimp only at hSw)
               go_simp
               (try with_reducible rfl)
              try simp only [Act.put, List.setIfInBounds_toArray, List.set_cons_zero, List.set_cons_succ]
              refine wpAnyH_take (i := 28) (oi := ({ dst := some 89, op := Op.move (Operand.tmp 11), type := 22, pos := "ref.go:331", after := #[{ on := 27, ground := Ground.guard }], guard := some (27, true) } : Oper)) (v := ?a29_v28) rfl (by kernel_rfl) (by kernel_rfl) (by kernel_rfl) (fun _ _ _ h => h) (Or.inl ⟨by rfl, ?a29_y28⟩) (by assumption) ?a29_r28
              case a29_y28 =>
               intro w hSw
               (try dsimp only at hSw)
               go_simp
               (try with_reducible rfl)
              try simp only [Act.put, List.setIfInBounds_toArray, List.set_cons_zero, List.set_cons_succ]
              refine wpAnyH_take (i := 29) (oi := ({ dst := some 90, op := Op.move (Operand.tmp 13), type := 3, pos := "ref.go:331", after := #[{ on := 27, ground := Ground.guard }], guard := some (27, true) } : Oper)) (v := ?a30_v29) rfl (by kernel_rfl) (by kernel_rfl) (by kernel_rfl) (fun _ _ _ h => h) (Or.inl ⟨by rfl, ?a30_y29⟩) (by assumption) ?a30_r29
              case a30_y29 =>
               intro w hSw
               (try dsimp only at hSw)
               go_simp
               (try with_reducible rfl)
              try simp only [Act.put, List.setIfInBounds_toArray, List.set_cons_zero, List.set_cons_succ]
              refine wpAnyH_take (i := 30) (oi := ({ dst := some 91, op := Op.indexAddr 22 (Operand.tmp 89) (Operand.tmp 90), type := 0, pos := "ref.go:331", after := #[{ on := 28, ground := Ground.data }, { on := 29, ground := Ground.data }, { on := 27, ground := Ground.guard }], guard := some (27, true) } : Oper)) (v := ?a31_v30) rfl (by kernel_rfl) (by kernel_rfl) (by kernel_rfl) (fun _ _ _ h => h) (Or.inl ⟨by rfl, ?a31_y30⟩) (by assumption) ?a31_r30
              case a31_y30 =>
               intro w hSw
               (try dsimp only at hSw)
               go_simp
               (try with_reducible rfl)
              try simp only [Act.put, List.setIfInBounds_toArray, List.set_cons_zero, List.set_cons_succ]
              refine wpAnyH_take (i := 31) (oi := ({ dst := some 92, op := Op.fieldAddr 47 (Operand.tmp 91) 1, type := 0, pos := "ref.go:331", after := #[{ on := 30, ground := Ground.data }, { on := 27, ground := Ground.guard }], guard := some (27, true) } : Oper)) (v := ?a32_v31) rfl (by kernel_rfl) (by kernel_rfl) (by kernel_rfl) (fun _ _ _ h => h) (Or.inl ⟨by rfl, ?a32_y31⟩) (by assumption) ?a32_r31
              case a32_y31 =>
               intro w hSw
               (try dsimp only at hSw)
               go_simp
               (try with_reducible rfl)
              try simp only [Act.put, List.setIfInBounds_toArray, List.set_cons_zero, List.set_cons_succ]
              refine wpAnyH_take (i := 32) (oi := ({ dst := some 93, op := Op.load 3 (Operand.tmp 92), type := 3, pos := "ref.go:331", after := #[{ on := 31, ground := Ground.data }, { on := 27, ground := Ground.guard }], guard := some (27, true) } : Oper)) (v := ?a33_v32) rfl (by kernel_rfl) (by kernel_rfl) (by kernel_rfl) (fun _ _ _ h => h) (Or.inl ⟨by rfl, ?a33_y32⟩) (by assumption) ?a33_r32
              case a33_y32 =>
               intro w hSw
               (try dsimp only at hSw)
               go_simp
               (try with_reducible rfl)
              try simp only [Act.put, List.setIfInBounds_toArray, List.set_cons_zero, List.set_cons_succ]
              refine wpAnyH_take (i := 33) (oi := ({ dst := some 94, op := Op.move (Operand.tmp 11), type := 22, pos := "ref.go:331", after := #[{ on := 27, ground := Ground.guard }], guard := some (27, true) } : Oper)) (v := ?a34_v33) rfl (by kernel_rfl) (by kernel_rfl) (by kernel_rfl) (fun _ _ _ h => h) (Or.inl ⟨by rfl, ?a34_y33⟩) (by assumption) ?a34_r33
              case a34_y33 =>
               intro w hSw
               (try dsimp only at hSw)
               go_simp
               (try with_reducible rfl)
              try simp only [Act.put, List.setIfInBounds_toArray, List.set_cons_zero, List.set_cons_succ]
              refine wpAnyH_take (i := 34) (oi := ({ dst := some 95, op := Op.move (Operand.tmp 12), type := 3, pos := "ref.go:331", after := #[{ on := 27, ground := Ground.guard }], guard := some (27, true) } : Oper)) (v := ?a35_v34) rfl (by kernel_rfl) (by kernel_rfl) (by kernel_rfl) (fun _ _ _ h => h) (Or.inl ⟨by rfl, ?a35_y34⟩) (by assumption) ?a35_r34
              case a35_y34 =>
               intro w hSw
               (try dsimp only at hSw)
               go_simp
               (try with_reducible rfl)
              try simp only [Act.put, List.setIfInBounds_toArray, List.set_cons_zero, List.set_cons_succ]
              refine wpAnyH_take (i := 35) (oi := ({ dst := some 96, op := Op.indexAddr 22 (Operand.tmp 94) (Operand.tmp 95), type := 0, pos := "ref.go:331", after := #[{ on := 33, ground := Ground.data }, { on := 34, ground := Ground.data }, { on := 27, ground := Ground.guard }], guard := some (27, true) } : Oper)) (v := ?a36_v35) rfl (by kernel_rfl) (by kernel_rfl) (by kernel_rfl) (fun _ _ _ h => h) (Or.inl ⟨by rfl, ?a36_y35⟩) (by assumption) ?a36_r35
              case a36_y35 =>
               intro w hSw
               (try dsimp only at hSw)
               go_simp
               (try with_reducible rfl)
              try simp only [Act.put, List.setIfInBounds_toArray, List.set_cons_zero, List.set_cons_succ]
              refine wpAnyH_take (i := 36) (oi := ({ dst := some 97, op := Op.fieldAddr 47 (Operand.tmp 96) 1, type := 0, pos := "ref.go:331", after := #[{ on := 35, ground := Ground.data }, { on := 27, ground := Ground.guard }], guard := some (27, true) } : Oper)) (v := ?a37_v36) rfl (by kernel_rfl) (by kernel_rfl) (by kernel_rfl) (fun _ _ _ h => h) (Or.inl ⟨by rfl, ?a37_y36⟩) (by assumption) ?a37_r36
              case a37_y36 =>
               intro w hSw
               (try dsimp only at hSw)
               go_simp
               (try with_reducible rfl)
              try simp only [Act.put, List.setIfInBounds_toArray, List.set_cons_zero, List.set_cons_succ]
              refine wpAnyH_take (i := 37) (oi := ({ dst := some 98, op := Op.load 3 (Operand.tmp 97), type := 3, pos := "ref.go:331", after := #[{ on := 36, ground := Ground.data }, { on := 27, ground := Ground.guard }], guard := some (27, true) } : Oper)) (v := ?a38_v37) rfl (by kernel_rfl) (by kernel_rfl) (by kernel_rfl) (fun _ _ _ h => h) (Or.inl ⟨by rfl, ?a38_y37⟩) (by assumption) ?a38_r37
              case a38_y37 =>
               intro w hSw
               (try dsimp only at hSw)
               go_simp
               (try with_reducible rfl)
              try simp only [Act.put, List.setIfInBounds_toArray, List.set_cons_zero, List.set_cons_succ]
              refine wpAnyH_take (i := 38) (oi := ({ dst := some 99, op := Op.binOp BinOp.neq 3 (Operand.tmp 93) (Operand.tmp 98) 3, type := 4, pos := "ref.go:331", after := #[{ on := 32, ground := Ground.data }, { on := 37, ground := Ground.data }, { on := 27, ground := Ground.guard }], guard := some (27, true) } : Oper)) (v := ?a39_v38) rfl (by kernel_rfl) (by kernel_rfl) (by kernel_rfl) (fun _ _ _ h => h) (Or.inl ⟨by rfl, ?a39_y38⟩) (by assumption) ?a39_r38
              case a39_y38 =>
               intro w hSw
               (try dsimp only at hSw)
               go_simp
               (try with_reducible rfl)
              try simp only [Act.put, List.setIfInBounds_toArray, List.set_cons_zero, List.set_cons_succ]
              refine wpAnyH_take (i := 39) (oi := ({ dst := some 100, op := Op.pick (Operand.tmp 88) (Operand.tmp 99) (Operand.const (Value.bool false)), type := 4, pos := "ref.go:331", after := #[{ on := 27, ground := Ground.data }, { on := 38, ground := Ground.data }], guard := none } : Oper)) (v := ?a40_v39) rfl (by kernel_rfl) (by kernel_rfl) (by kernel_rfl) (fun _ _ _ h => h) (Or.inl ⟨by rfl, ?a40_y39⟩) (by assumption) ?a40_r39
              case a40_y39 =>
               intro w hSw
               (try dsimp only at hSw)
               go_simp
               (try with_reducible rfl)
              try simp only [Act.put, List.setIfInBounds_toArray, List.set_cons_zero, List.set_cons_succ]
              refine wpAnyH_done (by kernel_rfl) ?_ _
              go_wp2
              go_roundw
              case rel => exact ⟨j + 1, by omega, by go_num, drewD HBU.out, HK⟩
              case measure => simp [intOf]; omega
             ·have e4 : (wid' != wid) = true := by simp [o4]
              have HE := Lib.hid (HBD.out (Bool.eq_false_iff.2 fun hh => o4 (HYE.out.1 hh o1 o2 o3)))
              have HR3 := Lib.hid (show F = 7 by rw [HR2.out, if_pos HE.out])
              clear o1 o2 o3 o4
              go_upto_region 21 with fail
              refine wp_region_held_drew (S := (fun W => (W.cell? ⟨b, off + i * 5, none⟩ = some (.int .i64 op) ∧ W.cell? ⟨b, off + i * 5 + 1, none⟩ = some (.int .i64 wid) ∧ W.cell? ⟨b, off + i * 5 + 4, none⟩ = some (.int .u32 imm)) ∧ W.cell? ⟨b, off + j * 5, none⟩ = some (.int .i64 op') ∧ W.cell? ⟨b, off + j * 5 + 1, none⟩ = some (.int .i64 wid') ∧ W.cell? ⟨b, off + j * 5 + 4, none⟩ = some (.int .u32 imm'))) (by kernel_rfl) ?_ (fun hHeld => ?_)
              ·exact HS.out _ (by first | exact Below.refl _ _ | exact drewD (Below.refl _ _))
              refine wpAnyH_take (i := 0) (oi := ({ dst := some 61, op := Op.move (Operand.tmp 11), type := 22, pos := "ref.go:331", after := #[], guard := none } : Oper)) (v := ?b1_v0) rfl (by kernel_rfl) (by kernel_rfl) (by kernel_rfl) (fun _ _ _ h => h) (Or.inl ⟨by rfl, ?b1_y0⟩) (by assumption) ?b1_r0
              case b1_y0 =>
               intro w hSw
               (try dsimp only at hSw)
               go_simp
               (try with_reducible rfl)
              try simp only [Act.put, List.setIfInBounds_toArray, List.set_cons_zero, List.set_cons_succ]
              refine wpAnyH_take (i := 1) (oi := ({ dst := some 62, op := Op.move (Operand.tmp 13), type := 3, pos := "ref.go:331", after := #[], guard := none } : Oper)) (v := ?b2_v1) rfl (by kernel_rfl) (by kernel_rfl) (by kernel_rfl) (fun _ _ _ h => h) (Or.inl ⟨by rfl, ?b2_y1⟩) (by assumption) ?b2_r1
              case b2_y1 =>
               intro w hSw
               (try dsimp only at hSw)
               go_simp
               (try with_reducible rfl)
              try simp only [Act.put, List.setIfInBounds_toArray, List.set_cons_zero, List.set_cons_succ]
              refine wpAnyH_take (i := 2) (oi := ({ dst := some 63, op := Op.indexAddr 22 (Operand.tmp 61) (Operand.tmp 62), type := 0, pos := "ref.go:331", after := #[{ on := 0, ground := Ground.data }, { on := 1, ground := Ground.data }], guard := none } : Oper)) (v := ?b3_v2) rfl (by kernel_rfl) (by kernel_rfl) (by kernel_rfl) (fun _ _ _ h => h) (Or.inl ⟨by rfl, ?b3_y2⟩) (by assumption) ?b3_r2
              case b3_y2 =>
               intro w hSw
               (try dsimp only at hSw)
               go_simp
               (try with_reducible rfl)
              try simp only [Act.put, List.setIfInBounds_toArray, List.set_cons_zero, List.set_cons_succ]
              refine wpAnyH_take (i := 3) (oi := ({ dst := some 64, op := Op.fieldAddr 47 (Operand.tmp 63) 0, type := 0, pos := "ref.go:331", after := #[{ on := 2, ground := Ground.data }], guard := none } : Oper)) (v := ?b4_v3) rfl (by kernel_rfl) (by kernel_rfl) (by kernel_rfl) (fun _ _ _ h => h) (Or.inl ⟨by rfl, ?b4_y3⟩) (by assumption) ?b4_r3
              case b4_y3 =>
               intro w hSw
               (try dsimp only at hSw)
               go_simp
               (try with_reducible rfl)
              try simp only [Act.put, List.setIfInBounds_toArray, List.set_cons_zero, List.set_cons_succ]
              refine wpAnyH_take (i := 4) (oi := ({ dst := some 65, op := Op.load 3 (Operand.tmp 64), type := 3, pos := "ref.go:331", after := #[{ on := 3, ground := Ground.data }], guard := none } : Oper)) (v := ?b5_v4) rfl (by kernel_rfl) (by kernel_rfl) (by kernel_rfl) (fun _ _ _ h => h) (Or.inl ⟨by rfl, ?b5_y4⟩) (by assumption) ?b5_r4
              case b5_y4 =>
               intro w hSw
               (try dsimp only at hSw)
               go_simp
               (try with_reducible rfl)
              try simp only [Act.put, List.setIfInBounds_toArray, List.set_cons_zero, List.set_cons_succ]
              refine wpAnyH_take (i := 5) (oi := ({ dst := some 66, op := Op.binOp BinOp.eql 3 (Operand.tmp 65) (Operand.const (Value.int IntKind.i64 33)) 3, type := 4, pos := "ref.go:331", after := #[{ on := 4, ground := Ground.data }], guard := none } : Oper)) (v := ?b6_v5) rfl (by kernel_rfl) (by kernel_rfl) (by kernel_rfl) (fun _ _ _ h => h) (Or.inl ⟨by rfl, ?b6_y5⟩) (by assumption) ?b6_r5
              case b6_y5 =>
               intro w hSw
               (try dsimp only at hSw)
               go_simp
               (try with_reducible rfl)
              try simp only [Act.put, List.setIfInBounds_toArray, List.set_cons_zero, List.set_cons_succ]
              refine wpAnyH_take (i := 6) (oi := ({ dst := some 67, op := Op.move (Operand.tmp 66), type := 4, pos := "ref.go:331", after := #[{ on := 5, ground := Ground.data }], guard := none } : Oper)) (v := ?b7_v6) rfl (by kernel_rfl) (by kernel_rfl) (by kernel_rfl) (fun _ _ _ h => h) (Or.inl ⟨by rfl, ?b7_y6⟩) (by assumption) ?b7_r6
              case b7_y6 =>
               intro w hSw
               (try dsimp only at hSw)
               go_simp
               (try with_reducible rfl)
              try simp only [Act.put, List.setIfInBounds_toArray, List.set_cons_zero, List.set_cons_succ]
              refine wpAnyH_take (i := 7) (oi := ({ dst := some 68, op := Op.move (Operand.tmp 11), type := 22, pos := "ref.go:331", after := #[{ on := 6, ground := Ground.guard }], guard := some (6, true) } : Oper)) (v := ?b8_v7) rfl (by kernel_rfl) (by kernel_rfl) (by kernel_rfl) (fun _ _ _ h => h) (Or.inl ⟨by rfl, ?b8_y7⟩) (by assumption) ?b8_r7
              case b8_y7 =>
               intro w hSw
               (try dsimp only at hSw)
               go_simp
               (try with_reducible rfl)
              try simp only [Act.put, List.setIfInBounds_toArray, List.set_cons_zero, List.set_cons_succ]
              refine wpAnyH_take (i := 8) (oi := ({ dst := some 69, op := Op.move (Operand.tmp 12), type := 3, pos := "ref.go:331", after := #[{ on := 6, ground := Ground.guard }], guard := some (6, true) } : Oper)) (v := ?b9_v8) rfl (by kernel_rfl) (by kernel_rfl) (by kernel_rfl) (fun _ _ _ h => h) (Or.inl ⟨by rfl, ?b9_y8⟩) (by assumption) ?b9_r8
              case b9_y8 =>
               intro w hSw
               (try dsimp only at hSw)
               go_simp
               (try with_reducible rfl)
              try simp only [Act.put, List.setIfInBounds_toArray, List.set_cons_zero, List.set_cons_succ]
              refine wpAnyH_take (i := 9) (oi := ({ dst := some 70, op := Op.indexAddr 22 (Operand.tmp 68) (Operand.tmp 69), type := 0, pos := "ref.go:331", after := #[{ on := 7, ground := Ground.data }, { on := 8, ground := Ground.data }, { on := 6, ground := Ground.guard }], guard := some (6, true) } : Oper)) (v := ?b10_v9) rfl (by kernel_rfl) (by kernel_rfl) (by kernel_rfl) (fun _ _ _ h => h) (Or.inl ⟨by rfl, ?b10_y9⟩) (by assumption) ?b10_r9
              case b10_y9 =>
               intro w hSw
               (try dsimp only at hSw)
               go_simp
               (try with_reducible rfl)
              try simp only [Act.put, List.setIfInBounds_toArray, List.set_cons_zero, List.set_cons_succ]
              refine wpAnyH_take (i := 10) (oi := ({ dst := some 71, op := Op.fieldAddr 47 (Operand.tmp 70) 0, type := 0, pos := "ref.go:331", after := #[{ on := 9, ground := Ground.data }, { on := 6, ground := Ground.guard }], guard := some (6, true) } : Oper)) (v := ?b11_v10) rfl (by kernel_rfl) (by kernel_rfl) (by kernel_rfl) (fun _ _ _ h => h) (Or.inl ⟨by rfl, ?b11_y10⟩) (by assumption) ?b11_r10
              case b11_y10 =>
               intro w hSw
               (try dsimp only at hSw)
               go_simp
               (try with_reducible rfl)
              try simp only [Act.put, List.setIfInBounds_toArray, List.set_cons_zero, List.set_cons_succ]
              refine wpAnyH_take (i := 11) (oi := ({ dst := some 72, op := Op.load 3 (Operand.tmp 71), type := 3, pos := "ref.go:331", after := #[{ on := 10, ground := Ground.data }, { on := 6, ground := Ground.guard }], guard := some (6, true) } : Oper)) (v := ?b12_v11) rfl (by kernel_rfl) (by kernel_rfl) (by kernel_rfl) (fun _ _ _ h => h) (Or.inl ⟨by rfl, ?b12_y11⟩) (by assumption) ?b12_r11
              case b12_y11 =>
               intro w hSw
               (try dsimp only at hSw)
               go_simp
               (try with_reducible rfl)
              try simp only [Act.put, List.setIfInBounds_toArray, List.set_cons_zero, List.set_cons_succ]
              refine wpAnyH_take (i := 12) (oi := ({ dst := some 73, op := Op.binOp BinOp.eql 3 (Operand.tmp 72) (Operand.const (Value.int IntKind.i64 33)) 3, type := 4, pos := "ref.go:331", after := #[{ on := 11, ground := Ground.data }, { on := 6, ground := Ground.guard }], guard := some (6, true) } : Oper)) (v := ?b13_v12) rfl (by kernel_rfl) (by kernel_rfl) (by kernel_rfl) (fun _ _ _ h => h) (Or.inl ⟨by rfl, ?b13_y12⟩) (by assumption) ?b13_r12
              case b13_y12 =>
               intro w hSw
               (try dsimp only at hSw)
               go_simp
               (try with_reducible rfl)
              try simp only [Act.put, List.setIfInBounds_toArray, List.set_cons_zero, List.set_cons_succ]
              refine wpAnyH_take (i := 13) (oi := ({ dst := some 74, op := Op.pick (Operand.tmp 67) (Operand.tmp 73) (Operand.const (Value.bool false)), type := 4, pos := "ref.go:331", after := #[{ on := 6, ground := Ground.data }, { on := 12, ground := Ground.data }], guard := none } : Oper)) (v := ?b14_v13) rfl (by kernel_rfl) (by kernel_rfl) (by kernel_rfl) (fun _ _ _ h => h) (Or.inl ⟨by rfl, ?b14_y13⟩) (by assumption) ?b14_r13
              case b14_y13 =>
               intro w hSw
               (try dsimp only at hSw)
               go_simp
               (try with_reducible rfl)
              try simp only [Act.put, List.setIfInBounds_toArray, List.set_cons_zero, List.set_cons_succ]
              refine wpAnyH_take (i := 14) (oi := ({ dst := some 75, op := Op.move (Operand.tmp 74), type := 4, pos := "ref.go:331", after := #[{ on := 13, ground := Ground.data }, { on := 6, ground := Ground.chain }], guard := none } : Oper)) (v := ?b15_v14) rfl (by kernel_rfl) (by kernel_rfl) (by kernel_rfl) (fun _ _ _ h => h) (Or.inl ⟨by rfl, ?b15_y14⟩) (by assumption) ?b15_r14
              case b15_y14 =>
               intro w hSw
               (try dsimp only at hSw)
               go_simp
               (try with_reducible rfl)
              try simp only [Act.put, List.setIfInBounds_toArray, List.set_cons_zero, List.set_cons_succ]
              refine wpAnyH_take (i := 15) (oi := ({ dst := some 76, op := Op.move (Operand.tmp 11), type := 22, pos := "ref.go:331", after := #[{ on := 14, ground := Ground.guard }], guard := some (14, true) } : Oper)) (v := ?b16_v15) rfl (by kernel_rfl) (by kernel_rfl) (by kernel_rfl) (fun _ _ _ h => h) (Or.inl ⟨by rfl, ?b16_y15⟩) (by assumption) ?b16_r15
              case b16_y15 =>
               intro w hSw
               (try dsimp only at hSw)
               go_simp
               (try with_reducible rfl)
              try simp only [Act.put, List.setIfInBounds_toArray, List.set_cons_zero, List.set_cons_succ]
              refine wpAnyH_take (i := 16) (oi := ({ dst := some 77, op := Op.move (Operand.tmp 13), type := 3, pos := "ref.go:331", after := #[{ on := 14, ground := Ground.guard }], guard := some (14, true) } : Oper)) (v := ?b17_v16) rfl (by kernel_rfl) (by kernel_rfl) (by kernel_rfl) (fun _ _ _ h => h) (Or.inl ⟨by rfl, ?b17_y16⟩) (by assumption) ?b17_r16
              case b17_y16 =>
               intro w hSw
               (try dsimp only at hSw)
               go_simp
               (try with_reducible rfl)
              try simp only [Act.put, List.setIfInBounds_toArray, List.set_cons_zero, List.set_cons_succ]
              refine wpAnyH_take (i := 17) (oi := ({ dst := some 78, op := Op.indexAddr 22 (Operand.tmp 76) (Operand.tmp 77), type := 0, pos := "ref.go:331", after := #[{ on := 15, ground := Ground.data }, { on := 16, ground := Ground.data }, { on := 14, ground := Ground.guard }], guard := some (14, true) } : Oper)) (v := ?b18_v17) rfl (by kernel_rfl) (by kernel_rfl) (by kernel_rfl) (fun _ _ _ h => h) (Or.inl ⟨by rfl, ?b18_y17⟩) (by assumption) ?b18_r17
              case b18_y17 =>
               intro w hSw
               (try dsimp only at hSw)
               go_simp
               (try with_reducible rfl)
              try simp only [Act.put, List.setIfInBounds_toArray, List.set_cons_zero, List.set_cons_succ]
              refine wpAnyH_take (i := 18) (oi := ({ dst := some 79, op := Op.fieldAddr 47 (Operand.tmp 78) 4, type := 0, pos := "ref.go:331", after := #[{ on := 17, ground := Ground.data }, { on := 14, ground := Ground.guard }], guard := some (14, true) } : Oper)) (v := ?b19_v18) rfl (by kernel_rfl) (by kernel_rfl) (by kernel_rfl) (fun _ _ _ h => h) (Or.inl ⟨by rfl, ?b19_y18⟩) (by assumption) ?b19_r18
              case b19_y18 =>
               intro w hSw
               (try dsimp only at hSw)
               go_simp
               (try with_reducible rfl)
              try simp only [Act.put, List.setIfInBounds_toArray, List.set_cons_zero, List.set_cons_succ]
              refine wpAnyH_take (i := 19) (oi := ({ dst := some 80, op := Op.load 34 (Operand.tmp 79), type := 34, pos := "ref.go:331", after := #[{ on := 18, ground := Ground.data }, { on := 14, ground := Ground.guard }], guard := some (14, true) } : Oper)) (v := ?b20_v19) rfl (by kernel_rfl) (by kernel_rfl) (by kernel_rfl) (fun _ _ _ h => h) (Or.inl ⟨by rfl, ?b20_y19⟩) (by assumption) ?b20_r19
              case b20_y19 =>
               intro w hSw
               (try dsimp only at hSw)
               go_simp
               (try with_reducible rfl)
              try simp only [Act.put, List.setIfInBounds_toArray, List.set_cons_zero, List.set_cons_succ]
              refine wpAnyH_take (i := 20) (oi := ({ dst := some 81, op := Op.move (Operand.tmp 11), type := 22, pos := "ref.go:331", after := #[{ on := 14, ground := Ground.guard }], guard := some (14, true) } : Oper)) (v := ?b21_v20) rfl (by kernel_rfl) (by kernel_rfl) (by kernel_rfl) (fun _ _ _ h => h) (Or.inl ⟨by rfl, ?b21_y20⟩) (by assumption) ?b21_r20
              case b21_y20 =>
               intro w hSw
               (try dsimp only at hSw)
               go_simp
               (try with_reducible rfl)
              try simp only [Act.put, List.setIfInBounds_toArray, List.set_cons_zero, List.set_cons_succ]
              refine wpAnyH_take (i := 21) (oi := ({ dst := some 82, op := Op.move (Operand.tmp 12), type := 3, pos := "ref.go:331", after := #[{ on := 14, ground := Ground.guard }], guard := some (14, true) } : Oper)) (v := ?b22_v21) rfl (by kernel_rfl) (by kernel_rfl) (by kernel_rfl) (fun _ _ _ h => h) (Or.inl ⟨by rfl, ?b22_y21⟩) (by assumption) ?b22_r21
              case b22_y21 =>
               intro w hSw
               (try dsimp only at hSw)
               go_simp
               (try with_reducible rfl)
              try simp only [Act.put, List.setIfInBounds_toArray, List.set_cons_zero, List.set_cons_succ]
              refine wpAnyH_take (i := 22) (oi := ({ dst := some 83, op := Op.indexAddr 22 (Operand.tmp 81) (Operand.tmp 82), type := 0, pos := "ref.go:331", after := #[{ on := 20, ground := Ground.data }, { on := 21, ground := Ground.data }, { on := 14, ground := Ground.guard }], guard := some (14, true) } : Oper)) (v := ?b23_v22) rfl (by kernel_rfl) (by kernel_rfl) (by kernel_rfl) (fun _ _ _ h => h) (Or.inl ⟨by rfl, ?b23_y22⟩) (by assumption) ?b23_r22
              case b23_y22 =>
               intro w hSw
               (try dsimp only at hSw)
               go_simp
               (try with_reducible rfl)
              try simp only [Act.put, List.setIfInBounds_toArray, List.set_cons_zero, List.set_cons_succ]
              refine wpAnyH_take (i := 23) (oi := ({ dst := some 84, op := Op.fieldAddr 47 (Operand.tmp 83) 4, type := 0, pos := "ref.go:331", after := #[{ on := 22, ground := Ground.data }, { on := 14, ground := Ground.guard }], guard := some (14, true) } : Oper)) (v := ?b24_v23) rfl (by kernel_rfl) (by kernel_rfl) (by kernel_rfl) (fun _ _ _ h => h) (Or.inl ⟨by rfl, ?b24_y23⟩) (by assumption) ?b24_r23
              case b24_y23 =>
               intro w hSw
               (try dsimp only at hSw)
               go_simp
               (try with_reducible rfl)
              try simp only [Act.put, List.setIfInBounds_toArray, List.set_cons_zero, List.set_cons_succ]
              refine wpAnyH_take (i := 24) (oi := ({ dst := some 85, op := Op.load 34 (Operand.tmp 84), type := 34, pos := "ref.go:331", after := #[{ on := 23, ground := Ground.data }, { on := 14, ground := Ground.guard }], guard := some (14, true) } : Oper)) (v := ?b25_v24) rfl (by kernel_rfl) (by kernel_rfl) (by kernel_rfl) (fun _ _ _ h => h) (Or.inl ⟨by rfl, ?b25_y24⟩) (by assumption) ?b25_r24
              case b25_y24 =>
               intro w hSw
               (try dsimp only at hSw)
               go_simp
               (try with_reducible rfl)
              try simp only [Act.put, List.setIfInBounds_toArray, List.set_cons_zero, List.set_cons_succ]
              refine wpAnyH_take (i := 25) (oi := ({ dst := some 86, op := Op.binOp BinOp.eql 34 (Operand.tmp 80) (Operand.tmp 85) 34, type := 4, pos := "ref.go:331", after := #[{ on := 19, ground := Ground.data }, { on := 24, ground := Ground.data }, { on := 14, ground := Ground.guard }], guard := some (14, true) } : Oper)) (v := ?b26_v25) rfl (by kernel_rfl) (by kernel_rfl) (by kernel_rfl) (fun _ _ _ h => h) (Or.inl ⟨by rfl, ?b26_y25⟩) (by assumption) ?b26_r25
              case b26_y25 =>
               intro w hSw
               (try dsimp only at hSw)
               go_simp
               (try with_reducible rfl)
              try simp only [Act.put, List.setIfInBounds_toArray, List.set_cons_zero, List.set_cons_succ]
              refine wpAnyH_take (i := 26) (oi := ({ dst := some 87, op := Op.pick (Operand.tmp 75) (Operand.tmp 86) (Operand.const (Value.bool false)), type := 4, pos := "ref.go:331", after := #[{ on := 14, ground := Ground.data }, { on := 25, ground := Ground.data }], guard := none } : Oper)) (v := ?b27_v26) rfl (by kernel_rfl) (by kernel_rfl) (by kernel_rfl) (fun _ _ _ h => h) (Or.inl ⟨by rfl, ?b27_y26⟩) (by assumption) ?b27_r26
              case b27_y26 =>
               intro w hSw
               (try dsimp only at hSw)
               go_simp
               (try with_reducible rfl)
              try simp only [Act.put, List.setIfInBounds_toArray, List.set_cons_zero, List.set_cons_succ]
              refine wpAnyH_take (i := 27) (oi := ({ dst := some 88, op := Op.move (Operand.tmp 87), type := 4, pos := "ref.go:331", after := #[{ on := 26, ground := Ground.data }, { on := 14, ground := Ground.chain }], guard := none } : Oper)) (v := ?b28_v27) rfl (by kernel_rfl) (by kernel_rfl) (by kernel_rfl) (fun _ _ _ h => h) (Or.inl ⟨by rfl, ?b28_y27⟩) (by assumption) ?b28_r27
              case b28_y27 =>
               intro w hSw
               (try dsimp only at hSw)
               go_simp
               (try with_reducible rfl)
              try simp only [Act.put, List.setIfInBounds_toArray, List.set_cons_zero, List.set_cons_succ]
              refine wpAnyH_take (i := 28) (oi := ({ dst := some 89, op := Op.move (Operand.tmp 11), type := 22, pos := "ref.go:331", after := #[{ on := 27, ground := Ground.guard }], guard := some (27, true) } : Oper)) (v := ?b29_v28) rfl (by kernel_rfl) (by kernel_rfl) (by kernel_rfl) (fun _ _ _ h => h) (Or.inl ⟨by rfl, ?b29_y28⟩) (by assumption) ?b29_r28
              case b29_y28 =>
               intro w hSw
               (try dsimp only at hSw)
               go_simp
               (try with_reducible rfl)
              try simp only [Act.put, List.setIfInBounds_toArray, List.set_cons_zero, List.set_cons_succ]
              refine wpAnyH_take (i := 29) (oi := ({ dst := some 90, op := Op.move (Operand.tmp 13), type := 3, pos := "ref.go:331", after := #[{ on := 27, ground := Ground.guard }], guard := some (27, true) } : Oper)) (v := ?b30_v29) rfl (by kernel_rfl) (by kernel_rfl) (by kernel_rfl) (fun _ _ _ h => h) (Or.inl ⟨by rfl, ?b30_y29⟩) (by assumption) ?b30_r29
              case b30_y29 =>
               intro w hSw
               (try dsimp only at hSw)
               go_simp
               (try with_reducible rfl)
              try simp only [Act.put, List.setIfInBounds_toArray, List.set_cons_zero, List.set_cons_succ]
              refine wpAnyH_take (i := 30) (oi := ({ dst := some 91, op := Op.indexAddr 22 (Operand.tmp 89) (Operand.tmp 90), type := 0, pos := "ref.go:331", after := #[{ on := 28, ground := Ground.data }, { on := 29, ground := Ground.data }, { on := 27, ground := Ground.guard }], guard := some (27, true) } : Oper)) (v := ?b31_v30) rfl (by kernel_rfl) (by kernel_rfl) (by kernel_rfl) (fun _ _ _ h => h) (Or.inl ⟨by rfl, ?b31_y30⟩) (by assumption) ?b31_r30
              case b31_y30 =>
               intro w hSw
               (try dsimp only at hSw)
               go_simp
               (try with_reducible rfl)
              try simp only [Act.put, List.setIfInBounds_toArray, List.set_cons_zero, List.set_cons_succ]
              refine wpAnyH_take (i := 31) (oi := ({ dst := some 92, op := Op.fieldAddr 47 (Operand.tmp 91) 1, type := 0, pos := "ref.go:331", after := #[{ on := 30, ground := Ground.data }, { on := 27, ground := Ground.guard }], guard := some (27, true) } : Oper)) (v := ?b32_v31) rfl (by kernel_rfl) (by kernel_rfl) (by kernel_rfl) (fun _ _ _ h => h) (Or.inl ⟨by rfl, ?b32_y31⟩) (by assumption) ?b32_r31
              case b32_y31 =>
               intro w hSw
               (try dsimp only at hSw)
               go_simp
               (try with_reducible rfl)
              try simp only [Act.put, List.setIfInBounds_toArray, List.set_cons_zero, List.set_cons_succ]
              refine wpAnyH_take (i := 32) (oi := ({ dst := some 93, op := Op.load 3 (Operand.tmp 92), type := 3, pos := "ref.go:331", after := #[{ on := 31, ground := Ground.data }, { on := 27, ground := Ground.guard }], guard := some (27, true) } : Oper)) (v := ?b33_v32) rfl (by kernel_rfl) (by kernel_rfl) (by kernel_rfl) (fun _ _ _ h => h) (Or.inl ⟨by rfl, ?b33_y32⟩) (by assumption) ?b33_r32
              case b33_y32 =>
               intro w hSw
               (try dsimp only at hSw)
               go_simp
               (try with_reducible rfl)
              try simp only [Act.put, List.setIfInBounds_toArray, List.set_cons_zero, List.set_cons_succ]
              refine wpAnyH_take (i := 33) (oi := ({ dst := some 94, op := Op.move (Operand.tmp 11), type := 22, pos := "ref.go:331", after := #[{ on := 27, ground := Ground.guard }], guard := some (27, true) } : Oper)) (v := ?b34_v33) rfl (by kernel_rfl) (by kernel_rfl) (by kernel_rfl) (fun _ _ _ h => h) (Or.inl ⟨by rfl, ?b34_y33⟩) (by assumption) ?b34_r33
              case b34_y33 =>
               intro w hSw
               (try dsimp only at hSw)
               go_simp
               (try with_reducible rfl)
              try simp only [Act.put, List.setIfInBounds_toArray, List.set_cons_zero, List.set_cons_succ]
              refine wpAnyH_take (i := 34) (oi := ({ dst := some 95, op := Op.move (Operand.tmp 12), type := 3, pos := "ref.go:331", after := #[{ on := 27, ground := Ground.guard }], guard := some (27, true) } : Oper)) (v := ?b35_v34) rfl (by kernel_rfl) (by kernel_rfl) (by kernel_rfl) (fun _ _ _ h => h) (Or.inl ⟨by rfl, ?b35_y34⟩) (by assumption) ?b35_r34
              case b35_y34 =>
               intro w hSw
               (try dsimp only at hSw)
               go_simp
               (try with_reducible rfl)
              try simp only [Act.put, List.setIfInBounds_toArray, List.set_cons_zero, List.set_cons_succ]
              refine wpAnyH_take (i := 35) (oi := ({ dst := some 96, op := Op.indexAddr 22 (Operand.tmp 94) (Operand.tmp 95), type := 0, pos := "ref.go:331", after := #[{ on := 33, ground := Ground.data }, { on := 34, ground := Ground.data }, { on := 27, ground := Ground.guard }], guard := some (27, true) } : Oper)) (v := ?b36_v35) rfl (by kernel_rfl) (by kernel_rfl) (by kernel_rfl) (fun _ _ _ h => h) (Or.inl ⟨by rfl, ?b36_y35⟩) (by assumption) ?b36_r35
              case b36_y35 =>
               intro w hSw
               (try dsimp only at hSw)
               go_simp
               (try with_reducible rfl)
              try simp only [Act.put, List.setIfInBounds_toArray, List.set_cons_zero, List.set_cons_succ]
              refine wpAnyH_take (i := 36) (oi := ({ dst := some 97, op := Op.fieldAddr 47 (Operand.tmp 96) 1, type := 0, pos := "ref.go:331", after := #[{ on := 35, ground := Ground.data }, { on := 27, ground := Ground.guard }], guard := some (27, true) } : Oper)) (v := ?b37_v36) rfl (by kernel_rfl) (by kernel_rfl) (by kernel_rfl) (fun _ _ _ h => h) (Or.inl ⟨by rfl, ?b37_y36⟩) (by assumption) ?b37_r36
              case b37_y36 =>
               intro w hSw
               (try dsimp only at hSw)
               go_simp
               (try with_reducible rfl)
              try simp only [Act.put, List.setIfInBounds_toArray, List.set_cons_zero, List.set_cons_succ]
              refine wpAnyH_take (i := 37) (oi := ({ dst := some 98, op := Op.load 3 (Operand.tmp 97), type := 3, pos := "ref.go:331", after := #[{ on := 36, ground := Ground.data }, { on := 27, ground := Ground.guard }], guard := some (27, true) } : Oper)) (v := ?b38_v37) rfl (by kernel_rfl) (by kernel_rfl) (by kernel_rfl) (fun _ _ _ h => h) (Or.inl ⟨by rfl, ?b38_y37⟩) (by assumption) ?b38_r37
              case b38_y37 =>
               intro w hSw
               (try dsimp only at hSw)
               go_simp
               (try with_reducible rfl)
              try simp only [Act.put, List.setIfInBounds_toArray, List.set_cons_zero, List.set_cons_succ]
              refine wpAnyH_take (i := 38) (oi := ({ dst := some 99, op := Op.binOp BinOp.neq 3 (Operand.tmp 93) (Operand.tmp 98) 3, type := 4, pos := "ref.go:331", after := #[{ on := 32, ground := Ground.data }, { on := 37, ground := Ground.data }, { on := 27, ground := Ground.guard }], guard := some (27, true) } : Oper)) (v := ?b39_v38) rfl (by kernel_rfl) (by kernel_rfl) (by kernel_rfl) (fun _ _ _ h => h) (Or.inl ⟨by rfl, ?b39_y38⟩) (by assumption) ?b39_r38
              case b39_y38 =>
               intro w hSw
               (try dsimp only at hSw)
               go_simp
               (try with_reducible rfl)
              try simp only [Act.put, List.setIfInBounds_toArray, List.set_cons_zero, List.set_cons_succ]
              refine wpAnyH_take (i := 39) (oi := ({ dst := some 100, op := Op.pick (Operand.tmp 88) (Operand.tmp 99) (Operand.const (Value.bool false)), type := 4, pos := "ref.go:331", after := #[{ on := 27, ground := Ground.data }, { on := 38, ground := Ground.data }], guard := none } : Oper)) (v := ?b40_v39) rfl (by kernel_rfl) (by kernel_rfl) (by kernel_rfl) (fun _ _ _ h => h) (Or.inl ⟨by rfl, ?b40_y39⟩) (by assumption) ?b40_r39
              case b40_y39 =>
               intro w hSw
               (try dsimp only at hSw)
               go_simp
               (try with_reducible rfl)
              try simp only [Act.put, List.setIfInBounds_toArray, List.set_cons_zero, List.set_cons_succ]
              refine wpAnyH_done (by kernel_rfl) ?_ _
              have HBE := Lib.hid (HB6.out.trans ((HBV.out.trans ((drewD HBU.out).mono HBV.out.size)).mono HB6.out.size))
              go_wp2
              go_ret2
              exact ⟨_, by exact ret_vi HR3.out, ⟨fun _ => undef, by rw [HNL.out (by rw [HR3.out]; decide)]; exact ownT_nil _ _ _⟩, HBE.out⟩
            ·have e3 : (imm' == imm) = false := beq_false_of_ne o3
             have HK := Lib.hid (HNX.out (HYE.out.2 fun _ _ h => absurd h o3))
             clear o1 o2 o3
             go_upto_region 21 with fail
             refine wp_region_held_drew (S := (fun W => (W.cell? ⟨b, off + i * 5, none⟩ = some (.int .i64 op) ∧ W.cell? ⟨b, off + i * 5 + 1, none⟩ = some (.int .i64 wid) ∧ W.cell? ⟨b, off + i * 5 + 4, none⟩ = some (.int .u32 imm)) ∧ W.cell? ⟨b, off + j * 5, none⟩ = some (.int .i64 op') ∧ W.cell? ⟨b, off + j * 5 + 1, none⟩ = some (.int .i64 wid') ∧ W.cell? ⟨b, off + j * 5 + 4, none⟩ = some (.int .u32 imm'))) (by kernel_rfl) ?_ (fun hHeld => ?_)
             ·exact HS.out _ (by first | exact Below.refl _ _ | exact drewD (Below.refl _ _))
             refine wpAnyH_take (i := 0) (oi := ({ dst := some 61, op := Op.move (Operand.tmp 11), type := 22, pos := "ref.go:331", after := #[], guard := none } : Oper)) (v := ?c1_v0) rfl (by kernel_rfl) (by kernel_rfl) (by kernel_rfl) (fun _ _ _ h => h) (Or.inl ⟨by rfl, ?c1_y0⟩) (by assumption) ?c1_r0
             case c1_y0 =>
              intro w hSw
              (try dsimp only at hSw)
              go_simp
              (try with_reducible rfl)
             try simp only [Act.put, List.setIfInBounds_toArray, List.set_cons_zero, List.set_cons_succ]
             refine wpAnyH_take (i := 1) (oi := ({ dst := some 62, op := Op.move (Operand.tmp 13), type := 3, pos := "ref.go:331", after := #[], guard := none } : Oper)) (v := ?c2_v1) rfl (by kernel_rfl) (by kernel_rfl) (by kernel_rfl) (fun _ _ _ h => h) (Or.inl ⟨by rfl, ?c2_y1⟩) (by assumption) ?c2_r1
             case c2_y1 =>
              intro w hSw
              (try dsimp only at hSw)
              go_simp
              (try with_reducible rfl)
             try simp only [Act.put, List.setIfInBounds_toArray, List.set_cons_zero, List.set_cons_succ]
             refine wpAnyH_take (i := 2) (oi := ({ dst := some 63, op := Op.indexAddr 22 (Operand.tmp 61) (Operand.tmp 62), type := 0, pos := "ref.go:331", after := #[{ on := 0, ground := Ground.data }, { on := 1, ground := Ground.data }], guard := none } : Oper)) (v := ?c3_v2) rfl (by kernel_rfl) (by kernel_rfl) (by kernel_rfl) (fun _ _ _ h => h) (Or.inl ⟨by rfl, ?c3_y2⟩) (by assumption) ?c3_r2
             case c3_y2 =>
              intro w hSw
              (try dsimp only at hSw)
              go_simp
              (try with_reducible rfl)
             try simp only [Act.put, List.setIfInBounds_toArray, List.set_cons_zero, List.set_cons_succ]
             refine wpAnyH_take (i := 3) (oi := ({ dst := some 64, op := Op.fieldAddr 47 (Operand.tmp 63) 0, type := 0, pos := "ref.go:331", after := #[{ on := 2, ground := Ground.data }], guard := none } : Oper)) (v := ?c4_v3) rfl (by kernel_rfl) (by kernel_rfl) (by kernel_rfl) (fun _ _ _ h => h) (Or.inl ⟨by rfl, ?c4_y3⟩) (by assumption) ?c4_r3
             case c4_y3 =>
              intro w hSw
              (try dsimp only at hSw)
              go_simp
              (try with_reducible rfl)
             try simp only [Act.put, List.setIfInBounds_toArray, List.set_cons_zero, List.set_cons_succ]
             refine wpAnyH_take (i := 4) (oi := ({ dst := some 65, op := Op.load 3 (Operand.tmp 64), type := 3, pos := "ref.go:331", after := #[{ on := 3, ground := Ground.data }], guard := none } : Oper)) (v := ?c5_v4) rfl (by kernel_rfl) (by kernel_rfl) (by kernel_rfl) (fun _ _ _ h => h) (Or.inl ⟨by rfl, ?c5_y4⟩) (by assumption) ?c5_r4
             case c5_y4 =>
              intro w hSw
              (try dsimp only at hSw)
              go_simp
              (try with_reducible rfl)
             try simp only [Act.put, List.setIfInBounds_toArray, List.set_cons_zero, List.set_cons_succ]
             refine wpAnyH_take (i := 5) (oi := ({ dst := some 66, op := Op.binOp BinOp.eql 3 (Operand.tmp 65) (Operand.const (Value.int IntKind.i64 33)) 3, type := 4, pos := "ref.go:331", after := #[{ on := 4, ground := Ground.data }], guard := none } : Oper)) (v := ?c6_v5) rfl (by kernel_rfl) (by kernel_rfl) (by kernel_rfl) (fun _ _ _ h => h) (Or.inl ⟨by rfl, ?c6_y5⟩) (by assumption) ?c6_r5
             case c6_y5 =>
              intro w hSw
              (try dsimp only at hSw)
              go_simp
              (try with_reducible rfl)
             try simp only [Act.put, List.setIfInBounds_toArray, List.set_cons_zero, List.set_cons_succ]
             refine wpAnyH_take (i := 6) (oi := ({ dst := some 67, op := Op.move (Operand.tmp 66), type := 4, pos := "ref.go:331", after := #[{ on := 5, ground := Ground.data }], guard := none } : Oper)) (v := ?c7_v6) rfl (by kernel_rfl) (by kernel_rfl) (by kernel_rfl) (fun _ _ _ h => h) (Or.inl ⟨by rfl, ?c7_y6⟩) (by assumption) ?c7_r6
             case c7_y6 =>
              intro w hSw
              (try dsimp only at hSw)
              go_simp
              (try with_reducible rfl)
             try simp only [Act.put, List.setIfInBounds_toArray, List.set_cons_zero, List.set_cons_succ]
             refine wpAnyH_take (i := 7) (oi := ({ dst := some 68, op := Op.move (Operand.tmp 11), type := 22, pos := "ref.go:331", after := #[{ on := 6, ground := Ground.guard }], guard := some (6, true) } : Oper)) (v := ?c8_v7) rfl (by kernel_rfl) (by kernel_rfl) (by kernel_rfl) (fun _ _ _ h => h) (Or.inl ⟨by rfl, ?c8_y7⟩) (by assumption) ?c8_r7
             case c8_y7 =>
              intro w hSw
              (try dsimp only at hSw)
              go_simp
              (try with_reducible rfl)
             try simp only [Act.put, List.setIfInBounds_toArray, List.set_cons_zero, List.set_cons_succ]
             refine wpAnyH_take (i := 8) (oi := ({ dst := some 69, op := Op.move (Operand.tmp 12), type := 3, pos := "ref.go:331", after := #[{ on := 6, ground := Ground.guard }], guard := some (6, true) } : Oper)) (v := ?c9_v8) rfl (by kernel_rfl) (by kernel_rfl) (by kernel_rfl) (fun _ _ _ h => h) (Or.inl ⟨by rfl, ?c9_y8⟩) (by assumption) ?c9_r8
             case c9_y8 =>
              intro w hSw
              (try dsimp only at hSw)
              go_simp
              (try with_reducible rfl)
             try simp only [Act.put, List.setIfInBounds_toArray, List.set_cons_zero, List.set_cons_succ]
             refine wpAnyH_take (i := 9) (oi := ({ dst := some 70, op := Op.indexAddr 22 (Operand.tmp 68) (Operand.tmp 69), type := 0, pos := "ref.go:331", after := #[{ on := 7, ground := Ground.data }, { on := 8, ground := Ground.data }, { on := 6, ground := Ground.guard }], guard := some (6, true) } : Oper)) (v := ?c10_v9) rfl (by kernel_rfl) (by kernel_rfl) (by kernel_rfl) (fun _ _ _ h => h) (Or.inl ⟨by rfl, ?c10_y9⟩) (by assumption) ?c10_r9
             case c10_y9 =>
              intro w hSw
              (try dsimp only at hSw)
              go_simp
              (try with_reducible rfl)
             try simp only [Act.put, List.setIfInBounds_toArray, List.set_cons_zero, List.set_cons_succ]
             refine wpAnyH_take (i := 10) (oi := ({ dst := some 71, op := Op.fieldAddr 47 (Operand.tmp 70) 0, type := 0, pos := "ref.go:331", after := #[{ on := 9, ground := Ground.data }, { on := 6, ground := Ground.guard }], guard := some (6, true) } : Oper)) (v := ?c11_v10) rfl (by kernel_rfl) (by kernel_rfl) (by kernel_rfl) (fun _ _ _ h => h) (Or.inl ⟨by rfl, ?c11_y10⟩) (by assumption) ?c11_r10
             case c11_y10 =>
              intro w hSw
              (try dsimp only at hSw)
              go_simp
              (try with_reducible rfl)
             try simp only [Act.put, List.setIfInBounds_toArray, List.set_cons_zero, List.set_cons_succ]
             refine wpAnyH_take (i := 11) (oi := ({ dst := some 72, op := Op.load 3 (Operand.tmp 71), type := 3, pos := "ref.go:331", after := #[{ on := 10, ground := Ground.data }, { on := 6, ground := Ground.guard }], guard := some (6, true) } : Oper)) (v := ?c12_v11) rfl (by kernel_rfl) (by kernel_rfl) (by kernel_rfl) (fun _ _ _ h => h) (Or.inl ⟨by rfl, ?c12_y11⟩) (by assumption) ?c12_r11
             case c12_y11 =>
              intro w hSw
              (try dsimp only at hSw)
              go_simp
              (try with_reducible rfl)
             try simp only [Act.put, List.setIfInBounds_toArray, List.set_cons_zero, List.set_cons_succ]
             refine wpAnyH_take (i := 12) (oi := ({ dst := some 73, op := Op.binOp BinOp.eql 3 (Operand.tmp 72) (Operand.const (Value.int IntKind.i64 33)) 3, type := 4, pos := "ref.go:331", after := #[{ on := 11, ground := Ground.data }, { on := 6, ground := Ground.guard }], guard := some (6, true) } : Oper)) (v := ?c13_v12) rfl (by kernel_rfl) (by kernel_rfl) (by kernel_rfl) (fun _ _ _ h => h) (Or.inl ⟨by rfl, ?c13_y12⟩) (by assumption) ?c13_r12
             case c13_y12 =>
              intro w hSw
              (try dsimp only at hSw)
              go_simp
              (try with_reducible rfl)
             try simp only [Act.put, List.setIfInBounds_toArray, List.set_cons_zero, List.set_cons_succ]
             refine wpAnyH_take (i := 13) (oi := ({ dst := some 74, op := Op.pick (Operand.tmp 67) (Operand.tmp 73) (Operand.const (Value.bool false)), type := 4, pos := "ref.go:331", after := #[{ on := 6, ground := Ground.data }, { on := 12, ground := Ground.data }], guard := none } : Oper)) (v := ?c14_v13) rfl (by kernel_rfl) (by kernel_rfl) (by kernel_rfl) (fun _ _ _ h => h) (Or.inl ⟨by rfl, ?c14_y13⟩) (by assumption) ?c14_r13
             case c14_y13 =>
              intro w hSw
              (try dsimp only at hSw)
              go_simp
              (try with_reducible rfl)
             try simp only [Act.put, List.setIfInBounds_toArray, List.set_cons_zero, List.set_cons_succ]
             refine wpAnyH_take (i := 14) (oi := ({ dst := some 75, op := Op.move (Operand.tmp 74), type := 4, pos := "ref.go:331", after := #[{ on := 13, ground := Ground.data }, { on := 6, ground := Ground.chain }], guard := none } : Oper)) (v := ?c15_v14) rfl (by kernel_rfl) (by kernel_rfl) (by kernel_rfl) (fun _ _ _ h => h) (Or.inl ⟨by rfl, ?c15_y14⟩) (by assumption) ?c15_r14
             case c15_y14 =>
              intro w hSw
              (try dsimp only at hSw)
              go_simp
              (try with_reducible rfl)
             try simp only [Act.put, List.setIfInBounds_toArray, List.set_cons_zero, List.set_cons_succ]
             refine wpAnyH_take (i := 15) (oi := ({ dst := some 76, op := Op.move (Operand.tmp 11), type := 22, pos := "ref.go:331", after := #[{ on := 14, ground := Ground.guard }], guard := some (14, true) } : Oper)) (v := ?c16_v15) rfl (by kernel_rfl) (by kernel_rfl) (by kernel_rfl) (fun _ _ _ h => h) (Or.inl ⟨by rfl, ?c16_y15⟩) (by assumption) ?c16_r15
             case c16_y15 =>
              intro w hSw
              (try dsimp only at hSw)
              go_simp
              (try with_reducible rfl)
             try simp only [Act.put, List.setIfInBounds_toArray, List.set_cons_zero, List.set_cons_succ]
             refine wpAnyH_take (i := 16) (oi := ({ dst := some 77, op := Op.move (Operand.tmp 13), type := 3, pos := "ref.go:331", after := #[{ on := 14, ground := Ground.guard }], guard := some (14, true) } : Oper)) (v := ?c17_v16) rfl (by kernel_rfl) (by kernel_rfl) (by kernel_rfl) (fun _ _ _ h => h) (Or.inl ⟨by rfl, ?c17_y16⟩) (by assumption) ?c17_r16
             case c17_y16 =>
              intro w hSw
              (try dsimp only at hSw)
              go_simp
              (try with_reducible rfl)
             try simp only [Act.put, List.setIfInBounds_toArray, List.set_cons_zero, List.set_cons_succ]
             refine wpAnyH_take (i := 17) (oi := ({ dst := some 78, op := Op.indexAddr 22 (Operand.tmp 76) (Operand.tmp 77), type := 0, pos := "ref.go:331", after := #[{ on := 15, ground := Ground.data }, { on := 16, ground := Ground.data }, { on := 14, ground := Ground.guard }], guard := some (14, true) } : Oper)) (v := ?c18_v17) rfl (by kernel_rfl) (by kernel_rfl) (by kernel_rfl) (fun _ _ _ h => h) (Or.inl ⟨by rfl, ?c18_y17⟩) (by assumption) ?c18_r17
             case c18_y17 =>
              intro w hSw
              (try dsimp only at hSw)
              go_simp
              (try with_reducible rfl)
             try simp only [Act.put, List.setIfInBounds_toArray, List.set_cons_zero, List.set_cons_succ]
             refine wpAnyH_take (i := 18) (oi := ({ dst := some 79, op := Op.fieldAddr 47 (Operand.tmp 78) 4, type := 0, pos := "ref.go:331", after := #[{ on := 17, ground := Ground.data }, { on := 14, ground := Ground.guard }], guard := some (14, true) } : Oper)) (v := ?c19_v18) rfl (by kernel_rfl) (by kernel_rfl) (by kernel_rfl) (fun _ _ _ h => h) (Or.inl ⟨by rfl, ?c19_y18⟩) (by assumption) ?c19_r18
             case c19_y18 =>
              intro w hSw
              (try dsimp only at hSw)
              go_simp
              (try with_reducible rfl)
             try simp only [Act.put, List.setIfInBounds_toArray, List.set_cons_zero, List.set_cons_succ]
             refine wpAnyH_take (i := 19) (oi := ({ dst := some 80, op := Op.load 34 (Operand.tmp 79), type := 34, pos := "ref.go:331", after := #[{ on := 18, ground := Ground.data }, { on := 14, ground := Ground.guard }], guard := some (14, true) } : Oper)) (v := ?c20_v19) rfl (by kernel_rfl) (by kernel_rfl) (by kernel_rfl) (fun _ _ _ h => h) (Or.inl ⟨by rfl, ?c20_y19⟩) (by assumption) ?c20_r19
             case c20_y19 =>
              intro w hSw
              (try dsimp only at hSw)
              go_simp
              (try with_reducible rfl)
             try simp only [Act.put, List.setIfInBounds_toArray, List.set_cons_zero, List.set_cons_succ]
             refine wpAnyH_take (i := 20) (oi := ({ dst := some 81, op := Op.move (Operand.tmp 11), type := 22, pos := "ref.go:331", after := #[{ on := 14, ground := Ground.guard }], guard := some (14, true) } : Oper)) (v := ?c21_v20) rfl (by kernel_rfl) (by kernel_rfl) (by kernel_rfl) (fun _ _ _ h => h) (Or.inl ⟨by rfl, ?c21_y20⟩) (by assumption) ?c21_r20
             case c21_y20 =>
              intro w hSw
              (try dsimp only at hSw)
              go_simp
              (try with_reducible rfl)
             try simp only [Act.put, List.setIfInBounds_toArray, List.set_cons_zero, List.set_cons_succ]
             refine wpAnyH_take (i := 21) (oi := ({ dst := some 82, op := Op.move (Operand.tmp 12), type := 3, pos := "ref.go:331", after := #[{ on := 14, ground := Ground.guard }], guard := some (14, true) } : Oper)) (v := ?c22_v21) rfl (by kernel_rfl) (by kernel_rfl) (by kernel_rfl) (fun _ _ _ h => h) (Or.inl ⟨by rfl, ?c22_y21⟩) (by assumption) ?c22_r21
             case c22_y21 =>
              intro w hSw
              (try dsimp only at hSw)
              go_simp
              (try with_reducible rfl)
             try simp only [Act.put, List.setIfInBounds_toArray, List.set_cons_zero, List.set_cons_succ]
             refine wpAnyH_take (i := 22) (oi := ({ dst := some 83, op := Op.indexAddr 22 (Operand.tmp 81) (Operand.tmp 82), type := 0, pos := "ref.go:331", after := #[{ on := 20, ground := Ground.data }, { on := 21, ground := Ground.data }, { on := 14, ground := Ground.guard }], guard := some (14, true) } : Oper)) (v := ?c23_v22) rfl (by kernel_rfl) (by kernel_rfl) (by kernel_rfl) (fun _ _ _ h => h) (Or.inl ⟨by rfl, ?c23_y22⟩) (by assumption) ?c23_r22
             case c23_y22 =>
              intro w hSw
              (try dsimp only at hSw)
              go_simp
              (try with_reducible rfl)
             try simp only [Act.put, List.setIfInBounds_toArray, List.set_cons_zero, List.set_cons_succ]
             refine wpAnyH_take (i := 23) (oi := ({ dst := some 84, op := Op.fieldAddr 47 (Operand.tmp 83) 4, type := 0, pos := "ref.go:331", after := #[{ on := 22, ground := Ground.data }, { on := 14, ground := Ground.guard }], guard := some (14, true) } : Oper)) (v := ?c24_v23) rfl (by kernel_rfl) (by kernel_rfl) (by kernel_rfl) (fun _ _ _ h => h) (Or.inl ⟨by rfl, ?c24_y23⟩) (by assumption) ?c24_r23
             case c24_y23 =>
              intro w hSw
              (try dsimp only at hSw)
              go_simp
              (try with_reducible rfl)
             try simp only [Act.put, List.setIfInBounds_toArray, List.set_cons_zero, List.set_cons_succ]
             refine wpAnyH_take (i := 24) (oi := ({ dst := some 85, op := Op.load 34 (Operand.tmp 84), type := 34, pos := "ref.go:331", after := #[{ on := 23, ground := Ground.data }, { on := 14, ground := Ground.guard }], guard := some (14, true) } : Oper)) (v := ?c25_v24) rfl (by kernel_rfl) (by kernel_rfl) (by kernel_rfl) (fun _ _ _ h => h) (Or.inl ⟨by rfl, ?c25_y24⟩) (by assumption) ?c25_r24
             case c25_y24 =>
              intro w hSw
              (try dsimp only at hSw)
              go_simp
              (try with_reducible rfl)
             try simp only [Act.put, List.setIfInBounds_toArray, List.set_cons_zero, List.set_cons_succ]
             refine wpAnyH_take (i := 25) (oi := ({ dst := some 86, op := Op.binOp BinOp.eql 34 (Operand.tmp 80) (Operand.tmp 85) 34, type := 4, pos := "ref.go:331", after := #[{ on := 19, ground := Ground.data }, { on := 24, ground := Ground.data }, { on := 14, ground := Ground.guard }], guard := some (14, true) } : Oper)) (v := ?c26_v25) rfl (by kernel_rfl) (by kernel_rfl) (by kernel_rfl) (fun _ _ _ h => h) (Or.inl ⟨by rfl, ?c26_y25⟩) (by assumption) ?c26_r25
             case c26_y25 =>
              intro w hSw
              (try dsimp only at hSw)
              go_simp
              (try with_reducible rfl)
             try simp only [Act.put, List.setIfInBounds_toArray, List.set_cons_zero, List.set_cons_succ]
             refine wpAnyH_take (i := 26) (oi := ({ dst := some 87, op := Op.pick (Operand.tmp 75) (Operand.tmp 86) (Operand.const (Value.bool false)), type := 4, pos := "ref.go:331", after := #[{ on := 14, ground := Ground.data }, { on := 25, ground := Ground.data }], guard := none } : Oper)) (v := ?c27_v26) rfl (by kernel_rfl) (by kernel_rfl) (by kernel_rfl) (fun _ _ _ h => h) (Or.inl ⟨by rfl, ?c27_y26⟩) (by assumption) ?c27_r26
             case c27_y26 =>
              intro w hSw
              (try dsimp only at hSw)
              go_simp
              (try with_reducible rfl)
             try simp only [Act.put, List.setIfInBounds_toArray, List.set_cons_zero, List.set_cons_succ]
             refine wpAnyH_take (i := 27) (oi := ({ dst := some 88, op := Op.move (Operand.tmp 87), type := 4, pos := "ref.go:331", after := #[{ on := 26, ground := Ground.data }, { on := 14, ground := Ground.chain }], guard := none } : Oper)) (v := ?c28_v27) rfl (by kernel_rfl) (by kernel_rfl) (by kernel_rfl) (fun _ _ _ h => h) (Or.inl ⟨by rfl, ?c28_y27⟩) (by assumption) ?c28_r27
             case c28_y27 =>
              intro w hSw
              (try dsimp only at hSw)
              go_simp
              (try with_reducible rfl)
             try simp only [Act.put, List.setIfInBounds_toArray, List.set_cons_zero, List.set_cons_succ]
             refine wpAnyH_take (i := 28) (oi := ({ dst := some 89, op := Op.move (Operand.tmp 11), type := 22, pos := "ref.go:331", after := #[{ on := 27, ground := Ground.guard }], guard := some (27, true) } : Oper)) rfl (by kernel_rfl) (by kernel_rfl) (by kernel_rfl) (fun _ _ _ h => h) (Or.inr ⟨by rfl, rfl⟩) (by assumption) ?c29_r28
             try simp only [Act.put, List.setIfInBounds_toArray, List.set_cons_zero, List.set_cons_succ]
             refine wpAnyH_take (i := 29) (oi := ({ dst := some 90, op := Op.move (Operand.tmp 13), type := 3, pos := "ref.go:331", after := #[{ on := 27, ground := Ground.guard }], guard := some (27, true) } : Oper)) rfl (by kernel_rfl) (by kernel_rfl) (by kernel_rfl) (fun _ _ _ h => h) (Or.inr ⟨by rfl, rfl⟩) (by assumption) ?c30_r29
             try simp only [Act.put, List.setIfInBounds_toArray, List.set_cons_zero, List.set_cons_succ]
             refine wpAnyH_take (i := 30) (oi := ({ dst := some 91, op := Op.indexAddr 22 (Operand.tmp 89) (Operand.tmp 90), type := 0, pos := "ref.go:331", after := #[{ on := 28, ground := Ground.data }, { on := 29, ground := Ground.data }, { on := 27, ground := Ground.guard }], guard := some (27, true) } : Oper)) rfl (by kernel_rfl) (by kernel_rfl) (by kernel_rfl) (fun _ _ _ h => h) (Or.inr ⟨by rfl, rfl⟩) (by assumption) ?c31_r30
             try simp only [Act.put, List.setIfInBounds_toArray, List.set_cons_zero, List.set_cons_succ]
             refine wpAnyH_take (i := 31) (oi := ({ dst := some 92, op := Op.fieldAddr 47 (Operand.tmp 91) 1, type := 0, pos := "ref.go:331", after := #[{ on := 30, ground := Ground.data }, { on := 27, ground := Ground.guard }], guard := some (27, true) } : Oper)) rfl (by kernel_rfl) (by kernel_rfl) (by kernel_rfl) (fun _ _ _ h => h) (Or.inr ⟨by rfl, rfl⟩) (by assumption) ?c32_r31
             try simp only [Act.put, List.setIfInBounds_toArray, List.set_cons_zero, List.set_cons_succ]
             refine wpAnyH_take (i := 32) (oi := ({ dst := some 93, op := Op.load 3 (Operand.tmp 92), type := 3, pos := "ref.go:331", after := #[{ on := 31, ground := Ground.data }, { on := 27, ground := Ground.guard }], guard := some (27, true) } : Oper)) rfl (by kernel_rfl) (by kernel_rfl) (by kernel_rfl) (fun _ _ _ h => h) (Or.inr ⟨by rfl, rfl⟩) (by assumption) ?c33_r32
             try simp only [Act.put, List.setIfInBounds_toArray, List.set_cons_zero, List.set_cons_succ]
             refine wpAnyH_take (i := 33) (oi := ({ dst := some 94, op := Op.move (Operand.tmp 11), type := 22, pos := "ref.go:331", after := #[{ on := 27, ground := Ground.guard }], guard := some (27, true) } : Oper)) rfl (by kernel_rfl) (by kernel_rfl) (by kernel_rfl) (fun _ _ _ h => h) (Or.inr ⟨by rfl, rfl⟩) (by assumption) ?c34_r33
             try simp only [Act.put, List.setIfInBounds_toArray, List.set_cons_zero, List.set_cons_succ]
             refine wpAnyH_take (i := 34) (oi := ({ dst := some 95, op := Op.move (Operand.tmp 12), type := 3, pos := "ref.go:331", after := #[{ on := 27, ground := Ground.guard }], guard := some (27, true) } : Oper)) rfl (by kernel_rfl) (by kernel_rfl) (by kernel_rfl) (fun _ _ _ h => h) (Or.inr ⟨by rfl, rfl⟩) (by assumption) ?c35_r34
             try simp only [Act.put, List.setIfInBounds_toArray, List.set_cons_zero, List.set_cons_succ]
             refine wpAnyH_take (i := 35) (oi := ({ dst := some 96, op := Op.indexAddr 22 (Operand.tmp 94) (Operand.tmp 95), type := 0, pos := "ref.go:331", after := #[{ on := 33, ground := Ground.data }, { on := 34, ground := Ground.data }, { on := 27, ground := Ground.guard }], guard := some (27, true) } : Oper)) rfl (by kernel_rfl) (by kernel_rfl) (by kernel_rfl) (fun _ _ _ h => h) (Or.inr ⟨by rfl, rfl⟩) (by assumption) ?c36_r35
             try simp only [Act.put, List.setIfInBounds_toArray, List.set_cons_zero, List.set_cons_succ]
             refine wpAnyH_take (i := 36) (oi := ({ dst := some 97, op := Op.fieldAddr 47 (Operand.tmp 96) 1, type := 0, pos := "ref.go:331", after := #[{ on := 35, ground := Ground.data }, { on := 27, ground := Ground.guard }], guard := some (27, true) } : Oper)) rfl (by kernel_rfl) (by kernel_rfl) (by kernel_rfl) (fun _ _ _ h => h) (Or.inr ⟨by rfl, rfl⟩) (by assumption) ?c37_r36
             try simp only [Act.put, List.setIfInBounds_toArray, List.set_cons_zero, List.set_cons_succ]
             refine wpAnyH_take (i := 37) (oi := ({ dst := some 98, op := Op.load 3 (Operand.tmp 97), type := 3, pos := "ref.go:331", after := #[{ on := 36, ground := Ground.data }, { on := 27, ground := Ground.guard }], guard := some (27, true) } : Oper)) rfl (by kernel_rfl) (by kernel_rfl) (by kernel_rfl) (fun _ _ _ h => h) (Or.inr ⟨by rfl, rfl⟩) (by assumption) ?c38_r37
             try simp only [Act.put, List.setIfInBounds_toArray, List.set_cons_zero, List.set_cons_succ]
             refine wpAnyH_take (i := 38) (oi := ({ dst := some 99, op := Op.binOp BinOp.neq 3 (Operand.tmp 93) (Operand.tmp 98) 3, type := 4, pos := "ref.go:331", after := #[{ on := 32, ground := Ground.data }, { on := 37, ground := Ground.data }, { on := 27, ground := Ground.guard }], guard := some (27, true) } : Oper)) rfl (by kernel_rfl) (by kernel_rfl) (by kernel_rfl) (fun _ _ _ h => h) (Or.inr ⟨by rfl, rfl⟩) (by assumption) ?c39_r38
             try simp only [Act.put, List.setIfInBounds_toArray, List.set_cons_zero, List.set_cons_succ]
             refine wpAnyH_take (i := 39) (oi := ({ dst := some 100, op := Op.pick (Operand.tmp 88) (Operand.tmp 99) (Operand.const (Value.bool false)), type := 4, pos := "ref.go:331", after := #[{ on := 27, ground := Ground.data }, { on := 38, ground := Ground.data }], guard := none } : Oper)) (v := ?c40_v39) rfl (by kernel_rfl) (by kernel_rfl) (by kernel_rfl) (fun _ _ _ h => h) (Or.inl ⟨by rfl, ?c40_y39⟩) (by assumption) ?c40_r39
             case c40_y39 =>
              intro w hSw
              (try dsimp only at hSw)
              go_simp
              (try with_reducible rfl)
             try simp only [Act.put, List.setIfInBounds_toArray, List.set_cons_zero, List.set_cons_succ]
             refine wpAnyH_done (by kernel_rfl) ?_ _
             go_wp2
             go_roundw
             case rel => exact ⟨j + 1, by omega, by go_num, drewD HBU.out, HK⟩
             case measure => simp [intOf]; omega
           ·have e2 : (op == 33) = false := beq_false_of_ne o2
            have HK := Lib.hid (HNX.out (HYE.out.2 fun _ h => absurd h o2))
            clear o1 o2
            go_upto_region 21 with fail
            refine wp_region_held_drew (S := (fun W => (W.cell? ⟨b, off + i * 5, none⟩ = some (.int .i64 op) ∧ W.cell? ⟨b, off + i * 5 + 1, none⟩ = some (.int .i64 wid) ∧ W.cell? ⟨b, off + i * 5 + 4, none⟩ = some (.int .u32 imm)) ∧ W.cell? ⟨b, off + j * 5, none⟩ = some (.int .i64 op') ∧ W.cell? ⟨b, off + j * 5 + 1, none⟩ = some (.int .i64 wid') ∧ W.cell? ⟨b, off + j * 5 + 4, none⟩ = some (.int .u32 imm'))) (by kernel_rfl) ?_ (fun hHeld => ?_)
            ·exact HS.out _ (by first | exact Below.refl _ _ | exact drewD (Below.refl _ _))
            refine wpAnyH_take (i := 0) (oi := ({ dst := some 61, op := Op.move (Operand.tmp 11), type := 22, pos := "ref.go:331", after := #[], guard := none } : Oper)) (v := ?d1_v0) rfl (by kernel_rfl) (by kernel_rfl) (by kernel_rfl) (fun _ _ _ h => h) (Or.inl ⟨by rfl, ?d1_y0⟩) (by assumption) ?d1_r0
            case d1_y0 =>
             intro w hSw
             (try dsimp only at hSw)
             go_simp
             (try with_reducible rfl)
            try simp only [Act.put, List.setIfInBounds_toArray, List.set_cons_zero, List.set_cons_succ]
            refine wpAnyH_take (i := 1) (oi := ({ dst := some 62, op := Op.move (Operand.tmp 13), type := 3, pos := "ref.go:331", after := #[], guard := none } : Oper)) (v := ?d2_v1) rfl (by kernel_rfl) (by kernel_rfl) (by kernel_rfl) (fun _ _ _ h => h) (Or.inl ⟨by rfl, ?d2_y1⟩) (by assumption) ?d2_r1
            case d2_y1 =>
             intro w hSw
             (try dsimp only at hSw)
             go_simp
             (try with_reducible rfl)
            try simp only [Act.put, List.setIfInBounds_toArray, List.set_cons_zero, List.set_cons_succ]
            refine wpAnyH_take (i := 2) (oi := ({ dst := some 63, op := Op.indexAddr 22 (Operand.tmp 61) (Operand.tmp 62), type := 0, pos := "ref.go:331", after := #[{ on := 0, ground := Ground.data }, { on := 1, ground := Ground.data }], guard := none } : Oper)) (v := ?d3_v2) rfl (by kernel_rfl) (by kernel_rfl) (by kernel_rfl) (fun _ _ _ h => h) (Or.inl ⟨by rfl, ?d3_y2⟩) (by assumption) ?d3_r2
            case d3_y2 =>
             intro w hSw
             (try dsimp only at hSw)
             go_simp
             (try with_reducible rfl)
            try simp only [Act.put, List.setIfInBounds_toArray, List.set_cons_zero, List.set_cons_succ]
            refine wpAnyH_take (i := 3) (oi := ({ dst := some 64, op := Op.fieldAddr 47 (Operand.tmp 63) 0, type := 0, pos := "ref.go:331", after := #[{ on := 2, ground := Ground.data }], guard := none } : Oper)) (v := ?d4_v3) rfl (by kernel_rfl) (by kernel_rfl) (by kernel_rfl) (fun _ _ _ h => h) (Or.inl ⟨by rfl, ?d4_y3⟩) (by assumption) ?d4_r3
            case d4_y3 =>
             intro w hSw
             (try dsimp only at hSw)
             go_simp
             (try with_reducible rfl)
            try simp only [Act.put, List.setIfInBounds_toArray, List.set_cons_zero, List.set_cons_succ]
            refine wpAnyH_take (i := 4) (oi := ({ dst := some 65, op := Op.load 3 (Operand.tmp 64), type := 3, pos := "ref.go:331", after := #[{ on := 3, ground := Ground.data }], guard := none } : Oper)) (v := ?d5_v4) rfl (by kernel_rfl) (by kernel_rfl) (by kernel_rfl) (fun _ _ _ h => h) (Or.inl ⟨by rfl, ?d5_y4⟩) (by assumption) ?d5_r4
            case d5_y4 =>
             intro w hSw
             (try dsimp only at hSw)
             go_simp
             (try with_reducible rfl)
            try simp only [Act.put, List.setIfInBounds_toArray, List.set_cons_zero, List.set_cons_succ]
            refine wpAnyH_take (i := 5) (oi := ({ dst := some 66, op := Op.binOp BinOp.eql 3 (Operand.tmp 65) (Operand.const (Value.int IntKind.i64 33)) 3, type := 4, pos := "ref.go:331", after := #[{ on := 4, ground := Ground.data }], guard := none } : Oper)) (v := ?d6_v5) rfl (by kernel_rfl) (by kernel_rfl) (by kernel_rfl) (fun _ _ _ h => h) (Or.inl ⟨by rfl, ?d6_y5⟩) (by assumption) ?d6_r5
            case d6_y5 =>
             intro w hSw
             (try dsimp only at hSw)
             go_simp
             (try with_reducible rfl)
            try simp only [Act.put, List.setIfInBounds_toArray, List.set_cons_zero, List.set_cons_succ]
            refine wpAnyH_take (i := 6) (oi := ({ dst := some 67, op := Op.move (Operand.tmp 66), type := 4, pos := "ref.go:331", after := #[{ on := 5, ground := Ground.data }], guard := none } : Oper)) (v := ?d7_v6) rfl (by kernel_rfl) (by kernel_rfl) (by kernel_rfl) (fun _ _ _ h => h) (Or.inl ⟨by rfl, ?d7_y6⟩) (by assumption) ?d7_r6
            case d7_y6 =>
             intro w hSw
             (try dsimp only at hSw)
             go_simp
             (try with_reducible rfl)
            try simp only [Act.put, List.setIfInBounds_toArray, List.set_cons_zero, List.set_cons_succ]
            refine wpAnyH_take (i := 7) (oi := ({ dst := some 68, op := Op.move (Operand.tmp 11), type := 22, pos := "ref.go:331", after := #[{ on := 6, ground := Ground.guard }], guard := some (6, true) } : Oper)) (v := ?d8_v7) rfl (by kernel_rfl) (by kernel_rfl) (by kernel_rfl) (fun _ _ _ h => h) (Or.inl ⟨by rfl, ?d8_y7⟩) (by assumption) ?d8_r7
            case d8_y7 =>
             intro w hSw
             (try dsimp only at hSw)
             go_simp
             (try with_reducible rfl)
            try simp only [Act.put, List.setIfInBounds_toArray, List.set_cons_zero, List.set_cons_succ]
            refine wpAnyH_take (i := 8) (oi := ({ dst := some 69, op := Op.move (Operand.tmp 12), type := 3, pos := "ref.go:331", after := #[{ on := 6, ground := Ground.guard }], guard := some (6, true) } : Oper)) (v := ?d9_v8) rfl (by kernel_rfl) (by kernel_rfl) (by kernel_rfl) (fun _ _ _ h => h) (Or.inl ⟨by rfl, ?d9_y8⟩) (by assumption) ?d9_r8
            case d9_y8 =>
             intro w hSw
             (try dsimp only at hSw)
             go_simp
             (try with_reducible rfl)
            try simp only [Act.put, List.setIfInBounds_toArray, List.set_cons_zero, List.set_cons_succ]
            refine wpAnyH_take (i := 9) (oi := ({ dst := some 70, op := Op.indexAddr 22 (Operand.tmp 68) (Operand.tmp 69), type := 0, pos := "ref.go:331", after := #[{ on := 7, ground := Ground.data }, { on := 8, ground := Ground.data }, { on := 6, ground := Ground.guard }], guard := some (6, true) } : Oper)) (v := ?d10_v9) rfl (by kernel_rfl) (by kernel_rfl) (by kernel_rfl) (fun _ _ _ h => h) (Or.inl ⟨by rfl, ?d10_y9⟩) (by assumption) ?d10_r9
            case d10_y9 =>
             intro w hSw
             (try dsimp only at hSw)
             go_simp
             (try with_reducible rfl)
            try simp only [Act.put, List.setIfInBounds_toArray, List.set_cons_zero, List.set_cons_succ]
            refine wpAnyH_take (i := 10) (oi := ({ dst := some 71, op := Op.fieldAddr 47 (Operand.tmp 70) 0, type := 0, pos := "ref.go:331", after := #[{ on := 9, ground := Ground.data }, { on := 6, ground := Ground.guard }], guard := some (6, true) } : Oper)) (v := ?d11_v10) rfl (by kernel_rfl) (by kernel_rfl) (by kernel_rfl) (fun _ _ _ h => h) (Or.inl ⟨by rfl, ?d11_y10⟩) (by assumption) ?d11_r10
            case d11_y10 =>
             intro w hSw
             (try dsimp only at hSw)
             go_simp
             (try with_reducible rfl)
            try simp only [Act.put, List.setIfInBounds_toArray, List.set_cons_zero, List.set_cons_succ]
            refine wpAnyH_take (i := 11) (oi := ({ dst := some 72, op := Op.load 3 (Operand.tmp 71), type := 3, pos := "ref.go:331", after := #[{ on := 10, ground := Ground.data }, { on := 6, ground := Ground.guard }], guard := some (6, true) } : Oper)) (v := ?d12_v11) rfl (by kernel_rfl) (by kernel_rfl) (by kernel_rfl) (fun _ _ _ h => h) (Or.inl ⟨by rfl, ?d12_y11⟩) (by assumption) ?d12_r11
            case d12_y11 =>
             intro w hSw
             (try dsimp only at hSw)
             go_simp
             (try with_reducible rfl)
            try simp only [Act.put, List.setIfInBounds_toArray, List.set_cons_zero, List.set_cons_succ]
            refine wpAnyH_take (i := 12) (oi := ({ dst := some 73, op := Op.binOp BinOp.eql 3 (Operand.tmp 72) (Operand.const (Value.int IntKind.i64 33)) 3, type := 4, pos := "ref.go:331", after := #[{ on := 11, ground := Ground.data }, { on := 6, ground := Ground.guard }], guard := some (6, true) } : Oper)) (v := ?d13_v12) rfl (by kernel_rfl) (by kernel_rfl) (by kernel_rfl) (fun _ _ _ h => h) (Or.inl ⟨by rfl, ?d13_y12⟩) (by assumption) ?d13_r12
            case d13_y12 =>
             intro w hSw
             (try dsimp only at hSw)
             go_simp
             (try with_reducible rfl)
            try simp only [Act.put, List.setIfInBounds_toArray, List.set_cons_zero, List.set_cons_succ]
            refine wpAnyH_take (i := 13) (oi := ({ dst := some 74, op := Op.pick (Operand.tmp 67) (Operand.tmp 73) (Operand.const (Value.bool false)), type := 4, pos := "ref.go:331", after := #[{ on := 6, ground := Ground.data }, { on := 12, ground := Ground.data }], guard := none } : Oper)) (v := ?d14_v13) rfl (by kernel_rfl) (by kernel_rfl) (by kernel_rfl) (fun _ _ _ h => h) (Or.inl ⟨by rfl, ?d14_y13⟩) (by assumption) ?d14_r13
            case d14_y13 =>
             intro w hSw
             (try dsimp only at hSw)
             go_simp
             (try with_reducible rfl)
            try simp only [Act.put, List.setIfInBounds_toArray, List.set_cons_zero, List.set_cons_succ]
            refine wpAnyH_take (i := 14) (oi := ({ dst := some 75, op := Op.move (Operand.tmp 74), type := 4, pos := "ref.go:331", after := #[{ on := 13, ground := Ground.data }, { on := 6, ground := Ground.chain }], guard := none } : Oper)) (v := ?d15_v14) rfl (by kernel_rfl) (by kernel_rfl) (by kernel_rfl) (fun _ _ _ h => h) (Or.inl ⟨by rfl, ?d15_y14⟩) (by assumption) ?d15_r14
            case d15_y14 =>
             intro w hSw
             (try dsimp only at hSw)
             go_simp
             (try with_reducible rfl)
            try simp only [Act.put, List.setIfInBounds_toArray, List.set_cons_zero, List.set_cons_succ]
            refine wpAnyH_take (i := 15) (oi := ({ dst := some 76, op := Op.move (Operand.tmp 11), type := 22, pos := "ref.go:331", after := #[{ on := 14, ground := Ground.guard }], guard := some (14, true) } : Oper)) rfl (by kernel_rfl) (by kernel_rfl) (by kernel_rfl) (fun _ _ _ h => h) (Or.inr ⟨by rfl, rfl⟩) (by assumption) ?d16_r15
            try simp only [Act.put, List.setIfInBounds_toArray, List.set_cons_zero, List.set_cons_succ]
            refine wpAnyH_take (i := 16) (oi := ({ dst := some 77, op := Op.move (Operand.tmp 13), type := 3, pos := "ref.go:331", after := #[{ on := 14, ground := Ground.guard }], guard := some (14, true) } : Oper)) rfl (by kernel_rfl) (by kernel_rfl) (by kernel_rfl) (fun _ _ _ h => h) (Or.inr ⟨by rfl, rfl⟩) (by assumption) ?d17_r16
            try simp only [Act.put, List.setIfInBounds_toArray, List.set_cons_zero, List.set_cons_succ]
            refine wpAnyH_take (i := 17) (oi := ({ dst := some 78, op := Op.indexAddr 22 (Operand.tmp 76) (Operand.tmp 77), type := 0, pos := "ref.go:331", after := #[{ on := 15, ground := Ground.data }, { on := 16, ground := Ground.data }, { on := 14, ground := Ground.guard }], guard := some (14, true) } : Oper)) rfl (by kernel_rfl) (by kernel_rfl) (by kernel_rfl) (fun _ _ _ h => h) (Or.inr ⟨by rfl, rfl⟩) (by assumption) ?d18_r17
            try simp only [Act.put, List.setIfInBounds_toArray, List.set_cons_zero, List.set_cons_succ]
            refine wpAnyH_take (i := 18) (oi := ({ dst := some 79, op := Op.fieldAddr 47 (Operand.tmp 78) 4, type := 0, pos := "ref.go:331", after := #[{ on := 17, ground := Ground.data }, { on := 14, ground := Ground.guard }], guard := some (14, true) } : Oper)) rfl (by kernel_rfl) (by kernel_rfl) (by kernel_rfl) (fun _ _ _ h => h) (Or.inr ⟨by rfl, rfl⟩) (by assumption) ?d19_r18
            try simp only [Act.put, List.setIfInBounds_toArray, List.set_cons_zero, List.set_cons_succ]
            refine wpAnyH_take (i := 19) (oi := ({ dst := some 80, op := Op.load 34 (Operand.tmp 79), type := 34, pos := "ref.go:331", after := #[{ on := 18, ground := Ground.data }, { on := 14, ground := Ground.guard }], guard := some (14, true) } : Oper)) rfl (by kernel_rfl) (by kernel_rfl) (by kernel_rfl) (fun _ _ _ h => h) (Or.inr ⟨by rfl, rfl⟩) (by assumption) ?d20_r19
            try simp only [Act.put, List.setIfInBounds_toArray, List.set_cons_zero, List.set_cons_succ]
            refine wpAnyH_take (i := 20) (oi := ({ dst := some 81, op := Op.move (Operand.tmp 11), type := 22, pos := "ref.go:331", after := #[{ on := 14, ground := Ground.guard }], guard := some (14, true) } : Oper)) rfl (by kernel_rfl) (by kernel_rfl) (by kernel_rfl) (fun _ _ _ h => h) (Or.inr ⟨by rfl, rfl⟩) (by assumption) ?d21_r20
            try simp only [Act.put, List.setIfInBounds_toArray, List.set_cons_zero, List.set_cons_succ]
            refine wpAnyH_take (i := 21) (oi := ({ dst := some 82, op := Op.move (Operand.tmp 12), type := 3, pos := "ref.go:331", after := #[{ on := 14, ground := Ground.guard }], guard := some (14, true) } : Oper)) rfl (by kernel_rfl) (by kernel_rfl) (by kernel_rfl) (fun _ _ _ h => h) (Or.inr ⟨by rfl, rfl⟩) (by assumption) ?d22_r21
            try simp only [Act.put, List.setIfInBounds_toArray, List.set_cons_zero, List.set_cons_succ]
            refine wpAnyH_take (i := 22) (oi := ({ dst := some 83, op := Op.indexAddr 22 (Operand.tmp 81) (Operand.tmp 82), type := 0, pos := "ref.go:331", after := #[{ on := 20, ground := Ground.data }, { on := 21, ground := Ground.data }, { on := 14, ground := Ground.guard }], guard := some (14, true) } : Oper)) rfl (by kernel_rfl) (by kernel_rfl) (by kernel_rfl) (fun _ _ _ h => h) (Or.inr ⟨by rfl, rfl⟩) (by assumption) ?d23_r22
            try simp only [Act.put, List.setIfInBounds_toArray, List.set_cons_zero, List.set_cons_succ]
            refine wpAnyH_take (i := 23) (oi := ({ dst := some 84, op := Op.fieldAddr 47 (Operand.tmp 83) 4, type := 0, pos := "ref.go:331", after := #[{ on := 22, ground := Ground.data }, { on := 14, ground := Ground.guard }], guard := some (14, true) } : Oper)) rfl (by kernel_rfl) (by kernel_rfl) (by kernel_rfl) (fun _ _ _ h => h) (Or.inr ⟨by rfl, rfl⟩) (by assumption) ?d24_r23
            try simp only [Act.put, List.setIfInBounds_toArray, List.set_cons_zero, List.set_cons_succ]
            refine wpAnyH_take (i := 24) (oi := ({ dst := some 85, op := Op.load 34 (Operand.tmp 84), type := 34, pos := "ref.go:331", after := #[{ on := 23, ground := Ground.data }, { on := 14, ground := Ground.guard }], guard := some (14, true) } : Oper)) rfl (by kernel_rfl) (by kernel_rfl) (by kernel_rfl) (fun _ _ _ h => h) (Or.inr ⟨by rfl, rfl⟩) (by assumption) ?d25_r24
            try simp only [Act.put, List.setIfInBounds_toArray, List.set_cons_zero, List.set_cons_succ]
            refine wpAnyH_take (i := 25) (oi := ({ dst := some 86, op := Op.binOp BinOp.eql 34 (Operand.tmp 80) (Operand.tmp 85) 34, type := 4, pos := "ref.go:331", after := #[{ on := 19, ground := Ground.data }, { on := 24, ground := Ground.data }, { on := 14, ground := Ground.guard }], guard := some (14, true) } : Oper)) rfl (by kernel_rfl) (by kernel_rfl) (by kernel_rfl) (fun _ _ _ h => h) (Or.inr ⟨by rfl, rfl⟩) (by assumption) ?d26_r25
            try simp only [Act.put, List.setIfInBounds_toArray, List.set_cons_zero, List.set_cons_succ]
            refine wpAnyH_take (i := 26) (oi := ({ dst := some 87, op := Op.pick (Operand.tmp 75) (Operand.tmp 86) (Operand.const (Value.bool false)), type := 4, pos := "ref.go:331", after := #[{ on := 14, ground := Ground.data }, { on := 25, ground := Ground.data }], guard := none } : Oper)) (v := ?d27_v26) rfl (by kernel_rfl) (by kernel_rfl) (by kernel_rfl) (fun _ _ _ h => h) (Or.inl ⟨by rfl, ?d27_y26⟩) (by assumption) ?d27_r26
            case d27_y26 =>
             intro w hSw
             (try dsimp only at hSw)
             go_simp
             (try with_reducible rfl)
            try simp only [Act.put, List.setIfInBounds_toArray, List.set_cons_zero, List.set_cons_succ]
            refine wpAnyH_take (i := 27) (oi := ({ dst := some 88, op := Op.move (Operand.tmp 87), type := 4, pos := "ref.go:331", after := #[{ on := 26, ground := Ground.data }, { on := 14, ground := Ground.chain }], guard := none } : Oper)) (v := ?d28_v27) rfl (by kernel_rfl) (by kernel_rfl) (by kernel_rfl) (fun _ _ _ h => h) (Or.inl ⟨by rfl, ?d28_y27⟩) (by assumption) ?d28_r27
            case d28_y27 =>
             intro w hSw
             (try dsimp only at hSw)
             go_simp
             (try with_reducible rfl)
            try simp only [Act.put, List.setIfInBounds_toArray, List.set_cons_zero, List.set_cons_succ]
            refine wpAnyH_take (i := 28) (oi := ({ dst := some 89, op := Op.move (Operand.tmp 11), type := 22, pos := "ref.go:331", after := #[{ on := 27, ground := Ground.guard }], guard := some (27, true) } : Oper)) rfl (by kernel_rfl) (by kernel_rfl) (by kernel_rfl) (fun _ _ _ h => h) (Or.inr ⟨by rfl, rfl⟩) (by assumption) ?d29_r28
            try simp only [Act.put, List.setIfInBounds_toArray, List.set_cons_zero, List.set_cons_succ]
            refine wpAnyH_take (i := 29) (oi := ({ dst := some 90, op := Op.move (Operand.tmp 13), type := 3, pos := "ref.go:331", after := #[{ on := 27, ground := Ground.guard }], guard := some (27, true) } : Oper)) rfl (by kernel_rfl) (by kernel_rfl) (by kernel_rfl) (fun _ _ _ h => h) (Or.inr ⟨by rfl, rfl⟩) (by assumption) ?d30_r29
            try simp only [Act.put, List.setIfInBounds_toArray, List.set_cons_zero, List.set_cons_succ]
            refine wpAnyH_take (i := 30) (oi := ({ dst := some 91, op := Op.indexAddr 22 (Operand.tmp 89) (Operand.tmp 90), type := 0, pos := "ref.go:331", after := #[{ on := 28, ground := Ground.data }, { on := 29, ground := Ground.data }, { on := 27, ground := Ground.guard }], guard := some (27, true) } : Oper)) rfl (by kernel_rfl) (by kernel_rfl) (by kernel_rfl) (fun _ _ _ h => h) (Or.inr ⟨by rfl, rfl⟩) (by assumption) ?d31_r30
            try simp only [Act.put, List.setIfInBounds_toArray, List.set_cons_zero, List.set_cons_succ]
            refine wpAnyH_take (i := 31) (oi := ({ dst := some 92, op := Op.fieldAddr 47 (Operand.tmp 91) 1, type := 0, pos := "ref.go:331", after := #[{ on := 30, ground := Ground.data }, { on := 27, ground := Ground.guard }], guard := some (27, true) } : Oper)) rfl (by kernel_rfl) (by kernel_rfl) (by kernel_rfl) (fun _ _ _ h => h) (Or.inr ⟨by rfl, rfl⟩) (by assumption) ?d32_r31
            try simp only [Act.put, List.setIfInBounds_toArray, List.set_cons_zero, List.set_cons_succ]
            refine wpAnyH_take (i := 32) (oi := ({ dst := some 93, op := Op.load 3 (Operand.tmp 92), type := 3, pos := "ref.go:331", after := #[{ on := 31, ground := Ground.data }, { on := 27, ground := Ground.guard }], guard := some (27, true) } : Oper)) rfl (by kernel_rfl) (by kernel_rfl) (by kernel_rfl) (fun _ _ _ h => h) (Or.inr ⟨by rfl, rfl⟩) (by assumption) ?d33_r32
            try simp only [Act.put, List.setIfInBounds_toArray, List.set_cons_zero, List.set_cons_succ]
            refine wpAnyH_take (i := 33) (oi := ({ dst := some 94, op := Op.move (Operand.tmp 11), type := 22, pos := "ref.go:331", after := #[{ on := 27, ground := Ground.guard }], guard := some (27, true) } : Oper)) rfl (by kernel_rfl) (by kernel_rfl) (by kernel_rfl) (fun _ _ _ h => h) (Or.inr ⟨by rfl, rfl⟩) (by assumption) ?d34_r33
            try simp only [Act.put, List.setIfInBounds_toArray, List.set_cons_zero, List.set_cons_succ]
            refine wpAnyH_take (i := 34) (oi := ({ dst := some 95, op := Op.move (Operand.tmp 12), type := 3, pos := "ref.go:331", after := #[{ on := 27, ground := Ground.guard }], guard := some (27, true) } : Oper)) rfl (by kernel_rfl) (by kernel_rfl) (by kernel_rfl) (fun _ _ _ h => h) (Or.inr ⟨by rfl, rfl⟩) (by assumption) ?d35_r34
            try simp only [Act.put, List.setIfInBounds_toArray, List.set_cons_zero, List.set_cons_succ]
            refine wpAnyH_take (i := 35) (oi := ({ dst := some 96, op := Op.indexAddr 22 (Operand.tmp 94) (Operand.tmp 95), type := 0, pos := "ref.go:331", after := #[{ on := 33, ground := Ground.data }, { on := 34, ground := Ground.data }, { on := 27, ground := Ground.guard }], guard := some (27, true) } : Oper)) rfl (by kernel_rfl) (by kernel_rfl) (by kernel_rfl) (fun _ _ _ h => h) (Or.inr ⟨by rfl, rfl⟩) (by assumption) ?d36_r35
            try simp only [Act.put, List.setIfInBounds_toArray, List.set_cons_zero, List.set_cons_succ]
            refine wpAnyH_take (i := 36) (oi := ({ dst := some 97, op := Op.fieldAddr 47 (Operand.tmp 96) 1, type := 0, pos := "ref.go:331", after := #[{ on := 35, ground := Ground.data }, { on := 27, ground := Ground.guard }], guard := some (27, true) } : Oper)) rfl (by kernel_rfl) (by kernel_rfl) (by kernel_rfl) (fun _ _ _ h => h) (Or.inr ⟨by rfl, rfl⟩) (by assumption) ?d37_r36
            try simp only [Act.put, List.setIfInBounds_toArray, List.set_cons_zero, List.set_cons_succ]
            refine wpAnyH_take (i := 37) (oi := ({ dst := some 98, op := Op.load 3 (Operand.tmp 97), type := 3, pos := "ref.go:331", after := #[{ on := 36, ground := Ground.data }, { on := 27, ground := Ground.guard }], guard := some (27, true) } : Oper)) rfl (by kernel_rfl) (by kernel_rfl) (by kernel_rfl) (fun _ _ _ h => h) (Or.inr ⟨by rfl, rfl⟩) (by assumption) ?d38_r37
            try simp only [Act.put, List.setIfInBounds_toArray, List.set_cons_zero, List.set_cons_succ]
            refine wpAnyH_take (i := 38) (oi := ({ dst := some 99, op := Op.binOp BinOp.neq 3 (Operand.tmp 93) (Operand.tmp 98) 3, type := 4, pos := "ref.go:331", after := #[{ on := 32, ground := Ground.data }, { on := 37, ground := Ground.data }, { on := 27, ground := Ground.guard }], guard := some (27, true) } : Oper)) rfl (by kernel_rfl) (by kernel_rfl) (by kernel_rfl) (fun _ _ _ h => h) (Or.inr ⟨by rfl, rfl⟩) (by assumption) ?d39_r38
            try simp only [Act.put, List.setIfInBounds_toArray, List.set_cons_zero, List.set_cons_succ]
            refine wpAnyH_take (i := 39) (oi := ({ dst := some 100, op := Op.pick (Operand.tmp 88) (Operand.tmp 99) (Operand.const (Value.bool false)), type := 4, pos := "ref.go:331", after := #[{ on := 27, ground := Ground.data }, { on := 38, ground := Ground.data }], guard := none } : Oper)) (v := ?d40_v39) rfl (by kernel_rfl) (by kernel_rfl) (by kernel_rfl) (fun _ _ _ h => h) (Or.inl ⟨by rfl, ?d40_y39⟩) (by assumption) ?d40_r39
            case d40_y39 =>
             intro w hSw
             (try dsimp only at hSw)
             go_simp
             (try with_reducible rfl)
            try simp only [Act.put, List.setIfInBounds_toArray, List.set_cons_zero, List.set_cons_succ]
            refine wpAnyH_done (by kernel_rfl) ?_ _
            go_wp2
            go_roundw
            case rel => exact ⟨j + 1, by omega, by go_num, drewD HBU.out, HK⟩
            case measure => simp [intOf]; omega
          ·have e1 : (op' == 33) = false := beq_false_of_ne o1
           have HK := Lib.hid (HNX.out (HYE.out.2 fun h => absurd h o1))
           clear o1
           go_upto_region 21 with fail
           refine wp_region_held_drew (S := (fun W => (W.cell? ⟨b, off + i * 5, none⟩ = some (.int .i64 op) ∧ W.cell? ⟨b, off + i * 5 + 1, none⟩ = some (.int .i64 wid) ∧ W.cell? ⟨b, off + i * 5 + 4, none⟩ = some (.int .u32 imm)) ∧ W.cell? ⟨b, off + j * 5, none⟩ = some (.int .i64 op') ∧ W.cell? ⟨b, off + j * 5 + 1, none⟩ = some (.int .i64 wid') ∧ W.cell? ⟨b, off + j * 5 + 4, none⟩ = some (.int .u32 imm'))) (by kernel_rfl) ?_ (fun hHeld => ?_)
           ·exact HS.out _ (by first | exact Below.refl _ _ | exact drewD (Below.refl _ _))
           refine wpAnyH_take (i := 0) (oi := ({ dst := some 61, op := Op.move (Operand.tmp 11), type := 22, pos := "ref.go:331", after := #[], guard := none } : Oper)) (v := ?e1_v0) rfl (by kernel_rfl) (by kernel_rfl) (by kernel_rfl) (fun _ _ _ h => h) (Or.inl ⟨by rfl, ?e1_y0⟩) (by assumption) ?e1_r0
           case e1_y0 =>
            intro w hSw
            (try dsimp only at hSw)
            go_simp
            (try with_reducible rfl)
           try simp only [Act.put, List.setIfInBounds_toArray, List.set_cons_zero, List.set_cons_succ]
           refine wpAnyH_take (i := 1) (oi := ({ dst := some 62, op := Op.move (Operand.tmp 13), type := 3, pos := "ref.go:331", after := #[], guard := none } : Oper)) (v := ?e2_v1) rfl (by kernel_rfl) (by kernel_rfl) (by kernel_rfl) (fun _ _ _ h => h) (Or.inl ⟨by rfl, ?e2_y1⟩) (by assumption) ?e2_r1
           case e2_y1 =>
            intro w hSw
            (try dsimp only at hSw)
            go_simp
            (try with_reducible rfl)
           try simp only [Act.put, List.setIfInBounds_toArray, List.set_cons_zero, List.set_cons_succ]
           refine wpAnyH_take (i := 2) (oi := ({ dst := some 63, op := Op.indexAddr 22 (Operand.tmp 61) (Operand.tmp 62), type := 0, pos := "ref.go:331", after := #[{ on := 0, ground := Ground.data }, { on := 1, ground := Ground.data }], guard := none } : Oper)) (v := ?e3_v2) rfl (by kernel_rfl) (by kernel_rfl) (by kernel_rfl) (fun _ _ _ h => h) (Or.inl ⟨by rfl, ?e3_y2⟩) (by assumption) ?e3_r2
           case e3_y2 =>
            intro w hSw
            (try dsimp only at hSw)
            go_simp
            (try with_reducible rfl)
           try simp only [Act.put, List.setIfInBounds_toArray, List.set_cons_zero, List.set_cons_succ]
           refine wpAnyH_take (i := 3) (oi := ({ dst := some 64, op := Op.fieldAddr 47 (Operand.tmp 63) 0, type := 0, pos := "ref.go:331", after := #[{ on := 2, ground := Ground.data }], guard := none } : Oper)) (v := ?e4_v3) rfl (by kernel_rfl) (by kernel_rfl) (by kernel_rfl) (fun _ _ _ h => h) (Or.inl ⟨by rfl, ?e4_y3⟩) (by assumption) ?e4_r3
           case e4_y3 =>
            intro w hSw
            (try dsimp only at hSw)
            go_simp
            (try with_reducible rfl)
           try simp only [Act.put, List.setIfInBounds_toArray, List.set_cons_zero, List.set_cons_succ]
           refine wpAnyH_take (i := 4) (oi := ({ dst := some 65, op := Op.load 3 (Operand.tmp 64), type := 3, pos := "ref.go:331", after := #[{ on := 3, ground := Ground.data }], guard := none } : Oper)) (v := ?e5_v4) rfl (by kernel_rfl) (by kernel_rfl) (by kernel_rfl) (fun _ _ _ h => h) (Or.inl ⟨by rfl, ?e5_y4⟩) (by assumption) ?e5_r4
           case e5_y4 =>
            intro w hSw
            (try dsimp only at hSw)
            go_simp
            (try with_reducible rfl)
           try simp only [Act.put, List.setIfInBounds_toArray, List.set_cons_zero, List.set_cons_succ]
           refine wpAnyH_take (i := 5) (oi := ({ dst := some 66, op := Op.binOp BinOp.eql 3 (Operand.tmp 65) (Operand.const (Value.int IntKind.i64 33)) 3, type := 4, pos := "ref.go:331", after := #[{ on := 4, ground := Ground.data }], guard := none } : Oper)) (v := ?e6_v5) rfl (by kernel_rfl) (by kernel_rfl) (by kernel_rfl) (fun _ _ _ h => h) (Or.inl ⟨by rfl, ?e6_y5⟩) (by assumption) ?e6_r5
           case e6_y5 =>
            intro w hSw
            (try dsimp only at hSw)
            go_simp
            (try with_reducible rfl)
           try simp only [Act.put, List.setIfInBounds_toArray, List.set_cons_zero, List.set_cons_succ]
           refine wpAnyH_take (i := 6) (oi := ({ dst := some 67, op := Op.move (Operand.tmp 66), type := 4, pos := "ref.go:331", after := #[{ on := 5, ground := Ground.data }], guard := none } : Oper)) (v := ?e7_v6) rfl (by kernel_rfl) (by kernel_rfl) (by kernel_rfl) (fun _ _ _ h => h) (Or.inl ⟨by rfl, ?e7_y6⟩) (by assumption) ?e7_r6
           case e7_y6 =>
            intro w hSw
            (try dsimp only at hSw)
            go_simp
            (try with_reducible rfl)
           try simp only [Act.put, List.setIfInBounds_toArray, List.set_cons_zero, List.set_cons_succ]
           refine wpAnyH_take (i := 7) (oi := ({ dst := some 68, op := Op.move (Operand.tmp 11), type := 22, pos := "ref.go:331", after := #[{ on := 6, ground := Ground.guard }], guard := some (6, true) } : Oper)) rfl (by kernel_rfl) (by kernel_rfl) (by kernel_rfl) (fun _ _ _ h => h) (Or.inr ⟨by rfl, rfl⟩) (by assumption) ?e8_r7
           try simp only [Act.put, List.setIfInBounds_toArray, List.set_cons_zero, List.set_cons_succ]
           refine wpAnyH_take (i := 8) (oi := ({ dst := some 69, op := Op.move (Operand.tmp 12), type := 3, pos := "ref.go:331", after := #[{ on := 6, ground := Ground.guard }], guard := some (6, true) } : Oper)) rfl (by kernel_rfl) (by kernel_rfl) (by kernel_rfl) (fun _ _ _ h => h) (Or.inr ⟨by rfl, rfl⟩) (by assumption) ?e9_r8
           try simp only [Act.put, List.setIfInBounds_toArray, List.set_cons_zero, List.set_cons_succ]
           refine wpAnyH_take (i := 9) (oi := ({ dst := some 70, op := Op.indexAddr 22 (Operand.tmp 68) (Operand.tmp 69), type := 0, pos := "ref.go:331", after := #[{ on := 7, ground := Ground.data }, { on := 8, ground := Ground.data }, { on := 6, ground := Ground.guard }], guard := some (6, true) } : Oper)) rfl (by kernel_rfl) (by kernel_rfl) (by kernel_rfl) (fun _ _ _ h => h) (Or.inr ⟨by rfl, rfl⟩) (by assumption) ?e10_r9
           try simp only [Act.put, List.setIfInBounds_toArray, List.set_cons_zero, List.set_cons_succ]
           refine wpAnyH_take (i := 10) (oi := ({ dst := some 71, op := Op.fieldAddr 47 (Operand.tmp 70) 0, type := 0, pos := "ref.go:331", after := #[{ on := 9, ground := Ground.data }, { on := 6, ground := Ground.guard }], guard := some (6, true) } : Oper)) rfl (by kernel_rfl) (by kernel_rfl) (by kernel_rfl) (fun _ _ _ h => h) (Or.inr ⟨by rfl, rfl⟩) (by assumption) ?e11_r10
           try simp only [Act.put, List.setIfInBounds_toArray, List.set_cons_zero, List.set_cons_succ]
           refine wpAnyH_take (i := 11) (oi := ({ dst := some 72, op := Op.load 3 (Operand.tmp 71), type := 3, pos := "ref.go:331", after := #[{ on := 10, ground := Ground.data }, { on := 6, ground := Ground.guard }], guard := some (6, true) } : Oper)) rfl (by kernel_rfl) (by kernel_rfl) (by kernel_rfl) (fun _ _ _ h => h) (Or.inr ⟨by rfl, rfl⟩) (by assumption) ?e12_r11
           try simp only [Act.put, List.setIfInBounds_toArray, List.set_cons_zero, List.set_cons_succ]
           refine wpAnyH_take (i := 12) (oi := ({ dst := some 73, op := Op.binOp BinOp.eql 3 (Operand.tmp 72) (Operand.const (Value.int IntKind.i64 33)) 3, type := 4, pos := "ref.go:331", after := #[{ on := 11, ground := Ground.data }, { on := 6, ground := Ground.guard }], guard := some (6, true) } : Oper)) rfl (by kernel_rfl) (by kernel_rfl) (by kernel_rfl) (fun _ _ _ h => h) (Or.inr ⟨by rfl, rfl⟩) (by assumption) ?e13_r12
           try simp only [Act.put, List.setIfInBounds_toArray, List.set_cons_zero, List.set_cons_succ]
           refine wpAnyH_take (i := 13) (oi := ({ dst := some 74, op := Op.pick (Operand.tmp 67) (Operand.tmp 73) (Operand.const (Value.bool false)), type := 4, pos := "ref.go:331", after := #[{ on := 6, ground := Ground.data }, { on := 12, ground := Ground.data }], guard := none } : Oper)) (v := ?e14_v13) rfl (by kernel_rfl) (by kernel_rfl) (by kernel_rfl) (fun _ _ _ h => h) (Or.inl ⟨by rfl, ?e14_y13⟩) (by assumption) ?e14_r13
           case e14_y13 =>
            intro w hSw
            (try dsimp only at hSw)
            go_simp
            (try with_reducible rfl)
           try simp only [Act.put, List.setIfInBounds_toArray, List.set_cons_zero, List.set_cons_succ]
           refine wpAnyH_take (i := 14) (oi := ({ dst := some 75, op := Op.move (Operand.tmp 74), type := 4, pos := "ref.go:331", after := #[{ on := 13, ground := Ground.data }, { on := 6, ground := Ground.chain }], guard := none } : Oper)) (v := ?e15_v14) rfl (by kernel_rfl) (by kernel_rfl) (by kernel_rfl) (fun _ _ _ h => h) (Or.inl ⟨by rfl, ?e15_y14⟩) (by assumption) ?e15_r14
           case e15_y14 =>
            intro w hSw
            (try dsimp only at hSw)
            go_simp
            (try with_reducible rfl)
           try simp only [Act.put, List.setIfInBounds_toArray, List.set_cons_zero, List.set_cons_succ]
           refine wpAnyH_take (i := 15) (oi := ({ dst := some 76, op := Op.move (Operand.tmp 11), type := 22, pos := "ref.go:331", after := #[{ on := 14, ground := Ground.guard }], guard := some (14, true) } : Oper)) rfl (by kernel_rfl) (by kernel_rfl) (by kernel_rfl) (fun _ _ _ h => h) (Or.inr ⟨by rfl, rfl⟩) (by assumption) ?e16_r15
           try simp only [Act.put, List.setIfInBounds_toArray, List.set_cons_zero, List.set_cons_succ]
           refine wpAnyH_take (i := 16) (oi := ({ dst := some 77, op := Op.move (Operand.tmp 13), type := 3, pos := "ref.go:331", after := #[{ on := 14, ground := Ground.guard }], guard := some (14, true) } : Oper)) rfl (by kernel_rfl) (by kernel_rfl) (by kernel_rfl) (fun _ _ _ h => h) (Or.inr ⟨by rfl, rfl⟩) (by assumption) ?e17_r16
           try simp only [Act.put, List.setIfInBounds_toArray, List.set_cons_zero, List.set_cons_succ]
           refine wpAnyH_take (i := 17) (oi := ({ dst := some 78, op := Op.indexAddr 22 (Operand.tmp 76) (Operand.tmp 77), type := 0, pos := "ref.go:331", after := #[{ on := 15, ground := Ground.data }, { on := 16, ground := Ground.data }, { on := 14, ground := Ground.guard }], guard := some (14, true) } : Oper)) rfl (by kernel_rfl) (by kernel_rfl) (by kernel_rfl) (fun _ _ _ h => h) (Or.inr ⟨by rfl, rfl⟩) (by assumption) ?e18_r17
           try simp only [Act.put, List.setIfInBounds_toArray, List.set_cons_zero, List.set_cons_succ]
           refine wpAnyH_take (i := 18) (oi := ({ dst := some 79, op := Op.fieldAddr 47 (Operand.tmp 78) 4, type := 0, pos := "ref.go:331", after := #[{ on := 17, ground := Ground.data }, { on := 14, ground := Ground.guard }], guard := some (14, true) } : Oper)) rfl (by kernel_rfl) (by kernel_rfl) (by kernel_rfl) (fun _ _ _ h => h) (Or.inr ⟨by rfl, rfl⟩) (by assumption) ?e19_r18
           try simp only [Act.put, List.setIfInBounds_toArray, List.set_cons_zero, List.set_cons_succ]
           refine wpAnyH_take (i := 19) (oi := ({ dst := some 80, op := Op.load 34 (Operand.tmp 79), type := 34, pos := "ref.go:331", after := #[{ on := 18, ground := Ground.data }, { on := 14, ground := Ground.guard }], guard := some (14, true) } : Oper)) rfl (by kernel_rfl) (by kernel_rfl) (by kernel_rfl) (fun _ _ _ h => h) (Or.inr ⟨by rfl, rfl⟩) (by assumption) ?e20_r19
           try simp only [Act.put, List.setIfInBounds_toArray, List.set_cons_zero, List.set_cons_succ]
           refine wpAnyH_take (i := 20) (oi := ({ dst := some 81, op := Op.move (Operand.tmp 11), type := 22, pos := "ref.go:331", after := #[{ on := 14, ground := Ground.guard }], guard := some (14, true) } : Oper)) rfl (by kernel_rfl) (by kernel_rfl) (by kernel_rfl) (fun _ _ _ h => h) (Or.inr ⟨by rfl, rfl⟩) (by assumption) ?e21_r20
           try simp only [Act.put, List.setIfInBounds_toArray, List.set_cons_zero, List.set_cons_succ]
           refine wpAnyH_take (i := 21) (oi := ({ dst := some 82, op := Op.move (Operand.tmp 12), type := 3, pos := "ref.go:331", after := #[{ on := 14, ground := Ground.guard }], guard := some (14, true) } : Oper)) rfl (by kernel_rfl) (by kernel_rfl) (by kernel_rfl) (fun _ _ _ h => h) (Or.inr ⟨by rfl, rfl⟩) (by assumption) ?e22_r21
           try simp only [Act.put, List.setIfInBounds_toArray, List.set_cons_zero, List.set_cons_succ]
           refine wpAnyH_take (i := 22) (oi := ({ dst := some 83, op := Op.indexAddr 22 (Operand.tmp 81) (Operand.tmp 82), type := 0, pos := "ref.go:331", after := #[{ on := 20, ground := Ground.data }, { on := 21, ground := Ground.data }, { on := 14, ground := Ground.guard }], guard := some (14, true) } : Oper)) rfl (by kernel_rfl) (by kernel_rfl) (by kernel_rfl) (fun _ _ _ h => h) (Or.inr ⟨by rfl, rfl⟩) (by assumption) ?e23_r22
           try simp only [Act.put, List.setIfInBounds_toArray, List.set_cons_zero, List.set_cons_succ]
           refine wpAnyH_take (i := 23) (oi := ({ dst := some 84, op := Op.fieldAddr 47 (Operand.tmp 83) 4, type := 0, pos := "ref.go:331", after := #[{ on := 22, ground := Ground.data }, { on := 14, ground := Ground.guard }], guard := some (14, true) } : Oper)) rfl (by kernel_rfl) (by kernel_rfl) (by kernel_rfl) (fun _ _ _ h => h) (Or.inr ⟨by rfl, rfl⟩) (by assumption) ?e24_r23
           try simp only [Act.put, List.setIfInBounds_toArray, List.set_cons_zero, List.set_cons_succ]
           refine wpAnyH_take (i := 24) (oi := ({ dst := some 85, op := Op.load 34 (Operand.tmp 84), type := 34, pos := "ref.go:331", after := #[{ on := 23, ground := Ground.data }, { on := 14, ground := Ground.guard }], guard := some (14, true) } : Oper)) rfl (by kernel_rfl) (by kernel_rfl) (by kernel_rfl) (fun _ _ _ h => h) (Or.inr ⟨by rfl, rfl⟩) (by assumption) ?e25_r24
           try simp only [Act.put, List.setIfInBounds_toArray, List.set_cons_zero, List.set_cons_succ]
           refine wpAnyH_take (i := 25) (oi := ({ dst := some 86, op := Op.binOp BinOp.eql 34 (Operand.tmp 80) (Operand.tmp 85) 34, type := 4, pos := "ref.go:331", after := #[{ on := 19, ground := Ground.data }, { on := 24, ground := Ground.data }, { on := 14, ground := Ground.guard }], guard := some (14, true) } : Oper)) rfl (by kernel_rfl) (by kernel_rfl) (by kernel_rfl) (fun _ _ _ h => h) (Or.inr ⟨by rfl, rfl⟩) (by assumption) ?e26_r25
           try simp only [Act.put, List.setIfInBounds_toArray, List.set_cons_zero, List.set_cons_succ]
           refine wpAnyH_take (i := 26) (oi := ({ dst := some 87, op := Op.pick (Operand.tmp 75) (Operand.tmp 86) (Operand.const (Value.bool false)), type := 4, pos := "ref.go:331", after := #[{ on := 14, ground := Ground.data }, { on := 25, ground := Ground.data }], guard := none } : Oper)) (v := ?e27_v26) rfl (by kernel_rfl) (by kernel_rfl) (by kernel_rfl) (fun _ _ _ h => h) (Or.inl ⟨by rfl, ?e27_y26⟩) (by assumption) ?e27_r26
           case e27_y26 =>
            intro w hSw
            (try dsimp only at hSw)
            go_simp
            (try with_reducible rfl)
           try simp only [Act.put, List.setIfInBounds_toArray, List.set_cons_zero, List.set_cons_succ]
           refine wpAnyH_take (i := 27) (oi := ({ dst := some 88, op := Op.move (Operand.tmp 87), type := 4, pos := "ref.go:331", after := #[{ on := 26, ground := Ground.data }, { on := 14, ground := Ground.chain }], guard := none } : Oper)) (v := ?e28_v27) rfl (by kernel_rfl) (by kernel_rfl) (by kernel_rfl) (fun _ _ _ h => h) (Or.inl ⟨by rfl, ?e28_y27⟩) (by assumption) ?e28_r27
           case e28_y27 =>
            intro w hSw
            (try dsimp only at hSw)
            go_simp
            (try with_reducible rfl)
           try simp only [Act.put, List.setIfInBounds_toArray, List.set_cons_zero, List.set_cons_succ]
           refine wpAnyH_take (i := 28) (oi := ({ dst := some 89, op := Op.move (Operand.tmp 11), type := 22, pos := "ref.go:331", after := #[{ on := 27, ground := Ground.guard }], guard := some (27, true) } : Oper)) rfl (by kernel_rfl) (by kernel_rfl) (by kernel_rfl) (fun _ _ _ h => h) (Or.inr ⟨by rfl, rfl⟩) (by assumption) ?e29_r28
           try simp only [Act.put, List.setIfInBounds_toArray, List.set_cons_zero, List.set_cons_succ]
           refine wpAnyH_take (i := 29) (oi := ({ dst := some 90, op := Op.move (Operand.tmp 13), type := 3, pos := "ref.go:331", after := #[{ on := 27, ground := Ground.guard }], guard := some (27, true) } : Oper)) rfl (by kernel_rfl) (by kernel_rfl) (by kernel_rfl) (fun _ _ _ h => h) (Or.inr ⟨by rfl, rfl⟩) (by assumption) ?e30_r29
           try simp only [Act.put, List.setIfInBounds_toArray, List.set_cons_zero, List.set_cons_succ]
           refine wpAnyH_take (i := 30) (oi := ({ dst := some 91, op := Op.indexAddr 22 (Operand.tmp 89) (Operand.tmp 90), type := 0, pos := "ref.go:331", after := #[{ on := 28, ground := Ground.data }, { on := 29, ground := Ground.data }, { on := 27, ground := Ground.guard }], guard := some (27, true) } : Oper)) rfl (by kernel_rfl) (by kernel_rfl) (by kernel_rfl) (fun _ _ _ h => h) (Or.inr ⟨by rfl, rfl⟩) (by assumption) ?e31_r30
           try simp only [Act.put, List.setIfInBounds_toArray, List.set_cons_zero, List.set_cons_succ]
           refine wpAnyH_take (i := 31) (oi := ({ dst := some 92, op := Op.fieldAddr 47 (Operand.tmp 91) 1, type := 0, pos := "ref.go:331", after := #[{ on := 30, ground := Ground.data }, { on := 27, ground := Ground.guard }], guard := some (27, true) } : Oper)) rfl (by kernel_rfl) (by kernel_rfl) (by kernel_rfl) (fun _ _ _ h => h) (Or.inr ⟨by rfl, rfl⟩) (by assumption) ?e32_r31
           try simp only [Act.put, List.setIfInBounds_toArray, List.set_cons_zero, List.set_cons_succ]
           refine wpAnyH_take (i := 32) (oi := ({ dst := some 93, op := Op.load 3 (Operand.tmp 92), type := 3, pos := "ref.go:331", after := #[{ on := 31, ground := Ground.data }, { on := 27, ground := Ground.guard }], guard := some (27, true) } : Oper)) rfl (by kernel_rfl) (by kernel_rfl) (by kernel_rfl) (fun _ _ _ h => h) (Or.inr ⟨by rfl, rfl⟩) (by assumption) ?e33_r32
           try simp only [Act.put, List.setIfInBounds_toArray, List.set_cons_zero, List.set_cons_succ]
           refine wpAnyH_take (i := 33) (oi := ({ dst := some 94, op := Op.move (Operand.tmp 11), type := 22, pos := "ref.go:331", after := #[{ on := 27, ground := Ground.guard }], guard := some (27, true) } : Oper)) rfl (by kernel_rfl) (by kernel_rfl) (by kernel_rfl) (fun _ _ _ h => h) (Or.inr ⟨by rfl, rfl⟩) (by assumption) ?e34_r33
           try simp only [Act.put, List.setIfInBounds_toArray, List.set_cons_zero, List.set_cons_succ]
           refine wpAnyH_take (i := 34) (oi := ({ dst := some 95, op := Op.move (Operand.tmp 12), type := 3, pos := "ref.go:331", after := #[{ on := 27, ground := Ground.guard }], guard := some (27, true) } : Oper)) rfl (by kernel_rfl) (by kernel_rfl) (by kernel_rfl) (fun _ _ _ h => h) (Or.inr ⟨by rfl, rfl⟩) (by assumption) ?e35_r34
           try simp only [Act.put, List.setIfInBounds_toArray, List.set_cons_zero, List.set_cons_succ]
           refine wpAnyH_take (i := 35) (oi := ({ dst := some 96, op := Op.indexAddr 22 (Operand.tmp 94) (Operand.tmp 95), type := 0, pos := "ref.go:331", after := #[{ on := 33, ground := Ground.data }, { on := 34, ground := Ground.data }, { on := 27, ground := Ground.guard }], guard := some (27, true) } : Oper)) rfl (by kernel_rfl) (by kernel_rfl) (by kernel_rfl) (fun _ _ _ h => h) (Or.inr ⟨by rfl, rfl⟩) (by assumption) ?e36_r35
           try simp only [Act.put, List.setIfInBounds_toArray, List.set_cons_zero, List.set_cons_succ]
           refine wpAnyH_take (i := 36) (oi := ({ dst := some 97, op := Op.fieldAddr 47 (Operand.tmp 96) 1, type := 0, pos := "ref.go:331", after := #[{ on := 35, ground := Ground.data }, { on := 27, ground := Ground.guard }], guard := some (27, true) } : Oper)) rfl (by kernel_rfl) (by kernel_rfl) (by kernel_rfl) (fun _ _ _ h => h) (Or.inr ⟨by rfl, rfl⟩) (by assumption) ?e37_r36
           try simp only [Act.put, List.setIfInBounds_toArray, List.set_cons_zero, List.set_cons_succ]
           refine wpAnyH_take (i := 37) (oi := ({ dst := some 98, op := Op.load 3 (Operand.tmp 97), type := 3, pos := "ref.go:331", after := #[{ on := 36, ground := Ground.data }, { on := 27, ground := Ground.guard }], guard := some (27, true) } : Oper)) rfl (by kernel_rfl) (by kernel_rfl) (by kernel_rfl) (fun _ _ _ h => h) (Or.inr ⟨by rfl, rfl⟩) (by assumption) ?e38_r37
           try simp only [Act.put, List.setIfInBounds_toArray, List.set_cons_zero, List.set_cons_succ]
           refine wpAnyH_take (i := 38) (oi := ({ dst := some 99, op := Op.binOp BinOp.neq 3 (Operand.tmp 93) (Operand.tmp 98) 3, type := 4, pos := "ref.go:331", after := #[{ on := 32, ground := Ground.data }, { on := 37, ground := Ground.data }, { on := 27, ground := Ground.guard }], guard := some (27, true) } : Oper)) rfl (by kernel_rfl) (by kernel_rfl) (by kernel_rfl) (fun _ _ _ h => h) (Or.inr ⟨by rfl, rfl⟩) (by assumption) ?e39_r38
           try simp only [Act.put, List.setIfInBounds_toArray, List.set_cons_zero, List.set_cons_succ]
           refine wpAnyH_take (i := 39) (oi := ({ dst := some 100, op := Op.pick (Operand.tmp 88) (Operand.tmp 99) (Operand.const (Value.bool false)), type := 4, pos := "ref.go:331", after := #[{ on := 27, ground := Ground.data }, { on := 38, ground := Ground.data }], guard := none } : Oper)) (v := ?e40_v39) rfl (by kernel_rfl) (by kernel_rfl) (by kernel_rfl) (fun _ _ _ h => h) (Or.inl ⟨by rfl, ?e40_y39⟩) (by assumption) ?e40_r39
           case e40_y39 =>
            intro w hSw
            (try dsimp only at hSw)
            go_simp
            (try with_reducible rfl)
           try simp only [Act.put, List.setIfInBounds_toArray, List.set_cons_zero, List.set_cons_succ]
           refine wpAnyH_done (by kernel_rfl) ?_ _
           go_wp2
           go_roundw
           case rel => exact ⟨j + 1, by omega, by go_num, drewD HBU.out, HK⟩
           case measure => simp [intOf]; omega
         ·obtain rfl : j = i := by omega
          have hb9 := HBV.out.trans (hb.mono HBV.out.size)
          have HJ2 := Lib.hid (show ∀ q, q < j + 1 → ∀ p, p < q → oneB N[p]! N[q]! = true from fun q hq p hp => by
           by_cases e : q = j
           ·subst e
            exact HQ.out p hp
           ·exact HJ.out q (by omega) p hp)
          go_wp2
          go_roundw
          case rel => exact ⟨j + 1, by omega, by go_num, hb9, HJ2⟩
          case measure => simp [intOf]; omega
       ·obtain rfl : i = m := by omega
        have HE := Lib.hid (HONE.out HJ.out)
        have HR3 := Lib.hid (show F = if 300 < i then 3 else 0 by rw [HR2.out, if_neg (by rw [HE.out]; decide), HM.out])
        have HOE := Lib.hid (ownT_below HO.out hb)
        have HBE := Lib.hid (HB6.out.trans (hb.mono HB6.out.size))
        clear hb
        by_cases h300 : 300 < i
        ·have e7 : decide (300 < (i : Int)) = true := decide_eq_true (by omega)
         have HR4 := Lib.hid (show F = 3 by rw [HR3.out, if_pos h300])
         clear h300
         go_wp2
         go_ret2
         exact ⟨_, fun _ => undef, by exact ret_vi HR4.out, by rw [HNL.out (by rw [HR4.out]; decide)]; exact ownT_nil _ _ _, HBE.out⟩
        ·have e7 : decide (300 < (i : Int)) = false := decide_eq_false (by omega)
         have HR4 := Lib.hid (show F = 0 by rw [HR3.out, if_neg h300])
         clear h300
         go_wp2
         go_ret2
         exact ⟨_, av, by exact ret_vi HR4.out, by rw [HNY.out HR4.out]; have := HOE.out; rw [HM.out] at this; exact this, HBE.out⟩
     ·have HR2 := Lib.hid (show F = 6 by rw [HR.out, if_neg hz, if_pos (show (U[U.length - 1]!).width ≠ wf j by rw [← H2.out.1]; exact ht)])
      have e5 : ((U[n2 - 1]!).width != wf j) = true := bne_iff_ne.2 ht
      generalize (U[n2 - 1]!).width = ww at a1 e5
      generalize wf j = wj at hc e3 e5
      clear HR HP hz ht hb5 hI a0 a2 a3 a4
      go_wp2
      go_ret2
      exact ⟨_, fun _ => undef, by exact ret_vi HR2.out, by rw [HNL.out (by rw [HR2.out]; decide)]; exact ownT_nil _ _ _, HB5.out⟩
   ·have HR := Lib.hid (show putF T U v = 1 by unfold putF; rw [if_pos hv, if_pos hu, if_neg hb4])
    have HVU := Lib.hid (fun w1 (hb : Below w.heap.size w w1) => refValidate_any (h2.below hb))
    rw [HR.out, if_neg (by decide)]
    rw [hv] at HV
    rw [hu] at HVU
    clear h h2 hv hu
    by_cases h0 : v < 0
    ·have e1 : decide (v < 0) = true := decide_eq_true h0
     go_enter Tryd.func30, Tryd.ntmps30
     go_wp2_with fail
     refine HV.out.mono ?_
     rintro e w1 ⟨rfl, hb1⟩
     go_wp2_with fail
     refine (HVU.out _ hb1).mono ?_
     rintro e w2 ⟨rfl, hb2⟩
     have hb3 := hb1.trans (hb2.mono hb1.size)
     go_wp2
     go_ret2
     exact ⟨_, fun _ => undef, rfl, ownT_nil _ _ _, hb3⟩
    ·have e1 : decide (v < 0) = false := decide_eq_false h0
     have e2 : decide (4 ≤ v) = true := decide_eq_true (by omega)
     go_enter Tryd.func30, Tryd.ntmps30
     go_wp2_with fail
     refine HV.out.mono ?_
     rintro e w1 ⟨rfl, hb1⟩
     go_wp2_with fail
     refine (HVU.out _ hb1).mono ?_
     rintro e w2 ⟨rfl, hb2⟩
     have hb3 := hb1.trans (hb2.mono hb1.size)
     go_wp2
     go_ret2
     exact ⟨_, fun _ => undef, rfl, ownT_nil _ _ _, hb3⟩
  ·have HR := Lib.hid (show putF T U v = valF U by unfold putF; rw [if_pos hv, if_neg hu])
   have HVU := Lib.hid (fun w1 (hb : Below w.heap.size w w1) => refValidate_any (h2.below hb))
   rw [HR.out, if_neg hu]
   rw [hv] at HV
   generalize valF U = V at HVU hu ⊢
   have e1 : (V != 0) = true := by simp [hu]
   clear h h2 hv hu HR
   go_enter Tryd.func30, Tryd.ntmps30
   go_wp2_with fail
   refine HV.out.mono ?_
   rintro e w1 ⟨rfl, hb1⟩
   go_wp2_with fail
   refine (HVU.out _ hb1).mono ?_
   rintro e w2 ⟨rfl, hb2⟩
   have hb3 := hb1.trans (hb2.mono hb1.size)
   go_wp2
   go_ret2
   exact ⟨_, fun _ => undef, rfl, ownT_nil _ _ _, hb3⟩
 ·have HR := Lib.hid (show putF T U v = valF T by unfold putF; rw [if_neg hv])
  rw [HR.out, if_neg hv]
  generalize valF T = V at HV hv ⊢
  have e1 : (V != 0) = true := by simp [hv]
  clear h h2 hv HR
  go_enter Tryd.func30, Tryd.ntmps30
  go_wp2_with fail
  refine HV.out.mono ?_
  rintro e w1 ⟨rfl, hb⟩
  go_wp2
  go_ret2
  exact ⟨_, fun _ => undef, rfl, ownT_nil _ _ _, hb⟩
end
end
end Go.Proofs.YtbohigjfdnnomaaDoor
