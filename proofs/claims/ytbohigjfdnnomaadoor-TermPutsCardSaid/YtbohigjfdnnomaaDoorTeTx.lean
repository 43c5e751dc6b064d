/-
 ContainsFunc over nodes, for a predicate that may make memory; clash.
 Take of the pool where a variable is swapped for a term: the closure of Put, the visit of a node, Take.
 Put of the program.
-/
import Derived.Test.YtbohigjfdnnomaaDoorTeTv
import Derived.Shelf.GgClosure.Gives
namespace Go.Proofs.YtbohigjfdnnomaaDoor
section
open Go.RowKit

theorem drewNR {B k : Nat} {a w : World} (h : Below B a w) : Below B a (w.drewN k) := ⟨h.os, h.tape, h.output, h.size, h.block⟩
/-- What is asked of a predicate: it answers p in every world in which all that lay in w lies unturned, and leaves such a world. -/
def PredN (g : Nat) (lb : Array Value) (p : Nd → Bool) (w : World) : Prop :=
 ∀ (W : World) (A : Option Addr) (n c : Nat) (x : Nd), Below w.heap.size w W → (x.op = 33 → 0 ≤ x.imm ∧ x.imm < 4) → Calls Tryd.prog g (#[.agg #[.int .i64 x.op, .int .i64 x.width, .int .i64 x.flags, .slice A n c, .int .u32 x.imm]] ++ lb) W fun e w' => e = .returned (.bool (p x)) ∧ Below W.heap.size W w'
/-- The first node of which a predicate holds. -/
def idxN (p : Nd → Bool) (zs : List Nd) : Nat → Nat → Int
 | _, 0 => -1
 | i, f + 1 => if p zs[i]! then (i : Int) else idxN p zs (i + 1) f
theorem idxN_nonneg (p : Nd → Bool) (zs : List Nd) : ∀ f i, decide (0 ≤ idxN p zs i f) = (List.range f).any fun j => p zs[i + j]!
 | 0, i => rfl
 | f + 1, i => by
  rw [List.range_succ_eq_map, List.any_cons, List.any_map]
  show decide _ = (p zs[i]! || _)
  by_cases h : p zs[i]! = true
  ·have e : idxN p zs i (f + 1) = (i : Int) := if_pos h
   rw [h, Bool.true_or, decide_eq_true_iff, e]
   omega
  ·have e : idxN p zs i (f + 1) = idxN p zs (i + 1) f := if_neg h
   have ih := idxN_nonneg p zs f (i + 1)
   have : (fun j => p zs[i + 1 + j]!) = ((fun j => p zs[i + j]!) ∘ Nat.succ) := by
    funext j
    show p zs[i + 1 + j]! = p zs[i + (j + 1)]!
    rw [show i + 1 + j = i + (j + 1) by omega]
   rw [Bool.eq_false_iff.2 h, Bool.false_or, ← this, ← ih, Bool.eq_iff_iff, decide_eq_true_iff, decide_eq_true_iff, e]
set_option maxRecDepth 100000 in
set_option maxHeartbeats 2000000 in
theorem indexFuncN_any (p : Nd → Bool) (g : Nat) (lb : Array Value) (eg : ∀ args w, (callFunc g args).run Tryd.prog w = .ok (.enter g args) w) {A : Option Addr} {n c : Nat} {T : List Nd} (w : World)
  (hp : PredN g lb p w) (hbig : n ≤ 100000) (hL : Term w A n c T) (hv : VarsOk T) :
  Calls Tryd.prog 87 #[.slice A n c, .func (.func g) #[] lb] w fun e w' => e = .returned (.int .i64 (idxN p T 0 n)) ∧ Below w.heap.size w w' := by
 have HL := Lib.hid hL
 have HP := Lib.hid hp
 have HV := Lib.hid hv
 have hcap := hL.2.1
 have hmax := hL.2.2.1
 clear hL hp hv
 go_enter Tryd.func87, Tryd.ntmps87
 go_wp2
 go_loopw [8] (fun z wr => ∃ i : Nat, i ≤ n ∧ z = .int .i64 (i : Int) ∧ Below w.heap.size w wr ∧ idxN p T i (n - i) = idxN p T 0 n) (fun z _ => n - (intOf z).toNat)
 case atStart => exact ⟨0, by omega, rfl, Below.refl _ _, rfl⟩
 case round =>
  obtain ⟨i, hi, rfl, hb, hI⟩ := hrel
  by_cases hlt : i < n
  ·obtain ⟨b, off, A', n', c', rfl, hbs0, ht0, -⟩ := HL.out.at_ hlt
   have ht := ht0.below hbs0 hb
   have hbs := Nat.lt_of_lt_of_le hbs0 hb.size
   have hs : idxN p T i (n - i) = if p T[i]! then (i : Int) else idxN p T (i + 1) (n - (i + 1)) := by
    rw [show n - i = (n - (i + 1)) + 1 by omega]
    rfl
   have hcall := HP.out wr A' n' c' T[i]! hb (fun e => by
    obtain ⟨v, h1, h2⟩ := HV.out i (by rw [← HL.out.1]; exact hlt) e
    omega)
   rw [hs] at hI
   clear hs
   generalize T[i]! = x at ht hcall hI
   clear ht0
   obtain ⟨op, wid, fl, args, imm⟩ := x
   obtain ⟨c0, c1, c2, c3, c4⟩ := ht
   simp only at c0 c1 c2 c3 c4
   obtain ⟨B, hB⟩ : ∃ B, B = p ⟨op, wid, fl, args, imm⟩ := ⟨_, rfl⟩
   rw [← hB] at hcall hI
   have HI := Lib.hid hI
   have HC := Lib.hid hcall
   have HB := Lib.hid hb
   clear hB hI hcall hb hbs0
   cases B
   ·go_wp2_with (go_at_fn g; refine HC.out.mono ?_; rintro e w' ⟨rfl, hb'⟩)
    have hb2 := HB.out.trans (hb'.mono HB.out.size)
    go_roundw
    case rel => exact ⟨i + 1, by omega, by go_num, hb2, by have := HI.out; simpa using this⟩
    case measure => simp [intOf]; omega
   ·go_wp2_with (go_at_fn g; refine HC.out.mono ?_; rintro e w' ⟨rfl, hb'⟩)
    have hb2 := HB.out.trans (hb'.mono HB.out.size)
    go_ret
    exact ⟨ret_i (by have := HI.out; simpa using this), hb2⟩
  ·have HI := Lib.hid (show (-1 : Int) = idxN p T 0 n by rw [show n - i = 0 by omega] at hI; exact hI)
   clear hI
   go_wp2
   go_ret
   exact ⟨ret_i (by rw [← HI.out]), hb⟩
theorem containsFuncN_any (p : Nd → Bool) (g : Nat) (lb : Array Value) (eg : ∀ args w, (callFunc g args).run Tryd.prog w = .ok (.enter g args) w) {A : Option Addr} {n c : Nat} {T : List Nd} (w : World)
  (hp : PredN g lb p w) (hbig : n ≤ 100000) (hL : Term w A n c T) (hv : VarsOk T) :
  Calls Tryd.prog 68 #[.slice A n c, .func (.func g) #[] lb] w fun e w' => e = .returned (.bool ((List.range n).any fun j => p T[j]!)) ∧ Below w.heap.size w w' := by
 have hd := idxN_nonneg p T n 0
 simp only [Nat.zero_add] at hd
 rw [← hd]
 have HC := Lib.hid (indexFuncN_any p g lb eg w hp hbig hL hv)
 obtain ⟨X, hX⟩ : ∃ X, X = idxN p T 0 n := ⟨_, rfl⟩
 rw [← hX] at HC ⊢
 clear hd hX hL hp
 go_enter Tryd.func68, Tryd.ntmps68
 go_wp2_with fail
 refine HC.out.mono ?_
 rintro e w' ⟨rfl, hb'⟩
 go_wp2
 go_ret
 exact ⟨rfl, hb'⟩
set_option maxRecDepth 100000 in
set_option maxHeartbeats 4000000 in
theorem clashP_any {w : World} {B : Nat} {f : Nat → Int} (hB : I4 w B f) : PredN 69 #[.pointer (some ⟨B, 0, none⟩)] (fun x => decide (x.op = 33) && decide (f x.imm.toNat ≠ x.width)) w := by
 intro W A n c x hb hx
 have hB2 := hB.below hb
 obtain ⟨op, wid, fl, args, imm⟩ := x
 simp only at hx ⊢
 have hBl := lt_of_block hB2
 by_cases h33 : op = 33
 ·obtain ⟨v, rfl⟩ : ∃ v : Nat, imm = (v : Int) := ⟨imm.toNat, by have := hx h33; omega⟩
  have hv4 : v < 4 := by have := hx h33; omega
  obtain ⟨hc, -⟩ := hB2.cell hv4
  subst h33
  rw [Int.toNat_natCast, decide_eq_true rfl, Bool.true_and]
  have e1 : (f v != wid) = decide (f v ≠ wid) := by
   by_cases e : f v = wid <;> simp [e]
  have e0 : ((33 : Int) == 33) = true := rfl
  clear hB hB2 hb hx
  generalize f v = y at hc e1 ⊢
  generalize decide (y ≠ wid) = Z at e1 ⊢
  go_enter Tryd.func69, Tryd.ntmps69
  go_upto_region 1 with fail
  have hx := heap_alloc_new W (.cells #[.int .i64 33, .int .i64 wid, .int .i64 fl, .slice A n c, .int .u32 (v : Int)] 47)
  have hbn : Below W.heap.size W (W.alloc (.cells #[.int .i64 33, .int .i64 wid, .int .i64 fl, .slice A n c, .int .u32 (v : Int)] 47)) := (Below.refl _ _).alloc (Nat.le_refl _) _
  have hc2 := (hbn.cell (p := ⟨B, v, none⟩) hBl).trans hc
  have hBl2 := Nat.lt_of_lt_of_le hBl hbn.size
  generalize World.alloc W _ = W1 at hx hbn hc2 hBl2 ⊢
  obtain ⟨d0, d1, d2, d3, d4⟩ := cells5 (x := ⟨33, wid, fl, [], (v : Int)⟩) hx
  simp only at d0 d1 d2 d3 d4
  have hDl := lt_of_block hx
  clear hc hBl hx
  have HBN := Lib.hid hbn
  obtain ⟨D, hDE⟩ : ∃ D, W.heap.size = D := ⟨_, rfl⟩
  rw [hDE] at d0 d1 d2 d3 d4 hDl ⊢
  clear hDE hbn
  go_quiet (fail)
  go_wp2
  go_ret
  exact ⟨rfl, drewNR HBN.out⟩
 ·rw [decide_eq_false h33, Bool.false_and]
  have e0 : (op == 33) = false := beq_eq_false_iff_ne.2 h33
  clear hB hB2 hb hx
  go_enter Tryd.func69, Tryd.ntmps69
  go_upto_region 1 with fail
  have hx := heap_alloc_new W (.cells #[.int .i64 op, .int .i64 wid, .int .i64 fl, .slice A n c, .int .u32 imm] 47)
  have hbn : Below W.heap.size W (W.alloc (.cells #[.int .i64 op, .int .i64 wid, .int .i64 fl, .slice A n c, .int .u32 imm] 47)) := (Below.refl _ _).alloc (Nat.le_refl _) _
  generalize World.alloc W _ = W1 at hx hbn ⊢
  obtain ⟨d0, d1, d2, d3, d4⟩ := cells5 (x := ⟨op, wid, fl, [], imm⟩) hx
  simp only at d0 d1 d2 d3 d4
  have hDl := lt_of_block hx
  clear hx
  have HBN := Lib.hid hbn
  obtain ⟨D, hDE⟩ : ∃ D, W.heap.size = D := ⟨_, rfl⟩
  rw [hDE] at d0 d1 d2 d3 d4 hDl ⊢
  clear hDE hbn
  go_quiet (fail)
  go_wp2
  go_ret
  exact ⟨rfl, drewNR HBN.out⟩
set_option maxRecDepth 100000 in
set_option maxHeartbeats 4000000 in
theorem clash_any {w : World} {A : Option Addr} {n c : Nat} {T : List Nd} (h : Term w A n c T) (hv : VarsOk T) (hn : n ≤ 100000) : Calls Tryd.prog 49 #[.slice A n c] w fun e w' => e = .returned (.bool (clashB T)) ∧ Below w.heap.size w w' := by
 have HW := Lib.hid (widths_any h hv)
 have HC := Lib.hid (fun w1 B (hb : Below w.heap.size w w1) (hB : I4 w1 B (widF T n)) => containsFuncN_any _ 69 #[.pointer (some ⟨B, 0, none⟩)] (fun _ _ => rfl) w1 (clashP_any hB) hn (h.below hb) hv)
 have HR := Lib.hid (show ((List.range n).any fun j => decide (T[j]!.op = 33) && decide (widF T n T[j]!.imm.toNat ≠ T[j]!.width)) = clashB T by unfold clashB; rw [h.1])
 clear h hv
 generalize widF T n = f at HW HC HR
 go_enter Tryd.func49, Tryd.ntmps49
 go_wp2_with fail
 refine HW.out.mono ?_
 rintro e w1 ⟨rfl, hb1⟩
 go_upto_region 2 with fail
 have hB := heap_alloc_new w1 (.cells #[.int .i64 (f 0), .int .i64 (f 1), .int .i64 (f 2), .int .i64 (f 3)] 59)
 have hb2 := hb1.alloc hb1.size (.cells #[.int .i64 (f 0), .int .i64 (f 1), .int .i64 (f 2), .int .i64 (f 3)] 59)
 generalize World.alloc w1 _ = w2 at hB hb2 ⊢
 generalize w1.heap.size = B at hB ⊢
 have HCC := Lib.hid (HC.out w2 B hb2 hB)
 rw [HR.out] at HCC
 have HB2 := Lib.hid hb2
 clear hB hb1 hb2
 go_wp2_with fail
 refine HCC.out.mono ?_
 rintro e w3 ⟨rfl, hb3⟩
 go_wp2
 go_ret
 exact ⟨rfl, HB2.out.trans (hb3.mono HB2.out.size)⟩
end
section
open Go.RowKit

/-- The trees of a term with a variable replaced. -/
def sbT (T : List Nd) (v : Int) (r : Tr) (k : Nat) : Tr := subT v r (tr T k)
def argS (T : List Nd) (v : Int) (r : Tr) (k : Nat) : List Tr := T[k]!.args.map fun x => sbT T v r x.toNat
theorem argS_take {T : List Nd} {v : Int} {r : Tr} {k q p : Nat} (hq : q < T[k]!.args.length) (hp : T[k]!.args[q]! = (p : Int)) : (argS T v r k).take (q + 1) = (argS T v r k).take q ++ [sbT T v r p] := by
 unfold argS
 rw [List.take_succ_eq_append_getElem (by simpa using hq), List.getElem_map]
 have e : T[k]!.args[q] = (p : Int) := by rw [← hp, getElem!_pos _ q hq]
 rw [e, Int.toNat_natCast]
theorem ins_nodeS {T : List Nd} (hd : Down T) {k : Nat} (hk : k < T.length) (v : Int) (r : Tr) (out : List Nd) (hn : ¬ (T[k]!.op = 33 ∧ T[k]!.imm = v)) : ins (sbT T v r k) out = (ix (insL (argS T v r k) out).2 ⟨T[k]!.op, T[k]!.width, T[k]!.flags, natI (insL (argS T v r k) out).1, T[k]!.imm⟩, addP (insL (argS T v r k) out).2 ⟨T[k]!.op, T[k]!.width, T[k]!.flags, natI (insL (argS T v r k) out).1, T[k]!.imm⟩) := by
 unfold sbT
 rw [subT_node hd hk v r hn, ins]
 rfl
/-- What the closure of Take has around it, with the box of the pool's pointer. -/
structure TakeX (w0 : World) (A : Option Addr) (n c : Nat) (Bp Bt Bs Bv Bq R P M base : Nat) (sv : Value) (Cp : Nat) (F : Nat → Prop) (a : Nat → Int) (out : List Nd) (trs : Nat → Tr) (w : World) : Prop extends TakeW w0 A n c Bp Bt Bs Bv Bq R P M base sv F a out trs w where
 bx : w.heap[Cp]? = some (.cells #[ptr P] 69 (0, 0))
 nx : ¬ F Cp ∧ Cp ≠ R
section
variable {w0 : World} {A : Option Addr} {n c Bp Bt Bs Bv Bq R P M base Cp : Nat} {sv : Value} {F F7 G : Nat → Prop} {a : Nat → Int} {out out7 : List Nd} {trs : Nat → Tr} {w w' w7 : World}
theorem TakeX.grow (h : TakeX w0 A n c Bp Bt Bs Bv Bq R P M base sv Cp F a out trs w) (hb : Below w.heap.size w w') : TakeX w0 A n c Bp Bt Bs Bv Bq R P M base sv Cp F a out trs w' :=
 { toTakeW := h.toTakeW.grow hb, bx := (hb.block _ (lt_of_block h.bx)).trans h.bx, nx := h.nx }
theorem TakeX.move (h : TakeX w0 A n c Bp Bt Bs Bv Bq R P M base sv Cp F a out trs w) (hk : KeepF G w w') (hw : ∀ b, G b → w0.heap.size ≤ b) (hF : ∀ b, F b → ¬ G b) (hR : ¬ G R) (h1 : ¬ G Bp) (h2 : ¬ G Bt) (h3 : ¬ G Bs) (h4 : ¬ G Bv) (h5 : ¬ G Bq) (h6 : ¬ G Cp) : TakeX w0 A n c Bp Bt Bs Bv Bq R P M base sv Cp F a out trs w' :=
 { toTakeW := h.toTakeW.move hk hw hF hR h1 h2 h3 h4 h5, bx := (hk.block _ (lt_of_block h.bx) h6).trans h.bx, nx := h.nx }
theorem TakeX.place (h : TakeX w0 A n c Bp Bt Bs Bv Bq R P M base sv Cp F a out trs w) (hk : KeepF F w w7) (hp : Pool w7 base P M F7 out7) (hF : ∀ b, F7 b → F b ∨ w.heap.size ≤ b) (hpre : Pre out out7) (hbase : w0.heap.size ≤ base) (hR0 : w0.heap.size ≤ R) {k i : Nat} (hi : Has out7 (trs k) i) : TakeX w0 A n c Bp Bt Bs Bv Bq R P M base sv Cp F7 (updZ a k (i : Int)) out7 trs (w7.setCell ⟨R, k, none⟩ (.int .i64 (i : Int))) :=
 { toTakeW := h.toTakeW.place hk hp hF hpre hbase hR0 hi
   bx := ((keep_set w7 R k (.int .i64 (i : Int))).block _ (Nat.lt_of_lt_of_le (lt_of_block h.bx) hk.size) h.nx.2).trans ((hk.block _ (lt_of_block h.bx) h.nx.1).trans h.bx)
   nx := ⟨fun e => (hF _ e).elim h.nx.1 (fun e2 => by have := lt_of_block h.bx; omega), h.nx.2⟩ }
end
set_option maxRecDepth 100000 in
set_option maxHeartbeats 4000000 in
theorem putSwap_no {w : World} {v op wid fl imm : Int} {A : Option Addr} {n c Cv Cp Cu : Nat} (hv : w.heap[Cv]? = some (.cells #[.int .i64 v] 3 (0, 0))) (him : 0 ≤ imm ∧ imm < 4294967296) (hn : ¬ (op = 33 ∧ imm = v)) :
  Calls Tryd.prog 47 #[.agg #[.int .i64 op, .int .i64 wid, .int .i64 fl, .slice A n c, .int .u32 imm], ptr Cv, ptr Cp, ptr Cu] w fun e w' => e = .returned (.tuple #[.int .i64 0, .bool false]) ∧ Below w.heap.size w w' := by
 have hvc := cell_of_one hv
 have hvl := lt_of_block hv
 obtain ⟨im, rfl⟩ : ∃ im : Nat, imm = (im : Int) := ⟨imm.toNat, by omega⟩
 have him2 : im < 4294967296 := by omega
 have h2 : (op != 33) = true ∨ ((op != 33) = false ∧ ((im : Int) != v) = true) := by
  by_cases e : op = 33
  ·exact .inr ⟨by simp [e], bne_iff_ne.2 fun e2 => hn ⟨e, e2⟩⟩
  ·exact .inl (bne_iff_ne.2 e)
 clear hn him hv
 rcases h2 with e1 | ⟨e1, e2⟩
 ·go_enter Tryd.func47, Tryd.ntmps47
  go_wp2
  go_ret2
  exact ⟨rfl, (Below.refl _ _).alloc (Nat.le_refl _) _⟩
 ·go_enter Tryd.func47, Tryd.ntmps47
  go_wp2
  go_ret2
  exact ⟨rfl, (Below.refl _ _).alloc (Nat.le_refl _) _⟩
set_option maxRecDepth 100000 in
set_option maxHeartbeats 4000000 in
theorem putSwap_yes {w0 w : World} {v wid fl : Int} {A A2u : Option Addr} {n c n2 c2 Cv Cp Cu P M base : Nat} {U : List Nd} {F : Nat → Prop} {out : List Nd} (h2 : Term w0 A2u n2 c2 U) (hU : FineT U) (hb : Below w0.heap.size w0 w) (hbase : w0.heap.size ≤ base) (hP : Pool w base P M F out) (hn : out.length + n2 < 900000) (h1n : 1 ≤ n2)
  (hCv : w0.heap[Cv]? = some (.cells #[.int .i64 v] 3 (0, 0))) (hCu : w0.heap[Cu]? = some (.cells #[.slice A2u n2 c2] 22 (0, 0))) (hCp : w.heap[Cp]? = some (.cells #[ptr P] 69 (0, 0))) (him : 0 ≤ v ∧ v < 4294967296) :
  Calls Tryd.prog 47 #[.agg #[.int .i64 33, .int .i64 wid, .int .i64 fl, .slice A n c, .int .u32 v], ptr Cv, ptr Cp, ptr Cu] w fun e w' => ∃ F', e = .returned (.tuple #[.int .i64 (((ins (tr U (n2 - 1)) out).1 : Nat) : Int), .bool true]) ∧ Pool w' base P M F' (ins (tr U (n2 - 1)) out).2 ∧ (∀ b, F b → F' b) ∧ (∀ b, F' b → F b ∨ w.heap.size ≤ b) ∧ KeepF F w w' ∧ (ins (tr U (n2 - 1)) out).2.length ≤ out.length + n2 := by
 obtain ⟨im, rfl⟩ : ∃ im : Nat, v = (im : Int) := ⟨v.toNat, by omega⟩
 have him2 : im < 4294967296 := by omega
 have hcap := h2.2.1
 have hmax := h2.2.2.1
 have HT := Lib.hid (fun w1 (hb1 : Below w.heap.size w w1) => take_any (w := w1) (k := n2 - 1) h2 hU (hb.trans (hb1.mono hb.size)) hbase (hP.keep hb1.size fun b e => hb1.block b (hP.lt b e).1) hn (by omega))
 have hvb := (hb.block _ (lt_of_block hCv)).trans hCv
 have hub := (hb.block _ (lt_of_block hCu)).trans hCu
 have hvc := cell_of_one hvb
 have hvl := lt_of_block hvb
 have huc := cell_of_one hub
 have hul := lt_of_block hub
 have hpc := cell_of_one hCp
 have hpl := lt_of_block hCp
 have e1 : ((n2 : Nat) : Int) - 1 = ((n2 - 1 : Nat) : Int) := by omega
 have HP := Lib.hid hP
 clear hCv hCu hCp hvb hub him h2 hP hn hb
 generalize ins (tr U (n2 - 1)) out = q at HT ⊢
 go_enter Tryd.func47, Tryd.ntmps47
 go_wp2_with fail
 refine (HT.out _ ((Below.refl _ _).alloc (Nat.le_refl _) _)).mono ?_
 rintro e w2 ⟨F2, rfl, hP2, g1, g2, g3, g4⟩
 go_wp2
 go_ret2
 refine ⟨F2, rfl, hP2, g1, fun b e => (g2 b e).elim .inl (fun h => .inr (by simp at h; omega)), (keep_of_below ((Below.refl _ _).alloc (Nat.le_refl _) _)).trans g3 (fun _ e => .inl e), g4⟩
section
variable {w0 : World} {A A2u : Option Addr} {n c n2 c2 Cv Cp Cu : Nat} {T U : List Nd} {v : Int} {r : Tr} {Bp Bt Bs Bv Bq R P M base : Nat}
set_option maxRecDepth 100000 in
set_option maxHeartbeats 8000000 in
theorem takeVisitS_any (h0 : Term w0 A n c T) (hT : FineT T) (h2 : Term w0 A2u n2 c2 U) (hU : FineT U) (hn2 : n2 ≤ 300) (h1n : 1 ≤ n2) (hr : tr U (n2 - 1) = r) (hCv : w0.heap[Cv]? = some (.cells #[.int .i64 v] 3 (0, 0))) (hCu : w0.heap[Cu]? = some (.cells #[.slice A2u n2 c2] 22 (0, 0))) (hbase : w0.heap.size ≤ base) (hR0 : w0.heap.size ≤ R) :
  ∀ (f k : Nat) (F : Nat → Prop) (a : Nat → Int) (out : List Nd) (w : World), k < n → k < f → TakeX w0 A n c Bp Bt Bs Bv Bq R P M base (fnV 47 #[ptr Cv, ptr Cp, ptr Cu]) Cp F a out (sbT T v r) w → out.length + 301 * cntN a n < 800000 →
   Calls Tryd.prog 66 #[.int .i64 (k : Int), ptr Bp, ptr Bt, ptr Bs, ptr Bv, ptr Bq] w fun e w' => ∃ (F' : Nat → Prop) (a' : Nat → Int), e = .returned (.int .i64 (((ins (sbT T v r k) out).1 : Nat) : Int)) ∧ TakeX w0 A n c Bp Bt Bs Bv Bq R P M base (fnV 47 #[ptr Cv, ptr Cp, ptr Cu]) Cp F' a' (ins (sbT T v r k) out).2 (sbT T v r) w' ∧ (∀ b, F b → F' b) ∧ (∀ b, F' b → F b ∨ w.heap.size ≤ b) ∧ KeepF (fun b => F b ∨ b = R) w w' ∧ (ins (sbT T v r k) out).2.length + 301 * cntN a' n ≤ out.length + 301 * cntN a n ∧ ∀ j, k < j → a' j = a j
 | 0, k, _, _, _, _, _, hf, _, _ => by omega
 | f + 1, k, F, a, out, w, hk, hf, hW, hlen => by
  have IH := Lib.hid (takeVisitS_any h0 hT h2 hU hn2 h1n hr hCv hCu hbase hR0 f)
  have hcap0 := h0.2.1
  have hmax0 := h0.2.2.1
  have hp0 := cell_of_one hW.bp
  have hpl := lt_of_block hW.bp
  obtain ⟨hrc, hrf⟩ := hW.row.cell hk
  have hrl := hW.row.lt
  by_cases hpl0 : 0 ≤ a k
  ·have HI := Lib.hid (ins_has (sbT T v r k) out _ hW.pool.once (hW.inv k hk hpl0))
   have HV := Lib.hid (show (a k) = (((ins (sbT T v r k) out).1 : Nat) : Int) by rw [HI.out]; simp only; omega)
   have HW := Lib.hid hW
   have e1 : decide (0 ≤ a k) = true := decide_eq_true hpl0
   have HL := Lib.hid hlen
   clear hW hlen hf
   generalize a k = x at hrc e1 HV hpl0
   clear hpl0
   go_enter Tryd.func66, Tryd.ntmps66
   go_wp2
   go_ret
   exact ⟨F, a, by exact ret_i HV.out, by rw [HI.out]; exact HW.out, fun _ h => h, fun _ h => .inl h, KeepF.refl _ _, by rw [HI.out]; exact Nat.le_refl _, fun _ _ => rfl⟩
  ·have HNEG := Lib.hid hpl0
   have e1 : decide (0 ≤ a k) = false := decide_eq_false hpl0
   obtain ⟨b, off, A', n', c', rfl, hbs0, ht0, hI, himm⟩ := h0.at_ hk
   have hkT : k < T.length := by rw [← h0.1]; exact hk
   by_cases hvar : T[k]!.op = 33 ∧ T[k]!.imm = v
   ·have hok := ins_ok r out hW.pool.once
    have HOK := Lib.hid (And.intro hok.2.1 (show Has (ins r out).2 (sbT T v r k) (ins r out).1 by rw [show sbT T v r k = r from subT_var hT.down hkT v r hvar]; exact hok.2.2))
    have HDST := Lib.hid (show sbT T v r k = r from subT_var hT.down hkT v r hvar)
    have HSY := Lib.hid (fun w1 (hb1 : Below w.heap.size w w1) wid fl => putSwap_yes (w := w1) (wid := wid) (fl := fl) (A := A') (n := n') (c := c') h2 hU (hW.below.trans (hb1.mono hW.below.size)) hbase (hW.grow hb1).pool (by omega) h1n hCv hCu (hW.grow hb1).bx (by rw [← hvar.2]; exact himm))
    rw [hr] at HSY
    obtain ⟨hop, him⟩ := hvar
    have HW := Lib.hid hW
    have HL := Lib.hid hlen
    obtain ⟨a0, a1, a2, a3, a4⟩ := ht0.below hbs0 hW.below
    have hbs := Nat.lt_of_lt_of_le hbs0 hW.below.size
    have htc := cell_of_one hW.bt
    have htl := lt_of_block hW.bt
    have hsc := cell_of_one hW.bs
    have hsl := lt_of_block hW.bs
    rw [hop] at a0
    rw [him] at a4
    clear hW hI ht0 hbs0 hlen himm hop him hok
    generalize T[k]!.width = wid at a1
    generalize T[k]!.flags = fl at a2
    have HCP := Lib.hid (show ∀ x : Int, 0 ≤ x → cntN (updZ a k x) n + 1 = cntN a n from fun x hx => cntN_put (by omega) hx n hk)
    generalize hak : a k = ak at hrc e1 HNEG
    clear hak hpl0
    generalize hJ : ins r out = J at HSY HOK
    have HJ := Lib.hid hJ
    clear hJ
    go_enter Tryd.func66, Tryd.ntmps66
    go_upto_region 4 with fail
    have hb1 : Below w.heap.size w (w.alloc (.cells #[.int .i64 33, .int .i64 wid, .int .i64 fl, .slice A' n' c', .int .u32 v] 47)) := (Below.refl _ _).alloc (Nat.le_refl _) _
    have hx := heap_alloc_new w (.cells #[.int .i64 33, .int .i64 wid, .int .i64 fl, .slice A' n' c', .int .u32 v] 47)
    generalize World.alloc w _ = W1 at hx hb1 ⊢
    obtain ⟨d0, d1, d2, d3, d4⟩ := cells5 (x := ⟨33, wid, fl, [], v⟩) hx
    simp only at d0 d1 d2 d3 d4
    have hDl := lt_of_block hx
    have hsc1 := (hb1.cell (p := ⟨Bs, 0, none⟩) hsl).trans hsc
    have hsl1 := Nat.lt_of_lt_of_le hsl hb1.size
    have HB1 := Lib.hid hb1
    clear a0 a1 a2 a3 a4 hp0 hpl hrc hrf hrl hsc hsl htc htl hx hb1
    obtain ⟨D, hDE⟩ : ∃ D, w.heap.size = D := ⟨_, rfl⟩
    have HDE := Lib.hid hDE
    rw [hDE] at d0 d1 d2 d3 d4 hDl ⊢
    clear hDE
    go_wp2_with fail
    refine (HSY.out _ HB1.out wid fl).mono ?_
    rintro e w2 ⟨F2, rfl, hP2, g1, g2, g3, g4⟩
    have hW1 := HW.out.grow HB1.out
    have hs1 := HB1.out.size
    have hr2 := hW1.row.keep (g3.block _ hW1.row.lt hW1.nF.1)
    obtain ⟨hrc2, hrf2⟩ := hr2.cell hk
    have hrl2 := hr2.lt
    have hp2 := (g3.block _ (lt_of_block hW1.bp) hW1.nF.2.1).trans hW1.bp
    have hpc2 := cell_of_one hp2
    have hpl2 := lt_of_block hp2
    have HPL := Lib.hid (hW1.place g3 hP2 g2 HOK.out.1 hbase hR0 (k := k) (i := J.1) HOK.out.2)
    have HKF := Lib.hid (show KeepF (fun b => F b ∨ b = R) w (w2.setCell ⟨R, k, none⟩ (.int .i64 (J.1 : Int))) from ((keep_of_below HB1.out).trans g3 (fun b e => .inl (.inl e))).trans (keep_set w2 R k (.int .i64 (J.1 : Int))) (fun b e => .inl (.inr e)))
    have HLE := Lib.hid (show J.2.length + 301 * cntN (updZ a k (J.1 : Int)) n ≤ out.length + 301 * cntN a n by have := HCP.out (J.1 : Int) (by omega); omega)
    have HG := Lib.hid (And.intro g1 (show ∀ b, F2 b → F b ∨ w.heap.size ≤ b from fun b e => (g2 b e).elim .inl (fun h => .inr (by omega))))
    clear hW1 hr2 hp2 g1 g2 g3 g4 hP2 d0 d1 d2 d3 d4
    go_wp2
    go_ret
    refine ⟨F2, updZ a k (J.1 : Int), by exact ret_i (by rw [HDST.out, HJ.out]), ?_, HG.out.1, HG.out.2, HKF.out, ?_, fun j hj => by rw [updZ, if_neg (by omega)]⟩
    ·rw [HDST.out, HJ.out]
     exact HPL.out
    ·rw [HDST.out, HJ.out]
     exact HLE.out

   have HIN := Lib.hid (ins_nodeS hT.down hkT v r out hvar)
   have HDN := Lib.hid (hT.down k hkT)
   have HTK := Lib.hid (fun q p (hq : q < n') hp => argS_take (T := T) (v := v) (r := r) (k := k) (q := q) (p := p) (by rw [← hI.1]; exact hq) hp)
   have HALL := Lib.hid (show (argS T v r k).take n' = argS T v r k from List.take_of_length_le (by unfold argS; rw [List.length_map, hI.1]; exact Nat.le_refl _))
   have HFO := Lib.hid (And.intro (hT.op k hkT) (And.intro (hT.width k hkT) (And.intro (hT.flags k hkT) (And.intro (hT.imm k hkT) (hT.len k hkT)))))
   have HNL := Lib.hid hI.1
   have HW := Lib.hid hW
   have HB0 := Lib.hid hbs0
   have HT0 := Lib.hid ht0
   have HII := Lib.hid hI
   have hcapI := hI.2.1
   have hmaxI := hI.2.2.1
   have HL := Lib.hid hlen
   obtain ⟨a0, a1, a2, a3, a4⟩ := ht0.below hbs0 hW.below
   have hbs := Nat.lt_of_lt_of_le hbs0 hW.below.size
   have htc := cell_of_one hW.bt
   have htl := lt_of_block hW.bt
   have hsc := cell_of_one hW.bs
   have hsl := lt_of_block hW.bs
   have HVN := Lib.hid (And.intro himm hvar)
   clear hW hI ht0 hbs0 hlen himm hvar
   generalize argS T v r k = cs at HIN HTK HALL
   generalize T[k]! = x at a0 a1 a2 a3 a4 HIN HDN HTK HFO HNL HT0 HII HVN
   obtain ⟨op, wid, fl, args, imm⟩ := x
   simp only at a0 a1 a2 a3 a4 HIN HDN HTK HFO HNL HT0 HII HVN
   generalize hak : a k = ak at hrc e1 HNEG
   have HAK := Lib.hid hak
   clear hak hpl0
   go_enter Tryd.func66, Tryd.ntmps66
   go_upto_region 4 with fail
   have hx := heap_alloc_new w (.cells #[.int .i64 op, .int .i64 wid, .int .i64 fl, .slice A' n' c', .int .u32 imm] 47)
   have hb1 : Below w.heap.size w (w.alloc (.cells #[.int .i64 op, .int .i64 wid, .int .i64 fl, .slice A' n' c', .int .u32 imm] 47)) := (Below.refl _ _).alloc (Nat.le_refl _) _
   have hz1 : (w.alloc (.cells #[.int .i64 op, .int .i64 wid, .int .i64 fl, .slice A' n' c', .int .u32 imm] 47)).heap.size = w.heap.size + 1 := by simp
   have hKP := Lib.hid (fun w1 (hb : Below w0.heap.size w0 w1) => putSwap_no (w := w1) (wid := wid) (fl := fl) (A := A') (n := n') (c := c') (Cp := Cp) (Cu := Cu) ((hb.block _ (lt_of_block hCv)).trans hCv) HVN.out.1 HVN.out.2)
   generalize World.alloc w _ = W1 at hx hb1 hz1 ⊢
   have HZ1 := Lib.hid hz1
   clear hz1
   obtain ⟨D, hDE⟩ : ∃ D, w.heap.size = D := ⟨_, rfl⟩
   have HDE := Lib.hid hDE
   rw [hDE] at hx ⊢
   clear hDE
   have hsc1 := (hb1.cell (p := ⟨Bs, 0, none⟩) hsl).trans hsc
   have hsl1 := Nat.lt_of_lt_of_le hsl hb1.size
   obtain ⟨d0, d1, d2, d3, d4⟩ := cells5 (x := ⟨op, wid, fl, args, imm⟩) hx
   simp only at d0 d1 d2 d3 d4
   have hDl := lt_of_block hx
   clear a0 a1 a2 a3 a4 hp0 hpl hrc hrf hrl hsc hsl htc htl
   go_wp2_with fail
   refine (hKP.out _ (HW.out.below.trans (hb1.mono HW.out.below.size))).mono ?_
   rintro e w2 ⟨rfl, hb2⟩
   have hx2 := (hb2.block _ hDl).trans hx
   have hb12 := hb1.trans (hb2.mono hb1.size)
   have hD2l := lt_of_block hx2
   have hd2 : w2.cell? ⟨D, 3, none⟩ = some (.slice A' n' c') ∧ w2.frozen? ⟨D, 3, none⟩ = false := ⟨(cells5 (x := ⟨op, wid, fl, args, imm⟩) hx2).2.2.2.1, by simp [World.frozen?, hx2]⟩
   obtain ⟨hd2a, hd2b⟩ := hd2
   clear hsc1 hsl1 d0 d1 d2 d3 d4 hx hb1
   go_upto_region 9 with fail
   have hx3 : (w2.setCell ⟨D, 3, none⟩ (.slice none 0 0)).heap[D]? = some (.cells #[.int .i64 op, .int .i64 wid, .int .i64 fl, .slice none 0 0, .int .u32 imm] 47 (0, 0)) := (heap_setCell_same w2 D 3 _ _ _ hx2).trans rfl
   have hk3 := keep_set w2 D 3 (.slice none 0 0)
   generalize World.setCell w2 _ _ = w3 at hx3 hk3 ⊢
   have hDw : ∀ b, b < w.heap.size → b ≠ D := fun b hb => by have := HDE.out; omega
   have hW3 : TakeX w0 (some ⟨b, off, none⟩) n c Bp Bt Bs Bv Bq R P M base (fnV 47 #[ptr Cv, ptr Cp, ptr Cu]) Cp F a out (sbT T v r) w3 := (HW.out.grow hb12).move hk3 (fun b e => by have := HW.out.below.size; have := HDE.out; omega) (fun b hb e => hDw b (HW.out.pool.lt b hb).1 e) (hDw _ HW.out.row.lt) (hDw _ (lt_of_block HW.out.bp)) (hDw _ (lt_of_block HW.out.bt)) (hDw _ (lt_of_block HW.out.bs)) (hDw _ (lt_of_block HW.out.bv)) (hDw _ (lt_of_block HW.out.bq)) (hDw _ (lt_of_block HW.out.bx))
   have hK3 : KeepF (fun b => F b ∨ b = R) w w3 := (keep_of_below hb12).trans hk3 (fun k e => .inr (by have := HDE.out; omega))
   have hs3 : D + 1 ≤ w3.heap.size := by have h1 := hb2.size; have h2 := hk3.size; have := HZ1.out; have := HDE.out; omega
   clear hx2 hb12 hb2 hk3 hd2a hd2b hD2l hDl
   have htc := cell_of_one hW3.bt
   have htl := lt_of_block hW3.bt
   obtain ⟨a0, a1, a2, a3, a4⟩ := HT0.out.below HB0.out hW3.below
   have hbs3 := Nat.lt_of_lt_of_le HB0.out hW3.below.size
   clear hbs
   go_wp2
   clear htc htl a0 a1 a2 a3 a4 hbs3
   go_loopw [46] (fun zi wr => ∃ (q : Nat) (Fq : Nat → Prop) (aq : Nat → Int) (vl : Value), q ≤ n' ∧ zi = .int .i64 (q : Int) ∧ TakeX w0 (some ⟨b, off, none⟩) n c Bp Bt Bs Bv Bq R P M base (fnV 47 #[ptr Cv, ptr Cp, ptr Cu]) Cp Fq aq (insL (cs.take q) out).2 (sbT T v r) wr ∧ wr.heap[D]? = some (.cells #[.int .i64 op, .int .i64 wid, .int .i64 fl, vl, .int .u32 imm] 47 (0, 0)) ∧ wr.ownsRow (D + 1) 3 1 vl q (iV (natI (insL (cs.take q) out).1)) ∧ Hid ((∀ b, vl.ownBlock = some b → ¬ Fq b ∧ b ≠ R) ∧ (q = 0 → vl = .slice none 0 0) ∧ (∀ b, F b → Fq b) ∧ (∀ b, Fq b → F b ∨ D + 1 ≤ b) ∧ KeepF (fun b => F b ∨ b = R) w wr ∧ (insL (cs.take q) out).2.length + 301 * cntN aq n ≤ out.length + 301 * cntN a n ∧ (∀ j, k ≤ j → aq j = a j) ∧ D + 1 ≤ wr.heap.size)) (fun zi _ => n' - (intOf zi).toNat)
   case atStart => exact ⟨0, F, a, .slice none 0 0, by omega, rfl, by rw [List.take_zero, insL]; exact hW3, hx3, World.ownsRow_nil _ _ _ _, Lib.hid ⟨fun b e => by simp [Value.ownBlock] at e, fun _ => rfl, fun _ h => h, fun _ h => .inl h, hK3, by rw [List.take_zero, insL]; exact Nat.le_refl _, fun _ _ => rfl, hs3⟩⟩
   case round =>
    clear hW3 hK3 hx3 hs3
    obtain ⟨q, Fq, aq, vl, hq, rfl, hWq, hx, hown, HH⟩ := hrel
    obtain ⟨h1, h2, h3, h4, h5, h6, h7, h8⟩ := HH.out
    by_cases hlt : q < n'
    ·obtain ⟨p, hp, hpk⟩ := HDN.out q (by rw [← HNL.out]; exact hlt)
     have HTQ := Lib.hid (HTK.out q p hlt hp)
     have HC := Lib.hid (IH.out p Fq aq _ wr (by omega) (by omega) hWq (by have := HL.out; omega))
     have hvc := cell_of_one hWq.bv
     have hvl := lt_of_block hWq.bv
     obtain ⟨bA, oA, rfl, hbA, hcA⟩ := (HII.out.below hWq.below).at_ hlt
     rw [hp] at hcA
     have HOW := Lib.hid hown
     have HXD := Lib.hid hx
     clear hp hown hx
     go_wp2_with fail
     refine HC.out.mono ?_
     rintro e w4 ⟨F4, a4, rfl, hW4, g1, g2, g3, g4, g5⟩
     have hn3 : n' ≤ 3 := by
      have h1 := HFO.out.2.2.2.2
      have h2 := argN_le (op := op)
      have h3 := HNL.out
      omega
     have hvs := own_lt HOW.out
     have hvb := own_base HOW.out
     have hDw : ∀ b, b < w.heap.size → b < D + 1 := fun b hb => by have := HDE.out; omega
     have hnFq : ¬ Fq D := fun e => by
      rcases h4 D e with e | e
      ·have := (HW.out.pool.lt D e).1
       have := HDE.out
       omega
      ·omega
     have hDR : D ≠ R := fun e => by have := HW.out.row.lt; have := HDE.out; omega
     have hx4 := (g3.block D (by omega) (fun e => e.elim hnFq hDR)).trans HXD.out
     have hown4 := ownsRow_keep HOW.out (fun b e => g3.block b (hvs b e) (fun e2 => e2.elim (h1 b e).1 (h1 b e).2))
     have hv4F : ∀ b, vl.ownBlock = some b → ¬ F4 b := fun b e e2 => by
      rcases g2 b e2 with e3 | e3
      ·exact (h1 b e).1 e3
      ·have := hvs b e
       omega
     have hnF4 : ¬ F4 D := fun e => by
      rcases g2 D e with e | e
      ·exact hnFq e
      ·omega
     have hs4 := g3.size
     obtain ⟨Av, cv, rfl, hcv, hcvm⟩ := own_slice hown4
     obtain ⟨d0, d1, d2, d3, d4⟩ : w4.cell? ⟨D, 0, none⟩ = some (.int .i64 op) ∧ w4.cell? ⟨D, 1, none⟩ = some (.int .i64 wid) ∧ w4.cell? ⟨D, 2, none⟩ = some (.int .i64 fl) ∧ w4.cell? ⟨D, 3, none⟩ = some (.slice Av q cv) ∧ w4.cell? ⟨D, 4, none⟩ = some (.int .u32 imm) := by
      refine ⟨?_, ?_, ?_, ?_, ?_⟩ <;> simp [World.cell?, hx4]
     have hD4l := lt_of_block hx4
     have HR4 := Lib.hid (show insL (cs.take (q + 1)) out = ((insL (cs.take q) out).1 ++ [(ins (sbT T v r p) (insL (cs.take q) out).2).1], (ins (sbT T v r p) (insL (cs.take q) out).2).2) by rw [HTQ.out, insL_snoc])
     have HK4 := Lib.hid (h5.trans g3 (fun b e => by
      rcases e with e | e
      ·rcases h4 b e with e2 | e2
       ·exact .inl (.inl e2)
       ·exact .inr (by have := HDE.out; omega)
      ·exact .inl (.inr e)))
     clear hvc hvl hbA hcA d0 d1 d2 d4
     generalize (ins (sbT T v r p) (insL (cs.take q) out).2).1 = z at HR4 ⊢
     obtain ⟨i0, hi, hz0, hz1, hz2⟩ := info_parts infoI
     have HX4 := Lib.hid hx4
     go_wp2_with (at_builtin; refine wpList_append_own_at _ rfl _ _ 25 rfl (D + 1) 3 i0 (.int .i64 0) 1 8 Tryd.underlying25 hi hz0 hz1 hz2 rfl (by decide) _ _ _ rfl (hown4.alloc _) ⟨w4.heap.size, 0, none⟩ 1 1 [.int .i64 (z : Int)] rfl rfl (one_new w4 _ _) ?k2 ?k3 ?k4 ?k5 ?_)
     case k2 => simp [Value.oneCell']
     case k3 => unfold maxLen; omega
     case k4 => omega
     case k5 => simp; omega
     intro v2 w5 hown5 hg5 _ hloc5
     obtain ⟨A2, c2, rfl, hc2, hc2m⟩ := own_slice hown5
     have hs5 := hg5.size
     have hs4a : (w4.alloc (.cells #[.int .i64 (z : Int)] 3)).heap.size = w4.heap.size + 1 := by simp
     rw [hs4a] at hs5
     have hb4 : Below w4.heap.size w4 (w4.alloc (.cells #[.int .i64 (z : Int)] 3)) := (Below.refl _ _).alloc (Nat.le_refl _) _
     have hvD : ∀ b, (Value.slice Av q cv).ownBlock = some b → D + 1 ≤ b := fun b e => own_base hown4 b e
     have hW5 := (hW4.grow hb4).move (keep_grown hg5) (fun b e => by have := hvD b e; have := HW.out.below.size; have := HDE.out; omega) (fun b hb e => hv4F b e hb) (fun e => (h1 R e).2 rfl) (fun e => by have := hvD _ e; have := hDw _ (lt_of_block HW.out.bp); omega) (fun e => by have := hvD _ e; have := hDw _ (lt_of_block HW.out.bt); omega) (fun e => by have := hvD _ e; have := hDw _ (lt_of_block HW.out.bs); omega) (fun e => by have := hvD _ e; have := hDw _ (lt_of_block HW.out.bv); omega) (fun e => by have := hvD _ e; have := hDw _ (lt_of_block HW.out.bq); omega) (fun e => by have := hvD _ e; have := hDw _ (lt_of_block HW.out.bx); omega)
     have hx5 := ((hg5.block D (by omega) (fun e => by have := hvD D e.symm; omega)).trans (heap_alloc_old w4 (.cells #[.int .i64 (z : Int)] 3) hD4l)).trans HX4.out
     have hd5 : w5.cell? ⟨D, 3, none⟩ = some (.slice Av q cv) ∧ w5.frozen? ⟨D, 3, none⟩ = false := ⟨by simp [World.cell?, hx5], by simp [World.frozen?, hx5]⟩
     obtain ⟨hd5a, hd5b⟩ := hd5
     have hD5l := lt_of_block hx5
     have hK5 := (HK4.out.trans (keep_of_below (F := fun _ => False) hb4) (fun _ e => e.elim)).trans (keep_grown hg5) (fun b e => .inr (by have := hvD b e; have := HDE.out; omega))
     have hx6 : (w5.setCell ⟨D, 3, none⟩ (.slice A2 (q + 1) c2)).heap[D]? = some (.cells #[.int .i64 op, .int .i64 wid, .int .i64 fl, .slice A2 (q + 1) c2, .int .u32 imm] 47 (0, 0)) := (heap_setCell_same w5 D 3 _ _ _ hx5).trans rfl
     have hk6 := keep_set w5 D 3 (.slice A2 (q + 1) c2)
     have hDw2 : ∀ b, b < w.heap.size → b ≠ D := fun b hb => by have := HDE.out; omega
     have hW6 := Lib.hid (hW5.move hk6 (fun b e => by have := HW.out.below.size; have := HDE.out; omega) (fun b hb e => by rw [e] at hb; exact hnF4 hb) (hDw2 _ HW.out.row.lt) (hDw2 _ (lt_of_block HW.out.bp)) (hDw2 _ (lt_of_block HW.out.bt)) (hDw2 _ (lt_of_block HW.out.bs)) (hDw2 _ (lt_of_block HW.out.bv)) (hDw2 _ (lt_of_block HW.out.bq)) (hDw2 _ (lt_of_block HW.out.bx)))
     have hown6 := Lib.hid (show (w5.setCell ⟨D, 3, none⟩ (.slice A2 (q + 1) c2)).ownsRow (D + 1) 3 1 (.slice A2 (q + 1) c2) (q + 1) (iV (natI (insL (cs.take (q + 1)) out).1)) from by
      rw [HR4.out, natI_snoc, iV_app]
      exact ownsRow_keep hown5 (fun b e => hk6.block b (own_lt hown5 b e) (fun e2 => by have := own_base hown5 b e; omega)))
     have HQ6 := Lib.hid (show (∀ b, (Value.slice A2 (q + 1) c2).ownBlock = some b → ¬ F4 b ∧ b ≠ R) ∧ (q + 1 = 0 → Value.slice A2 (q + 1) c2 = .slice none 0 0) ∧ (∀ b, F b → F4 b) ∧ (∀ b, F4 b → F b ∨ D + 1 ≤ b) ∧ KeepF (fun b => F b ∨ b = R) w (w5.setCell ⟨D, 3, none⟩ (.slice A2 (q + 1) c2)) ∧ (insL (cs.take (q + 1)) out).2.length + 301 * cntN a4 n ≤ out.length + 301 * cntN a n ∧ (∀ j, k ≤ j → a4 j = a j) ∧ D + 1 ≤ (w5.setCell ⟨D, 3, none⟩ (.slice A2 (q + 1) c2)).heap.size from by
      refine ⟨fun b e => ?_, fun e => by omega, fun b hb => g1 b (h3 b hb), fun b hb => ?_, hK5.trans hk6 (fun b e => .inr (by have := HDE.out; omega)), ?_, fun j hj => (g5 j (by omega)).trans (h7 j hj), by have := hk6.size; omega⟩
      ·rcases hloc5 with e2 | e2
       ·rw [e2] at e
        exact ⟨hv4F b e, (h1 b e).2⟩
       ·rw [e2] at e
        injection e with e
        subst e
        refine ⟨fun hh => ?_, fun hh => ?_⟩
        ·have := (hW4.pool.lt _ hh).1
         omega
        ·have := hW4.row.lt
         omega
      ·rcases g2 b hb with e | e
       ·exact h4 b e
       ·exact .inr (by omega)
      ·rw [HR4.out]
       exact Nat.le_trans g4 h6)
     have HO6 := Lib.hid (show (insL (cs.take (q + 1)) out).2 = (ins (sbT T v r p) (insL (cs.take q) out).2).2 by rw [HR4.out])
     have HX6 := Lib.hid hx6
     clear hW4 hW5 hK5 hx6 hk6 hx5 hx4 hg5 hown5 hown4 g1 g2 g3 g4 g5 h1 h2 h3 h4 h5 h6 h7 d3
     go_wp2
     go_roundw
     case rel => exact ⟨q + 1, F4, a4, _, by omega, by go_num, by rw [HO6.out]; exact hW6.out, HX6.out, hown6.out, HQ6⟩
     case measure => simp [intOf]; omega
    ·obtain rfl : q = n' := by omega
     rw [HALL.out] at hWq hown h6
     have hok := insL_ok cs out HW.out.pool.once
     have hlen7 : (insL cs out).2.length < 900000 := by have := HL.out; omega
     have hins : (natI (insL cs out).1).length = args.length := by
      rw [natI, List.length_map, insL_len, ← HNL.out]
      have h1 := congrArg List.length HALL.out
      have h2 := hown.1
      rw [iV, List.length_map, natI, List.length_map, insL_len] at h2
      omega
     have hfy : Fine ⟨op, wid, fl, natI (insL cs out).1, imm⟩ := ⟨HFO.out.1, HFO.out.2.1, HFO.out.2.2.1, HFO.out.2.2.2.1, by rw [hins]; exact HFO.out.2.2.2.2, fun j hj => by
      rw [natI, List.length_map] at hj
      have h1 := hasL_lt _ _ hok.2.2 j hj
      have e : (natI (insL cs out).1)[j]! = (((insL cs out).1[j]! : Nat) : Int) := by simp [natI, hj]
      rw [e]
      omega⟩
     obtain ⟨A2, c2, rfl, hI2⟩ := own_ints hown
     have hnil : q = 0 → A2 = none ∧ c2 = 0 := fun e => by
      have := h2 e
      injection this with e1 _ e3
      exact ⟨e1, e3⟩
     have hAF2 : ∀ b' off', A2 = some ⟨b', off', none⟩ → ¬ Fq b' := fun b' off' e => (h1 b' (by rw [e]; rfl)).1
     have HADD := Lib.hid (poolAdd_any (w := wr.drew) (hWq.pool.keep (w' := wr.drew) (Nat.le_refl _) (fun _ _ => rfl)) ⟨op, wid, fl, natI (insL cs out).1, imm⟩ (hI2.below (w' := wr.drew) (drewD (Below.refl _ _))) hnil hAF2 hfy (by omega))
     have hDR : D ≠ R := fun e => by have := HW.out.row.lt; have := HDE.out; omega
     have hnFq : ¬ Fq D := fun e => by
      rcases h4 D e with e | e
      ·have := (HW.out.pool.lt D e).1
       have := HDE.out
       omega
      ·omega
     have HS := Lib.hid (show ∀ U : World, (∀ b, b < wr.heap.size → ¬ Fq b → b ≠ R → U.heap[b]? = wr.heap[b]?) → U.cell? ⟨Bp, 0, none⟩ = some (.slice (some ⟨R, 0, none⟩) n n) ∧ U.cell? ⟨Bq, 0, none⟩ = some (ptr P) ∧ U.cell? ⟨D, 0, none⟩ = some (.int .i64 op) ∧ U.cell? ⟨D, 1, none⟩ = some (.int .i64 wid) ∧ U.cell? ⟨D, 2, none⟩ = some (.int .i64 fl) ∧ U.cell? ⟨D, 3, none⟩ = some (.slice A2 q c2) ∧ U.cell? ⟨D, 4, none⟩ = some (.int .u32 imm) from fun U hU => by
      have hd := (hU D (by omega) hnFq hDR).trans hx
      refine ⟨cell_of_one ((hU _ (lt_of_block hWq.bp) hWq.nF.2.1 hWq.nR.1).trans hWq.bp), cell_of_one ((hU _ (lt_of_block hWq.bq) hWq.nF.2.2.2.2.2 hWq.nR.2.2.2.2).trans hWq.bq), ?_⟩
      refine ⟨?_, ?_, ?_, ?_, ?_⟩ <;> simp [World.cell?, hd])
     have HWQ := Lib.hid hWq
     have HH2 := Lib.hid (And.intro h3 (And.intro h4 (And.intro h5 (And.intro h6 h7))))
     have HON := Lib.hid hok
     obtain ⟨hrc, hrf⟩ := hWq.row.cell hk
     have hakq : aq k = ak := (h7 k (Nat.le_refl _)).trans HAK.out
     have HAKQ := Lib.hid hakq
     rw [hakq] at hrc
     have hrl := hWq.row.lt
     clear hWq hown hI2 h1 h2 h3 h4 h5 h6 h7 hx hlen7 hins hfy hnil hAF2 hok hakq
     simp only at HADD
     have HHAS := Lib.hid (show Has (addP (insL cs out).2 ⟨op, wid, fl, natI (insL cs out).1, imm⟩) (sbT T v r k) (ix (insL cs out).2 ⟨op, wid, fl, natI (insL cs out).1, imm⟩) from by
      have := (ins_ok (sbT T v r k) out HW.out.pool.once).2.2
      rw [HIN.out] at this
      exact this)
     obtain ⟨I, hI⟩ : ∃ I, ix (insL cs out).2 ⟨op, wid, fl, natI (insL cs out).1, imm⟩ = I := ⟨_, rfl⟩
     obtain ⟨O, hO⟩ : ∃ O, addP (insL cs out).2 ⟨op, wid, fl, natI (insL cs out).1, imm⟩ = O := ⟨_, rfl⟩
     have HPRE := Lib.hid (show Pre (insL cs out).2 O ∧ O.length ≤ (insL cs out).2.length + 1 from by
      rw [← hO]
      refine ⟨addP_pre _, ?_⟩
      unfold addP
      split
      ·omega
      ·simp)
     rw [hI, hO] at HADD HHAS HIN
     clear hI hO
     go_upto_region 15 with fail
     refine wp_region_held_drew (S := (fun U => U.cell? ⟨Bp, 0, none⟩ = some (.slice (some ⟨R, 0, none⟩) n n) ∧ U.cell? ⟨Bq, 0, none⟩ = some (ptr P) ∧ U.cell? ⟨D, 0, none⟩ = some (.int .i64 op) ∧ U.cell? ⟨D, 1, none⟩ = some (.int .i64 wid) ∧ U.cell? ⟨D, 2, none⟩ = some (.int .i64 fl) ∧ U.cell? ⟨D, 3, none⟩ = some (.slice A2 q c2) ∧ U.cell? ⟨D, 4, none⟩ = some (.int .u32 imm))) (by kernel_rfl) ?_ (fun hHeld => ?_)
     ·exact HS.out _ (by first | exact fun _ _ _ _ => rfl | exact fun b hb hn _ => hk7.block b hb hn | exact fun b hb hn hne => (((keep_set w7 R k _).block b (by have := hk7.size; omega) hne).trans (hk7.block b hb hn)))
     refine wpAnyH_take (i := 0) (oi := ({ dst := some 60, op := Op.load 25 (Operand.tmp 1), type := 25, pos := "pool.go:67", after := #[], guard := none } : Oper)) (v := ?a1_v0) rfl (by kernel_rfl) (by kernel_rfl) (by kernel_rfl) (fun _ _ _ h => h) (Or.inl ⟨by rfl, ?a1_y0⟩) (by assumption) ?a1_r0
     case a1_y0 =>
      intro w hSw
      (try dsimp only at hSw)
      go_simp
      (try with_reducible rfl)
     try simp only [Act.put, List.setIfInBounds_toArray, List.set_cons_zero, List.set_cons_succ]
     refine wpAnyH_take (i := 1) (oi := ({ dst := some 61, op := Op.move (Operand.tmp 0), type := 3, pos := "pool.go:67", after := #[], guard := none } : Oper)) (v := ?a2_v1) rfl (by kernel_rfl) (by kernel_rfl) (by kernel_rfl) (fun _ _ _ h => h) (Or.inl ⟨by rfl, ?a2_y1⟩) (by assumption) ?a2_r1
     case a2_y1 =>
      intro w hSw
      (try dsimp only at hSw)
      go_simp
      (try with_reducible rfl)
     try simp only [Act.put, List.setIfInBounds_toArray, List.set_cons_zero, List.set_cons_succ]
     refine wpAnyH_take (i := 2) (oi := ({ dst := some 62, op := Op.load 69 (Operand.tmp 5), type := 69, pos := "pool.go:67", after := #[], guard := none } : Oper)) (v := ?a3_v2) rfl (by kernel_rfl) (by kernel_rfl) (by kernel_rfl) (fun _ _ _ h => h) (Or.inl ⟨by rfl, ?a3_y2⟩) (by assumption) ?a3_r2
     case a3_y2 =>
      intro w hSw
      (try dsimp only at hSw)
      go_simp
      (try with_reducible rfl)
     try simp only [Act.put, List.setIfInBounds_toArray, List.set_cons_zero, List.set_cons_succ]
     refine wpAnyH_take (i := 3) (oi := ({ dst := some 63, op := Op.load 47 (Operand.tmp 8), type := 47, pos := "pool.go:67", after := #[], guard := none } : Oper)) (v := ?a4_v3) rfl (by kernel_rfl) (by kernel_rfl) (by kernel_rfl) (fun _ _ _ h => h) (Or.inl ⟨by rfl, ?a4_y3⟩) (by assumption) ?a4_r3
     case a4_y3 =>
      intro w hSw
      (try dsimp only at hSw)
      go_simp
      (try with_reducible rfl)
     try simp only [Act.put, List.setIfInBounds_toArray, List.set_cons_zero, List.set_cons_succ]
     refine wpAnyH_ready (rs := [4]) (by kernel_rfl) (by simp) ?_
     refine AllReadyH.cons (o := ({ dst := some 64, op := Op.call { callee := Callee.value (Operand.func 67), args := #[Operand.tmp 62, Operand.tmp 63], argTypes := #[69, 47] }, type := 3, pos := "pool.go:67", after := #[{ on := 2, ground := Ground.data }, { on := 3, ground := Ground.data }], guard := none } : Oper)) rfl (fun K hKK => ?_) AllReadyH.nil
     go_simp
     refine HADD.out.mono ?_
     rintro e w7 ⟨rfl, ⟨F7, g1, g2, g3⟩, g4⟩
     have hk7 : KeepF Fq wr w7 := ⟨g4.os, g4.tape, g4.output, g4.size, g4.block⟩
     have hr7 := HWQ.out.row.keep (hk7.block _ hrl HWQ.out.nF.1)
     obtain ⟨hrc7, hrf7⟩ := hr7.cell hk
     have hrl7 := hr7.lt
     rw [HAKQ.out] at hrc7
     refine hKK.out _ _ (HS.out _ (by first | exact fun _ _ _ _ => rfl | exact fun b hb hn _ => hk7.block b hb hn | exact fun b hb hn hne => (((keep_set w7 R k _).block b (by have := hk7.size; omega) hne).trans (hk7.block b hb hn)))) (fun hS4_4 => ?_)
     try simp only [Act.put, List.setIfInBounds_toArray, List.set_cons_zero, List.set_cons_succ]
     refine wpAnyH_take (i := 5) (oi := ({ dst := some 65, op := Op.indexAddr 25 (Operand.tmp 60) (Operand.tmp 61), type := 0, pos := "pool.go:67", after := #[{ on := 0, ground := Ground.data }, { on := 1, ground := Ground.data }, { on := 0, ground := Ground.phase }, { on := 1, ground := Ground.phase }, { on := 2, ground := Ground.phase }, { on := 3, ground := Ground.phase }, { on := 4, ground := Ground.phase }], guard := none } : Oper)) (v := ?a5_v5) rfl (by kernel_rfl) (by kernel_rfl) (by kernel_rfl) (fun _ _ _ h => h) (Or.inl ⟨by rfl, ?a5_y5⟩) (by assumption) ?a5_r5
     case a5_y5 =>
      intro w hSw
      (try dsimp only at hSw)
      go_simp
      (try with_reducible rfl)
     try simp only [Act.put, List.setIfInBounds_toArray, List.set_cons_zero, List.set_cons_succ]
     refine wpAnyH_ready (rs := [6]) (by kernel_rfl) (by simp) ?_
     refine AllReadyH.cons (o := ({ dst := none, op := Op.store 3 (Operand.tmp 65) (Operand.tmp 64), type := 0, pos := "pool.go:67", after := #[{ on := 5, ground := Ground.data }, { on := 4, ground := Ground.data }, { on := 4, ground := Ground.chain }, { on := 0, ground := Ground.phase }, { on := 1, ground := Ground.phase }, { on := 2, ground := Ground.phase }, { on := 3, ground := Ground.phase }, { on := 4, ground := Ground.phase }], guard := none } : Oper)) rfl (fun K hKK => ?_) AllReadyH.nil
     go_simp
     refine hKK.out _ _ (HS.out _ (by first | exact fun _ _ _ _ => rfl | exact fun b hb hn _ => hk7.block b hb hn | exact fun b hb hn hne => (((keep_set w7 R k _).block b (by have := hk7.size; omega) hne).trans (hk7.block b hb hn)))) (fun hS6_5 => ?_)
     try simp only [Act.put, List.setIfInBounds_toArray, List.set_cons_zero, List.set_cons_succ]
     refine wpAnyH_done (by kernel_rfl) ?_ _
     have HPL := HWQ.out.place hk7 g1 g3 HPRE.out.1 hbase hR0 HHAS.out
     have hcnt := cntN_put (a := aq) (k := k) (x := (I : Int)) (by rw [HAKQ.out]; exact HNEG.out) (by omega) n hk
     have hks := keep_set w7 R k (.int .i64 (I : Int))
     have hp8 := cell_of_one HPL.bp
     have hpl8 := lt_of_block HPL.bp
     have hfin : (∀ b, F b → F7 b) ∧ (∀ b, F7 b → F b ∨ w.heap.size ≤ b) ∧ KeepF (fun b => F b ∨ b = R) w (w7.setCell ⟨R, k, none⟩ (.int .i64 (I : Int))) ∧ O.length + 301 * cntN (updZ aq k (I : Int)) n ≤ out.length + 301 * cntN a n ∧ ∀ j, k < j → updZ aq k (I : Int) j = a j := by
      obtain ⟨h3, h4, h5, h6, h7⟩ := HH2.out
      refine ⟨fun b hb => g2 b (h3 b hb), fun b hb => ?_, (h5.trans hk7 (fun b e => ?_)).trans hks (fun b e => .inl (.inr e)), by have := HPRE.out.2; omega, fun j hj => ?_⟩
      ·rcases g3 b hb with e | e
       ·rcases h4 b e with e2 | e2
        ·exact .inl e2
        ·exact .inr (by have := HDE.out; omega)
       ·exact .inr (Nat.le_trans h5.size e)
      ·rcases h4 b e with e2 | e2
       ·exact .inl (.inl e2)
       ·exact .inr (by have := HDE.out; omega)
      ·rw [updZ, if_neg (by omega)]
       exact h7 j (by omega)
     have HFIN := Lib.hid hfin
     have HPLH := Lib.hid HPL
     clear hfin HPL hks hcnt
     go_wp2
     go_ret
     exact ⟨F7, updZ aq k (I : Int), by rw [HIN.out]; rfl, by rw [HIN.out]; exact HPLH.out, HFIN.out.1, HFIN.out.2.1, HFIN.out.2.2.1, by rw [HIN.out]; exact HFIN.out.2.2.2.1, HFIN.out.2.2.2.2⟩
end
section
variable {w0 w : World} {A A2u : Option Addr} {n c n2 c2 Cv Cp Cu : Nat} {T U : List Nd} {v : Int} {r : Tr} {P M base : Nat} {F : Nat → Prop} {out : List Nd}
set_option maxRecDepth 100000 in
set_option maxHeartbeats 8000000 in
theorem takeS_any (h0 : Term w0 A n c T) (hT : FineT T) (h2 : Term w0 A2u n2 c2 U) (hU : FineT U) (hn2 : n2 ≤ 300) (h1n : 1 ≤ n2) (hr : tr U (n2 - 1) = r) (hCv : w0.heap[Cv]? = some (.cells #[.int .i64 v] 3 (0, 0))) (hCu : w0.heap[Cu]? = some (.cells #[.slice A2u n2 c2] 22 (0, 0))) (hBx : w.heap[Cp]? = some (.cells #[ptr P] 69 (0, 0))) (hFx : ¬ F Cp) (hb0 : Below w0.heap.size w0 w) (hbase : w0.heap.size ≤ base) (hP : Pool w base P M F out) (hn : out.length + 301 * n < 800000) {k : Nat} (hk : k < n) :
  Calls Tryd.prog 46 #[ptr P, .slice A n c, .int .i64 (k : Int), fnV 47 #[ptr Cv, ptr Cp, ptr Cu]] w fun e w' => ∃ F', e = .returned (.int .i64 (((ins (sbT T v r k) out).1 : Nat) : Int)) ∧ Pool w' base P M F' (ins (sbT T v r k) out).2 ∧ (∀ b, F b → F' b) ∧ (∀ b, F' b → F b ∨ w.heap.size ≤ b) ∧ KeepF F w w' ∧ (ins (sbT T v r k) out).2.length ≤ out.length + 301 * n := by
 obtain ⟨i0, hi, hz0, hz1, hz2⟩ := info_parts infoI
 have hcap := h0.2.1
 have hmax := h0.2.2.1
 have H0 := Lib.hid h0
 have HP := Lib.hid hP
 have HB0 := Lib.hid hb0
 have HCC := Lib.hid (And.intro h2 (And.intro hCv hCu))
 have HBX := Lib.hid (And.intro hBx (And.intro hFx (lt_of_block hBx)))
 clear h2 hCv hCu hBx hFx
 have HBA := Lib.hid (show ∀ b, F b → b < w.heap.size from fun b e => (hP.lt b e).1)
 clear h0 hP hb0
 go_enter Tryd.func46, Tryd.ntmps46
 go_upto_region 1 with fail
 have q1 := heap_alloc_new w (.cells #[ptr P] 69)
 have b1 : Below w.heap.size w (w.alloc (.cells #[ptr P] 69)) := (Below.refl _ _).alloc (Nat.le_refl _) _
 have z1 : (w.alloc (.cells #[ptr P] 69)).heap.size = w.heap.size + 1 := by simp
 generalize World.alloc w _ = Wa at q1 b1 z1 ⊢
 have t2 := heap_alloc_new Wa (.cells #[.slice A n c] 22)
 have q2 := (heap_alloc_old Wa (.cells #[.slice A n c] 22) (lt_of_block q1)).trans q1
 have b2 := b1.alloc b1.size (.cells #[.slice A n c] 22)
 have z2 : (Wa.alloc (.cells #[.slice A n c] 22)).heap.size = w.heap.size + 1 + 1 := by simp [z1]
 generalize World.alloc Wa _ = Wb at q2 t2 b2 z2 ⊢
 rw [z1] at t2
 have s3 := heap_alloc_new Wb (.cells #[fnV 47 #[ptr Cv, ptr Cp, ptr Cu]] 72)
 have q3 := (heap_alloc_old Wb (.cells #[fnV 47 #[ptr Cv, ptr Cp, ptr Cu]] 72) (lt_of_block q2)).trans q2
 have t3 := (heap_alloc_old Wb (.cells #[fnV 47 #[ptr Cv, ptr Cp, ptr Cu]] 72) (lt_of_block t2)).trans t2
 have b3 := b2.alloc b2.size (.cells #[fnV 47 #[ptr Cv, ptr Cp, ptr Cu]] 72)
 have z3 : (Wb.alloc (.cells #[fnV 47 #[ptr Cv, ptr Cp, ptr Cu]] 72)).heap.size = w.heap.size + 1 + 1 + 1 := by simp [z2]
 generalize World.alloc Wb _ = Wc at q3 t3 s3 b3 z3 ⊢
 rw [z2] at s3
 clear q1 q2 t2 b1 b2
 have htc := cell_of_one t3
 have htl := lt_of_block t3
 go_upto_region 2 with (refine wpList_make_row _ rfl _ _ 25 rfl 3 i0 (.int .i64 0) Tryd.underlying25 hi hz0 hz1 rfl .i64 .i64 n rfl rfl (by rw [hz2]; omega) (by omega) ?_)
 clear htc htl
 have r4 : RowZ (Wc.alloc (.cells (madeCells #[.int .i64 0] n) 3)) Wc.heap.size n (fun _ => 0) := ⟨_, heap_alloc_new Wc _, size_madeCells _ _, fun j hj => by simp [madeCells, hj, Nat.mod_one]⟩
 have q4 := (heap_alloc_old Wc (.cells (madeCells #[.int .i64 0] n) 3) (lt_of_block q3)).trans q3
 have t4 := (heap_alloc_old Wc (.cells (madeCells #[.int .i64 0] n) 3) (lt_of_block t3)).trans t3
 have s4 := (heap_alloc_old Wc (.cells (madeCells #[.int .i64 0] n) 3) (lt_of_block s3)).trans s3
 have b4 := b3.alloc b3.size (.cells (madeCells #[.int .i64 0] n) 3)
 have z4 : (Wc.alloc (.cells (madeCells #[.int .i64 0] n) 3)).heap.size = w.heap.size + 1 + 1 + 1 + 1 := by simp [z3]
 rw [z3] at r4
 generalize World.alloc Wc _ = Wd at q4 t4 s4 r4 b4 z4 ⊢
 have p5 := heap_alloc_new Wd (.cells #[.slice (some ⟨w.heap.size + 1 + 1 + 1, 0, none⟩) n n] 25)
 have q5 := (heap_alloc_old Wd (.cells #[.slice (some ⟨w.heap.size + 1 + 1 + 1, 0, none⟩) n n] 25) (lt_of_block q4)).trans q4
 have t5 := (heap_alloc_old Wd (.cells #[.slice (some ⟨w.heap.size + 1 + 1 + 1, 0, none⟩) n n] 25) (lt_of_block t4)).trans t4
 have s5 := (heap_alloc_old Wd (.cells #[.slice (some ⟨w.heap.size + 1 + 1 + 1, 0, none⟩) n n] 25) (lt_of_block s4)).trans s4
 have r5 := r4.keep (heap_alloc_old Wd (.cells #[.slice (some ⟨w.heap.size + 1 + 1 + 1, 0, none⟩) n n] 25) r4.lt)
 have b5 := b4.alloc b4.size (.cells #[.slice (some ⟨w.heap.size + 1 + 1 + 1, 0, none⟩) n n] 25)
 have z5 : (Wd.alloc (.cells #[.slice (some ⟨w.heap.size + 1 + 1 + 1, 0, none⟩) n n] 25)).heap.size = w.heap.size + 1 + 1 + 1 + 1 + 1 := by simp [z4]
 rw [z4] at p5
 generalize World.alloc Wd _ = We at q5 t5 s5 r5 p5 b5 z5 ⊢
 clear q4 t4 s4 b4 r4 z4 z3 z2 z1
 have hpc := cell_of_one p5
 have hpl := lt_of_block p5
 go_upto_region 3 with fail
 clear hpc hpl
 have E0 := Lib.hid (And.intro p5 (And.intro q5 (And.intro t5 s5)))
 clear p5 q5 t5 s5
 go_loopw [17] (fun zi wr => ∃ i : Nat, i ≤ n ∧ zi = .int .i64 (i : Int) ∧ Below w.heap.size w wr ∧ Hid (wr.heap.size = w.heap.size + 1 + 1 + 1 + 1 + 1 ∧ (∀ b, b ≠ w.heap.size + 1 + 1 + 1 → wr.heap[b]? = We.heap[b]?)) ∧ RowZ wr (w.heap.size + 1 + 1 + 1) n (fun j => if j < i then -1 else 0)) (fun zi _ => n - (intOf zi).toNat)
 case atStart => exact ⟨0, by omega, rfl, b5, Lib.hid ⟨z5, fun _ _ => rfl⟩, by simpa using r5⟩
 case round =>
  clear b5 r5 z5
  obtain ⟨i, hin, rfl, hbw, hkw, hrw⟩ := hrel
  have hpc := cell_of_one ((hkw.out.2 _ (by omega)).trans E0.out.1)
  have hpl := lt_of_block ((hkw.out.2 _ (by omega)).trans E0.out.1)
  by_cases hlt : i < n
  ·obtain ⟨hrc, hrf⟩ := hrw.cell hlt
   have hrl := hrw.lt
   have HP' := Lib.hid (hrw.put i (-1))
   have HBW := Lib.hid (hbw.setCell (p := ⟨w.heap.size + 1 + 1 + 1, i, none⟩) (by simp only; omega) (.int .i64 (-1)))
   have HZ := Lib.hid (And.intro (show (wr.setCell ⟨w.heap.size + 1 + 1 + 1, i, none⟩ (.int .i64 (-1))).heap.size = wr.heap.size by simp) (fun b (hb : b ≠ w.heap.size + 1 + 1 + 1) => heap_setCell_other wr ⟨w.heap.size + 1 + 1 + 1, i, none⟩ b (.int .i64 (-1)) hb))
   go_wp2
   go_roundw
   case rel =>
    refine ⟨i + 1, by omega, by go_num, HBW.out, Lib.hid ⟨HZ.out.1.trans hkw.out.1, fun b hb => (HZ.out.2 b hb).trans (hkw.out.2 b hb)⟩, ?_⟩
    obtain ⟨arr, g1, g2, g3⟩ := HP'.out
    refine ⟨arr, g1, g2, fun j hj => (g3 j hj).trans ?_⟩
    simp only [updZ]
    by_cases e : j = i
    ·rw [if_pos e, if_pos (by omega)]
    ·rw [if_neg e]
     by_cases e2 : j < i
     ·rw [if_pos e2, if_pos (by omega)]
     ·rw [if_neg e2, if_neg (by omega)]
   case measure => simp [intOf]; omega
  ·obtain rfl : i = n := by omega
   have hp6 := (hkw.out.2 _ (by omega)).trans E0.out.1
   have hq6 := (hkw.out.2 _ (by omega)).trans E0.out.2.1
   have ht6 := (hkw.out.2 _ (by omega)).trans E0.out.2.2.1
   have hs6 := (hkw.out.2 _ (by omega)).trans E0.out.2.2.2
   have hz6 := hkw.out.1
   clear hkw hpc hpl hlt
   go_upto_region 8 with fail
   have p7 := (heap_alloc_old wr (.cells #[.nilFunc] 76) (lt_of_block hp6)).trans hp6
   have q7 := (heap_alloc_old wr (.cells #[.nilFunc] 76) (lt_of_block hq6)).trans hq6
   have t7 := (heap_alloc_old wr (.cells #[.nilFunc] 76) (lt_of_block ht6)).trans ht6
   have s7 := (heap_alloc_old wr (.cells #[.nilFunc] 76) (lt_of_block hs6)).trans hs6
   have r7 := hrw.keep (heap_alloc_old wr (.cells #[.nilFunc] 76) hrw.lt)
   have v7 := heap_alloc_new wr (.cells #[.nilFunc] 76)
   have b7 := hbw.alloc hbw.size (.cells #[.nilFunc] 76)
   rw [hz6] at v7
   generalize World.alloc wr _ = W7 at p7 q7 t7 s7 r7 v7 b7 ⊢
   have hvl := lt_of_block v7
   have hvc7 := cell_of_one v7
   have hvf : W7.frozen? ⟨w.heap.size + 1 + 1 + 1 + 1 + 1, 0, none⟩ = false := by simp [World.frozen?, v7]
   clear hp6 hq6 ht6 hs6 hz6 hbw hrw
   go_upto_region 9 with fail
   have hoth : ∀ b, b ≠ w.heap.size + 1 + 1 + 1 + 1 + 1 → (W7.setCell ⟨w.heap.size + 1 + 1 + 1 + 1 + 1, 0, none⟩ (fnV 66 #[ptr (w.heap.size + 1 + 1 + 1 + 1), ptr (w.heap.size + 1), ptr (w.heap.size + 1 + 1), ptr (w.heap.size + 1 + 1 + 1 + 1 + 1), ptr w.heap.size])).heap[b]? = W7.heap[b]? := fun b hb => heap_setCell_other W7 ⟨w.heap.size + 1 + 1 + 1 + 1 + 1, 0, none⟩ b _ hb
   have v8 := (heap_setCell_same W7 (w.heap.size + 1 + 1 + 1 + 1 + 1) 0 _ _ (fnV 66 #[ptr (w.heap.size + 1 + 1 + 1 + 1), ptr (w.heap.size + 1), ptr (w.heap.size + 1 + 1), ptr (w.heap.size + 1 + 1 + 1 + 1 + 1), ptr w.heap.size]) v7).trans rfl
   have b8 := b7.setCell (p := ⟨w.heap.size + 1 + 1 + 1 + 1 + 1, 0, none⟩) (by simp only; omega) (fnV 66 #[ptr (w.heap.size + 1 + 1 + 1 + 1), ptr (w.heap.size + 1), ptr (w.heap.size + 1 + 1), ptr (w.heap.size + 1 + 1 + 1 + 1 + 1), ptr w.heap.size])
   generalize World.setCell W7 _ _ = W8 at hoth v8 b8 ⊢
   have hTW : TakeX w0 A i c (w.heap.size + 1 + 1 + 1 + 1) (w.heap.size + 1) (w.heap.size + 1 + 1) (w.heap.size + 1 + 1 + 1 + 1 + 1) w.heap.size (w.heap.size + 1 + 1 + 1) P M base (fnV 47 #[ptr Cv, ptr Cp, ptr Cu]) Cp F (fun j => if j < i then -1 else 0) out (sbT T v r) W8 := {
    below := HB0.out.trans (b8.mono HB0.out.size)
    bp := (hoth _ (by omega)).trans p7
    bt := (hoth _ (by omega)).trans t7
    bs := (hoth _ (by omega)).trans s7
    bv := v8
    bq := (hoth _ (by omega)).trans q7
    row := r7.keep (hoth _ (by omega))
    pool := HP.out.keep b8.size fun b hf => b8.block b (HBA.out b hf)
    nF := ⟨fun e => by have := HBA.out _ e; omega, fun e => by have := HBA.out _ e; omega, fun e => by have := HBA.out _ e; omega, fun e => by have := HBA.out _ e; omega, fun e => by have := HBA.out _ e; omega, fun e => by have := HBA.out _ e; omega⟩
    nR := ⟨by omega, by omega, by omega, by omega, by omega⟩
    bx := (b8.block _ HBX.out.2.2).trans HBX.out.1
    nx := ⟨HBX.out.2.1, by have := HBX.out.2.2; omega⟩
    inv := fun j hj h => by
     rw [if_pos hj] at h
     omega }
   have HC := Lib.hid (takeVisitS_any H0.out hT HCC.out.1 hU hn2 h1n hr HCC.out.2.1 HCC.out.2.2 hbase (by have := HB0.out.size; omega) (k + 1) k F _ out W8 hk (by omega) hTW (by have := cntN_le (fun j => if j < i then -1 else 0) i; omega))
   have hvc := cell_of_one v8
   have hvl8 := lt_of_block v8
   clear hTW v8 hoth p7 q7 t7 s7 r7 v7 b7 hvl hvf hvc7
   go_wp2_with fail
   refine HC.out.mono ?_
   rintro e w9 ⟨F9, a9, rfl, hW9, g1, g2, g3, g4, g5⟩
   go_wp2
   go_ret
   have hS8 := b8.size
   exact ⟨F9, by exact ret_i rfl, hW9.pool, g1, fun b e => (g2 b e).elim .inl (fun h => .inr (by omega)), (keep_of_below b8).trans g3 (fun b e => e.elim .inl (fun h => .inr (by omega))), Nat.le_trans (Nat.le_trans (Nat.le_add_right _ _) g4) (Nat.add_le_add_left (Nat.mul_le_mul_left _ (cntN_le _ _)) _)⟩
end
end
section
open Go.RowKit

section
variable {w : World} {A A2 : Option Addr} {n c n2 c2 : Nat} {T U : List Nd}
theorem own_vars {T U : List Nd} {_ : Int} (_ : VarsOk T) (_ : VarsOk U) : True := trivial
set_option maxRecDepth 100000 in
set_option maxHeartbeats 8000000 in
theorem put_any (h : Term w A n c T) (h2 : Term w A2 n2 c2 U) (v : Int) :
  Calls Tryd.prog 29 #[.slice A n c, .int .i64 v, .slice A2 n2 c2] w fun e w' => ∃ nv av, e = .returned (.tuple #[nv, .int .i64 (putF T U v)]) ∧ OwnT w' w.heap.size nv av (if putF T U v = 0 then putN T U v else []) ∧ Below w.heap.size w w' := by
 have hcap := h.2.1
 have hmax := h.2.2.1
 have hcap2 := h2.2.1
 have hmax2 := h2.2.2.1
 have H := Lib.hid h
 have H2 := Lib.hid h2
 have HV := Lib.hid (fun w1 (hb : Below w.heap.size w w1) => validate_any (h.below hb))
 have HVU := Lib.hid (fun w1 (hb : Below w.heap.size w w1) => validate_any (h2.below hb))
 by_cases hv : valF T = 0
 ·by_cases hu : valF U = 0
  ·by_cases hb4 : 0 ≤ v ∧ v < 4
   ·obtain ⟨j, rfl⟩ : ∃ j : Nat, v = (j : Int) := ⟨v.toNat, by omega⟩
    have hj4 : j < 4 := by omega
    have HW := Lib.hid (fun w1 (hb : Below w.heap.size w w1) => widths_any (h.below hb) (vars_ok hv (fun k hk => (term_imm h k hk).1)))
    have HR := Lib.hid (show putF T U (j : Int) = _ by unfold putF; rw [if_pos hv, if_pos hu, if_pos hb4, Int.toNat_natCast])
    have hl1 := (val_zero.1 hv).1
    have hl2 := (val_zero.1 hu).1
    rw [← h.1] at hl1
    rw [← h2.1] at hl2
    rw [← h.1] at HR
    have e1 : decide ((j : Int) < 0) = false := decide_eq_false (by omega)
    have e2 : decide (4 ≤ (j : Int)) = false := decide_eq_false (by omega)
    have HVV := Lib.hid (And.intro hv hu)
    have hid4 := fun f W => idx4 f (i := j) hj4 W
    generalize widF T n = wf at HW HR
    have HNL := Lib.hid (show putF T U (j : Int) ≠ 0 → (if putF T U (j : Int) = 0 then putN T U (j : Int) else []) = [] from fun e => if_neg e)
    have HNY := Lib.hid (show putF T U (j : Int) = 0 → (if putF T U (j : Int) = 0 then putN T U (j : Int) else []) = putN T U (j : Int) from fun e => if_pos e)
    generalize (if putF T U (j : Int) = 0 then putN T U (j : Int) else []) = NL at HNL HNY ⊢
    generalize putF T U (j : Int) = F at HR HNL HNY ⊢
    clear h h2 hv hu hb4
    go_enter Tryd.func29, Tryd.ntmps29
    go_upto_region 1 with fail
    have hCv := heap_alloc_new w (.cells #[.int .i64 (j : Int)] 3)
    have hb0 : Below w.heap.size w (w.alloc (.cells #[.int .i64 (j : Int)] 3)) := (Below.refl _ _).alloc (Nat.le_refl _) _
    have hz0 : (w.alloc (.cells #[.int .i64 (j : Int)] 3)).heap.size = w.heap.size + 1 := by simp
    have hz1 : ((w.alloc (.cells #[.int .i64 (j : Int)] 3)).alloc (.cells #[.slice A2 n2 c2] 22)).heap.size = w.heap.size + 1 + 1 := by simp
    have hCu := heap_alloc_new (w.alloc (.cells #[.int .i64 (j : Int)] 3)) (.cells #[.slice A2 n2 c2] 22)
    have hCv2 := (heap_alloc_old (w.alloc (.cells #[.int .i64 (j : Int)] 3)) (.cells #[.slice A2 n2 c2] 22) (lt_of_block hCv)).trans hCv
    have hb1 := hb0.alloc hb0.size (.cells #[.slice A2 n2 c2] 22)
    rw [hz0] at hCu
    generalize World.alloc (World.alloc w _) _ = W1 at hCu hCv2 hb1 hz1 ⊢
    have HBW := Lib.hid hb1
    obtain ⟨Cv, hCE⟩ : ∃ C, w.heap.size = C := ⟨_, rfl⟩
    have hvc := cell_of_one hCv2
    have hvl := lt_of_block hCv2
    have huc := cell_of_one hCu
    have hul := lt_of_block hCu
    rw [hCE] at hvc hvl huc hul hCv2 hCu ⊢
    have HC1 := Lib.hid (And.intro hCv2 hCu)
    clear hCv hb0 hz0 hCv2 hCu hb1 hz1 hCE
    rw [HVV.out.1] at HV
    rw [HVV.out.2] at HVU
    go_wp2_with fail
    refine (HV.out _ HBW.out).mono ?_
    rintro e w1 ⟨rfl, hb1⟩
    have hvc1 := (hb1.cell (p := ⟨Cv, 0, none⟩) hvl).trans hvc
    have huc1 := (hb1.cell (p := ⟨Cv + 1, 0, none⟩) hul).trans huc
    have hs1 := hb1.size
    have hvl1 := Nat.lt_of_lt_of_le hvl hs1
    have hul1 := Nat.lt_of_lt_of_le hul hs1
    clear hvc huc
    go_wp2_with fail
    refine (HVU.out _ (HBW.out.trans (hb1.mono HBW.out.size))).mono ?_
    rintro e w2 ⟨rfl, hb2⟩
    have hb3 := hb1.trans (hb2.mono hb1.size)
    clear hb1 hb2 hvc1 huc1 hvl1 hul1 hs1
    have hvc := cell_of_one ((hb3.block _ hvl).trans HC1.out.1)
    have huc := cell_of_one ((hb3.block _ hul).trans HC1.out.2)
    have hs3 := hb3.size
    have hvl3 := Nat.lt_of_lt_of_le hvl hs3
    have hul3 := Nat.lt_of_lt_of_le hul hs3
    have HW2 := Lib.hid (fun U (hU : Below w2.heap.size w2 U) => (HW.out U (HBW.out.trans ((hb3.trans (hU.mono hb3.size)).mono HBW.out.size))).mono (R' := fun e w' => e = .returned (.agg #[.int .i64 (wf 0), .int .i64 (wf 1), .int .i64 (wf 2), .int .i64 (wf 3)]) ∧ Below w2.heap.size w2 w') (fun e w' ⟨h1, h2⟩ => ⟨h1, hU.trans (h2.mono hU.size)⟩))
    have HS := Lib.hid (show ∀ U, Below w2.heap.size w2 U → U.cell? ⟨Cv, 0, none⟩ = some (.int .i64 (j : Int)) from fun U hU => (hU.cell (p := ⟨Cv, 0, none⟩) hvl3).trans hvc)
    have HB3 := Lib.hid hb3
    have hidj := hid4 wf
    clear hb3 hid4
    go_upto_region 9 with fail
    go_region_held3 (fun U => U.cell? ⟨Cv, 0, none⟩ = some (.int .i64 (j : Int))) (first | exact HS.out _ hb4 | exact HS.out _ (drewD (Below.refl _ _))) (first | (go_at_call 33; refine (HW2.out _ (drewD (Below.refl _ _))).mono ?_; rintro e w4 ⟨rfl, hb4⟩))
    have HB4 := Lib.hid (HB3.out.trans (hb4.mono HB3.out.size))
    have hvc4 := cell_of_one ((HB4.out.block _ hvl).trans HC1.out.1)
    have huc4 := cell_of_one ((HB4.out.block _ hul).trans HC1.out.2)
    have hs4 := HB4.out.size
    have hvl4 := Nat.lt_of_lt_of_le hvl hs4
    have hul4 := Nat.lt_of_lt_of_le hul hs4
    clear hvc huc hvl3 hul3 hb4 hs3
    by_cases hz : wf j = 0
    ·have HR2 := Lib.hid (show F = 4 by rw [HR.out, if_pos hz])
     have e3 : (wf j == 0) = true := by simp [hz]
     have HBE := Lib.hid (HBW.out.trans (HB4.out.mono HBW.out.size))
     clear HR hz HB4
     generalize wf j = wj at hidj e3
     go_wp2
     go_ret2
     exact ⟨_, fun _ => undef, by exact ret_vi HR2.out, by rw [HNL.out (by rw [HR2.out]; decide)]; exact ownT_nil _ _ _, HBE.out⟩
    ·have e3 : (wf j == 0) = false := by simp [hz]
     have hb5 := HBW.out.trans (HB4.out.mono HBW.out.size)
     obtain ⟨b, off, A', n', c', rfl, hg, ⟨a0, a1, a2, a3, a4⟩, hI, -⟩ := (H2.out.below hb5).at_ (j := n2 - 1) (by omega)
     have e4 : ((n2 : Nat) : Int) - 1 = ((n2 - 1 : Nat) : Int) := by omega
     have hlast : n2 - 1 < n2 := by omega
     by_cases ht : (U[n2 - 1]!).width = wf j
     ·have HTX := Lib.hid ht
      have HTW := Lib.hid ht
      have e5 : ((U[n2 - 1]!).width != wf j) = false := bne_eq_false_iff_eq.2 ht
      have HZN := Lib.hid hz
      clear a0 a2 a3 a4 hI hz ht
      have HB5 := Lib.hid hb5
      clear hb5
      generalize (U[n2 - 1]!).width = ww at a1 e5 HTW
      generalize hwj : wf j = wj at hidj e3 e5 HTW
      have HWJ := Lib.hid hwj
      clear hwj
      have HN := Lib.hid (poolNew_any w4)
      go_wp2_with fail
      refine HN.out.mono ?_
      rintro e w5 ⟨P, M, F5, rfl, hP5, hb5⟩
      go_upto_region 15 with fail
      have hBx := heap_alloc_new w5 (.cells #[ptr P] 69)
      have hb6 := hb5.alloc hb5.size (.cells #[ptr P] 69)
      have hP6 := hP5.keep (w' := w5.alloc (.cells #[ptr P] 69)) (by simp) (fun b e => heap_alloc_old w5 _ (hP5.lt b e).1)
      have hFx : ¬ F5 w5.heap.size := fun e => Nat.lt_irrefl _ (hP5.lt _ e).1
      generalize World.alloc w5 _ = w6 at hBx hb6 hP6 ⊢
      clear hP5 hb5 HN
      generalize w5.heap.size = Cp at hBx hFx ⊢
      have hbW6 := HB4.out.trans (hb6.mono HB4.out.size)
      have hW1b := HBW.out
      have HTK := Lib.hid (takeS_any (w0 := W1) (w := w6) (Cv := Cv) (Cp := Cp) (Cu := Cv + 1) (v := (j : Int)) (r := tr U (n2 - 1)) (k := n - 1) (H.out.below hW1b) (val_fine HVV.out.1 (term_imm H.out)) (H2.out.below hW1b) (val_fine HVV.out.2 (term_imm H2.out)) hl2.2 hl2.1 rfl HC1.out.1 HC1.out.2 hBx hFx hbW6 HB4.out.size hP6 (by simp; omega) (by omega))
      rw [show (ins (sbT T (j : Int) (tr U (n2 - 1)) (n - 1)) []).2 = putN T U (j : Int) by unfold putN sbT; rw [H.out.1, H2.out.1]] at HTK
      have hBxc := cell_of_one hBx
      have hBxl := lt_of_block hBx
      have e6 : ((n : Nat) : Int) - 1 = ((n - 1 : Nat) : Int) := by omega
      have hnl : n - 1 < n := by omega
      have HBX := Lib.hid (And.intro hBx (And.intro hFx (And.intro hP6 hbW6)))
      have hvl6 := Nat.lt_of_lt_of_le hvl hbW6.size
      have hul6 := Nat.lt_of_lt_of_le hul hbW6.size
      clear hBx hFx hP6 hb6 hbW6 hW1b hvc4 huc4 hvl4 hul4
      generalize (ins (sbT T (j : Int) (tr U (n2 - 1)) (n - 1)) []).1 = rt at HTK
      go_wp2_with fail
      refine HTK.out.mono ?_
      rintro e w7 ⟨F7, rfl, hP7, g1, g2, g3, g4⟩
      have hBx7 := (g3.block _ hBxl HBX.out.2.1).trans HBX.out.1
      have hB7c := cell_of_one hBx7
      have hB7l := lt_of_block hBx7
      have HB7 := Lib.hid (HBX.out.2.2.2.trans (g3.below (fun b e => Nat.le_trans HB4.out.size (HBX.out.2.2.1.lt b e).2) HBX.out.2.2.2.size))
      have HVO := Lib.hid (putN_vars (v := (j : Int)) HVV.out.1 HVV.out.2 (fun k hk => (term_imm H.out k hk).1) (fun k hk => (term_imm H2.out k hk).1))
      have HR2 := Lib.hid (show F = if oneW (putN T U (j : Int)) = false then 7 else if 300 < (putN T U (j : Int)).length then 3 else 0 by rw [HR.out, if_neg HZN.out, if_neg (by rw [← H2.out.1]; exact fun e => e HTX.out)])
      have HLB := Lib.hid (show (putN T U (j : Int)).length ≤ 100000 by simp at g4; omega)
      generalize putN T U (j : Int) = N at hP7 HVO HR2 HNY HLB ⊢
      have HN1 := Lib.hid (nodes_any hP7)
      have HP7 := Lib.hid hP7
      have HBX8 := Lib.hid hBx7
      clear g1 g2 g3 g4 hP7 HTK HR hBxc hBxl a1 hg hBx7
      go_wp2_with fail
      refine HN1.out.mono ?_
      rintro e w8 ⟨nv, av, rfl, hO, rfl⟩
      obtain ⟨A8, c8, rfl, hT8⟩ := own_term hO
      have himm8 := hO.imm
      have HCL := Lib.hid (clash_any hT8 HVO.out HLB.out)
      rw [clash_one (fun k hk => (himm8 k hk).1)] at HCL
      clear hO hT8 himm8 HN1
      by_cases hone : oneW N = false
      ·have HR3 := Lib.hid (show F = 7 by rw [HR2.out, if_pos hone])
       rw [hone, Bool.not_false] at HCL
       clear HR2 hone
       go_wp2_with fail
       refine HCL.out.mono ?_
       rintro e w9 ⟨rfl, hb9⟩
       have HBE := Lib.hid (HBW.out.trans ((HB7.out.trans (hb9.mono HB7.out.size)).mono HBW.out.size))
       clear hb9 hB7c
       go_wp2
       go_ret2
       exact ⟨_, fun _ => undef, by exact ret_vi HR3.out, by rw [HNL.out (by rw [HR3.out]; decide)]; exact ownT_nil _ _ _, HBE.out⟩
      ·have hone2 : oneW N = true := by simpa using hone
       rw [hone2, Bool.not_true] at HCL
       rw [if_neg hone] at HR2
       clear hone hone2
       go_wp2_with fail
       refine HCL.out.mono ?_
       rintro e w9 ⟨rfl, hb9⟩
       have hBx9 := (hb9.block _ hB7l).trans (show w8.heap[Cp]? = _ from HBX8.out)
       have hB9c := cell_of_one hBx9
       have hB9l := lt_of_block hBx9
       have HP9 := Lib.hid (HP7.out.keep hb9.size (fun b e => hb9.block b (HP7.out.lt b e).1))
       have HBE := Lib.hid (HBW.out.trans ((HB7.out.trans (hb9.mono HB7.out.size)).mono HBW.out.size))
       have HN9 := Lib.hid (nodes_any HP9.out)
       clear hb9 hB7c hB7l hBx9
       go_wp2_with fail
       refine HN9.out.mono ?_
       rintro e w10 ⟨nv, av, rfl, hO, rfl⟩
       obtain ⟨A9, c9, rfl, hT9⟩ := own_term hO
       have hcap9 := hT9.2.1
       have hmax9 := hT9.2.2.1
       clear hO hT9
       by_cases h300 : 300 < N.length
       ·have HR3 := Lib.hid (show F = 3 by rw [HR2.out, if_pos h300])
        have e7 : decide (300 < ((N.length : Nat) : Int)) = true := decide_eq_true (by omega)
        clear HR2 h300
        go_wp2
        go_ret2
        exact ⟨_, fun _ => undef, by exact ret_vi HR3.out, by rw [HNL.out (by rw [HR3.out]; decide)]; exact ownT_nil _ _ _, HBE.out⟩
       ·have HR3 := Lib.hid (show F = 0 by rw [HR2.out, if_neg h300])
        have e7 : decide (300 < ((N.length : Nat) : Int)) = false := decide_eq_false (by omega)
        clear HR2 h300
        go_wp2_with fail
        refine HN9.out.mono ?_
        rintro e w11 ⟨nv, av, rfl, hO, rfl⟩
        have HO := Lib.hid hO
        obtain ⟨A10, c10, rfl, -⟩ := own_term hO
        clear hO
        go_wp2
        go_ret2
        exact ⟨_, av, by exact ret_vi HR3.out, by rw [HNY.out HR3.out]; exact HO.out.mono (Nat.le_trans HBW.out.size HB4.out.size), HBE.out⟩
     ·have HR2 := Lib.hid (show F = 6 by rw [HR.out, if_neg hz, if_pos (show (U[U.length - 1]!).width ≠ wf j by rw [← H2.out.1]; exact ht)])
      have e5 : ((U[n2 - 1]!).width != wf j) = true := bne_iff_ne.2 ht
      have HBE := Lib.hid hb5
      generalize (U[n2 - 1]!).width = ww at a1 e5
      clear HR hz ht hb5 hI a0 a2 a3 a4
      generalize wf j = wj at hidj e3 e5
      go_wp2
      go_ret2
      exact ⟨_, fun _ => undef, by exact ret_vi HR2.out, by rw [HNL.out (by rw [HR2.out]; decide)]; exact ownT_nil _ _ _, HBE.out⟩
   ·have HR := Lib.hid (show putF T U v = 1 by unfold putF; rw [if_pos hv, if_pos hu, if_neg hb4])
    rw [HR.out, if_neg (by decide)]
    have HVV := Lib.hid (And.intro hv hu)
    clear h h2 hv hu HR
    by_cases h0 : v < 0
    ·have e1 : decide (v < 0) = true := decide_eq_true h0
     go_enter Tryd.func29, Tryd.ntmps29
     go_upto_region 1 with fail
     have hCv := heap_alloc_new w (.cells #[.int .i64 v] 3)
     have hb0 : Below w.heap.size w (w.alloc (.cells #[.int .i64 v] 3)) := (Below.refl _ _).alloc (Nat.le_refl _) _
     have hz0 : (w.alloc (.cells #[.int .i64 v] 3)).heap.size = w.heap.size + 1 := by simp
     have hz1 : ((w.alloc (.cells #[.int .i64 v] 3)).alloc (.cells #[.slice A2 n2 c2] 22)).heap.size = w.heap.size + 1 + 1 := by simp
     have hCu := heap_alloc_new (w.alloc (.cells #[.int .i64 v] 3)) (.cells #[.slice A2 n2 c2] 22)
     have hCv2 := (heap_alloc_old (w.alloc (.cells #[.int .i64 v] 3)) (.cells #[.slice A2 n2 c2] 22) (lt_of_block hCv)).trans hCv
     have hb1 := hb0.alloc hb0.size (.cells #[.slice A2 n2 c2] 22)
     rw [hz0] at hCu
     generalize World.alloc (World.alloc w _) _ = W1 at hCu hCv2 hb1 hz1 ⊢
     have HBW := Lib.hid hb1
     obtain ⟨Cv, hCE⟩ : ∃ C, w.heap.size = C := ⟨_, rfl⟩
     have hvc := cell_of_one hCv2
     have hvl := lt_of_block hCv2
     have huc := cell_of_one hCu
     have hul := lt_of_block hCu
     rw [hCE] at hvc hvl huc hul hCv2 hCu ⊢
     have HC1 := Lib.hid (And.intro hCv2 hCu)
     clear hCv hb0 hz0 hCv2 hCu hb1 hz1 hCE
     rw [HVV.out.1] at HV
     rw [HVV.out.2] at HVU
     go_wp2_with fail
     refine (HV.out _ HBW.out).mono ?_
     rintro e w1 ⟨rfl, hb1⟩
     have huc1 := (hb1.cell (p := ⟨Cv + 1, 0, none⟩) hul).trans huc
     have hul1 := Nat.lt_of_lt_of_le hul hb1.size
     clear huc
     go_wp2_with fail
     refine (HVU.out _ (HBW.out.trans (hb1.mono HBW.out.size))).mono ?_
     rintro e w2 ⟨rfl, hb2⟩
     have hb3 := hb1.trans (hb2.mono hb1.size)
     have hvc3 := cell_of_one ((hb3.block _ hvl).trans HC1.out.1)
     have hvl3 := Nat.lt_of_lt_of_le hvl hb3.size
     have HB3 := Lib.hid (HBW.out.trans (hb3.mono HBW.out.size))
     clear hb1 hb2 hb3 huc1 hul1 hvc
     go_wp2
     go_ret2
     exact ⟨_, fun _ => undef, rfl, ownT_nil _ _ _, HB3.out⟩
    ·have e1 : decide (v < 0) = false := decide_eq_false h0
     have e2 : decide (4 ≤ v) = true := decide_eq_true (by omega)
     go_enter Tryd.func29, Tryd.ntmps29
     go_upto_region 1 with fail
     have hCv := heap_alloc_new w (.cells #[.int .i64 v] 3)
     have hb0 : Below w.heap.size w (w.alloc (.cells #[.int .i64 v] 3)) := (Below.refl _ _).alloc (Nat.le_refl _) _
     have hz0 : (w.alloc (.cells #[.int .i64 v] 3)).heap.size = w.heap.size + 1 := by simp
     have hz1 : ((w.alloc (.cells #[.int .i64 v] 3)).alloc (.cells #[.slice A2 n2 c2] 22)).heap.size = w.heap.size + 1 + 1 := by simp
     have hCu := heap_alloc_new (w.alloc (.cells #[.int .i64 v] 3)) (.cells #[.slice A2 n2 c2] 22)
     have hCv2 := (heap_alloc_old (w.alloc (.cells #[.int .i64 v] 3)) (.cells #[.slice A2 n2 c2] 22) (lt_of_block hCv)).trans hCv
     have hb1 := hb0.alloc hb0.size (.cells #[.slice A2 n2 c2] 22)
     rw [hz0] at hCu
     generalize World.alloc (World.alloc w _) _ = W1 at hCu hCv2 hb1 hz1 ⊢
     have HBW := Lib.hid hb1
     obtain ⟨Cv, hCE⟩ : ∃ C, w.heap.size = C := ⟨_, rfl⟩
     have hvc := cell_of_one hCv2
     have hvl := lt_of_block hCv2
     have huc := cell_of_one hCu
     have hul := lt_of_block hCu
     rw [hCE] at hvc hvl huc hul hCv2 hCu ⊢
     have HC1 := Lib.hid (And.intro hCv2 hCu)
     clear hCv hb0 hz0 hCv2 hCu hb1 hz1 hCE
     rw [HVV.out.1] at HV
     rw [HVV.out.2] at HVU
     go_wp2_with fail
     refine (HV.out _ HBW.out).mono ?_
     rintro e w1 ⟨rfl, hb1⟩
     have huc1 := (hb1.cell (p := ⟨Cv + 1, 0, none⟩) hul).trans huc
     have hul1 := Nat.lt_of_lt_of_le hul hb1.size
     clear huc
     go_wp2_with fail
     refine (HVU.out _ (HBW.out.trans (hb1.mono HBW.out.size))).mono ?_
     rintro e w2 ⟨rfl, hb2⟩
     have hb3 := hb1.trans (hb2.mono hb1.size)
     have hvc3 := cell_of_one ((hb3.block _ hvl).trans HC1.out.1)
     have hvl3 := Nat.lt_of_lt_of_le hvl hb3.size
     have HB3 := Lib.hid (HBW.out.trans (hb3.mono HBW.out.size))
     clear hb1 hb2 hb3 huc1 hul1 hvc
     go_wp2
     go_ret2
     exact ⟨_, fun _ => undef, rfl, ownT_nil _ _ _, HB3.out⟩
  ·have HR := Lib.hid (show putF T U v = valF U by unfold putF; rw [if_pos hv, if_neg hu])
   have HVV := Lib.hid (And.intro hv hu)
   rw [HR.out, if_neg hu]
   clear h h2 hv HR
   go_enter Tryd.func29, Tryd.ntmps29
   go_upto_region 1 with fail
   have hCv := heap_alloc_new w (.cells #[.int .i64 v] 3)
   have hb0 : Below w.heap.size w (w.alloc (.cells #[.int .i64 v] 3)) := (Below.refl _ _).alloc (Nat.le_refl _) _
   have hz0 : (w.alloc (.cells #[.int .i64 v] 3)).heap.size = w.heap.size + 1 := by simp
   have hz1 : ((w.alloc (.cells #[.int .i64 v] 3)).alloc (.cells #[.slice A2 n2 c2] 22)).heap.size = w.heap.size + 1 + 1 := by simp
   have hCu := heap_alloc_new (w.alloc (.cells #[.int .i64 v] 3)) (.cells #[.slice A2 n2 c2] 22)
   have hCv2 := (heap_alloc_old (w.alloc (.cells #[.int .i64 v] 3)) (.cells #[.slice A2 n2 c2] 22) (lt_of_block hCv)).trans hCv
   have hb1 := hb0.alloc hb0.size (.cells #[.slice A2 n2 c2] 22)
   rw [hz0] at hCu
   generalize World.alloc (World.alloc w _) _ = W1 at hCu hCv2 hb1 hz1 ⊢
   have HBW := Lib.hid hb1
   obtain ⟨Cv, hCE⟩ : ∃ C, w.heap.size = C := ⟨_, rfl⟩
   have hvc := cell_of_one hCv2
   have hvl := lt_of_block hCv2
   have huc := cell_of_one hCu
   have hul := lt_of_block hCu
   rw [hCE] at hvc hvl huc hul hCv2 hCu ⊢
   have HC1 := Lib.hid (And.intro hCv2 hCu)
   clear hCv hb0 hz0 hCv2 hCu hb1 hz1 hCE
   rw [HVV.out.1] at HV
   go_wp2_with fail
   refine (HV.out _ HBW.out).mono ?_
   rintro e w1 ⟨rfl, hb1⟩
   have huc1 := (hb1.cell (p := ⟨Cv + 1, 0, none⟩) hul).trans huc
   have hul1 := Nat.lt_of_lt_of_le hul hb1.size
   clear hvc huc
   go_wp2_with fail
   refine (HVU.out _ (HBW.out.trans (hb1.mono HBW.out.size))).mono ?_
   rintro e w2 ⟨rfl, hb2⟩
   have HB3 := Lib.hid (HBW.out.trans ((hb1.trans (hb2.mono hb1.size)).mono HBW.out.size))
   clear hb1 hb2 huc1 hul1
   go_wp2
   go_ret2
   exact ⟨_, fun _ => undef, rfl, ownT_nil _ _ _, HB3.out⟩
 ·have HR := Lib.hid (show putF T U v = valF T by unfold putF; rw [if_neg hv])
  rw [HR.out, if_neg hv]
  clear h h2 HR
  go_enter Tryd.func29, Tryd.ntmps29
  go_upto_region 1 with fail
  have hCv := heap_alloc_new w (.cells #[.int .i64 v] 3)
  have hb0 : Below w.heap.size w (w.alloc (.cells #[.int .i64 v] 3)) := (Below.refl _ _).alloc (Nat.le_refl _) _
  have hz0 : (w.alloc (.cells #[.int .i64 v] 3)).heap.size = w.heap.size + 1 := by simp
  have hz1 : ((w.alloc (.cells #[.int .i64 v] 3)).alloc (.cells #[.slice A2 n2 c2] 22)).heap.size = w.heap.size + 1 + 1 := by simp
  have hCu := heap_alloc_new (w.alloc (.cells #[.int .i64 v] 3)) (.cells #[.slice A2 n2 c2] 22)
  have hCv2 := (heap_alloc_old (w.alloc (.cells #[.int .i64 v] 3)) (.cells #[.slice A2 n2 c2] 22) (lt_of_block hCv)).trans hCv
  have hb1 := hb0.alloc hb0.size (.cells #[.slice A2 n2 c2] 22)
  rw [hz0] at hCu
  generalize World.alloc (World.alloc w _) _ = W1 at hCu hCv2 hb1 hz1 ⊢
  have HBW := Lib.hid hb1
  obtain ⟨Cv, hCE⟩ : ∃ C, w.heap.size = C := ⟨_, rfl⟩
  have hvc := cell_of_one hCv2
  have hvl := lt_of_block hCv2
  have huc := cell_of_one hCu
  have hul := lt_of_block hCu
  rw [hCE] at hvc hvl huc hul hCv2 hCu ⊢
  have HC1 := Lib.hid (And.intro hCv2 hCu)
  clear hCv hb0 hz0 hCv2 hCu hb1 hz1 hCE
  go_wp2_with fail
  refine (HV.out _ HBW.out).mono ?_
  rintro e w1 ⟨rfl, hb⟩
  have HB3 := Lib.hid (HBW.out.trans (hb.mono HBW.out.size))
  clear hvc huc hb
  go_wp2
  go_ret2
  exact ⟨_, fun _ => undef, rfl, ownT_nil _ _ _, HB3.out⟩
end
end
end Go.Proofs.YtbohigjfdnnomaaDoor
