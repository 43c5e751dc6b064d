/-
  Take of the pool: the visit of a node.
-/
import Derived.Test.YtbohigjfdnnomaaGreatDoorTeTc
namespace Go.Proofs.YtbohigjfdnnomaaGreatDoor
open Go.RowKit

abbrev fnV (g : Nat) (lb : Array Value) : Value := .func (.func g) #[] lb
abbrev ptr (b : Nat) : Value := .pointer (some ⟨b, 0, none⟩)
/-- A made row of numbers of any sign. -/
def RowZ (w : World) (B n : Nat) (a : Nat → Int) : Prop := ∃ arr : Array Value, w.heap[B]? = some (.cells arr 3 (0, 0)) ∧ arr.size = n ∧ ∀ j, j < n → arr[j]? = some (.int .i64 (a j))
theorem RowZ.lt {w : World} {B n : Nat} {a : Nat → Int} (h : RowZ w B n a) : B < w.heap.size := by
  obtain ⟨arr, h1, -⟩ := h
  exact lt_of_block h1
theorem RowZ.keep {w w' : World} {B n : Nat} {a : Nat → Int} (h : RowZ w B n a) (hb : w'.heap[B]? = w.heap[B]?) : RowZ w' B n a := by
  obtain ⟨arr, h1, h2, h3⟩ := h
  exact ⟨arr, hb.trans h1, h2, h3⟩
theorem RowZ.cell {w : World} {B n : Nat} {a : Nat → Int} (h : RowZ w B n a) {j : Nat} (hj : j < n) : w.cell? ⟨B, j, none⟩ = some (.int .i64 (a j)) ∧ w.frozen? ⟨B, j, none⟩ = false := by
  obtain ⟨arr, h1, h2, h3⟩ := h
  refine ⟨?_, by simp [World.frozen?, h1]⟩
  simp only [World.cell?, h1]
  exact h3 j hj
def updZ (a : Nat → Int) (k : Nat) (x : Int) : Nat → Int := fun j => if j = k then x else a j
theorem RowZ.put {w : World} {B n : Nat} {a : Nat → Int} (h : RowZ w B n a) (k : Nat) (x : Int) : RowZ (w.setCell ⟨B, k, none⟩ (.int .i64 x)) B n (updZ a k x) := by
  obtain ⟨arr, h1, h2, h3⟩ := h
  refine ⟨_, heap_setCell_same w B k _ _ _ h1, by simpa using h2, fun j hj => ?_⟩
  rw [updZ, Array.getElem?_setIfInBounds]
  by_cases hD : j = k
  · subst hD
    simp [h2, hj]
  · rw [if_neg (fun e => hD e.symm), if_neg hD]
    exact h3 j hj
/-- How many nodes have no place. -/
def cntN (a : Nat → Int) : Nat → Nat
  | 0 => 0
  | m + 1 => cntN a m + (if a m < 0 then 1 else 0)
theorem cntN_congr {a b : Nat → Int} : ∀ n, (∀ j, j < n → a j = b j) → cntN a n = cntN b n
  | 0, _ => rfl
  | n + 1, h => by rw [cntN, cntN, cntN_congr n (fun j hj => h j (by omega)), h n (by omega)]
theorem cntN_put {a : Nat → Int} {k : Nat} {x : Int} (hk : a k < 0) (hx : 0 ≤ x) : ∀ n, k < n → cntN (updZ a k x) n + 1 = cntN a n
  | 0, h => absurd h (by omega)
  | n + 1, h => by
    rw [cntN, cntN]
    by_cases e : k = n
    · subst e
      rw [cntN_congr (a := updZ a k x) (b := a) k (fun j hj => if_neg (by omega)), if_neg (show ¬ updZ a k x k < 0 by rw [updZ, if_pos rfl]; omega), if_pos hk]
    · have e2 : updZ a k x n = a n := if_neg (fun h => e h.symm)
      have := cntN_put hk hx n (by omega)
      rw [e2]
      omega
theorem insL_snoc : ∀ (l : List Tr) (c : Tr) (out : List Nd), insL (l ++ [c]) out = ((insL l out).1 ++ [(ins c (insL l out).2).1], (ins c (insL l out).2).2)
  | [], c, out => by rw [List.nil_append, insL, insL, insL]; rfl
  | x :: l, c, out => by rw [List.cons_append, insL, insL_snoc l c, insL]; rfl
/-- Nodes that may go into a pool, but for their Args. -/
structure FineT (T : List Nd) : Prop where
  op : ∀ k, k < T.length → 0 ≤ T[k]!.op ∧ T[k]!.op ≤ 33
  width : ∀ k, k < T.length → 0 ≤ T[k]!.width ∧ T[k]!.width ≤ 1000
  flags : ∀ k, k < T.length → T[k]!.flags = 0
  imm : ∀ k, k < T.length → 0 ≤ T[k]!.imm ∧ T[k]!.imm < 4294967296
  len : ∀ k, k < T.length → (T[k]!.args.length : Int) = argN T[k]!.op
  down : Down T
/-- What the closure of Take has around it. -/
structure TakeW (w0 : World) (A : Option Addr) (n c : Nat) (Bp Bt Bs Bv Bq R P M base : Nat) (sv : Value) (F : Nat → Prop) (a : Nat → Int) (out : List Nd) (trs : Nat → Tr) (w : World) : Prop where
  below : Below w0.heap.size w0 w
  bp : w.heap[Bp]? = some (.cells #[.slice (some ⟨R, 0, none⟩) n n] 35 (0, 0))
  bt : w.heap[Bt]? = some (.cells #[.slice A n c] 22 (0, 0))
  bs : w.heap[Bs]? = some (.cells #[sv] 82 (0, 0))
  bv : w.heap[Bv]? = some (.cells #[fnV 64 #[ptr Bp, ptr Bt, ptr Bs, ptr Bv, ptr Bq]] 102 (0, 0))
  bq : w.heap[Bq]? = some (.cells #[ptr P] 51 (0, 0))
  row : RowZ w R n a
  pool : Pool w base P M F out
  nF : ¬ F R ∧ ¬ F Bp ∧ ¬ F Bt ∧ ¬ F Bs ∧ ¬ F Bv ∧ ¬ F Bq
  nR : Bp ≠ R ∧ Bt ≠ R ∧ Bs ≠ R ∧ Bv ≠ R ∧ Bq ≠ R
  inv : ∀ j, j < n → 0 ≤ a j → Has out (trs j) (a j).toNat
theorem Pool.once {w : World} {base P M : Nat} {F : Nat → Prop} {out : List Nd} (h : Pool w base P M F out) : Once out := by
  obtain ⟨nv, av, D, h⟩ := h
  exact h.once
theorem Pool.lt {w : World} {base P M : Nat} {F : Nat → Prop} {out : List Nd} (h : Pool w base P M F out) (b : Nat) (hb : F b) : b < w.heap.size ∧ base ≤ b := by
  obtain ⟨nv, av, D, h⟩ := h
  exact h.lt b hb
theorem Pool.keep {w w' : World} {base P M : Nat} {F : Nat → Prop} {out : List Nd} (h : Pool w base P M F out) (hs : w.heap.size ≤ w'.heap.size) (hb : ∀ b, F b → w'.heap[b]? = w.heap[b]?) : Pool w' base P M F out := by
  obtain ⟨nv, av, D, h⟩ := h
  exact ⟨nv, av, D, h.keep hs hb⟩
/-- New blocks change nothing. -/
theorem TakeW.grow {w0 : World} {A : Option Addr} {n c : Nat} {Bp Bt Bs Bv Bq R P M base : Nat} {sv : Value} {F : Nat → Prop} {a : Nat → Int} {out : List Nd} {trs : Nat → Tr} {w w' : World} (h : TakeW w0 A n c Bp Bt Bs Bv Bq R P M base sv F a out trs w) (hb : Below w.heap.size w w') : TakeW w0 A n c Bp Bt Bs Bv Bq R P M base sv F a out trs w' where
  below := h.below.trans (hb.mono h.below.size)
  bp := (hb.block _ (lt_of_block h.bp)).trans h.bp
  bt := (hb.block _ (lt_of_block h.bt)).trans h.bt
  bs := (hb.block _ (lt_of_block h.bs)).trans h.bs
  bv := (hb.block _ (lt_of_block h.bv)).trans h.bv
  bq := (hb.block _ (lt_of_block h.bq)).trans h.bq
  row := h.row.keep (hb.block _ h.row.lt)
  pool := h.pool.keep hb.size fun b hf => hb.block b (h.pool.lt b hf).1
  nF := h.nF
  nR := h.nR
  inv := h.inv
/-- Where only blocks beside those of Take turn. -/
theorem TakeW.move {w0 : World} {A : Option Addr} {n c : Nat} {Bp Bt Bs Bv Bq R P M base : Nat} {sv : Value} {F G : Nat → Prop} {a : Nat → Int} {out : List Nd} {trs : Nat → Tr} {w w' : World} (h : TakeW w0 A n c Bp Bt Bs Bv Bq R P M base sv F a out trs w) (hk : KeepF G w w') (hw : ∀ b, G b → w0.heap.size ≤ b) (hF : ∀ b, F b → ¬ G b) (hR : ¬ G R) (h1 : ¬ G Bp) (h2 : ¬ G Bt) (h3 : ¬ G Bs) (h4 : ¬ G Bv) (h5 : ¬ G Bq) : TakeW w0 A n c Bp Bt Bs Bv Bq R P M base sv F a out trs w' where
  below := h.below.trans (hk.below hw h.below.size)
  bp := (hk.block _ (lt_of_block h.bp) h1).trans h.bp
  bt := (hk.block _ (lt_of_block h.bt) h2).trans h.bt
  bs := (hk.block _ (lt_of_block h.bs) h3).trans h.bs
  bv := (hk.block _ (lt_of_block h.bv) h4).trans h.bv
  bq := (hk.block _ (lt_of_block h.bq) h5).trans h.bq
  row := h.row.keep (hk.block _ h.row.lt hR)
  pool := h.pool.keep hk.size fun b hf => hk.block b (h.pool.lt b hf).1 (hF b hf)
  nF := h.nF
  nR := h.nR
  inv := h.inv
set_option maxRecDepth 100000 in
set_option maxHeartbeats 2000000 in
theorem keep_any (w : World) (y : Nd) (A : Option Addr) (n c : Nat) : Calls Tryz.prog 44 #[.agg #[.int .i64 y.op, .int .i64 y.width, .int .i64 y.flags, .slice A n c, .int .u32 y.imm]] w fun e w' => e = .returned (.tuple #[.int .i64 0, .bool false]) ∧ Below w.heap.size w w' := by
  go_enter Tryz.func44, Tryz.ntmps44
  go_wp2
  go_ret2
  exact ⟨rfl, (Below.refl _ _).alloc (Nat.le_refl _) _⟩
theorem keep_set (w : World) (D o : Nat) (v : Value) : KeepF (fun b => b = D) w (w.setCell ⟨D, o, none⟩ v) := by
  have h := (Below.refl D w).setCell (p := ⟨D, o, none⟩) (Nat.le_refl _) v
  exact ⟨h.os, h.tape, h.output, h.size, fun b _ hne => heap_setCell_other w ⟨D, o, none⟩ b v hne⟩
theorem keep_grown {w w' : World} {row : Option Nat} (h : w.grownBy w' row) : KeepF (fun b => row = some b) w w' := ⟨h.os, h.tape, h.output, h.size, fun b hb hne => h.block b hb (fun e => hne e.symm)⟩
/-- A node that has got its place. -/
theorem TakeW.place {w0 : World} {A : Option Addr} {n c : Nat} {Bp Bt Bs Bv Bq R P M base : Nat} {sv : Value} {F F7 : Nat → Prop} {a : Nat → Int} {out out7 : List Nd} {trs : Nat → Tr} {w w7 : World} (h : TakeW w0 A n c Bp Bt Bs Bv Bq R P M base sv F a out trs w) (hk : KeepF F w w7) (hp : Pool w7 base P M F7 out7) (hF : ∀ b, F7 b → F b ∨ w.heap.size ≤ b) (hpre : Pre out out7) (hbase : w0.heap.size ≤ base) (hR0 : w0.heap.size ≤ R) {k i : Nat} (hi : Has out7 (trs k) i) : TakeW w0 A n c Bp Bt Bs Bv Bq R P M base sv F7 (updZ a k (i : Int)) out7 trs (w7.setCell ⟨R, k, none⟩ (.int .i64 (i : Int))) := by
  have hks := keep_set w7 R k (.int .i64 (i : Int))
  have h7 : ∀ b, b < w.heap.size → ¬ F b → ¬ F7 b := fun b hb hn e => (hF b e).elim hn (fun h => by omega)
  have hs := hk.size
  have blk : ∀ b, b < w.heap.size → ¬ F b → b ≠ R → (w7.setCell ⟨R, k, none⟩ (.int .i64 (i : Int))).heap[b]? = w.heap[b]? := fun b hb hn hne => (hks.block b (by omega) hne).trans (hk.block b hb hn)
  exact {
    below := (h.below.trans (hk.below (fun b e => by have := (h.pool.lt b e).2; omega) h.below.size)).setCell (p := ⟨R, k, none⟩) hR0 _
    bp := (blk _ (lt_of_block h.bp) h.nF.2.1 h.nR.1).trans h.bp
    bt := (blk _ (lt_of_block h.bt) h.nF.2.2.1 h.nR.2.1).trans h.bt
    bs := (blk _ (lt_of_block h.bs) h.nF.2.2.2.1 h.nR.2.2.1).trans h.bs
    bv := (blk _ (lt_of_block h.bv) h.nF.2.2.2.2.1 h.nR.2.2.2.1).trans h.bv
    bq := (blk _ (lt_of_block h.bq) h.nF.2.2.2.2.2 h.nR.2.2.2.2).trans h.bq
    row := (h.row.keep (hk.block _ h.row.lt h.nF.1)).put k i
    pool := hp.keep hks.size (fun b hb => hks.block b (hp.lt b hb).1 (fun e => h7 R h.row.lt h.nF.1 (by rw [← e]; exact hb)))
    nF := ⟨h7 _ h.row.lt h.nF.1, h7 _ (lt_of_block h.bp) h.nF.2.1, h7 _ (lt_of_block h.bt) h.nF.2.2.1, h7 _ (lt_of_block h.bs) h.nF.2.2.2.1, h7 _ (lt_of_block h.bv) h.nF.2.2.2.2.1, h7 _ (lt_of_block h.bq) h.nF.2.2.2.2.2⟩
    nR := h.nR
    inv := fun j hj h0 => by
      by_cases e : j = k
      · subst e
        rw [updZ, if_pos rfl, Int.toNat_natCast]
        exact hi
      · rw [updZ, if_neg e] at h0 ⊢
        exact has_pre hpre _ _ (h.inv j hj h0) }
theorem has_lt {out : List Nd} {t : Tr} {i : Nat} (h : Has out t i) : i < out.length := by
  cases t with
  | nd op wi fl im cs =>
    rw [Has] at h
    obtain ⟨is, h1, -⟩ := h
    exact h1
theorem hasL_lt {out : List Nd} : ∀ (cs : List Tr) (is : List Nat), HasL out cs is → ∀ j, j < is.length → is[j]! < out.length
  | [], is, h, j, hj => by
    rw [HasL] at h
    subst h
    exact absurd hj (by simp)
  | c :: cs, is, h, j, hj => by
    rw [HasL] at h
    obtain ⟨i, js, rfl, h1, h2⟩ := h
    match j with
    | 0 => exact has_lt h1
    | j + 1 =>
      have := hasL_lt cs js h2 j (by simpa using hj)
      simpa using this
def natI (l : List Nat) : List Int := l.map fun (i : Nat) => (i : Int)
theorem natI_snoc (l : List Nat) (x : Nat) : natI (l ++ [x]) = natI l ++ [(x : Int)] := by simp [natI]
/-- The trees of the Args of a node. -/
def argT (T : List Nd) (k : Nat) : List Tr := T[k]!.args.map fun x => tr T x.toNat
theorem argT_take {T : List Nd} {k q p : Nat} (hq : q < T[k]!.args.length) (hp : T[k]!.args[q]! = (p : Int)) : (argT T k).take (q + 1) = (argT T k).take q ++ [tr T p] := by
  unfold argT
  rw [List.take_succ_eq_append_getElem (by simpa using hq), List.getElem_map]
  have e : T[k]!.args[q] = (p : Int) := by rw [← hp, getElem!_pos _ q hq]
  rw [e, Int.toNat_natCast]
theorem insL_len : ∀ (l : List Tr) (out : List Nd), (insL l out).1.length = l.length
  | [], _ => by rw [insL]; rfl
  | c :: l, out => by rw [insL, List.length_cons, insL_len l, List.length_cons]
/-- A node put in behind its Args. -/
theorem ins_node {T : List Nd} (hd : Down T) {k : Nat} (hk : k < T.length) (out : List Nd) : ins (tr T k) out = (ix (insL (argT T k) out).2 ⟨T[k]!.op, T[k]!.width, T[k]!.flags, natI (insL (argT T k) out).1, T[k]!.imm⟩, addP (insL (argT T k) out).2 ⟨T[k]!.op, T[k]!.width, T[k]!.flags, natI (insL (argT T k) out).1, T[k]!.imm⟩) := by
  rw [tr_eq hd hk, ins]
  rfl
section
variable {w0 : World} {A : Option Addr} {n c : Nat} {T : List Nd} {Bp Bt Bs Bv Bq R P M base : Nat}
set_option maxRecDepth 100000 in
set_option maxHeartbeats 8000000 in
theorem takeVisit_any (h0 : Term w0 A n c T) (hT : FineT T) (hbase : w0.heap.size ≤ base) (hR0 : w0.heap.size ≤ R) :
    ∀ (f k : Nat) (F : Nat → Prop) (a : Nat → Int) (out : List Nd) (w : World), k < n → k < f → TakeW w0 A n c Bp Bt Bs Bv Bq R P M base (fnV 44 #[]) F a out (tr T) w → out.length + cntN a n < 900000 →
      Calls Tryz.prog 64 #[.int .i64 (k : Int), ptr Bp, ptr Bt, ptr Bs, ptr Bv, ptr Bq] w fun e w' => ∃ (F' : Nat → Prop) (a' : Nat → Int), e = .returned (.int .i64 (((ins (tr T k) out).1 : Nat) : Int)) ∧ TakeW w0 A n c Bp Bt Bs Bv Bq R P M base (fnV 44 #[]) F' a' (ins (tr T k) out).2 (tr T) w' ∧ (∀ b, F b → F' b) ∧ (∀ b, F' b → F b ∨ w.heap.size ≤ b) ∧ KeepF (fun b => F b ∨ b = R) w w' ∧ (ins (tr T k) out).2.length + cntN a' n ≤ out.length + cntN a n ∧ ∀ j, k < j → a' j = a j
  | 0, k, _, _, _, _, _, hf, _, _ => by omega
  | f + 1, k, F, a, out, w, hk, hf, hW, hlen => by
    have IH := Lib.hid (takeVisit_any h0 hT hbase hR0 f)
    have hcap0 := h0.2.1
    have hmax0 := h0.2.2.1
    have hp0 := cell_of_one hW.bp
    have hpl := lt_of_block hW.bp
    obtain ⟨hrc, hrf⟩ := hW.row.cell hk
    have hrl := hW.row.lt
    by_cases hpl0 : 0 ≤ a k
    · have HI := Lib.hid (ins_has (tr T k) out _ hW.pool.once (hW.inv k hk hpl0))
      have HV := Lib.hid (show (a k) = (((ins (tr T k) out).1 : Nat) : Int) by rw [HI.out]; simp only; omega)
      have HW := Lib.hid hW
      have e1 : decide (0 ≤ a k) = true := decide_eq_true hpl0
      have HL := Lib.hid hlen
      clear hW hlen hf
      generalize a k = x at hrc e1 HV hpl0
      clear hpl0
      go_enter Tryz.func64, Tryz.ntmps64
      go_wp2
      go_ret
      exact ⟨F, a, by exact ret_i HV.out, by rw [HI.out]; exact HW.out, fun _ h => h, fun _ h => .inl h, KeepF.refl _ _, by rw [HI.out]; exact Nat.le_refl _, fun _ _ => rfl⟩
    · have HNEG := Lib.hid hpl0
      have e1 : decide (0 ≤ a k) = false := decide_eq_false hpl0
      obtain ⟨b, off, A', n', c', rfl, hbs0, ht0, hI, himm⟩ := h0.at_ hk
      have hkT : k < T.length := by rw [← h0.1]; exact hk
      have HIN := Lib.hid (ins_node hT.down hkT out)
      have HDN := Lib.hid (hT.down k hkT)
      have HTK := Lib.hid (fun q p (hq : q < n') hp => argT_take (T := T) (k := k) (q := q) (p := p) (by rw [← hI.1]; exact hq) hp)
      have HALL := Lib.hid (show (argT T k).take n' = argT T k from List.take_of_length_le (by unfold argT; rw [List.length_map, hI.1]; exact Nat.le_refl _))
      have HFO := Lib.hid (And.intro (hT.op k hkT) (And.intro (hT.width k hkT) (And.intro (hT.flags k hkT) (And.intro (hT.imm k hkT) (hT.len k hkT)))))
      have HNL := Lib.hid hI.1
      have HW := Lib.hid hW
      have HB0 := Lib.hid hbs0
      have HT0 := Lib.hid ht0
      have HII := Lib.hid hI
      have hcapI := hI.2.1
      have hmaxI := hI.2.2.1
      have HL := Lib.hid hlen
      obtain ⟨a0, a1, a2, a3, a4⟩ := ht0.below hbs0 hW.below
      have hbs := Nat.lt_of_lt_of_le hbs0 hW.below.size
      have htc := cell_of_one hW.bt
      have htl := lt_of_block hW.bt
      have hsc := cell_of_one hW.bs
      have hsl := lt_of_block hW.bs
      clear hW hI ht0 hbs0 hlen himm
      generalize argT T k = cs at HIN HTK HALL
      generalize T[k]! = x at a0 a1 a2 a3 a4 HIN HDN HTK HFO HNL HT0 HII
      obtain ⟨op, wid, fl, args, imm⟩ := x
      simp only at a0 a1 a2 a3 a4 HIN HDN HTK HFO HNL HT0 HII
      generalize hak : a k = ak at hrc e1 HNEG
      have HAK := Lib.hid hak
      clear hak hpl0
      go_enter Tryz.func64, Tryz.ntmps64
      go_upto_region 4 with fail
      have hx := heap_alloc_new w (.cells #[.int .i64 op, .int .i64 wid, .int .i64 fl, .slice A' n' c', .int .u32 imm] 38)
      have hb1 : Below w.heap.size w (w.alloc (.cells #[.int .i64 op, .int .i64 wid, .int .i64 fl, .slice A' n' c', .int .u32 imm] 38)) := (Below.refl _ _).alloc (Nat.le_refl _) _
      have hz1 : (w.alloc (.cells #[.int .i64 op, .int .i64 wid, .int .i64 fl, .slice A' n' c', .int .u32 imm] 38)).heap.size = w.heap.size + 1 := by simp
      have hKP := Lib.hid (fun w1 => keep_any w1 ⟨op, wid, fl, args, imm⟩ A' n' c')
      generalize World.alloc w _ = W1 at hx hb1 hz1 ⊢
      have HZ1 := Lib.hid hz1
      clear hz1
      obtain ⟨D, hDE⟩ : ∃ D, w.heap.size = D := ⟨_, rfl⟩
      have HDE := Lib.hid hDE
      rw [hDE] at hx ⊢
      clear hDE
      have hsc1 := (hb1.cell (p := ⟨Bs, 0, none⟩) hsl).trans hsc
      have hsl1 := Nat.lt_of_lt_of_le hsl hb1.size
      obtain ⟨d0, d1, d2, d3, d4⟩ := cells5 (x := ⟨op, wid, fl, args, imm⟩) hx
      simp only at d0 d1 d2 d3 d4
      have hDl := lt_of_block hx
      clear a0 a1 a2 a3 a4 hp0 hpl hrc hrf hrl hsc hsl htc htl
      go_wp2_with fail
      refine (hKP.out _).mono ?_
      rintro e w2 ⟨rfl, hb2⟩
      have hx2 := (hb2.block _ hDl).trans hx
      have hb12 := hb1.trans (hb2.mono hb1.size)
      have hD2l := lt_of_block hx2
      have hd2 : w2.cell? ⟨D, 3, none⟩ = some (.slice A' n' c') ∧ w2.frozen? ⟨D, 3, none⟩ = false := ⟨(cells5 (x := ⟨op, wid, fl, args, imm⟩) hx2).2.2.2.1, by simp [World.frozen?, hx2]⟩
      obtain ⟨hd2a, hd2b⟩ := hd2
      clear hsc1 hsl1 d0 d1 d2 d3 d4 hx hb1
      go_upto_region 9 with fail
      have hx3 : (w2.setCell ⟨D, 3, none⟩ (.slice none 0 0)).heap[D]? = some (.cells #[.int .i64 op, .int .i64 wid, .int .i64 fl, .slice none 0 0, .int .u32 imm] 38 (0, 0)) := (heap_setCell_same w2 D 3 _ _ _ hx2).trans rfl
      have hk3 := keep_set w2 D 3 (.slice none 0 0)
      generalize World.setCell w2 _ _ = w3 at hx3 hk3 ⊢
      have hDw : ∀ b, b < w.heap.size → b ≠ D := fun b hb => by have := HDE.out; omega
      have hW3 : TakeW w0 (some ⟨b, off, none⟩) n c Bp Bt Bs Bv Bq R P M base (fnV 44 #[]) F a out (tr T) w3 := (HW.out.grow hb12).move hk3 (fun b e => by have := HW.out.below.size; have := HDE.out; omega) (fun b hb e => hDw b (HW.out.pool.lt b hb).1 e) (hDw _ HW.out.row.lt) (hDw _ (lt_of_block HW.out.bp)) (hDw _ (lt_of_block HW.out.bt)) (hDw _ (lt_of_block HW.out.bs)) (hDw _ (lt_of_block HW.out.bv)) (hDw _ (lt_of_block HW.out.bq))
      have hK3 : KeepF (fun b => F b ∨ b = R) w w3 := (keep_of_below hb12).trans hk3 (fun k e => .inr (by have := HDE.out; omega))
      have hs3 : D + 1 ≤ w3.heap.size := by have h1 := hb2.size; have h2 := hk3.size; have := HZ1.out; have := HDE.out; omega
      clear hx2 hb12 hb2 hk3 hd2a hd2b hD2l hDl
      have htc := cell_of_one hW3.bt
      have htl := lt_of_block hW3.bt
      obtain ⟨a0, a1, a2, a3, a4⟩ := HT0.out.below HB0.out hW3.below
      have hbs3 := Nat.lt_of_lt_of_le HB0.out hW3.below.size
      clear hbs
      go_wp2
      clear htc htl a0 a1 a2 a3 a4 hbs3
      go_loopw [46] (fun zi wr => ∃ (q : Nat) (Fq : Nat → Prop) (aq : Nat → Int) (vl : Value), q ≤ n' ∧ zi = .int .i64 (q : Int) ∧ TakeW w0 (some ⟨b, off, none⟩) n c Bp Bt Bs Bv Bq R P M base (fnV 44 #[]) Fq aq (insL (cs.take q) out).2 (tr T) wr ∧ wr.heap[D]? = some (.cells #[.int .i64 op, .int .i64 wid, .int .i64 fl, vl, .int .u32 imm] 38 (0, 0)) ∧ wr.ownsRow (D + 1) 3 1 vl q (iV (natI (insL (cs.take q) out).1)) ∧ Hid ((∀ b, vl.ownBlock = some b → ¬ Fq b ∧ b ≠ R) ∧ (q = 0 → vl = .slice none 0 0) ∧ (∀ b, F b → Fq b) ∧ (∀ b, Fq b → F b ∨ D + 1 ≤ b) ∧ KeepF (fun b => F b ∨ b = R) w wr ∧ (insL (cs.take q) out).2.length + cntN aq n ≤ out.length + cntN a n ∧ (∀ j, k ≤ j → aq j = a j) ∧ D + 1 ≤ wr.heap.size)) (fun zi _ => n' - (intOf zi).toNat)
      case atStart => exact ⟨0, F, a, .slice none 0 0, by omega, rfl, by rw [List.take_zero, insL]; exact hW3, hx3, World.ownsRow_nil _ _ _ _, Lib.hid ⟨fun b e => by simp [Value.ownBlock] at e, fun _ => rfl, fun _ h => h, fun _ h => .inl h, hK3, by rw [List.take_zero, insL]; exact Nat.le_refl _, fun _ _ => rfl, hs3⟩⟩
      case round =>
        clear hW3 hK3 hx3 hs3
        obtain ⟨q, Fq, aq, vl, hq, rfl, hWq, hx, hown, HH⟩ := hrel
        obtain ⟨h1, h2, h3, h4, h5, h6, h7, h8⟩ := HH.out
        by_cases hlt : q < n'
        · obtain ⟨p, hp, hpk⟩ := HDN.out q (by rw [← HNL.out]; exact hlt)
          have HTQ := Lib.hid (HTK.out q p hlt hp)
          have HC := Lib.hid (IH.out p Fq aq _ wr (by omega) (by omega) hWq (by have := HL.out; omega))
          have hvc := cell_of_one hWq.bv
          have hvl := lt_of_block hWq.bv
          obtain ⟨bA, oA, rfl, hbA, hcA⟩ := (HII.out.below hWq.below).at_ hlt
          rw [hp] at hcA
          have HOW := Lib.hid hown
          have HXD := Lib.hid hx
          clear hp hown hx
          go_wp2_with fail
          refine HC.out.mono ?_
          rintro e w4 ⟨F4, a4, rfl, hW4, g1, g2, g3, g4, g5⟩
          have hn3 : n' ≤ 3 := by
            have h1 := HFO.out.2.2.2.2
            have h2 := argN_le (op := op)
            have h3 := HNL.out
            omega
          have hvs := own_lt HOW.out
          have hvb := own_base HOW.out
          have hDw : ∀ b, b < w.heap.size → b < D + 1 := fun b hb => by have := HDE.out; omega
          have hnFq : ¬ Fq D := fun e => by
            rcases h4 D e with e | e
            · have := (HW.out.pool.lt D e).1
              have := HDE.out
              omega
            · omega
          have hDR : D ≠ R := fun e => by have := HW.out.row.lt; have := HDE.out; omega
          have hx4 := (g3.block D (by omega) (fun e => e.elim hnFq hDR)).trans HXD.out
          have hown4 := ownsRow_keep HOW.out (fun b e => g3.block b (hvs b e) (fun e2 => e2.elim (h1 b e).1 (h1 b e).2))
          have hv4F : ∀ b, vl.ownBlock = some b → ¬ F4 b := fun b e e2 => by
            rcases g2 b e2 with e3 | e3
            · exact (h1 b e).1 e3
            · have := hvs b e
              omega
          have hnF4 : ¬ F4 D := fun e => by
            rcases g2 D e with e | e
            · exact hnFq e
            · omega
          have hs4 := g3.size
          obtain ⟨Av, cv, rfl, hcv, hcvm⟩ := own_slice hown4
          obtain ⟨d0, d1, d2, d3, d4⟩ : w4.cell? ⟨D, 0, none⟩ = some (.int .i64 op) ∧ w4.cell? ⟨D, 1, none⟩ = some (.int .i64 wid) ∧ w4.cell? ⟨D, 2, none⟩ = some (.int .i64 fl) ∧ w4.cell? ⟨D, 3, none⟩ = some (.slice Av q cv) ∧ w4.cell? ⟨D, 4, none⟩ = some (.int .u32 imm) := by
            refine ⟨?_, ?_, ?_, ?_, ?_⟩ <;> simp [World.cell?, hx4]
          have hD4l := lt_of_block hx4
          have HR4 := Lib.hid (show insL (cs.take (q + 1)) out = ((insL (cs.take q) out).1 ++ [(ins (tr T p) (insL (cs.take q) out).2).1], (ins (tr T p) (insL (cs.take q) out).2).2) by rw [HTQ.out, insL_snoc])
          have HK4 := Lib.hid (h5.trans g3 (fun b e => by
            rcases e with e | e
            · rcases h4 b e with e2 | e2
              · exact .inl (.inl e2)
              · exact .inr (by have := HDE.out; omega)
            · exact .inl (.inr e)))
          clear hvc hvl hbA hcA d0 d1 d2 d4
          generalize (ins (tr T p) (insL (cs.take q) out).2).1 = z at HR4 ⊢
          obtain ⟨i0, hi, hz0, hz1, hz2⟩ := info_parts infoI
          have HX4 := Lib.hid hx4
          go_wp2_with (at_builtin; refine wpList_append_own_at _ rfl _ _ 35 rfl (D + 1) 3 i0 (.int .i64 0) 1 8 Tryz.underlying35 hi hz0 hz1 hz2 rfl (by decide) _ _ _ rfl (hown4.alloc _) ⟨w4.heap.size, 0, none⟩ 1 1 [.int .i64 (z : Int)] rfl rfl (one_new w4 _ _) ?k2 ?k3 ?k4 ?k5 ?_)
          case k2 => simp [Value.oneCell']
          case k3 => unfold maxLen; omega
          case k4 => omega
          case k5 => simp; omega
          intro v2 w5 hown5 hg5 _ hloc5
          obtain ⟨A2, c2, rfl, hc2, hc2m⟩ := own_slice hown5
          have hs5 := hg5.size
          have hs4a : (w4.alloc (.cells #[.int .i64 (z : Int)] 3)).heap.size = w4.heap.size + 1 := by simp
          rw [hs4a] at hs5
          have hb4 : Below w4.heap.size w4 (w4.alloc (.cells #[.int .i64 (z : Int)] 3)) := (Below.refl _ _).alloc (Nat.le_refl _) _
          have hvD : ∀ b, (Value.slice Av q cv).ownBlock = some b → D + 1 ≤ b := fun b e => own_base hown4 b e
          have hW5 := (hW4.grow hb4).move (keep_grown hg5) (fun b e => by have := hvD b e; have := HW.out.below.size; have := HDE.out; omega) (fun b hb e => hv4F b e hb) (fun e => (h1 R e).2 rfl) (fun e => by have := hvD _ e; have := hDw _ (lt_of_block HW.out.bp); omega) (fun e => by have := hvD _ e; have := hDw _ (lt_of_block HW.out.bt); omega) (fun e => by have := hvD _ e; have := hDw _ (lt_of_block HW.out.bs); omega) (fun e => by have := hvD _ e; have := hDw _ (lt_of_block HW.out.bv); omega) (fun e => by have := hvD _ e; have := hDw _ (lt_of_block HW.out.bq); omega)
          have hx5 := ((hg5.block D (by omega) (fun e => by have := hvD D e.symm; omega)).trans (heap_alloc_old w4 (.cells #[.int .i64 (z : Int)] 3) hD4l)).trans HX4.out
          have hd5 : w5.cell? ⟨D, 3, none⟩ = some (.slice Av q cv) ∧ w5.frozen? ⟨D, 3, none⟩ = false := ⟨by simp [World.cell?, hx5], by simp [World.frozen?, hx5]⟩
          obtain ⟨hd5a, hd5b⟩ := hd5
          have hD5l := lt_of_block hx5
          have hK5 := (HK4.out.trans (keep_of_below (F := fun _ => False) hb4) (fun _ e => e.elim)).trans (keep_grown hg5) (fun b e => .inr (by have := hvD b e; have := HDE.out; omega))
          have hx6 : (w5.setCell ⟨D, 3, none⟩ (.slice A2 (q + 1) c2)).heap[D]? = some (.cells #[.int .i64 op, .int .i64 wid, .int .i64 fl, .slice A2 (q + 1) c2, .int .u32 imm] 38 (0, 0)) := (heap_setCell_same w5 D 3 _ _ _ hx5).trans rfl
          have hk6 := keep_set w5 D 3 (.slice A2 (q + 1) c2)
          have hDw2 : ∀ b, b < w.heap.size → b ≠ D := fun b hb => by have := HDE.out; omega
          have hW6 := Lib.hid (hW5.move hk6 (fun b e => by have := HW.out.below.size; have := HDE.out; omega) (fun b hb e => by rw [e] at hb; exact hnF4 hb) (hDw2 _ HW.out.row.lt) (hDw2 _ (lt_of_block HW.out.bp)) (hDw2 _ (lt_of_block HW.out.bt)) (hDw2 _ (lt_of_block HW.out.bs)) (hDw2 _ (lt_of_block HW.out.bv)) (hDw2 _ (lt_of_block HW.out.bq)))
          have hown6 := Lib.hid (show (w5.setCell ⟨D, 3, none⟩ (.slice A2 (q + 1) c2)).ownsRow (D + 1) 3 1 (.slice A2 (q + 1) c2) (q + 1) (iV (natI (insL (cs.take (q + 1)) out).1)) from by
            rw [HR4.out, natI_snoc, iV_app]
            exact ownsRow_keep hown5 (fun b e => hk6.block b (own_lt hown5 b e) (fun e2 => by have := own_base hown5 b e; omega)))
          have HQ6 := Lib.hid (show (∀ b, (Value.slice A2 (q + 1) c2).ownBlock = some b → ¬ F4 b ∧ b ≠ R) ∧ (q + 1 = 0 → Value.slice A2 (q + 1) c2 = .slice none 0 0) ∧ (∀ b, F b → F4 b) ∧ (∀ b, F4 b → F b ∨ D + 1 ≤ b) ∧ KeepF (fun b => F b ∨ b = R) w (w5.setCell ⟨D, 3, none⟩ (.slice A2 (q + 1) c2)) ∧ (insL (cs.take (q + 1)) out).2.length + cntN a4 n ≤ out.length + cntN a n ∧ (∀ j, k ≤ j → a4 j = a j) ∧ D + 1 ≤ (w5.setCell ⟨D, 3, none⟩ (.slice A2 (q + 1) c2)).heap.size from by
            refine ⟨fun b e => ?_, fun e => by omega, fun b hb => g1 b (h3 b hb), fun b hb => ?_, hK5.trans hk6 (fun b e => .inr (by have := HDE.out; omega)), ?_, fun j hj => (g5 j (by omega)).trans (h7 j hj), by have := hk6.size; omega⟩
            · rcases hloc5 with e2 | e2
              · rw [e2] at e
                exact ⟨hv4F b e, (h1 b e).2⟩
              · rw [e2] at e
                injection e with e
                subst e
                refine ⟨fun hh => ?_, fun hh => ?_⟩
                · have := (hW4.pool.lt _ hh).1
                  omega
                · have := hW4.row.lt
                  omega
            · rcases g2 b hb with e | e
              · exact h4 b e
              · exact .inr (by omega)
            · rw [HR4.out]
              exact Nat.le_trans g4 h6)
          have HO6 := Lib.hid (show (insL (cs.take (q + 1)) out).2 = (ins (tr T p) (insL (cs.take q) out).2).2 by rw [HR4.out])
          have HX6 := Lib.hid hx6
          clear hW4 hW5 hK5 hx6 hk6 hx5 hx4 hg5 hown5 hown4 g1 g2 g3 g4 g5 h1 h2 h3 h4 h5 h6 h7 d3
          go_wp2
          go_roundw
          case rel => exact ⟨q + 1, F4, a4, _, by omega, by go_num, by rw [HO6.out]; exact hW6.out, HX6.out, hown6.out, HQ6⟩
          case measure => simp [intOf]; omega
        · obtain rfl : q = n' := by omega
          rw [HALL.out] at hWq hown h6
          have hok := insL_ok cs out HW.out.pool.once
          have hlen7 : (insL cs out).2.length < 900000 := by have := HL.out; omega
          have hins : (natI (insL cs out).1).length = args.length := by
            rw [natI, List.length_map, insL_len, ← HNL.out]
            have h1 := congrArg List.length HALL.out
            have h2 := hown.1
            rw [iV, List.length_map, natI, List.length_map, insL_len] at h2
            omega
          have hfy : Fine ⟨op, wid, fl, natI (insL cs out).1, imm⟩ := ⟨HFO.out.1, HFO.out.2.1, HFO.out.2.2.1, HFO.out.2.2.2.1, by rw [hins]; exact HFO.out.2.2.2.2, fun j hj => by
            rw [natI, List.length_map] at hj
            have h1 := hasL_lt _ _ hok.2.2 j hj
            have e : (natI (insL cs out).1)[j]! = (((insL cs out).1[j]! : Nat) : Int) := by simp [natI, hj]
            rw [e]
            omega⟩
          obtain ⟨A2, c2, rfl, hI2⟩ := own_ints hown
          have hnil : q = 0 → A2 = none ∧ c2 = 0 := fun e => by
            have := h2 e
            injection this with e1 _ e3
            exact ⟨e1, e3⟩
          have hAF2 : ∀ b' off', A2 = some ⟨b', off', none⟩ → ¬ Fq b' := fun b' off' e => (h1 b' (by rw [e]; rfl)).1
          have HADD := Lib.hid (poolAdd_any (w := wr.drew) (hWq.pool.keep (w' := wr.drew) (Nat.le_refl _) (fun _ _ => rfl)) ⟨op, wid, fl, natI (insL cs out).1, imm⟩ (hI2.below (w' := wr.drew) (drewD (Below.refl _ _))) hnil hAF2 hfy (by omega))
          have hDR : D ≠ R := fun e => by have := HW.out.row.lt; have := HDE.out; omega
          have hnFq : ¬ Fq D := fun e => by
            rcases h4 D e with e | e
            · have := (HW.out.pool.lt D e).1
              have := HDE.out
              omega
            · omega
          have HS := Lib.hid (show ∀ U : World, (∀ b, b < wr.heap.size → ¬ Fq b → b ≠ R → U.heap[b]? = wr.heap[b]?) → U.cell? ⟨Bp, 0, none⟩ = some (.slice (some ⟨R, 0, none⟩) n n) ∧ U.cell? ⟨Bq, 0, none⟩ = some (ptr P) ∧ U.cell? ⟨D, 0, none⟩ = some (.int .i64 op) ∧ U.cell? ⟨D, 1, none⟩ = some (.int .i64 wid) ∧ U.cell? ⟨D, 2, none⟩ = some (.int .i64 fl) ∧ U.cell? ⟨D, 3, none⟩ = some (.slice A2 q c2) ∧ U.cell? ⟨D, 4, none⟩ = some (.int .u32 imm) from fun U hU => by
            have hd := (hU D (by omega) hnFq hDR).trans hx
            refine ⟨cell_of_one ((hU _ (lt_of_block hWq.bp) hWq.nF.2.1 hWq.nR.1).trans hWq.bp), cell_of_one ((hU _ (lt_of_block hWq.bq) hWq.nF.2.2.2.2.2 hWq.nR.2.2.2.2).trans hWq.bq), ?_⟩
            refine ⟨?_, ?_, ?_, ?_, ?_⟩ <;> simp [World.cell?, hd])
          have HWQ := Lib.hid hWq
          have HH2 := Lib.hid (And.intro h3 (And.intro h4 (And.intro h5 (And.intro h6 h7))))
          have HON := Lib.hid hok
          obtain ⟨hrc, hrf⟩ := hWq.row.cell hk
          have hakq : aq k = ak := (h7 k (Nat.le_refl _)).trans HAK.out
          have HAKQ := Lib.hid hakq
          rw [hakq] at hrc
          have hrl := hWq.row.lt
          clear hWq hown hI2 h1 h2 h3 h4 h5 h6 h7 hx hlen7 hins hfy hnil hAF2 hok hakq
          simp only at HADD
          have HHAS := Lib.hid (show Has (addP (insL cs out).2 ⟨op, wid, fl, natI (insL cs out).1, imm⟩) (tr T k) (ix (insL cs out).2 ⟨op, wid, fl, natI (insL cs out).1, imm⟩) from by
            have := (ins_ok (tr T k) out HW.out.pool.once).2.2
            rw [HIN.out] at this
            exact this)
          obtain ⟨I, hI⟩ : ∃ I, ix (insL cs out).2 ⟨op, wid, fl, natI (insL cs out).1, imm⟩ = I := ⟨_, rfl⟩
          obtain ⟨O, hO⟩ : ∃ O, addP (insL cs out).2 ⟨op, wid, fl, natI (insL cs out).1, imm⟩ = O := ⟨_, rfl⟩
          have HPRE := Lib.hid (show Pre (insL cs out).2 O ∧ O.length ≤ (insL cs out).2.length + 1 from by
            rw [← hO]
            refine ⟨addP_pre _, ?_⟩
            unfold addP
            split
            · omega
            · simp)
          rw [hI, hO] at HADD HHAS HIN
          clear hI hO
          go_upto_region 15 with fail
          refine wp_region_held_drew (S := (fun U => U.cell? ⟨Bp, 0, none⟩ = some (.slice (some ⟨R, 0, none⟩) n n) ∧ U.cell? ⟨Bq, 0, none⟩ = some (ptr P) ∧ U.cell? ⟨D, 0, none⟩ = some (.int .i64 op) ∧ U.cell? ⟨D, 1, none⟩ = some (.int .i64 wid) ∧ U.cell? ⟨D, 2, none⟩ = some (.int .i64 fl) ∧ U.cell? ⟨D, 3, none⟩ = some (.slice A2 q c2) ∧ U.cell? ⟨D, 4, none⟩ = some (.int .u32 imm))) (by kernel_rfl) ?_ (fun hHeld => ?_)
          · exact HS.out _ (by first | exact fun _ _ _ _ => rfl | exact fun b hb hn _ => hk7.block b hb hn | exact fun b hb hn hne => (((keep_set w7 R k _).block b (by have := hk7.size; omega) hne).trans (hk7.block b hb hn)))
          refine wpAnyH_take (i := 0) (oi := ({ dst := some 60, op := Op.load 35 (Operand.tmp 1), type := 35, pos := "pool.go:67", after := #[], guard := none } : Oper)) (v := ?a1_v0) rfl (by kernel_rfl) (by kernel_rfl) (by kernel_rfl) (fun _ _ _ h => h) (Or.inl ⟨by rfl, ?a1_y0⟩) (by assumption) ?a1_r0
          case a1_y0 =>
            intro w hSw
            (try dsimp only at hSw)
            go_simp
            (try with_reducible rfl)
          try simp only [Act.put, List.setIfInBounds_toArray, List.set_cons_zero, List.set_cons_succ]
          refine wpAnyH_take (i := 1) (oi := ({ dst := some 61, op := Op.move (Operand.tmp 0), type := 3, pos := "pool.go:67", after := #[], guard := none } : Oper)) (v := ?a2_v1) rfl (by kernel_rfl) (by kernel_rfl) (by kernel_rfl) (fun _ _ _ h => h) (Or.inl ⟨by rfl, ?a2_y1⟩) (by assumption) ?a2_r1
          case a2_y1 =>
            intro w hSw
            (try dsimp only at hSw)
            go_simp
            (try with_reducible rfl)
          try simp only [Act.put, List.setIfInBounds_toArray, List.set_cons_zero, List.set_cons_succ]
          refine wpAnyH_take (i := 2) (oi := ({ dst := some 62, op := Op.load 51 (Operand.tmp 5), type := 51, pos := "pool.go:67", after := #[], guard := none } : Oper)) (v := ?a3_v2) rfl (by kernel_rfl) (by kernel_rfl) (by kernel_rfl) (fun _ _ _ h => h) (Or.inl ⟨by rfl, ?a3_y2⟩) (by assumption) ?a3_r2
          case a3_y2 =>
            intro w hSw
            (try dsimp only at hSw)
            go_simp
            (try with_reducible rfl)
          try simp only [Act.put, List.setIfInBounds_toArray, List.set_cons_zero, List.set_cons_succ]
          refine wpAnyH_take (i := 3) (oi := ({ dst := some 63, op := Op.load 38 (Operand.tmp 8), type := 38, pos := "pool.go:67", after := #[], guard := none } : Oper)) (v := ?a4_v3) rfl (by kernel_rfl) (by kernel_rfl) (by kernel_rfl) (fun _ _ _ h => h) (Or.inl ⟨by rfl, ?a4_y3⟩) (by assumption) ?a4_r3
          case a4_y3 =>
            intro w hSw
            (try dsimp only at hSw)
            go_simp
            (try with_reducible rfl)
          try simp only [Act.put, List.setIfInBounds_toArray, List.set_cons_zero, List.set_cons_succ]
          refine wpAnyH_ready (rs := [4]) (by kernel_rfl) (by simp) ?_
          refine AllReadyH.cons (o := ({ dst := some 64, op := Op.call { callee := Callee.value (Operand.func 41), args := #[Operand.tmp 62, Operand.tmp 63], argTypes := #[51, 38] }, type := 3, pos := "pool.go:67", after := #[{ on := 2, ground := Ground.data }, { on := 3, ground := Ground.data }], guard := none } : Oper)) rfl (fun K hKK => ?_) AllReadyH.nil
          go_simp
          refine HADD.out.mono ?_
          rintro e w7 ⟨rfl, ⟨F7, g1, g2, g3⟩, g4⟩
          have hk7 : KeepF Fq wr w7 := ⟨g4.os, g4.tape, g4.output, g4.size, g4.block⟩
          have hr7 := HWQ.out.row.keep (hk7.block _ hrl HWQ.out.nF.1)
          obtain ⟨hrc7, hrf7⟩ := hr7.cell hk
          have hrl7 := hr7.lt
          rw [HAKQ.out] at hrc7
          refine hKK.out _ _ (HS.out _ (by first | exact fun _ _ _ _ => rfl | exact fun b hb hn _ => hk7.block b hb hn | exact fun b hb hn hne => (((keep_set w7 R k _).block b (by have := hk7.size; omega) hne).trans (hk7.block b hb hn)))) (fun hS4_4 => ?_)
          try simp only [Act.put, List.setIfInBounds_toArray, List.set_cons_zero, List.set_cons_succ]
          refine wpAnyH_take (i := 5) (oi := ({ dst := some 65, op := Op.indexAddr 35 (Operand.tmp 60) (Operand.tmp 61), type := 0, pos := "pool.go:67", after := #[{ on := 0, ground := Ground.data }, { on := 1, ground := Ground.data }, { on := 0, ground := Ground.phase }, { on := 1, ground := Ground.phase }, { on := 2, ground := Ground.phase }, { on := 3, ground := Ground.phase }, { on := 4, ground := Ground.phase }], guard := none } : Oper)) (v := ?a5_v5) rfl (by kernel_rfl) (by kernel_rfl) (by kernel_rfl) (fun _ _ _ h => h) (Or.inl ⟨by rfl, ?a5_y5⟩) (by assumption) ?a5_r5
          case a5_y5 =>
            intro w hSw
            (try dsimp only at hSw)
            go_simp
            (try with_reducible rfl)
          try simp only [Act.put, List.setIfInBounds_toArray, List.set_cons_zero, List.set_cons_succ]
          refine wpAnyH_ready (rs := [6]) (by kernel_rfl) (by simp) ?_
          refine AllReadyH.cons (o := ({ dst := none, op := Op.store 3 (Operand.tmp 65) (Operand.tmp 64), type := 0, pos := "pool.go:67", after := #[{ on := 5, ground := Ground.data }, { on := 4, ground := Ground.data }, { on := 4, ground := Ground.chain }, { on := 0, ground := Ground.phase }, { on := 1, ground := Ground.phase }, { on := 2, ground := Ground.phase }, { on := 3, ground := Ground.phase }, { on := 4, ground := Ground.phase }], guard := none } : Oper)) rfl (fun K hKK => ?_) AllReadyH.nil
          go_simp
          refine hKK.out _ _ (HS.out _ (by first | exact fun _ _ _ _ => rfl | exact fun b hb hn _ => hk7.block b hb hn | exact fun b hb hn hne => (((keep_set w7 R k _).block b (by have := hk7.size; omega) hne).trans (hk7.block b hb hn)))) (fun hS6_5 => ?_)
          try simp only [Act.put, List.setIfInBounds_toArray, List.set_cons_zero, List.set_cons_succ]
          refine wpAnyH_done (by kernel_rfl) ?_ _
          have HPL := HWQ.out.place hk7 g1 g3 HPRE.out.1 hbase hR0 HHAS.out
          have hcnt := cntN_put (a := aq) (k := k) (x := (I : Int)) (by rw [HAKQ.out]; exact HNEG.out) (by omega) n hk
          have hks := keep_set w7 R k (.int .i64 (I : Int))
          have hp8 := cell_of_one HPL.bp
          have hpl8 := lt_of_block HPL.bp
          have hfin : (∀ b, F b → F7 b) ∧ (∀ b, F7 b → F b ∨ w.heap.size ≤ b) ∧ KeepF (fun b => F b ∨ b = R) w (w7.setCell ⟨R, k, none⟩ (.int .i64 (I : Int))) ∧ O.length + cntN (updZ aq k (I : Int)) n ≤ out.length + cntN a n ∧ ∀ j, k < j → updZ aq k (I : Int) j = a j := by
            obtain ⟨h3, h4, h5, h6, h7⟩ := HH2.out
            refine ⟨fun b hb => g2 b (h3 b hb), fun b hb => ?_, (h5.trans hk7 (fun b e => ?_)).trans hks (fun b e => .inl (.inr e)), by have := HPRE.out.2; omega, fun j hj => ?_⟩
            · rcases g3 b hb with e | e
              · rcases h4 b e with e2 | e2
                · exact .inl e2
                · exact .inr (by have := HDE.out; omega)
              · exact .inr (Nat.le_trans h5.size e)
            · rcases h4 b e with e2 | e2
              · exact .inl (.inl e2)
              · exact .inr (by have := HDE.out; omega)
            · rw [updZ, if_neg (by omega)]
              exact h7 j (by omega)
          have HFIN := Lib.hid hfin
          have HPLH := Lib.hid HPL
          clear hfin HPL hks hcnt
          go_wp2
          go_ret
          exact ⟨F7, updZ aq k (I : Int), by rw [HIN.out]; rfl, by rw [HIN.out]; exact HPLH.out, HFIN.out.1, HFIN.out.2.1, HFIN.out.2.2.1, by rw [HIN.out]; exact HFIN.out.2.2.2.1, HFIN.out.2.2.2.2⟩
end
end Go.Proofs.YtbohigjfdnnomaaGreatDoor
