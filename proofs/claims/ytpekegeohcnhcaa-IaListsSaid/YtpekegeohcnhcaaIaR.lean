/-
  HasPrefix; Decode.
-/
import Derived.Test.YtpekegeohcnhcaaIaQ
namespace Go.Proofs.Ytpekegeohcnhcaa
open Go.RowKit

theorem pre_eq {a b : List Int} : pre b a = (decide (b.length ≤ a.length) && decide (a.take b.length = b)) := by
  unfold pre
  rw [Bool.eq_iff_iff, List.isPrefixOf_iff_prefix, List.prefix_iff_eq_take]
  constructor
  · intro h
    have h1 : b.length ≤ a.length := by
      have := congrArg List.length h
      rw [List.length_take] at this
      omega
    simp [h1, ← h]
  · intro h
    simp at h
    exact h.2.symm
set_option maxRecDepth 100000 in
set_option maxHeartbeats 4000000 in
theorem hasPrefix_at {w : World} {A A2 : Option Addr} {n c n2 c2 : Nat} {a b : List Int} (h : Byt w A n c a) (h2 : Byt w A2 n2 c2 b) (B : Bool) (hB : pre b a = B) :
    Calls Try.prog 31 #[.slice A n c, .slice A2 n2 c2] w fun e w' => e = .returned (.bool B) ∧ w = w' := by
  rw [pre_eq] at hB
  have hn := h.1
  have hn2 := h2.1
  have hm := h.2.2.1
  have hc := h.2.1
  have hm2 := h2.2.2.1
  have hc2 := h2.2.1
  by_cases hl : n2 ≤ n
  · have HE := Lib.hid (equal_at (h.take hl) h2 B (by
      rw [← hB, ← hn, ← hn2, decide_eq_true hl, Bool.true_and]))
    have hg : decide ((n : Int) ≥ (n2 : Int)) = true := decide_eq_true (by omega)
    clear h h2 hB hn hn2
    go_enter Try.func31, Try.ntmps31
    go_wp2_with fail
    refine (HE.out).mono ?_
    rintro e w2 ⟨rfl, rfl⟩
    go_wp2
    go_ret
    exact ⟨rfl, rfl⟩
  · have hB2 : B = false := by rw [← hB, ← hn, ← hn2, decide_eq_false hl, Bool.false_and]
    subst hB2
    have hg : decide ((n : Int) ≥ (n2 : Int)) = false := decide_eq_false (by omega)
    clear h h2 hB hn hn2
    go_enter Try.func31, Try.ntmps31
    go_wp2
    go_ret
    exact ⟨rfl, rfl⟩
/-- What Decode answers. -/
def decI (l : List Int) : Ins := match decF l with | some x => x | none => ⟨0, 0, 0, 0, 0⟩
def decN (l : List Int) : Nat := match decF l with | some x => (encF x).length | none => 0
def decB (l : List Int) : Bool := match decF l with | some _ => true | none => false
theorem res3 {fn : Func} {p u v : Tmp} {ty : TypeId} {P : Program} (h : fn.results = #[.cell p ty, .tmp u, .tmp v]) (tmps : Array Value) (w : World) (g : Nat) (cs : Array Value)
    (hp : tmps.getD p undef = .pointer (some ⟨g, 0, none⟩)) (hl : (loadVar ty ⟨g, 0, none⟩).run P w = .ok (.agg cs) w) :
    (results fn tmps).run P w = .ok (.tuple #[.agg cs, tmps.getD u undef, tmps.getD v undef]) w := by
  have hp' : tmps[p]?.getD undef = .pointer (some ⟨g, 0, none⟩) := by simpa using hp
  simp [results, h, hp', asAddr, Result.andThen, hl]
theorem infoIA : (Try.prog.info? 23).map (·.size) = some 5 := by kernel_rfl
theorem loadIA (w : World) (g : Nat) (a b c d e : Value) (h : w.heap[g]? = some (.cells #[a, b, c, d, e] 23 (0, 0))) : (loadVar 23 ⟨g, 0, none⟩).run Try.prog w = .ok (.agg #[a, b, c, d, e]) w :=
  run_loadVar_row w g 23 23 _ (0, 0) _ h Try.underlying23 rfl infoIA
theorem bel_setRow {B g : Nat} {w0 w : World} (hb : Below B w0 w) (h : B ≤ g) (cs : Array Value) : Below B w0 (w.setRow g cs) :=
  ⟨hb.os, hb.tape, hb.output, by simpa using hb.size, fun k hk => (setRow_other w g k cs (by omega)).trans (hb.block k hk)⟩
theorem oneI (a b c d e : Int) : (#[.int .i64 a, .int .i64 b, .int .i64 c, .int .i64 d, .int .i64 e] : Array Value).all (·.oneCell') = true := by
  simp [Value.oneCell']
theorem infoC (a b c d e : Value) : (Try.prog.info? 23).map (·.size) = some (#[a, b, c, d, e] : Array Value).size := infoIA
theorem by_nil : isBy [] ↔ True := ⟨fun _ => trivial, fun _ _ h => absurd h (by simp)⟩
theorem by_cons {a : Int} {l : List Int} : isBy (a :: l) ↔ (0 ≤ a ∧ a < 256) ∧ isBy l := by
  unfold isBy
  simp
theorem by_app {a b : List Int} (h1 : isBy a) (h2 : isBy b) : isBy (a ++ b) := by
  intro x hx
  rcases List.mem_append.1 hx with h | h
  · exact h1 x h
  · exact h2 x h
theorem by_le4 (n : Int) : isBy (le4 n) := by
  unfold le4
  simp only [by_cons, by_nil, and_true]
  omega
theorem by_les (sz n : Int) : isBy (les sz n) := by
  unfold les
  split
  · unfold le2
    simp only [by_cons, by_nil, and_true]
    omega
  · exact by_le4 n
theorem by_rw (op : Int) (h : 0 ≤ op ∧ op ≤ 36) (d s sz imm : Int) (hf : fitB (rw_ op).f ⟨op, d, s, sz, imm⟩ = true) : isBy (wrB (rw_ op).w (rw_ op).o (rw_ op).n ⟨op, d, s, sz, imm⟩) := by
  rcases op_cases h with rfl | rfl | rfl | rfl | rfl | rfl | rfl | rfl | rfl | rfl | rfl | rfl | rfl | rfl | rfl | rfl | rfl | rfl | rfl | rfl | rfl | rfl | rfl | rfl | rfl | rfl | rfl | rfl | rfl | rfl | rfl | rfl | rfl | rfl | rfl | rfl | rfl
  all_goals simp [rw_, tbl, fitB, isR, isL, isC, isS, Bool.and_eq_true, decide_eq_true_eq] at hf
  all_goals simp [rw_, tbl, wrB]
  all_goals (try split)
  all_goals simp [by_cons, by_nil, by_le4, by_les]
  all_goals (try omega)
theorem enc_by (x : Ins) (hv : valB x = true) : isBy (encF x) := by
  obtain ⟨op, d, s, sz, imm⟩ := x
  simp only [valB, Bool.and_eq_true] at hv
  obtain ⟨h0, hz, hf⟩ := hv
  refine by_app ?_ (by_rw op (of_decide_eq_true h0) d s sz imm hf)
  split
  · simp [by_cons, by_nil]
  · simp [by_nil]
theorem St.below {w0 w w' : World} {I X : Nat} {A : Option Addr} {n c : Nat} {l : List Int} {p : Nat} {x : Ins} (h : St w0 w I X A n c l p x) (hb : Below w.heap.size w w') : St w0 w' I X A n c l p x :=
  ⟨h.keep.trans ⟨hb.os, hb.tape, hb.output, hb.size, fun k hk _ _ => hb.block k hk⟩, (hb.block _ (lt_of_block h.inp)).trans h.inp, (hb.block _ (lt_of_block h.ins)).trans h.ins, h.byt.below (hb.mono (by have := lt_of_block h.ins; omega)), h.ne⟩
/-- The world in which Decode begins to read. -/
def dw (w : World) (A : Option Addr) (n c : Nat) : World := ((w.alloc (.cells #[.int .i64 0, .int .i64 0, .int .i64 0, .int .i64 0, .int .i64 0] 23)).alloc (.cells #[.slice A n c, .int .i64 0] 64)).alloc (.cells #[.int .i64 0, .int .i64 0, .int .i64 0, .int .i64 32, .int .i64 0] 23)
theorem dw_st (w : World) (A : Option Addr) (n c : Nat) (l : List Int) (h : Byt w A n c l) : St (dw w A n c) (dw w A n c) (w.heap.size + 1) (w.heap.size + 1 + 1) A n c l 0 ⟨0, 0, 0, 32, 0⟩ := by
  have hb : Below w.heap.size w (dw w A n c) := (((Below.refl _ _).alloc (Nat.le_refl _) _).alloc (by simp) _).alloc (by simp; omega) _
  refine ⟨Keep2.refl _ _ _, ?_, ?_, ⟨h.below hb, ?_⟩, by omega⟩
  · have e := heap_alloc_new (w.alloc (.cells #[.int .i64 0, .int .i64 0, .int .i64 0, .int .i64 0, .int .i64 0] 23)) (.cells #[.slice A n c, .int .i64 0] 64)
    have e2 := (heap_alloc_old _ (.cells #[.int .i64 0, .int .i64 0, .int .i64 0, .int .i64 32, .int .i64 0] 23) (lt_of_block e)).trans e
    simpa [dw] using e2
  · have e := heap_alloc_new ((w.alloc (.cells #[.int .i64 0, .int .i64 0, .int .i64 0, .int .i64 0, .int .i64 0] 23)).alloc (.cells #[.slice A n c, .int .i64 0] 64)) (.cells #[.int .i64 0, .int .i64 0, .int .i64 0, .int .i64 32, .int .i64 0] 23)
    simpa [dw] using e
  · intro b off hn hA
    obtain ⟨_, _, _, _, h4 | ⟨b', off', h4, h5, _⟩⟩ := h
    · exact absurd h4 hn
    · rw [hA] at h4
      obtain ⟨rfl, _⟩ : b = b' ∧ off = off' := by simpa using h4
      omega
theorem dw_res (w : World) (A : Option Addr) (n c : Nat) : (dw w A n c).heap[w.heap.size]? = some (.cells #[.int .i64 0, .int .i64 0, .int .i64 0, .int .i64 0, .int .i64 0] 23 (0, 0)) := by
  have e := heap_alloc_new w (.cells #[.int .i64 0, .int .i64 0, .int .i64 0, .int .i64 0, .int .i64 0] 23)
  have e2 := (heap_alloc_old _ (.cells #[.slice A n c, .int .i64 0] 64) (lt_of_block e)).trans e
  exact (heap_alloc_old _ _ (lt_of_block e2)).trans e2
theorem dw_below (w : World) (A : Option Addr) (n c : Nat) : Below w.heap.size w (dw w A n c) := (((Below.refl _ _).alloc (Nat.le_refl _) _).alloc (by simp) _).alloc (by simp; omega) _
set_option maxRecDepth 100000 in
set_option maxHeartbeats 4000000 in
theorem decode_66_0f {w : World} {A : Option Addr} {n c : Nat} {l : List Int} (h : Byt w A n c l) (h1 : bt l 0 = 102) (h2 : bt l 1 = 15) :
    Calls Try.prog 13 #[.slice A n c] w fun e w' => e = .returned (.tuple #[aggI (decI l), .int .i64 (decN l : Int), .bool (decB l)]) ∧ Below w.heap.size w w' := by
  obtain ⟨y, hy⟩ : ∃ y, canF l = y := ⟨_, rfl⟩
  have HC := Lib.hid (show longF 16 (bt l 2) l 3 = y by rw [← hy]; unfold canF; rw [if_pos h1, if_pos h2])
  have HDe := Lib.hid (show decF l = if valB y && pre (encF y) l then some y else none by unfold decF; rw [hy])
  have HBy := Lib.hid h
  have HS := Lib.hid (dw_st w A n c l h)
  have HR := Lib.hid (dw_res w A n c)
  have HB := Lib.hid (dw_below w A n c)
  have HD := Lib.hid (show ∀ k, 0 ≤ bt l k ∧ bt l k < 256 from fun k => bt_bd h k)
  clear h hy
  go_enter Try.func13, Try.ntmps13
  go_wp2_with fail
  change Calls _ _ _ (dw w A n c) _
  generalize dw w A n c = W at HS HR HB ⊢
  have hMI : w.heap.size < w.heap.size + 1 := by omega
  have hMX : w.heap.size < w.heap.size + 1 + 1 := by omega
  generalize w.heap.size + 1 = I at HS hMI hMX ⊢
  generalize I + 1 = X at HS hMX ⊢
  obtain ⟨M, hM⟩ : ∃ M, w.heap.size = M := ⟨_, rfl⟩
  rw [hM] at HR HB hMI hMX ⊢
  refine (next8_at HS.out (by omega)).mono ?_
  rintro e w1 ⟨rfl, s1⟩
  rw [h1]
  obtain ⟨⟨x0, x1, x2, x3, x4⟩, f0, f1, f2, f3, f4⟩ := s1.cells
  have H1 := Lib.hid s1
  clear s1
  go_wp2_with fail
  refine (next8_at (H1.out.set3 16) (by omega)).mono ?_
  rintro e w2 ⟨rfl, s2⟩
  rw [show 0 + 1 = 1 from rfl, h2]
  have H2 := Lib.hid s2
  clear s2 x0 x1 x2 x3 x4 f0 f1 f2 f3 f4
  go_wp2_with fail
  refine (next8_at H2.out (by omega)).mono ?_
  rintro e w3 ⟨rfl, s3⟩
  have H3 := Lib.hid s3
  clear s3
  go_wp2_with fail
  refine (readLong_any (bt l 2) 16 H3.out (by omega) (HD.out 2)).mono ?_
  rintro e w5 ⟨p', rfl, s5⟩
  rw [HC.out] at s5
  have hM0 := lt_of_block HR.out
  have r0 := (s5.keep.block M hM0 (Nat.ne_of_lt hMI) (Nat.ne_of_lt hMX)).trans HR.out
  have hB5 := HB.out.trans (s5.keep.below (Nat.le_of_lt hMI) (Nat.le_of_lt hMX) (Nat.le_of_lt hM0))
  have hby := HBy.out.below (by rw [hM]; exact hB5)
  obtain ⟨op, d, s, sz, imm⟩ := y
  obtain ⟨⟨x0, x1, x2, x3, x4⟩, f0, f1, f2, f3, f4⟩ := s5.cells
  have hX := s5.ins
  clear s5 H1 H2 H3 HS HR HB HC HD HBy h1 h2 f0 f1 f2 f3 f4 
  cases hv : valB ⟨op, d, s, sz, imm⟩
  · have HV := Lib.hid (fun w1 => validate_at ⟨op, d, s, sz, imm⟩ 1 (by unfold errI; rw [hv]; rfl) w1)
    have HX := Lib.hid (show decI l = ⟨0, 0, 0, 0, 0⟩ ∧ decN l = 0 ∧ decB l = false by unfold decI decN decB; rw [HDe.out, hv]; exact ⟨rfl, rfl, rfl⟩)
    clear hv HDe hby
    have HB := Lib.hid hB5
    clear hB5
    go_wp2_with fail
    refine (HV.out _).mono ?_
    rintro e w6 ⟨rfl, hb6⟩
    replace r0 := (hb6.block _ (lt_of_block r0)).trans r0
    replace HB := Lib.hid (HB.out.trans (hb6.mono (by have := HB.out.size; omega)))
    clear hb6 hX x0 x1 x2 x3 x4
    go_wp2_with (refine wpList_store_row rfl _ _ _ rfl M #[.int .i64 0, .int .i64 0, .int .i64 0, .int .i64 0, .int .i64 0] rfl rfl 23 _ r0 (infoC _ _ _ _ _) rfl (oneI _ _ _ _ _) ?_)
    have rr := setRow_heap _ M _ #[.int .i64 0, .int .i64 0, .int .i64 0, .int .i64 0, .int .i64 0] 23 (0, 0) r0
    have hB7 := bel_setRow (HB.out) (Nat.le_refl M) #[.int .i64 0, .int .i64 0, .int .i64 0, .int .i64 0, .int .i64 0]
    refine bodyPost_ret (res3 rfl _ _ M #[.int .i64 0, .int .i64 0, .int .i64 0, .int .i64 0, .int .i64 0] rfl (loadIA _ M _ _ _ _ _ rr)) rfl ⟨?_, by rw [hM]; exact hB7⟩
    rw [HX.out.1, HX.out.2.1, HX.out.2.2]
    rfl
  · have HV := Lib.hid (fun w1 => validate_at ⟨op, d, s, sz, imm⟩ 0 (by unfold errI; rw [hv]; rfl) w1)
    have HE := Lib.hid (show Makes 25 #[aggI ⟨op, d, s, sz, imm⟩] (encF ⟨op, d, s, sz, imm⟩) from encode_any _ hv)
    have hEy := enc_by _ hv
    have HX := Lib.hid (show (pre (encF ⟨op, d, s, sz, imm⟩) l = false → decI l = ⟨0, 0, 0, 0, 0⟩ ∧ decN l = 0 ∧ decB l = false) ∧ (pre (encF ⟨op, d, s, sz, imm⟩) l = true → decI l = ⟨op, d, s, sz, imm⟩ ∧ decN l = (encF ⟨op, d, s, sz, imm⟩).length ∧ decB l = true) by constructor <;> (intro hp; unfold decI decN decB; rw [HDe.out, hv, hp]; exact ⟨rfl, rfl, rfl⟩))
    clear hv HDe
    generalize encF ⟨op, d, s, sz, imm⟩ = L at HE hEy HX
    have HB := Lib.hid hB5
    have HY := Lib.hid hby
    clear hB5 hby
    go_wp2_with fail
    refine (HV.out _).mono ?_
    rintro e w6 ⟨rfl, hb6⟩
    replace r0 := (hb6.block _ (lt_of_block r0)).trans r0
    replace hX := (hb6.block _ (lt_of_block hX)).trans hX
    replace HB := Lib.hid (HB.out.trans (hb6.mono (by have := HB.out.size; omega)))
    replace HY := Lib.hid (HY.out.below hb6)
    clear hb6 x0 x1 x2 x3 x4
    obtain ⟨x0, x1, x2, x3, x4⟩ := cells5 hX
    go_wp2_with fail
    refine (HE.out _).mono ?_
    rintro e w7 ⟨v, rfl, hG, hb7⟩
    obtain ⟨A2, c2, rfl, hL⟩ := byt_own hG hEy
    replace r0 := (hb7.block _ (lt_of_block r0)).trans r0
    replace hX := (hb7.block _ (lt_of_block hX)).trans hX
    replace HB := Lib.hid (HB.out.trans (hb7.mono (by have := HB.out.size; omega)))
    have HP := Lib.hid (show ∀ B, pre L l = B → _ from fun B hB => hasPrefix_at (HY.out.below hb7) hL B hB)
    clear hb7 x0 x1 x2 x3 x4 hG hL HY hEy
    obtain ⟨x0, x1, x2, x3, x4⟩ := cells5 hX
    cases hp : pre L l
    · replace HX := Lib.hid (HX.out.1 hp)
      replace HP := Lib.hid (HP.out _ hp)
      clear hp
      go_wp2_with fail
      refine HP.out.mono ?_
      rintro e w8 ⟨rfl, rfl⟩
      clear HP
      go_wp2_with (refine wpList_store_row rfl _ _ _ rfl M #[.int .i64 0, .int .i64 0, .int .i64 0, .int .i64 0, .int .i64 0] rfl rfl 23 _ r0 (infoC _ _ _ _ _) rfl (oneI _ _ _ _ _) ?_)
      have rr := setRow_heap _ M _ #[.int .i64 0, .int .i64 0, .int .i64 0, .int .i64 0, .int .i64 0] 23 (0, 0) r0
      have hB7 := bel_setRow (HB.out) (Nat.le_refl M) #[.int .i64 0, .int .i64 0, .int .i64 0, .int .i64 0, .int .i64 0]
      refine bodyPost_ret (res3 rfl _ _ M #[.int .i64 0, .int .i64 0, .int .i64 0, .int .i64 0, .int .i64 0] rfl (loadIA _ M _ _ _ _ _ rr)) rfl ⟨?_, by rw [hM]; exact hB7⟩
      rw [HX.out.1, HX.out.2.1, HX.out.2.2]
      rfl
    · replace HX := Lib.hid (HX.out.2 hp)
      replace HP := Lib.hid (HP.out _ hp)
      clear hp
      go_wp2_with fail
      refine HP.out.mono ?_
      rintro e w8 ⟨rfl, rfl⟩
      clear HP
      go_wp2_with (refine wpList_store_row rfl _ _ _ rfl M #[.int .i64 op, .int .i64 d, .int .i64 s, .int .i64 sz, .int .i64 imm] rfl rfl 23 _ r0 (infoC _ _ _ _ _) rfl (oneI _ _ _ _ _) ?_)
      have rr := setRow_heap _ M _ #[.int .i64 op, .int .i64 d, .int .i64 s, .int .i64 sz, .int .i64 imm] 23 (0, 0) r0
      have hB7 := bel_setRow (HB.out) (Nat.le_refl M) #[.int .i64 op, .int .i64 d, .int .i64 s, .int .i64 sz, .int .i64 imm]
      refine bodyPost_ret (res3 rfl _ _ M #[.int .i64 op, .int .i64 d, .int .i64 s, .int .i64 sz, .int .i64 imm] rfl (loadIA _ M _ _ _ _ _ rr)) rfl ⟨?_, by rw [hM]; exact hB7⟩
      rw [HX.out.1, HX.out.2.1, HX.out.2.2]
      rfl
set_option maxRecDepth 100000 in
set_option maxHeartbeats 4000000 in
theorem decode_66 {w : World} {A : Option Addr} {n c : Nat} {l : List Int} (h : Byt w A n c l) (h1 : bt l 0 = 102) (h2 : bt l 1 ≠ 15) :
    Calls Try.prog 13 #[.slice A n c] w fun e w' => e = .returned (.tuple #[aggI (decI l), .int .i64 (decN l : Int), .bool (decB l)]) ∧ Below w.heap.size w w' := by
  obtain ⟨y, hy⟩ : ∃ y, canF l = y := ⟨_, rfl⟩
  have HC := Lib.hid (show shortF 16 (bt l 1) l 2 = y by rw [← hy]; unfold canF; rw [if_pos h1, if_neg h2])
  have HDe := Lib.hid (show decF l = if valB y && pre (encF y) l then some y else none by unfold decF; rw [hy])
  have HBy := Lib.hid h
  have HS := Lib.hid (dw_st w A n c l h)
  have HR := Lib.hid (dw_res w A n c)
  have HB := Lib.hid (dw_below w A n c)
  have HD := Lib.hid (show ∀ k, 0 ≤ bt l k ∧ bt l k < 256 from fun k => bt_bd h k)
  clear h hy
  have b2 : (bt l 1 == 15) = false := beq_false_of_ne h2
  go_enter Try.func13, Try.ntmps13
  go_wp2_with fail
  change Calls _ _ _ (dw w A n c) _
  generalize dw w A n c = W at HS HR HB ⊢
  have hMI : w.heap.size < w.heap.size + 1 := by omega
  have hMX : w.heap.size < w.heap.size + 1 + 1 := by omega
  generalize w.heap.size + 1 = I at HS hMI hMX ⊢
  generalize I + 1 = X at HS hMX ⊢
  obtain ⟨M, hM⟩ : ∃ M, w.heap.size = M := ⟨_, rfl⟩
  rw [hM] at HR HB hMI hMX ⊢
  refine (next8_at HS.out (by omega)).mono ?_
  rintro e w1 ⟨rfl, s1⟩
  rw [h1]
  obtain ⟨⟨x0, x1, x2, x3, x4⟩, f0, f1, f2, f3, f4⟩ := s1.cells
  have H1 := Lib.hid s1
  clear s1
  go_wp2_with fail
  refine (next8_at (H1.out.set3 16) (by omega)).mono ?_
  rintro e w2 ⟨rfl, s2⟩
  rw [show 0 + 1 = 1 from rfl]
  have H2 := Lib.hid s2
  clear s2 x0 x1 x2 x3 x4 f0 f1 f2 f3 f4
  go_wp2_with fail
  refine (read_any (bt l 1) 16 H2.out (by omega) (HD.out 1) (by omega)).mono ?_
  rintro e w5 ⟨p', rfl, s5⟩
  rw [HC.out] at s5
  have hM0 := lt_of_block HR.out
  have r0 := (s5.keep.block M hM0 (Nat.ne_of_lt hMI) (Nat.ne_of_lt hMX)).trans HR.out
  have hB5 := HB.out.trans (s5.keep.below (Nat.le_of_lt hMI) (Nat.le_of_lt hMX) (Nat.le_of_lt hM0))
  have hby := HBy.out.below (by rw [hM]; exact hB5)
  obtain ⟨op, d, s, sz, imm⟩ := y
  obtain ⟨⟨x0, x1, x2, x3, x4⟩, f0, f1, f2, f3, f4⟩ := s5.cells
  have hX := s5.ins
  clear s5 H1 H2  HS HR HB HC HD HBy h1 h2 f0 f1 f2 f3 f4 b2
  cases hv : valB ⟨op, d, s, sz, imm⟩
  · have HV := Lib.hid (fun w1 => validate_at ⟨op, d, s, sz, imm⟩ 1 (by unfold errI; rw [hv]; rfl) w1)
    have HX := Lib.hid (show decI l = ⟨0, 0, 0, 0, 0⟩ ∧ decN l = 0 ∧ decB l = false by unfold decI decN decB; rw [HDe.out, hv]; exact ⟨rfl, rfl, rfl⟩)
    clear hv HDe hby
    have HB := Lib.hid hB5
    clear hB5
    go_wp2_with fail
    refine (HV.out _).mono ?_
    rintro e w6 ⟨rfl, hb6⟩
    replace r0 := (hb6.block _ (lt_of_block r0)).trans r0
    replace HB := Lib.hid (HB.out.trans (hb6.mono (by have := HB.out.size; omega)))
    clear hb6 hX x0 x1 x2 x3 x4
    go_wp2_with (refine wpList_store_row rfl _ _ _ rfl M #[.int .i64 0, .int .i64 0, .int .i64 0, .int .i64 0, .int .i64 0] rfl rfl 23 _ r0 (infoC _ _ _ _ _) rfl (oneI _ _ _ _ _) ?_)
    have rr := setRow_heap _ M _ #[.int .i64 0, .int .i64 0, .int .i64 0, .int .i64 0, .int .i64 0] 23 (0, 0) r0
    have hB7 := bel_setRow (HB.out) (Nat.le_refl M) #[.int .i64 0, .int .i64 0, .int .i64 0, .int .i64 0, .int .i64 0]
    refine bodyPost_ret (res3 rfl _ _ M #[.int .i64 0, .int .i64 0, .int .i64 0, .int .i64 0, .int .i64 0] rfl (loadIA _ M _ _ _ _ _ rr)) rfl ⟨?_, by rw [hM]; exact hB7⟩
    rw [HX.out.1, HX.out.2.1, HX.out.2.2]
    rfl
  · have HV := Lib.hid (fun w1 => validate_at ⟨op, d, s, sz, imm⟩ 0 (by unfold errI; rw [hv]; rfl) w1)
    have HE := Lib.hid (show Makes 25 #[aggI ⟨op, d, s, sz, imm⟩] (encF ⟨op, d, s, sz, imm⟩) from encode_any _ hv)
    have hEy := enc_by _ hv
    have HX := Lib.hid (show (pre (encF ⟨op, d, s, sz, imm⟩) l = false → decI l = ⟨0, 0, 0, 0, 0⟩ ∧ decN l = 0 ∧ decB l = false) ∧ (pre (encF ⟨op, d, s, sz, imm⟩) l = true → decI l = ⟨op, d, s, sz, imm⟩ ∧ decN l = (encF ⟨op, d, s, sz, imm⟩).length ∧ decB l = true) by constructor <;> (intro hp; unfold decI decN decB; rw [HDe.out, hv, hp]; exact ⟨rfl, rfl, rfl⟩))
    clear hv HDe
    generalize encF ⟨op, d, s, sz, imm⟩ = L at HE hEy HX
    have HB := Lib.hid hB5
    have HY := Lib.hid hby
    clear hB5 hby
    go_wp2_with fail
    refine (HV.out _).mono ?_
    rintro e w6 ⟨rfl, hb6⟩
    replace r0 := (hb6.block _ (lt_of_block r0)).trans r0
    replace hX := (hb6.block _ (lt_of_block hX)).trans hX
    replace HB := Lib.hid (HB.out.trans (hb6.mono (by have := HB.out.size; omega)))
    replace HY := Lib.hid (HY.out.below hb6)
    clear hb6 x0 x1 x2 x3 x4
    obtain ⟨x0, x1, x2, x3, x4⟩ := cells5 hX
    go_wp2_with fail
    refine (HE.out _).mono ?_
    rintro e w7 ⟨v, rfl, hG, hb7⟩
    obtain ⟨A2, c2, rfl, hL⟩ := byt_own hG hEy
    replace r0 := (hb7.block _ (lt_of_block r0)).trans r0
    replace hX := (hb7.block _ (lt_of_block hX)).trans hX
    replace HB := Lib.hid (HB.out.trans (hb7.mono (by have := HB.out.size; omega)))
    have HP := Lib.hid (show ∀ B, pre L l = B → _ from fun B hB => hasPrefix_at (HY.out.below hb7) hL B hB)
    clear hb7 x0 x1 x2 x3 x4 hG hL HY hEy
    obtain ⟨x0, x1, x2, x3, x4⟩ := cells5 hX
    cases hp : pre L l
    · replace HX := Lib.hid (HX.out.1 hp)
      replace HP := Lib.hid (HP.out _ hp)
      clear hp
      go_wp2_with fail
      refine HP.out.mono ?_
      rintro e w8 ⟨rfl, rfl⟩
      clear HP
      go_wp2_with (refine wpList_store_row rfl _ _ _ rfl M #[.int .i64 0, .int .i64 0, .int .i64 0, .int .i64 0, .int .i64 0] rfl rfl 23 _ r0 (infoC _ _ _ _ _) rfl (oneI _ _ _ _ _) ?_)
      have rr := setRow_heap _ M _ #[.int .i64 0, .int .i64 0, .int .i64 0, .int .i64 0, .int .i64 0] 23 (0, 0) r0
      have hB7 := bel_setRow (HB.out) (Nat.le_refl M) #[.int .i64 0, .int .i64 0, .int .i64 0, .int .i64 0, .int .i64 0]
      refine bodyPost_ret (res3 rfl _ _ M #[.int .i64 0, .int .i64 0, .int .i64 0, .int .i64 0, .int .i64 0] rfl (loadIA _ M _ _ _ _ _ rr)) rfl ⟨?_, by rw [hM]; exact hB7⟩
      rw [HX.out.1, HX.out.2.1, HX.out.2.2]
      rfl
    · replace HX := Lib.hid (HX.out.2 hp)
      replace HP := Lib.hid (HP.out _ hp)
      clear hp
      go_wp2_with fail
      refine HP.out.mono ?_
      rintro e w8 ⟨rfl, rfl⟩
      clear HP
      go_wp2_with (refine wpList_store_row rfl _ _ _ rfl M #[.int .i64 op, .int .i64 d, .int .i64 s, .int .i64 sz, .int .i64 imm] rfl rfl 23 _ r0 (infoC _ _ _ _ _) rfl (oneI _ _ _ _ _) ?_)
      have rr := setRow_heap _ M _ #[.int .i64 op, .int .i64 d, .int .i64 s, .int .i64 sz, .int .i64 imm] 23 (0, 0) r0
      have hB7 := bel_setRow (HB.out) (Nat.le_refl M) #[.int .i64 op, .int .i64 d, .int .i64 s, .int .i64 sz, .int .i64 imm]
      refine bodyPost_ret (res3 rfl _ _ M #[.int .i64 op, .int .i64 d, .int .i64 s, .int .i64 sz, .int .i64 imm] rfl (loadIA _ M _ _ _ _ _ rr)) rfl ⟨?_, by rw [hM]; exact hB7⟩
      rw [HX.out.1, HX.out.2.1, HX.out.2.2]
      rfl
set_option maxRecDepth 100000 in
set_option maxHeartbeats 4000000 in
theorem decode_0f {w : World} {A : Option Addr} {n c : Nat} {l : List Int} (h : Byt w A n c l) (h1 : bt l 0 ≠ 102) (h2 : bt l 0 = 15) :
    Calls Try.prog 13 #[.slice A n c] w fun e w' => e = .returned (.tuple #[aggI (decI l), .int .i64 (decN l : Int), .bool (decB l)]) ∧ Below w.heap.size w w' := by
  obtain ⟨y, hy⟩ : ∃ y, canF l = y := ⟨_, rfl⟩
  have HC := Lib.hid (show longF 32 (bt l 1) l 2 = y by rw [← hy]; unfold canF; rw [if_neg h1, if_pos h2])
  have HDe := Lib.hid (show decF l = if valB y && pre (encF y) l then some y else none by unfold decF; rw [hy])
  have HBy := Lib.hid h
  have HS := Lib.hid (dw_st w A n c l h)
  have HR := Lib.hid (dw_res w A n c)
  have HB := Lib.hid (dw_below w A n c)
  have HD := Lib.hid (show ∀ k, 0 ≤ bt l k ∧ bt l k < 256 from fun k => bt_bd h k)
  clear h hy
  have b1 : (bt l 0 == 102) = false := beq_false_of_ne h1
  go_enter Try.func13, Try.ntmps13
  go_wp2_with fail
  change Calls _ _ _ (dw w A n c) _
  generalize dw w A n c = W at HS HR HB ⊢
  have hMI : w.heap.size < w.heap.size + 1 := by omega
  have hMX : w.heap.size < w.heap.size + 1 + 1 := by omega
  generalize w.heap.size + 1 = I at HS hMI hMX ⊢
  generalize I + 1 = X at HS hMX ⊢
  obtain ⟨M, hM⟩ : ∃ M, w.heap.size = M := ⟨_, rfl⟩
  rw [hM] at HR HB hMI hMX ⊢
  refine (next8_at HS.out (by omega)).mono ?_
  rintro e w1 ⟨rfl, s1⟩
  obtain ⟨⟨x0, x1, x2, x3, x4⟩, f0, f1, f2, f3, f4⟩ := s1.cells
  have H1 := Lib.hid s1
  clear s1
  clear x0 x1 x2 x3 x4 f0 f1 f2 f3 f4
  go_wp2_with fail
  refine (next8_at H1.out (by omega)).mono ?_
  rintro e w3 ⟨rfl, s3⟩
  have H3 := Lib.hid s3
  clear s3
  go_wp2_with fail
  refine (readLong_any (bt l 1) 32 H3.out (by omega) (HD.out 1)).mono ?_
  rintro e w5 ⟨p', rfl, s5⟩
  rw [HC.out] at s5
  have hM0 := lt_of_block HR.out
  have r0 := (s5.keep.block M hM0 (Nat.ne_of_lt hMI) (Nat.ne_of_lt hMX)).trans HR.out
  have hB5 := HB.out.trans (s5.keep.below (Nat.le_of_lt hMI) (Nat.le_of_lt hMX) (Nat.le_of_lt hM0))
  have hby := HBy.out.below (by rw [hM]; exact hB5)
  obtain ⟨op, d, s, sz, imm⟩ := y
  obtain ⟨⟨x0, x1, x2, x3, x4⟩, f0, f1, f2, f3, f4⟩ := s5.cells
  have hX := s5.ins
  clear s5 H1 H3 HS HR HB HC HD HBy h1 h2 f0 f1 f2 f3 f4 b1 
  cases hv : valB ⟨op, d, s, sz, imm⟩
  · have HV := Lib.hid (fun w1 => validate_at ⟨op, d, s, sz, imm⟩ 1 (by unfold errI; rw [hv]; rfl) w1)
    have HX := Lib.hid (show decI l = ⟨0, 0, 0, 0, 0⟩ ∧ decN l = 0 ∧ decB l = false by unfold decI decN decB; rw [HDe.out, hv]; exact ⟨rfl, rfl, rfl⟩)
    clear hv HDe hby
    have HB := Lib.hid hB5
    clear hB5
    go_wp2_with fail
    refine (HV.out _).mono ?_
    rintro e w6 ⟨rfl, hb6⟩
    replace r0 := (hb6.block _ (lt_of_block r0)).trans r0
    replace HB := Lib.hid (HB.out.trans (hb6.mono (by have := HB.out.size; omega)))
    clear hb6 hX x0 x1 x2 x3 x4
    go_wp2_with (refine wpList_store_row rfl _ _ _ rfl M #[.int .i64 0, .int .i64 0, .int .i64 0, .int .i64 0, .int .i64 0] rfl rfl 23 _ r0 (infoC _ _ _ _ _) rfl (oneI _ _ _ _ _) ?_)
    have rr := setRow_heap _ M _ #[.int .i64 0, .int .i64 0, .int .i64 0, .int .i64 0, .int .i64 0] 23 (0, 0) r0
    have hB7 := bel_setRow (HB.out) (Nat.le_refl M) #[.int .i64 0, .int .i64 0, .int .i64 0, .int .i64 0, .int .i64 0]
    refine bodyPost_ret (res3 rfl _ _ M #[.int .i64 0, .int .i64 0, .int .i64 0, .int .i64 0, .int .i64 0] rfl (loadIA _ M _ _ _ _ _ rr)) rfl ⟨?_, by rw [hM]; exact hB7⟩
    rw [HX.out.1, HX.out.2.1, HX.out.2.2]
    rfl
  · have HV := Lib.hid (fun w1 => validate_at ⟨op, d, s, sz, imm⟩ 0 (by unfold errI; rw [hv]; rfl) w1)
    have HE := Lib.hid (show Makes 25 #[aggI ⟨op, d, s, sz, imm⟩] (encF ⟨op, d, s, sz, imm⟩) from encode_any _ hv)
    have hEy := enc_by _ hv
    have HX := Lib.hid (show (pre (encF ⟨op, d, s, sz, imm⟩) l = false → decI l = ⟨0, 0, 0, 0, 0⟩ ∧ decN l = 0 ∧ decB l = false) ∧ (pre (encF ⟨op, d, s, sz, imm⟩) l = true → decI l = ⟨op, d, s, sz, imm⟩ ∧ decN l = (encF ⟨op, d, s, sz, imm⟩).length ∧ decB l = true) by constructor <;> (intro hp; unfold decI decN decB; rw [HDe.out, hv, hp]; exact ⟨rfl, rfl, rfl⟩))
    clear hv HDe
    generalize encF ⟨op, d, s, sz, imm⟩ = L at HE hEy HX
    have HB := Lib.hid hB5
    have HY := Lib.hid hby
    clear hB5 hby
    go_wp2_with fail
    refine (HV.out _).mono ?_
    rintro e w6 ⟨rfl, hb6⟩
    replace r0 := (hb6.block _ (lt_of_block r0)).trans r0
    replace hX := (hb6.block _ (lt_of_block hX)).trans hX
    replace HB := Lib.hid (HB.out.trans (hb6.mono (by have := HB.out.size; omega)))
    replace HY := Lib.hid (HY.out.below hb6)
    clear hb6 x0 x1 x2 x3 x4
    obtain ⟨x0, x1, x2, x3, x4⟩ := cells5 hX
    go_wp2_with fail
    refine (HE.out _).mono ?_
    rintro e w7 ⟨v, rfl, hG, hb7⟩
    obtain ⟨A2, c2, rfl, hL⟩ := byt_own hG hEy
    replace r0 := (hb7.block _ (lt_of_block r0)).trans r0
    replace hX := (hb7.block _ (lt_of_block hX)).trans hX
    replace HB := Lib.hid (HB.out.trans (hb7.mono (by have := HB.out.size; omega)))
    have HP := Lib.hid (show ∀ B, pre L l = B → _ from fun B hB => hasPrefix_at (HY.out.below hb7) hL B hB)
    clear hb7 x0 x1 x2 x3 x4 hG hL HY hEy
    obtain ⟨x0, x1, x2, x3, x4⟩ := cells5 hX
    cases hp : pre L l
    · replace HX := Lib.hid (HX.out.1 hp)
      replace HP := Lib.hid (HP.out _ hp)
      clear hp
      go_wp2_with fail
      refine HP.out.mono ?_
      rintro e w8 ⟨rfl, rfl⟩
      clear HP
      go_wp2_with (refine wpList_store_row rfl _ _ _ rfl M #[.int .i64 0, .int .i64 0, .int .i64 0, .int .i64 0, .int .i64 0] rfl rfl 23 _ r0 (infoC _ _ _ _ _) rfl (oneI _ _ _ _ _) ?_)
      have rr := setRow_heap _ M _ #[.int .i64 0, .int .i64 0, .int .i64 0, .int .i64 0, .int .i64 0] 23 (0, 0) r0
      have hB7 := bel_setRow (HB.out) (Nat.le_refl M) #[.int .i64 0, .int .i64 0, .int .i64 0, .int .i64 0, .int .i64 0]
      refine bodyPost_ret (res3 rfl _ _ M #[.int .i64 0, .int .i64 0, .int .i64 0, .int .i64 0, .int .i64 0] rfl (loadIA _ M _ _ _ _ _ rr)) rfl ⟨?_, by rw [hM]; exact hB7⟩
      rw [HX.out.1, HX.out.2.1, HX.out.2.2]
      rfl
    · replace HX := Lib.hid (HX.out.2 hp)
      replace HP := Lib.hid (HP.out _ hp)
      clear hp
      go_wp2_with fail
      refine HP.out.mono ?_
      rintro e w8 ⟨rfl, rfl⟩
      clear HP
      go_wp2_with (refine wpList_store_row rfl _ _ _ rfl M #[.int .i64 op, .int .i64 d, .int .i64 s, .int .i64 sz, .int .i64 imm] rfl rfl 23 _ r0 (infoC _ _ _ _ _) rfl (oneI _ _ _ _ _) ?_)
      have rr := setRow_heap _ M _ #[.int .i64 op, .int .i64 d, .int .i64 s, .int .i64 sz, .int .i64 imm] 23 (0, 0) r0
      have hB7 := bel_setRow (HB.out) (Nat.le_refl M) #[.int .i64 op, .int .i64 d, .int .i64 s, .int .i64 sz, .int .i64 imm]
      refine bodyPost_ret (res3 rfl _ _ M #[.int .i64 op, .int .i64 d, .int .i64 s, .int .i64 sz, .int .i64 imm] rfl (loadIA _ M _ _ _ _ _ rr)) rfl ⟨?_, by rw [hM]; exact hB7⟩
      rw [HX.out.1, HX.out.2.1, HX.out.2.2]
      rfl
set_option maxRecDepth 100000 in
set_option maxHeartbeats 4000000 in
theorem decode_no {w : World} {A : Option Addr} {n c : Nat} {l : List Int} (h : Byt w A n c l) (h1 : bt l 0 ≠ 102) (h2 : bt l 0 ≠ 15) :
    Calls Try.prog 13 #[.slice A n c] w fun e w' => e = .returned (.tuple #[aggI (decI l), .int .i64 (decN l : Int), .bool (decB l)]) ∧ Below w.heap.size w w' := by
  obtain ⟨y, hy⟩ : ∃ y, canF l = y := ⟨_, rfl⟩
  have HC := Lib.hid (show shortF 32 (bt l 0) l 1 = y by rw [← hy]; unfold canF; rw [if_neg h1, if_neg h2])
  have HDe := Lib.hid (show decF l = if valB y && pre (encF y) l then some y else none by unfold decF; rw [hy])
  have HBy := Lib.hid h
  have HS := Lib.hid (dw_st w A n c l h)
  have HR := Lib.hid (dw_res w A n c)
  have HB := Lib.hid (dw_below w A n c)
  have HD := Lib.hid (show ∀ k, 0 ≤ bt l k ∧ bt l k < 256 from fun k => bt_bd h k)
  clear h hy
  have b1 : (bt l 0 == 102) = false := beq_false_of_ne h1
  have b2 : (bt l 0 == 15) = false := beq_false_of_ne h2
  go_enter Try.func13, Try.ntmps13
  go_wp2_with fail
  change Calls _ _ _ (dw w A n c) _
  generalize dw w A n c = W at HS HR HB ⊢
  have hMI : w.heap.size < w.heap.size + 1 := by omega
  have hMX : w.heap.size < w.heap.size + 1 + 1 := by omega
  generalize w.heap.size + 1 = I at HS hMI hMX ⊢
  generalize I + 1 = X at HS hMX ⊢
  obtain ⟨M, hM⟩ : ∃ M, w.heap.size = M := ⟨_, rfl⟩
  rw [hM] at HR HB hMI hMX ⊢
  refine (next8_at HS.out (by omega)).mono ?_
  rintro e w1 ⟨rfl, s1⟩
  obtain ⟨⟨x0, x1, x2, x3, x4⟩, f0, f1, f2, f3, f4⟩ := s1.cells
  have H1 := Lib.hid s1
  clear s1
  clear x0 x1 x2 x3 x4 f0 f1 f2 f3 f4
  go_wp2_with fail
  refine (read_any (bt l 0) 32 H1.out (by omega) (HD.out 0) (by omega)).mono ?_
  rintro e w5 ⟨p', rfl, s5⟩
  rw [HC.out] at s5
  have hM0 := lt_of_block HR.out
  have r0 := (s5.keep.block M hM0 (Nat.ne_of_lt hMI) (Nat.ne_of_lt hMX)).trans HR.out
  have hB5 := HB.out.trans (s5.keep.below (Nat.le_of_lt hMI) (Nat.le_of_lt hMX) (Nat.le_of_lt hM0))
  have hby := HBy.out.below (by rw [hM]; exact hB5)
  obtain ⟨op, d, s, sz, imm⟩ := y
  obtain ⟨⟨x0, x1, x2, x3, x4⟩, f0, f1, f2, f3, f4⟩ := s5.cells
  have hX := s5.ins
  clear s5 H1  HS HR HB HC HD HBy h1 h2 f0 f1 f2 f3 f4 b1 b2
  cases hv : valB ⟨op, d, s, sz, imm⟩
  · have HV := Lib.hid (fun w1 => validate_at ⟨op, d, s, sz, imm⟩ 1 (by unfold errI; rw [hv]; rfl) w1)
    have HX := Lib.hid (show decI l = ⟨0, 0, 0, 0, 0⟩ ∧ decN l = 0 ∧ decB l = false by unfold decI decN decB; rw [HDe.out, hv]; exact ⟨rfl, rfl, rfl⟩)
    clear hv HDe hby
    have HB := Lib.hid hB5
    clear hB5
    go_wp2_with fail
    refine (HV.out _).mono ?_
    rintro e w6 ⟨rfl, hb6⟩
    replace r0 := (hb6.block _ (lt_of_block r0)).trans r0
    replace HB := Lib.hid (HB.out.trans (hb6.mono (by have := HB.out.size; omega)))
    clear hb6 hX x0 x1 x2 x3 x4
    go_wp2_with (refine wpList_store_row rfl _ _ _ rfl M #[.int .i64 0, .int .i64 0, .int .i64 0, .int .i64 0, .int .i64 0] rfl rfl 23 _ r0 (infoC _ _ _ _ _) rfl (oneI _ _ _ _ _) ?_)
    have rr := setRow_heap _ M _ #[.int .i64 0, .int .i64 0, .int .i64 0, .int .i64 0, .int .i64 0] 23 (0, 0) r0
    have hB7 := bel_setRow (HB.out) (Nat.le_refl M) #[.int .i64 0, .int .i64 0, .int .i64 0, .int .i64 0, .int .i64 0]
    refine bodyPost_ret (res3 rfl _ _ M #[.int .i64 0, .int .i64 0, .int .i64 0, .int .i64 0, .int .i64 0] rfl (loadIA _ M _ _ _ _ _ rr)) rfl ⟨?_, by rw [hM]; exact hB7⟩
    rw [HX.out.1, HX.out.2.1, HX.out.2.2]
    rfl
  · have HV := Lib.hid (fun w1 => validate_at ⟨op, d, s, sz, imm⟩ 0 (by unfold errI; rw [hv]; rfl) w1)
    have HE := Lib.hid (show Makes 25 #[aggI ⟨op, d, s, sz, imm⟩] (encF ⟨op, d, s, sz, imm⟩) from encode_any _ hv)
    have hEy := enc_by _ hv
    have HX := Lib.hid (show (pre (encF ⟨op, d, s, sz, imm⟩) l = false → decI l = ⟨0, 0, 0, 0, 0⟩ ∧ decN l = 0 ∧ decB l = false) ∧ (pre (encF ⟨op, d, s, sz, imm⟩) l = true → decI l = ⟨op, d, s, sz, imm⟩ ∧ decN l = (encF ⟨op, d, s, sz, imm⟩).length ∧ decB l = true) by constructor <;> (intro hp; unfold decI decN decB; rw [HDe.out, hv, hp]; exact ⟨rfl, rfl, rfl⟩))
    clear hv HDe
    generalize encF ⟨op, d, s, sz, imm⟩ = L at HE hEy HX
    have HB := Lib.hid hB5
    have HY := Lib.hid hby
    clear hB5 hby
    go_wp2_with fail
    refine (HV.out _).mono ?_
    rintro e w6 ⟨rfl, hb6⟩
    replace r0 := (hb6.block _ (lt_of_block r0)).trans r0
    replace hX := (hb6.block _ (lt_of_block hX)).trans hX
    replace HB := Lib.hid (HB.out.trans (hb6.mono (by have := HB.out.size; omega)))
    replace HY := Lib.hid (HY.out.below hb6)
    clear hb6 x0 x1 x2 x3 x4
    obtain ⟨x0, x1, x2, x3, x4⟩ := cells5 hX
    go_wp2_with fail
    refine (HE.out _).mono ?_
    rintro e w7 ⟨v, rfl, hG, hb7⟩
    obtain ⟨A2, c2, rfl, hL⟩ := byt_own hG hEy
    replace r0 := (hb7.block _ (lt_of_block r0)).trans r0
    replace hX := (hb7.block _ (lt_of_block hX)).trans hX
    replace HB := Lib.hid (HB.out.trans (hb7.mono (by have := HB.out.size; omega)))
    have HP := Lib.hid (show ∀ B, pre L l = B → _ from fun B hB => hasPrefix_at (HY.out.below hb7) hL B hB)
    clear hb7 x0 x1 x2 x3 x4 hG hL HY hEy
    obtain ⟨x0, x1, x2, x3, x4⟩ := cells5 hX
    cases hp : pre L l
    · replace HX := Lib.hid (HX.out.1 hp)
      replace HP := Lib.hid (HP.out _ hp)
      clear hp
      go_wp2_with fail
      refine HP.out.mono ?_
      rintro e w8 ⟨rfl, rfl⟩
      clear HP
      go_wp2_with (refine wpList_store_row rfl _ _ _ rfl M #[.int .i64 0, .int .i64 0, .int .i64 0, .int .i64 0, .int .i64 0] rfl rfl 23 _ r0 (infoC _ _ _ _ _) rfl (oneI _ _ _ _ _) ?_)
      have rr := setRow_heap _ M _ #[.int .i64 0, .int .i64 0, .int .i64 0, .int .i64 0, .int .i64 0] 23 (0, 0) r0
      have hB7 := bel_setRow (HB.out) (Nat.le_refl M) #[.int .i64 0, .int .i64 0, .int .i64 0, .int .i64 0, .int .i64 0]
      refine bodyPost_ret (res3 rfl _ _ M #[.int .i64 0, .int .i64 0, .int .i64 0, .int .i64 0, .int .i64 0] rfl (loadIA _ M _ _ _ _ _ rr)) rfl ⟨?_, by rw [hM]; exact hB7⟩
      rw [HX.out.1, HX.out.2.1, HX.out.2.2]
      rfl
    · replace HX := Lib.hid (HX.out.2 hp)
      replace HP := Lib.hid (HP.out _ hp)
      clear hp
      go_wp2_with fail
      refine HP.out.mono ?_
      rintro e w8 ⟨rfl, rfl⟩
      clear HP
      go_wp2_with (refine wpList_store_row rfl _ _ _ rfl M #[.int .i64 op, .int .i64 d, .int .i64 s, .int .i64 sz, .int .i64 imm] rfl rfl 23 _ r0 (infoC _ _ _ _ _) rfl (oneI _ _ _ _ _) ?_)
      have rr := setRow_heap _ M _ #[.int .i64 op, .int .i64 d, .int .i64 s, .int .i64 sz, .int .i64 imm] 23 (0, 0) r0
      have hB7 := bel_setRow (HB.out) (Nat.le_refl M) #[.int .i64 op, .int .i64 d, .int .i64 s, .int .i64 sz, .int .i64 imm]
      refine bodyPost_ret (res3 rfl _ _ M #[.int .i64 op, .int .i64 d, .int .i64 s, .int .i64 sz, .int .i64 imm] rfl (loadIA _ M _ _ _ _ _ rr)) rfl ⟨?_, by rw [hM]; exact hB7⟩
      rw [HX.out.1, HX.out.2.1, HX.out.2.2]
      rfl
theorem decode_any {w : World} {A : Option Addr} {n c : Nat} {l : List Int} (h : Byt w A n c l) :
    Calls Try.prog 13 #[.slice A n c] w fun e w' => e = .returned (.tuple #[aggI (decI l), .int .i64 (decN l : Int), .bool (decB l)]) ∧ Below w.heap.size w w' := by
  by_cases h1 : bt l 0 = 102
  · by_cases h2 : bt l 1 = 15
    · exact decode_66_0f h h1 h2
    · exact decode_66 h h1 h2
  · by_cases h2 : bt l 0 = 15
    · exact decode_0f h h1 h2
    · exact decode_no h h1 h2
end Go.Proofs.Ytpekegeohcnhcaa
