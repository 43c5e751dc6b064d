/-
  The reader: two registers, the operation that a byte tells.
-/
import Derived.Test.YtpekegeohcnhcaaIaJ
namespace Go.Proofs.Ytpekegeohcnhcaa
open Go.RowKit

/-- All but two blocks are as they were. -/
structure Keep2 (I X : Nat) (w w' : World) : Prop where
  os : w'.os = w.os
  tape : w'.tape = w.tape
  output : w'.output = w.output
  size : w.heap.size ≤ w'.heap.size
  block : ∀ k, k < w.heap.size → k ≠ I → k ≠ X → w'.heap[k]? = w.heap[k]?
theorem Keep2.refl (I X : Nat) (w : World) : Keep2 I X w w := ⟨rfl, rfl, rfl, Nat.le_refl _, fun _ _ _ _ => rfl⟩
theorem Keep2.trans {I X : Nat} {a b c : World} (h : Keep2 I X a b) (h2 : Keep2 I X b c) : Keep2 I X a c :=
  ⟨h2.os.trans h.os, h2.tape.trans h.tape, h2.output.trans h.output, Nat.le_trans h.size h2.size, fun k hk hn hx => (h2.block k (Nat.lt_of_lt_of_le hk h.size) hn hx).trans (h.block k hk hn hx)⟩
theorem Keep2.of_keep {I X : Nat} {a b : World} (h : KeepI I a b) : Keep2 I X a b := ⟨h.os, h.tape, h.output, h.size, fun k hk hn _ => h.block k hk hn⟩
theorem Keep2.below {I X B : Nat} {a b : World} (h : Keep2 I X a b) (h1 : B ≤ I) (h3 : B ≤ X) (h2 : B ≤ a.heap.size) : Below B a b := ⟨h.os, h.tape, h.output, h.size, fun k hk => h.block k (by omega) (by omega) (by omega)⟩
theorem Keep2.set {I X : Nat} {a b : World} (h : Keep2 I X a b) (o : Nat) (v : Value) : Keep2 I X a (b.setCell ⟨X, o, none⟩ v) :=
  ⟨h.os, h.tape, h.output, by simpa using h.size, fun k hk hn hx => (heap_setCell_other b ⟨X, o, none⟩ k v hx).trans (h.block k hk hn hx)⟩
/-- Where the reader stands, and the instruction so far. -/
structure St (w0 w : World) (I X : Nat) (A : Option Addr) (n c : Nat) (l : List Int) (p : Nat) (x : Ins) : Prop where
  keep : Keep2 I X w0 w
  inp : w.heap[I]? = some (.cells #[.slice A n c, .int .i64 (p : Int)] 64 (0, 0))
  ins : w.heap[X]? = some (.cells #[.int .i64 x.op, .int .i64 x.d, .int .i64 x.s, .int .i64 x.sz, .int .i64 x.imm] 23 (0, 0))
  byt : BytB (min I X) w A n c l
  ne : I ≠ X
theorem St.set0 {w0 w : World} {I X : Nat} {A : Option Addr} {n c : Nat} {l : List Int} {p : Nat} {x : Ins} (h : St w0 w I X A n c l p x) (v : Int) : St w0 (w.setCell ⟨X, 0, none⟩ (.int .i64 v)) I X A n c l p ⟨v, x.d, x.s, x.sz, x.imm⟩ := by
  refine ⟨h.keep.set _ _, (heap_setCell_other w ⟨X, 0, none⟩ I _ h.ne).trans h.inp, ?_, h.byt.below (((Keep2.refl I X w).set 0 _).below (by omega) (by omega) (by have := lt_of_block h.ins; omega)), h.ne⟩
  rw [heap_setCell_same w X 0 _ _ _ h.ins]
  rfl
theorem St.set1 {w0 w : World} {I X : Nat} {A : Option Addr} {n c : Nat} {l : List Int} {p : Nat} {x : Ins} (h : St w0 w I X A n c l p x) (v : Int) : St w0 (w.setCell ⟨X, 1, none⟩ (.int .i64 v)) I X A n c l p ⟨x.op, v, x.s, x.sz, x.imm⟩ := by
  refine ⟨h.keep.set _ _, (heap_setCell_other w ⟨X, 1, none⟩ I _ h.ne).trans h.inp, ?_, h.byt.below (((Keep2.refl I X w).set 1 _).below (by omega) (by omega) (by have := lt_of_block h.ins; omega)), h.ne⟩
  rw [heap_setCell_same w X 1 _ _ _ h.ins]
  rfl
theorem St.set2 {w0 w : World} {I X : Nat} {A : Option Addr} {n c : Nat} {l : List Int} {p : Nat} {x : Ins} (h : St w0 w I X A n c l p x) (v : Int) : St w0 (w.setCell ⟨X, 2, none⟩ (.int .i64 v)) I X A n c l p ⟨x.op, x.d, v, x.sz, x.imm⟩ := by
  refine ⟨h.keep.set _ _, (heap_setCell_other w ⟨X, 2, none⟩ I _ h.ne).trans h.inp, ?_, h.byt.below (((Keep2.refl I X w).set 2 _).below (by omega) (by omega) (by have := lt_of_block h.ins; omega)), h.ne⟩
  rw [heap_setCell_same w X 2 _ _ _ h.ins]
  rfl
theorem St.set3 {w0 w : World} {I X : Nat} {A : Option Addr} {n c : Nat} {l : List Int} {p : Nat} {x : Ins} (h : St w0 w I X A n c l p x) (v : Int) : St w0 (w.setCell ⟨X, 3, none⟩ (.int .i64 v)) I X A n c l p ⟨x.op, x.d, x.s, v, x.imm⟩ := by
  refine ⟨h.keep.set _ _, (heap_setCell_other w ⟨X, 3, none⟩ I _ h.ne).trans h.inp, ?_, h.byt.below (((Keep2.refl I X w).set 3 _).below (by omega) (by omega) (by have := lt_of_block h.ins; omega)), h.ne⟩
  rw [heap_setCell_same w X 3 _ _ _ h.ins]
  rfl
theorem St.set4 {w0 w : World} {I X : Nat} {A : Option Addr} {n c : Nat} {l : List Int} {p : Nat} {x : Ins} (h : St w0 w I X A n c l p x) (v : Int) : St w0 (w.setCell ⟨X, 4, none⟩ (.int .i64 v)) I X A n c l p ⟨x.op, x.d, x.s, x.sz, v⟩ := by
  refine ⟨h.keep.set _ _, (heap_setCell_other w ⟨X, 4, none⟩ I _ h.ne).trans h.inp, ?_, h.byt.below (((Keep2.refl I X w).set 4 _).below (by omega) (by omega) (by have := lt_of_block h.ins; omega)), h.ne⟩
  rw [heap_setCell_same w X 4 _ _ _ h.ins]
  rfl
theorem St.cells {w0 w : World} {I X : Nat} {A : Option Addr} {n c : Nat} {l : List Int} {p : Nat} {x : Ins} (h : St w0 w I X A n c l p x) :
    (w.cell? ⟨X, 0, none⟩ = some (.int .i64 x.op) ∧ w.cell? ⟨X, 1, none⟩ = some (.int .i64 x.d) ∧ w.cell? ⟨X, 2, none⟩ = some (.int .i64 x.s) ∧ w.cell? ⟨X, 3, none⟩ = some (.int .i64 x.sz) ∧ w.cell? ⟨X, 4, none⟩ = some (.int .i64 x.imm)) ∧
    w.frozen? ⟨X, 0, none⟩ = false ∧ w.frozen? ⟨X, 1, none⟩ = false ∧ w.frozen? ⟨X, 2, none⟩ = false ∧ w.frozen? ⟨X, 3, none⟩ = false ∧ w.frozen? ⟨X, 4, none⟩ = false := by
  refine ⟨cells5 h.ins, ?_, ?_, ?_, ?_, ?_⟩ <;> simp [World.frozen?, h.ins]
theorem St.next {w0 w w' : World} {I X : Nat} {A : Option Addr} {n c : Nat} {l : List Int} {p q : Nat} {x : Ins} (h : St w0 w I X A n c l p x) (hk : KeepI I w w') (hi : w'.heap[I]? = some (.cells #[.slice A n c, .int .i64 (q : Int)] 64 (0, 0))) : St w0 w' I X A n c l q x :=
  ⟨h.keep.trans (Keep2.of_keep hk), hi, (hk.block X (lt_of_block h.ins) h.ne.symm).trans h.ins, h.byt.below (hk.below (by omega) (by have := lt_of_block h.ins; omega)), h.ne⟩
theorem St.bytI {w0 w : World} {I X : Nat} {A : Option Addr} {n c : Nat} {l : List Int} {p : Nat} {x : Ins} (h : St w0 w I X A n c l p x) : BytB I w A n c l := ⟨h.byt.1, fun b off h1 h2 => by have := h.byt.2 b off h1 h2; omega⟩
section
variable {w0 w : World} {I X p : Nat} {A : Option Addr} {n c : Nat} {l : List Int} {x : Ins} {op d s sz : Int}
theorem next8_at (h : St w0 w I X A n c l p x) (hp : p ≤ 100) : Calls Try.prog 28 #[.pointer (some ⟨I, 0, none⟩), .int .i64 8] w fun e w' => e = .returned (.int .i64 (bt l p)) ∧ St w0 w' I X A n c l (p + 1) x :=
  (next_any 1 (by omega) I p A n c l w (by omega) h.inp h.bytI).mono fun e w' ⟨h1, h2, h3⟩ => ⟨h1, h.next h2 h3⟩
theorem next16_at (h : St w0 w I X A n c l p x) (hp : p ≤ 100) : Calls Try.prog 28 #[.pointer (some ⟨I, 0, none⟩), .int .i64 16] w fun e w' => e = .returned (.int .i64 (nx2 l p)) ∧ St w0 w' I X A n c l (p + 2) x :=
  (next_any 2 (by omega) I p A n c l w (by omega) h.inp h.bytI).mono fun e w' ⟨h1, h2, h3⟩ => ⟨h1, h.next h2 h3⟩
theorem next32_at (h : St w0 w I X A n c l p x) (hp : p ≤ 100) : Calls Try.prog 28 #[.pointer (some ⟨I, 0, none⟩), .int .i64 32] w fun e w' => e = .returned (.int .i64 (nx4 l p)) ∧ St w0 w' I X A n c l (p + 4) x :=
  (next_any 4 (by omega) I p A n c l w (by omega) h.inp h.bytI).mono fun e w' ⟨h1, h2, h3⟩ => ⟨h1, h.next h2 h3⟩
theorem farI_yes {b : List Int} {p : Nat} (h : farB (bt b p) = true) : farI b p = sgn 2147483648 (nx4 b (p + 1)) := by unfold farI; rw [if_pos h]
theorem farI_no {b : List Int} {p : Nat} (h : farB (bt b p) = false) : farI b p = 0 := by unfold farI; rw [if_neg (by rw [h]; decide)]
theorem aft_yes {b : List Int} {p : Nat} (h : farB (bt b p) = true) : aft b p = p + 5 := by unfold aft; rw [if_pos h]
theorem aft_no {b : List Int} {p : Nat} (h : farB (bt b p) = false) : aft b p = p + 1 := by unfold aft; rw [if_neg (by rw [h]; decide)]
set_option maxRecDepth 100000 in
set_option maxHeartbeats 4000000 in
theorem pair_any (h : St w0 w I X A n c l p ⟨op, d, s, sz, 0⟩) (hp : p ≤ 50) : Calls Try.prog 69 #[.pointer (some ⟨I, 0, none⟩), .pointer (some ⟨X, 0, none⟩)] w fun e w' => e = .returned (.tuple #[.int .i64 (regR (bt l p)), .int .i64 (regL (bt l p)), .bool (farB (bt l p))]) ∧ St w0 w' I X A n c l (aft l p) ⟨op, d, s, sz, farI l p⟩ := by
  obtain ⟨m, hm⟩ : ∃ m, bt l p = m := ⟨_, rfl⟩
  have hbd := bt_bd h.byt.1 p
  rw [hm] at hbd
  have HNX := Lib.hid (next8_at h (by omega))
  rw [hm] at HNX ⊢
  have HM := Lib.hid hm
  have a1 : bits .and .i64 (m / 8) 7 = m / 8 % 8 := i64_mask (m / 8) 3 (by omega)
  have a2 : bits .and .i64 m 7 = m % 8 := i64_mask m 3 (by omega)
  have HR := Lib.hid (show regR m = m / 8 % 8 from rfl)
  have HL := Lib.hid (show regL m = m % 8 from rfl)
  have HF := Lib.hid (show farB m = decide (m / 64 = 2) from rfl)
  obtain ⟨hm1, hm2⟩ := hbd
  generalize regR m = r at HR ⊢
  generalize regL m = q at HL ⊢
  generalize farB m = f at HF ⊢
  clear h hm
  by_cases hf : m / 64 = 2
  · have e0 : (m / 64 == 2) = true := by rw [hf]; rfl
    have hf2 : f = true := by rw [HF.out]; exact decide_eq_true hf
    have HFI := Lib.hid (farI_yes (b := l) (p := p) (by rw [HM.out]; exact decide_eq_true hf))
    have HAF := Lib.hid (aft_yes (b := l) (p := p) (by rw [HM.out]; exact decide_eq_true hf))
    subst hf2
    clear hf
    go_enter Try.func69, Try.ntmps69
    go_wp2_with fail
    refine HNX.out.mono ?_
    rintro e w2 ⟨rfl, h2⟩
    go_wp2_with fail
    refine (next32_at h2 (by omega)).mono ?_
    rintro e w3 ⟨rfl, h3⟩
    have HT := Lib.hid (h3.set4 (sgn 2147483648 (nx4 l (p + 1))))
    obtain ⟨⟨x0, x1, x2, x3, x4⟩, f0, f1, f2, f3, f4⟩ := h3.cells
    have HT2 := Lib.hid h2
    clear h2 h3
    go_wp2_with (go_at_call 70; ((with_reducible refine (signed32_any _ _).mono ?_); rintro e w' ⟨rfl, rfl⟩))
    exact bodyPost_ret (v := .tuple #[.int .i64 (m / 8 % 8), .int .i64 (m % 8), .bool true]) (by simp [results, Try.results69, go_sem]) rfl ⟨by rw [HR.out, HL.out], by rw [HFI.out, HAF.out]; exact HT.out⟩
  · have e0 : (m / 64 == 2) = false := beq_false_of_ne hf
    have hf2 : f = false := by rw [HF.out]; exact decide_eq_false hf
    have HFI := Lib.hid (farI_no (b := l) (p := p) (by rw [HM.out]; exact decide_eq_false hf))
    have HAF := Lib.hid (aft_no (b := l) (p := p) (by rw [HM.out]; exact decide_eq_false hf))
    subst hf2
    go_enter Try.func69, Try.ntmps69
    go_wp2_with fail
    refine HNX.out.mono ?_
    rintro e w2 ⟨rfl, h2⟩
    have HT2 := Lib.hid h2
    clear h2
    go_wp2
    exact bodyPost_ret (v := .tuple #[.int .i64 (m / 8 % 8), .int .i64 (m % 8), .bool false]) (by simp [results, Try.results69, go_sem]) rfl ⟨by rw [HR.out, HL.out], by rw [HFI.out, HAF.out]; exact HT2.out⟩
end
theorem plain_at (q v : Int) (h : plainF q = v) (w : World) : Calls Try.prog 71 #[.int .i64 q] w fun e w' => e = .returned (.int .i64 v) ∧ w = w' := by
  have HV := Lib.hid h
  clear h
  by_cases h0 : q = 1
  · subst h0
    have HE := Lib.hid (show v = 7 from HV.out.symm)
    go_enter Try.func71, Try.ntmps71
    go_wp2
    go_ret
    exact ⟨ret_i HE.out.symm, rfl⟩
  have d0 : (q == 1) = false := beq_false_of_ne h0
  by_cases h1 : q = 9
  · subst h1
    have HE := Lib.hid (show v = 8 from HV.out.symm)
    go_enter Try.func71, Try.ntmps71
    go_wp2
    go_ret
    exact ⟨ret_i HE.out.symm, rfl⟩
  have d1 : (q == 9) = false := beq_false_of_ne h1
  by_cases h2 : q = 33
  · subst h2
    have HE := Lib.hid (show v = 9 from HV.out.symm)
    go_enter Try.func71, Try.ntmps71
    go_wp2
    go_ret
    exact ⟨ret_i HE.out.symm, rfl⟩
  have d2 : (q == 33) = false := beq_false_of_ne h2
  by_cases h3 : q = 41
  · subst h3
    have HE := Lib.hid (show v = 10 from HV.out.symm)
    go_enter Try.func71, Try.ntmps71
    go_wp2
    go_ret
    exact ⟨ret_i HE.out.symm, rfl⟩
  have d3 : (q == 41) = false := beq_false_of_ne h3
  by_cases h4 : q = 49
  · subst h4
    have HE := Lib.hid (show v = 11 from HV.out.symm)
    go_enter Try.func71, Try.ntmps71
    go_wp2
    go_ret
    exact ⟨ret_i HE.out.symm, rfl⟩
  have d4 : (q == 49) = false := beq_false_of_ne h4
  by_cases h5 : q = 57
  · subst h5
    have HE := Lib.hid (show v = 12 from HV.out.symm)
    go_enter Try.func71, Try.ntmps71
    go_wp2
    go_ret
    exact ⟨ret_i HE.out.symm, rfl⟩
  have d5 : (q == 57) = false := beq_false_of_ne h5
  by_cases h6 : q = 133
  · subst h6
    have HE := Lib.hid (show v = 13 from HV.out.symm)
    go_enter Try.func71, Try.ntmps71
    go_wp2
    go_ret
    exact ⟨ret_i HE.out.symm, rfl⟩
  have d6 : (q == 133) = false := beq_false_of_ne h6
  by_cases h7 : q = 153
  · subst h7
    have HE := Lib.hid (show v = 28 from HV.out.symm)
    go_enter Try.func71, Try.ntmps71
    go_wp2
    go_ret
    exact ⟨ret_i HE.out.symm, rfl⟩
  have d7 : (q == 153) = false := beq_false_of_ne h7
  by_cases h8 : q = 244
  · subst h8
    have HE := Lib.hid (show v = 34 from HV.out.symm)
    go_enter Try.func71, Try.ntmps71
    go_wp2
    go_ret
    exact ⟨ret_i HE.out.symm, rfl⟩
  have d8 : (q == 244) = false := beq_false_of_ne h8
  by_cases h9 : q = 144
  · subst h9
    have HE := Lib.hid (show v = 36 from HV.out.symm)
    go_enter Try.func71, Try.ntmps71
    go_wp2
    go_ret
    exact ⟨ret_i HE.out.symm, rfl⟩
  have d9 : (q == 144) = false := beq_false_of_ne h9
  have HE := Lib.hid (show v = -1 by rw [← HV.out]; unfold plainF; simp only [h0, h1, h2, h3, h4, h5, h6, h7, h8, h9, if_false])
  clear h0 h1 h2 h3 h4 h5 h6 h7 h8 h9
  go_enter Try.func71, Try.ntmps71
  go_wp2
  go_ret
  exact ⟨ret_i HE.out.symm, rfl⟩
end Go.Proofs.Ytpekegeohcnhcaa
