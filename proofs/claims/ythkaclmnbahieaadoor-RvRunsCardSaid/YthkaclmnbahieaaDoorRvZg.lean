/-
  A machine in memory: its cells; a register written (set). The bytes of a machine's memory; check of both. A machine as a value; whether it may execute: check, asked, inMemory.
-/
import Derived.Test.YthkaclmnbahieaaDoorRvZd
import Derived.Test.YthkaclmnbahieaaDoorRvY
namespace Go.Proofs.YthkaclmnbahieaaDoor
open Go.RowKit

/-- All blocks but one are as they were. -/
structure KeepI (I : Nat) (w w' : World) : Prop where
  os : w'.os = w.os
  tape : w'.tape = w.tape
  output : w'.output = w.output
  size : w.heap.size ≤ w'.heap.size
  block : ∀ k, k < w.heap.size → k ≠ I → w'.heap[k]? = w.heap[k]?
theorem KeepI.refl (I : Nat) (w : World) : KeepI I w w := ⟨rfl, rfl, rfl, Nat.le_refl _, fun _ _ _ => rfl⟩
theorem KeepI.trans {I : Nat} {a b c : World} (h : KeepI I a b) (h2 : KeepI I b c) : KeepI I a c :=
  ⟨h2.os.trans h.os, h2.tape.trans h.tape, h2.output.trans h.output, Nat.le_trans h.size h2.size, fun k hk hn => (h2.block k (Nat.lt_of_lt_of_le hk h.size) hn).trans (h.block k hk hn)⟩
theorem KeepI.of_below {I : Nat} {a b : World} (h : Below a.heap.size a b) : KeepI I a b := ⟨h.os, h.tape, h.output, h.size, fun k hk _ => h.block k hk⟩
theorem KeepI.below {I B : Nat} {a b : World} (h : KeepI I a b) (h1 : B ≤ I) (h2 : B ≤ a.heap.size) : Below B a b := ⟨h.os, h.tape, h.output, h.size, fun k hk => h.block k (by omega) (by omega)⟩
theorem KeepI.set {I : Nat} {a b : World} (h : KeepI I a b) (o : Nat) (v : Value) : KeepI I a (b.setCell ⟨I, o, none⟩ v) :=
  ⟨h.os, h.tape, h.output, by simpa using h.size, fun k hk hn => (heap_setCell_other b ⟨I, o, none⟩ k v hn).trans (h.block k hk hn)⟩
/-- All blocks but two are as they were. -/
structure Keep2 (I X : Nat) (w w' : World) : Prop where
  os : w'.os = w.os
  tape : w'.tape = w.tape
  output : w'.output = w.output
  size : w.heap.size ≤ w'.heap.size
  block : ∀ k, k < w.heap.size → k ≠ I → k ≠ X → w'.heap[k]? = w.heap[k]?
theorem Keep2.refl (I X : Nat) (w : World) : Keep2 I X w w := ⟨rfl, rfl, rfl, Nat.le_refl _, fun _ _ _ _ => rfl⟩
theorem Keep2.trans {I X : Nat} {a b c : World} (h : Keep2 I X a b) (h2 : Keep2 I X b c) : Keep2 I X a c :=
  ⟨h2.os.trans h.os, h2.tape.trans h.tape, h2.output.trans h.output, Nat.le_trans h.size h2.size, fun k hk hn hx => (h2.block k (Nat.lt_of_lt_of_le hk h.size) hn hx).trans (h.block k hk hn hx)⟩
theorem Keep2.of_keep {I X : Nat} {a b : World} (h : KeepI I a b) : Keep2 I X a b := ⟨h.os, h.tape, h.output, h.size, fun k hk hn _ => h.block k hk hn⟩
theorem Keep2.below {I X B : Nat} {a b : World} (h : Keep2 I X a b) (h1 : B ≤ I) (h3 : B ≤ X) (h2 : B ≤ a.heap.size) : Below B a b := ⟨h.os, h.tape, h.output, h.size, fun k hk => h.block k (by omega) (by omega) (by omega)⟩
theorem Keep2.set {I X : Nat} {a b : World} (h : Keep2 I X a b) (o : Nat) (v : Value) : Keep2 I X a (b.setCell ⟨X, o, none⟩ v) :=
  ⟨h.os, h.tape, h.output, by simpa using h.size, fun k hk hn hx => (heap_setCell_other b ⟨X, o, none⟩ k v hx).trans (h.block k hk hn hx)⟩
/-- A machine in memory: its registers, flags, where it is, its memory, how it ended. -/
structure MacC (w : World) (G : Nat) (R : Nat → Nat) (fl : Int) (at_ : Nat) (mem : Value) (fin : Nat) : Prop where
  ex : ∃ MC : Array Value, w.heap[G]? = some (.cells MC 52 (0, 0)) ∧ MC.size = 36 ∧ (∀ j, j < 32 → MC[j]? = some (.int .u32 (R j : Nat))) ∧ MC[32]? = some (.int .i64 fl) ∧ MC[33]? = some (.int .u32 (at_ : Nat)) ∧ MC[34]? = some mem ∧ MC[35]? = some (.int .i64 (fin : Nat))
/-- A register changed. -/
def putR (R : Nat → Nat) (d : Nat) (x : Nat) : Nat → Nat := fun j => if j = d then x else R j
section
variable {w : World} {G : Nat} {R : Nat → Nat} {fl : Int} {at_ fin : Nat} {mem : Value}
theorem MacC.cells (h : MacC w G R fl at_ mem fin) : (∀ j, j < 32 → w.cell? ⟨G, j, none⟩ = some (.int .u32 (R j : Nat))) ∧ w.cell? ⟨G, 32, none⟩ = some (.int .i64 fl) ∧ w.cell? ⟨G, 33, none⟩ = some (.int .u32 (at_ : Nat)) ∧ w.cell? ⟨G, 34, none⟩ = some mem ∧ w.cell? ⟨G, 35, none⟩ = some (.int .i64 (fin : Nat)) := by
  obtain ⟨MC, hG, -, hR, h2, h3, h4, h5⟩ := h.ex
  refine ⟨fun j hj => ?_, ?_, ?_, ?_, ?_⟩
  · simp [World.cell?, hG, hR j hj]
  · simp [World.cell?, hG, h2]
  · simp [World.cell?, hG, h3]
  · simp [World.cell?, hG, h4]
  · simp [World.cell?, hG, h5]
theorem MacC.lt (h : MacC w G R fl at_ mem fin) : G < w.heap.size := by
  obtain ⟨MC, hG, -⟩ := h.ex
  exact lt_of_block hG
theorem MacC.free (h : MacC w G R fl at_ mem fin) (o : Nat) : w.frozen? ⟨G, o, none⟩ = false := by
  obtain ⟨MC, hG, -⟩ := h.ex
  simp [World.frozen?, hG]
theorem MacC.setR (h : MacC w G R fl at_ mem fin) (d : Nat) (hd : d < 32) (x : Nat) : MacC (w.setCell ⟨G, d, none⟩ (.int .u32 (x : Nat))) G (putR R d x) fl at_ mem fin := by
  obtain ⟨MC, hG, hs, hR, h2, h3, h4, h5⟩ := h.ex
  refine ⟨_, heap_setCell_same w G d _ _ _ hG, by simp [hs], fun j hj => ?_, ?_, ?_, ?_, ?_⟩
  · unfold putR
    by_cases e : j = d
    · subst e
      rw [if_pos rfl, Array.getElem?_setIfInBounds, if_pos rfl, if_pos (by omega)]
    · rw [if_neg e, Array.getElem?_setIfInBounds, if_neg (Ne.symm e)]
      exact hR j hj
  all_goals rw [Array.getElem?_setIfInBounds, if_neg (by omega)]
  all_goals assumption
theorem MacC.setAt (h : MacC w G R fl at_ mem fin) (x : Nat) : MacC (w.setCell ⟨G, 33, none⟩ (.int .u32 (x : Nat))) G R fl x mem fin := by
  obtain ⟨MC, hG, hs, hR, h2, h3, h4, h5⟩ := h.ex
  refine ⟨_, heap_setCell_same w G 33 _ _ _ hG, by simp [hs], fun j hj => ?_, ?_, ?_, ?_, ?_⟩
  · rw [Array.getElem?_setIfInBounds, if_neg (by omega)]
    exact hR j hj
  all_goals rw [Array.getElem?_setIfInBounds]
  all_goals first
    | rw [if_neg (by omega)]; assumption
    | rw [if_pos rfl, if_pos (by omega)]
theorem MacC.setMem (h : MacC w G R fl at_ mem fin) (x : Value) : MacC (w.setCell ⟨G, 34, none⟩ x) G R fl at_ x fin := by
  obtain ⟨MC, hG, hs, hR, h2, h3, h4, h5⟩ := h.ex
  refine ⟨_, heap_setCell_same w G 34 _ _ _ hG, by simp [hs], fun j hj => ?_, ?_, ?_, ?_, ?_⟩
  · rw [Array.getElem?_setIfInBounds, if_neg (by omega)]
    exact hR j hj
  all_goals rw [Array.getElem?_setIfInBounds]
  all_goals first
    | rw [if_neg (by omega)]; assumption
    | rw [if_pos rfl, if_pos (by omega)]
theorem MacC.setFin (h : MacC w G R fl at_ mem fin) (x : Nat) : MacC (w.setCell ⟨G, 35, none⟩ (.int .i64 (x : Nat))) G R fl at_ mem x := by
  obtain ⟨MC, hG, hs, hR, h2, h3, h4, h5⟩ := h.ex
  refine ⟨_, heap_setCell_same w G 35 _ _ _ hG, by simp [hs], fun j hj => ?_, ?_, ?_, ?_, ?_⟩
  · rw [Array.getElem?_setIfInBounds, if_neg (by omega)]
    exact hR j hj
  all_goals rw [Array.getElem?_setIfInBounds]
  all_goals first
    | rw [if_neg (by omega)]; assumption
    | rw [if_pos rfl, if_pos (by omega)]
theorem MacC.drewN (h : MacC w G R fl at_ mem fin) (n : Nat) : MacC (w.drewN n) G R fl at_ mem fin := ⟨h.ex⟩
theorem MacC.below (h : MacC w G R fl at_ mem fin) {w' : World} (hb : Below w.heap.size w w') : MacC w' G R fl at_ mem fin := by
  obtain ⟨MC, hG, hr⟩ := h.ex
  exact ⟨MC, (hb.block G (lt_of_block hG)).trans hG, hr⟩
/-- A register written by an instruction: the register 0 stays. -/
def setRF (R : Nat → Nat) (d x : Nat) : Nat → Nat := if d = 0 then R else putR R d x
set_option maxRecDepth 100000 in
set_option maxHeartbeats 2000000 in
theorem set_mac (h : MacC w G R fl at_ mem fin) (d : Nat) (hd : d < 32) (x : Nat) : Calls Tryd.prog 81 #[.pointer (some ⟨G, 0, none⟩), .int .i64 (d : Int), .int .u32 (x : Nat)] w fun e w' => e = .returned (.tuple #[]) ∧ MacC w' G (setRF R d x) fl at_ mem fin ∧ KeepI G w w' := by
  by_cases h0 : d = 0
  · subst h0
    go_enter Tryd.func81, Tryd.ntmps81
    go_wp2
    exact bodyPost_end (v := .tuple #[]) (by simp [results, Tryd.results81, go_sem]) rfl ⟨rfl, h, KeepI.refl _ _⟩
  · have hn := h.setR d hd x
    have hg := (KeepI.refl G w).set d (.int .u32 (x : Nat))
    obtain ⟨c0, -⟩ := h.cells
    have cd := c0 d hd
    have fd := h.free d
    have hdi : (d : Int) < 32 := by omega
    have HN := Lib.hid (And.intro hn hg)
    have E := Lib.hid (show setRF R d x = putR R d x from if_neg h0)
    clear h c0 hn hg
    go_enter Tryd.func81, Tryd.ntmps81
    go_wp2
    exact bodyPost_end (v := .tuple #[]) (by simp [results, Tryd.results81, go_sem]) rfl ⟨rfl, by rw [E.out]; exact HN.out.1, HN.out.2⟩
end
end Go.Proofs.YthkaclmnbahieaaDoor

namespace Go.Proofs.YthkaclmnbahieaaDoor
open Go.RowKit

section
variable {w : World} {G : Nat} {R : Nat → Nat} {fl : Int} {at_ fin : Nat} {A : Option Addr} {n c : Nat}
set_option maxRecDepth 100000 in
set_option maxHeartbeats 4000000 in
theorem bytes_no (h : MacC w G R fl at_ (.slice A n c) fin) (P : Nat) (hP : P < 4294967296) (k : Nat) (hk : k ≤ 4) (_ : n ≤ 40000) (hno : n < P + k) : Calls Tryd.prog 69 #[.pointer (some ⟨G, 0, none⟩), .int .u32 (P : Nat), .int .i64 (k : Int)] w fun e w' => e = .returned (.tuple #[.slice none 0 0, .bool false]) ∧ w' = w := by
  obtain ⟨-, -, -, c34, -⟩ := h.cells
  have hi : (n : Int) < (P : Int) + (k : Int) := by omega
  clear h
  go_enter Tryd.func69, Tryd.ntmps69
  go_wp2
  all_goals first
    | exact bodyPost_ret (v := .tuple #[.slice none 0 0, .bool false]) (by simp [results, Tryd.results69, go_sem]) rfl ⟨rfl, rfl⟩
    | (exfalso; omega)
set_option maxRecDepth 100000 in
set_option maxHeartbeats 4000000 in
theorem bytes_yes {M o : Nat} (h : MacC w G R fl at_ (.slice (some ⟨M, o, none⟩) n c) fin) (P : Nat) (k : Nat) (hk0 : 1 ≤ k) (hk : k ≤ 4) (hn : n ≤ 40000) (hc : n ≤ c) (hno : P + k ≤ n) : Calls Tryd.prog 69 #[.pointer (some ⟨G, 0, none⟩), .int .u32 (P : Nat), .int .i64 (k : Int)] w fun e w' => e = .returned (.tuple #[.slice (some ⟨M, o + P, none⟩) k (c - P), .bool true]) ∧ w' = w := by
  obtain ⟨-, -, -, c34, -⟩ := h.cells
  have hP : P < 4294967296 := by omega
  clear h
  go_enter Tryd.func69, Tryd.ntmps69
  go_wp2
  all_goals first
    | exact bodyPost_ret (v := .tuple #[.slice (some ⟨M, o + P, none⟩) k (c - P), .bool true]) (by simp [results, Tryd.results69, go_sem]) rfl ⟨rfl, rfl⟩
    | (exfalso; omega)
end
end Go.Proofs.YthkaclmnbahieaaDoor

namespace Go.Proofs.YthkaclmnbahieaaDoor
open Go.RowKit

/-- A machine as a value. -/
structure MachV (MC : Array Value) (R : Nat → Nat) (fl : Int) (at_ : Nat) (mem : Value) (fin : Nat) : Prop where
  size : MC.size = 36
  reg : ∀ j, j < 32 → MC[j]? = some (.int .u32 (R j : Nat))
  flg : MC[32]? = some (.int .i64 fl)
  plc : MC[33]? = some (.int .u32 (at_ : Nat))
  mem : MC[34]? = some mem
  fin : MC[35]? = some (.int .i64 (fin : Nat))
theorem MachV.mac {MC : Array Value} {R : Nat → Nat} {fl : Int} {at_ fin : Nat} {mem : Value} (h : MachV MC R fl at_ mem fin) {W : World} {B : Nat} (hB : W.heap[B]? = some (.cells MC 52 (0, 0))) : MacC W B R fl at_ mem fin := ⟨MC, hB, h.size, h.reg, h.flg, h.plc, h.mem, h.fin⟩
/-- What is wrong with a machine that is to execute. -/
def askM (n r : Nat) : Nat := if 32768 < n ∨ r ≠ 0 then 1 else 0
def chkM (n r fin : Nat) : Nat := if 32768 < n ∨ r ≠ 0 then 1 else if fin ≠ 0 then 9 else 0
section
variable {MC : Array Value} {R : Nat → Nat} {fl : Int} {at_ fin : Nat} {A : Option Addr} {n c : Nat}
set_option maxRecDepth 100000 in
set_option maxHeartbeats 4000000 in
theorem asked_any (h : MachV MC R fl at_ (.slice A n c) fin) (w : World) : Calls Tryd.prog 59 #[.agg MC] w fun e w' => e = .returned (.int .i64 (askM n (R 0) : Nat)) ∧ Below w.heap.size w w' := by
  have hb0 : Below w.heap.size w (w.alloc (.cells MC 52)) := (Below.refl _ _).alloc (Nat.le_refl _) _
  have hB := heap_alloc_new w (.cells MC 52)
  have HB0 := Lib.hid hb0
  obtain ⟨c0, -, -, c34, -⟩ := (h.mac hB).cells
  have cR := c0 0 (by omega)
  obtain ⟨r, hr⟩ : ∃ r, r = R 0 := ⟨_, rfl⟩
  rw [← hr] at cR ⊢
  clear h hb0 hB c0 hr
  by_cases h1 : 32768 < n
  · have d1 : decide ((n : Int) > 32768) = true := decide_eq_true (by omega)
    have HE := Lib.hid (show askM n r = 1 from if_pos (Or.inl h1))
    go_enter Tryd.func59, Tryd.ntmps59
    go_upto_region 1 with fail
    generalize World.alloc w _ = W0 at HB0 cR c34 ⊢
    go_wp2
    exact bodyPost_ret (v := .int .i64 1) (by simp [results, Tryd.results59, go_sem]) rfl ⟨by rw [HE.out]; rfl, HB0.out⟩
  · have d1 : decide ((n : Int) > 32768) = false := decide_eq_false (by omega)
    by_cases h2 : r = 0
    · subst h2
      have HE := Lib.hid (show askM n 0 = 0 from if_neg (by omega))
      go_enter Tryd.func59, Tryd.ntmps59
      go_upto_region 1 with fail
      generalize World.alloc w _ = W0 at HB0 cR c34 ⊢
      go_wp2
      exact bodyPost_ret (v := .int .i64 0) (by simp [results, Tryd.results59, go_sem]) rfl ⟨by rw [HE.out]; rfl, HB0.out⟩
    · have d2 : ((r : Int) == 0) = false := beq_eq_false_iff_ne.mpr (by omega)
      have d3 : ((r : Int) != 0) = true := bne_iff_ne.mpr (by omega)
      have HE := Lib.hid (show askM n r = 1 from if_pos (Or.inr h2))
      go_enter Tryd.func59, Tryd.ntmps59
      go_upto_region 1 with fail
      generalize World.alloc w _ = W0 at HB0 cR c34 ⊢
      go_wp2
      exact bodyPost_ret (v := .int .i64 1) (by simp [results, Tryd.results59, go_sem]) rfl ⟨by rw [HE.out]; rfl, HB0.out⟩
set_option maxRecDepth 100000 in
set_option maxHeartbeats 4000000 in
theorem check_any (h : MachV MC R fl at_ (.slice A n c) fin) (w : World) : Calls Tryd.prog 56 #[.agg MC] w fun e w' => e = .returned (.int .i64 (chkM n (R 0) fin : Nat)) ∧ Below w.heap.size w w' := by
  have hb0 : Below w.heap.size w (w.alloc (.cells MC 52)) := (Below.refl _ _).alloc (Nat.le_refl _) _
  have hB := heap_alloc_new w (.cells MC 52)
  have HB0 := Lib.hid hb0
  obtain ⟨c0, -, -, c34, c35⟩ := (h.mac hB).cells
  have cR := c0 0 (by omega)
  obtain ⟨r, hr⟩ : ∃ r, r = R 0 := ⟨_, rfl⟩
  rw [← hr] at cR ⊢
  clear h hb0 hB c0 hr
  by_cases h1 : 32768 < n
  · have d1 : decide ((n : Int) > 32768) = true := decide_eq_true (by omega)
    have HE := Lib.hid (show chkM n r fin = 1 from if_pos (Or.inl h1))
    go_enter Tryd.func56, Tryd.ntmps56
    go_upto_region 1 with fail
    generalize World.alloc w _ = W0 at HB0 cR c34 c35 ⊢
    go_wp2
    exact bodyPost_ret (v := .int .i64 1) (by simp [results, Tryd.results56, go_sem]) rfl ⟨by rw [HE.out]; rfl, HB0.out⟩
  · have d1 : decide ((n : Int) > 32768) = false := decide_eq_false (by omega)
    by_cases h2 : r = 0
    · subst h2
      by_cases h3 : fin = 0
      · subst h3
        have HE := Lib.hid (show chkM n 0 0 = 0 from (if_neg (by omega)).trans (if_neg (by omega)))
        go_enter Tryd.func56, Tryd.ntmps56
        go_upto_region 1 with fail
        generalize World.alloc w _ = W0 at HB0 cR c34 c35 ⊢
        go_wp2
        exact bodyPost_ret (v := .int .i64 0) (by simp [results, Tryd.results56, go_sem]) rfl ⟨by rw [HE.out]; rfl, HB0.out⟩
      · have d2 : ((fin : Int) == 0) = false := beq_eq_false_iff_ne.mpr (by omega)
        have d3 : ((fin : Int) != 0) = true := bne_iff_ne.mpr (by omega)
        have HE := Lib.hid (show chkM n 0 fin = 9 from (if_neg (by omega)).trans (if_pos h3))
        go_enter Tryd.func56, Tryd.ntmps56
        go_upto_region 1 with fail
        generalize World.alloc w _ = W0 at HB0 cR c34 c35 ⊢
        go_wp2
        exact bodyPost_ret (v := .int .i64 9) (by simp [results, Tryd.results56, go_sem]) rfl ⟨by rw [HE.out]; rfl, HB0.out⟩
    · have d2 : ((r : Int) == 0) = false := beq_eq_false_iff_ne.mpr (by omega)
      have d3 : ((r : Int) != 0) = true := bne_iff_ne.mpr (by omega)
      have HE := Lib.hid (show chkM n r fin = 1 from if_pos (Or.inr h2))
      go_enter Tryd.func56, Tryd.ntmps56
      go_upto_region 1 with fail
      generalize World.alloc w _ = W0 at HB0 cR c34 c35 ⊢
      go_wp2
      exact bodyPost_ret (v := .int .i64 1) (by simp [results, Tryd.results56, go_sem]) rfl ⟨by rw [HE.out]; rfl, HB0.out⟩
set_option maxRecDepth 100000 in
set_option maxHeartbeats 4000000 in
theorem inMem_any (h : MachV MC R fl at_ (.slice A n c) fin) (P k : Nat) (hP : P < 4294967296) (hk : k ≤ 4) (_ : n ≤ 40000) (w : World) : Calls Tryd.prog 71 #[.agg MC, .int .u32 (P : Nat), .int .i64 (k : Nat)] w fun e w' => e = .returned (.bool (decide (P + k ≤ n))) ∧ Below w.heap.size w w' := by
  have hb0 : Below w.heap.size w (w.alloc (.cells MC 52)) := (Below.refl _ _).alloc (Nat.le_refl _) _
  have hB := heap_alloc_new w (.cells MC 52)
  have HB0 := Lib.hid hb0
  obtain ⟨-, -, -, c34, -⟩ := (h.mac hB).cells
  have HE := Lib.hid (show decide ((P : Int) + (k : Int) ≤ (n : Int)) = decide (P + k ≤ n) from decide_eq_decide.mpr (by omega))
  clear h hb0 hB
  go_enter Tryd.func71, Tryd.ntmps71
  go_upto_region 1 with fail
  generalize World.alloc w _ = W0 at HB0 c34 ⊢
  go_wp2
  exact bodyPost_ret (v := .bool (decide (P + k ≤ n))) (by rw [← HE.out]; simp [results, Tryd.results71, go_sem]) rfl ⟨rfl, HB0.out⟩
end
end Go.Proofs.YthkaclmnbahieaaDoor
