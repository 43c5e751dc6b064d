/-
  The reference's step: what lies in memory while it executes an instruction.
-/
import Derived.Test.YthkaclmnbahieaaDoorRvSa
namespace Go.Proofs.YthkaclmnbahieaaDoor
open Go.RowKit

theorem mem_read {w : World} {M n c : Nat} {l : List Int} (h : MemC w M n c l) (P k : Nat) (hk : 1 ≤ k ∧ k ≤ 4) (hp : P + k ≤ n) : rdP l P k k = ldF l P k := by
  have hb := h.byte
  have hl := h.len
  unfold ldF
  have g : ∀ j, j < k → ((l.drop P).take k)[j]! = l[P + j]! := fun j hj => by
    rw [get_take hj]
    simp [List.getElem!_eq_getElem?_getD, List.getElem?_drop]
  obtain rfl | rfl | rfl | rfl : k = 1 ∨ k = 2 ∨ k = 3 ∨ k = 4 := by omega
  all_goals
    simp only [numP, rdP]
    first
      | rw [g 0 (by omega), g 1 (by omega), g 2 (by omega), g 3 (by omega)]
      | rw [g 0 (by omega), g 1 (by omega), g 2 (by omega)]
      | rw [g 0 (by omega), g 1 (by omega)]
      | rw [g 0 (by omega)]
    simp
    try omega
theorem i32_u32 (x : Int) : IntKind.u32.wrap (IntKind.i32.wrap x) = ((wr32 x : Nat) : Int) := by
  rw [IntKind.wrap_u32, IntKind.wrap_i32, wr32_cast]
  omega
theorem shT_0 {i : Nat} (h : i ≤ 14) : shT i = 0 := by
  have : ∀ i, i < 15 → shT i = 0 := by decide +kernel
  exact this i (by omega)
theorem shT_12 {i : Nat} (h : 15 ≤ i ∧ i ≤ 23) : shT i = 1 ∨ shT i = 2 := by
  have : ∀ i, i < 24 → 15 ≤ i → shT i = 1 ∨ shT i = 2 := by decide +kernel
  exact this i (by omega) h.1
theorem shT_4 {i : Nat} (h : 25 ≤ i ∧ i ≤ 27) : shT i = 4 := by
  have : ∀ i, i < 28 → 25 ≤ i → shT i = 4 := by decide +kernel
  exact this i (by omega) h.1
theorem shT_5 {i : Nat} (h : 28 ≤ i ∧ i ≤ 30) : shT i = 5 := by
  have : ∀ i, i < 31 → 28 ≤ i → shT i = 5 := by decide +kernel
  exact this i (by omega) h.1
theorem shT_6 {i : Nat} (h : 31 ≤ i ∧ i ≤ 36) : shT i = 6 := by
  have : ∀ i, i < 37 → 31 ≤ i → shT i = 6 := by decide +kernel
  exact this i (by omega) h.1
theorem sz_load {op : Nat} (h : 25 ≤ op ∧ op ≤ 27) : wrap64 ((2 : Int) ^ (op - 25)) = ((szF op : Nat) : Int) := by
  obtain rfl | rfl | rfl : op = 25 ∨ op = 26 ∨ op = 27 := by omega
  all_goals
    unfold wrap64 szF
    decide
theorem sz_store {op : Nat} (h : 28 ≤ op ∧ op ≤ 30) : wrap64 ((2 : Int) ^ (op - 28)) = ((szF op : Nat) : Int) := by
  obtain rfl | rfl | rfl : op = 28 ∨ op = 29 ∨ op = 30 := by omega
  all_goals
    unfold wrap64 szF
    decide
theorem decI_some {n : Nat} {x : Rv} (h : decF n = some x) : decI n = x := by
  unfold decI
  rw [h]
theorem decB_some {n : Nat} {x : Rv} (h : decF n = some x) : decB n = true := by
  unfold decB
  rw [h]
  rfl
theorem stepF_some (s : Mst) (h1 : s.pc + 4 ≤ s.l.length) (h2 : s.pc % 4 = 0) {op d a b : Nat} {imm : Int} (hF : decF (ldF s.l s.pc 4) = some ⟨op, d, a, b, imm⟩) :
    stepF s = if (exF op d a b imm s).1 = true then (exF op d a b imm s).2 else ⟨(exF op d a b imm s).2.R, (exF op d a b imm s).2.pc, 3, (exF op d a b imm s).2.l⟩ := by
  unfold stepF
  rw [if_pos ⟨h1, h2⟩, hF]
  simp only [Int.toNat_natCast]
/-- What lies in memory while the reference executes an instruction. -/
structure RSt (w W : World) (M : Nat) (MC : Array Value) (X Z V U : Nat) (op d a b : Nat) (imm : Int) (R : Nat → Nat) (fl : Int) (pc : Nat) (mem : Value) (S : Nat → Nat) (at_ fin : Nat) : Prop where
  x : W.heap[X]? = some (.cells MC 52 (0, 0))
  y : W.heap[X + 1]? = some (.cells zeroMC 52 (0, 0))
  z : ∃ MC5, W.heap[Z]? = some (.cells MC5 52 (0, 0)) ∧ MachV MC5 R fl pc mem 3
  v : W.heap[V]? = some (.cells #[.int .i64 op, .int .i64 d, .int .i64 a, .int .i64 b, .int .i64 imm] 23 (0, 0))
  u : MacC W U S fl at_ mem fin
  frame : KeepI M w W
  low : M < w.heap.size
  geX : X = w.heap.size
  geZ : X + 1 < Z
  geV : Z < V
  geU : V < U
section
variable {w W W' : World} {M : Nat} {MC : Array Value} {X Z V U : Nat} {op d a b : Nat} {imm : Int} {R : Nat → Nat} {fl : Int} {pc : Nat} {mem : Value} {S : Nat → Nat} {at_ fin : Nat}
theorem MacC.keepI {I G : Nat} (h : MacC W G S fl at_ mem fin) (hk : KeepI I W W') (hn : G ≠ I) : MacC W' G S fl at_ mem fin := by
  obtain ⟨MC, hG, hr⟩ := h.ex
  exact ⟨MC, (hk.block G (lt_of_block hG) hn).trans hG, hr⟩
theorem RSt.keep (h : RSt w W M MC X Z V U op d a b imm R fl pc mem S at_ fin) (hk : KeepI M W W') : RSt w W' M MC X Z V U op d a b imm R fl pc mem S at_ fin := by
  have h1 := h.low
  have h2 := h.geX
  have h3 := h.geZ
  have h4 := h.geV
  have h5 := h.geU
  obtain ⟨MC5, hz, hV⟩ := h.z
  exact ⟨(hk.block X (lt_of_block h.x) (by omega)).trans h.x, (hk.block _ (lt_of_block h.y) (by omega)).trans h.y, ⟨MC5, (hk.block Z (lt_of_block hz) (by omega)).trans hz, hV⟩, (hk.block V (lt_of_block h.v) (by omega)).trans h.v, h.u.keepI hk (by omega), h.frame.trans hk, h1, h2, h3, h4, h5⟩
theorem RSt.below (h : RSt w W M MC X Z V U op d a b imm R fl pc mem S at_ fin) (hb : Below W.heap.size W W') : RSt w W' M MC X Z V U op d a b imm R fl pc mem S at_ fin := h.keep (KeepI.of_below hb)
theorem RSt.drewN (h : RSt w W M MC X Z V U op d a b imm R fl pc mem S at_ fin) (k : Nat) : RSt w (W.drewN k) M MC X Z V U op d a b imm R fl pc mem S at_ fin := h.below (drewNR (Below.refl _ _))
theorem RSt.upd (h : RSt w W M MC X Z V U op d a b imm R fl pc mem S at_ fin) (o : Nat) (v : Value) {S' : Nat → Nat} {at' fin' : Nat} (hu : MacC (W.setCell ⟨U, o, none⟩ v) U S' fl at' mem fin') : RSt w (W.setCell ⟨U, o, none⟩ v) M MC X Z V U op d a b imm R fl pc mem S' at' fin' := by
  have h1 := h.low
  have h2 := h.geX
  have h3 := h.geZ
  have h4 := h.geV
  have h5 := h.geU
  have other : ∀ k, k ≠ U → (W.setCell ⟨U, o, none⟩ v).heap[k]? = W.heap[k]? := fun k hk => heap_setCell_other W ⟨U, o, none⟩ k v hk
  obtain ⟨MC5, hz, hV⟩ := h.z
  refine ⟨(other X (by omega)).trans h.x, (other _ (by omega)).trans h.y, ⟨MC5, (other Z (by omega)).trans hz, hV⟩, (other V (by omega)).trans h.v, hu, ⟨h.frame.os, h.frame.tape, h.frame.output, by simpa using h.frame.size, fun k hk hn => ?_⟩, h1, h2, h3, h4, h5⟩
  have := h.frame.size
  exact (other k (by omega)).trans (h.frame.block k hk hn)
theorem RSt.setR (h : RSt w W M MC X Z V U op d a b imm R fl pc mem S at_ fin) (j : Nat) (hj : j < 32) (x : Nat) : RSt w (W.setCell ⟨U, j, none⟩ (.int .u32 (x : Nat))) M MC X Z V U op d a b imm R fl pc mem (putR S j x) at_ fin := h.upd j _ (h.u.setR j hj x)
theorem RSt.setAt (h : RSt w W M MC X Z V U op d a b imm R fl pc mem S at_ fin) (x : Nat) : RSt w (W.setCell ⟨U, 33, none⟩ (.int .u32 (x : Nat))) M MC X Z V U op d a b imm R fl pc mem S x fin := h.upd 33 _ (h.u.setAt x)
theorem RSt.setFin (h : RSt w W M MC X Z V U op d a b imm R fl pc mem S at_ fin) (x : Nat) : RSt w (W.setCell ⟨U, 35, none⟩ (.int .i64 (x : Nat))) M MC X Z V U op d a b imm R fl pc mem S at_ x := h.upd 35 _ (h.u.setFin x)
/-- The register 0 set to 0 at the end is what set keeps. -/
theorem putR_zero {R : Nat → Nat} (h : R 0 = 0) (d x : Nat) : putR (putR R d x) 0 0 = setRF R d x := by
  funext j
  unfold setRF putR
  by_cases hd : d = 0
  · rw [if_pos hd]
    by_cases hj : j = 0
    · rw [if_pos hj, hj, h]
    · rw [if_neg hj, if_neg (by omega)]
  · rw [if_neg hd]
    by_cases hj : j = 0
    · rw [if_pos hj, if_neg (by omega), hj, h]
    · rw [if_neg hj]
theorem putR_none {R : Nat → Nat} (h : R 0 = 0) : putR R 0 0 = R := by
  funext j
  unfold putR
  by_cases hj : j = 0
  · rw [if_pos hj, hj, h]
  · rw [if_neg hj]
theorem RSt.done (h : RSt w W M MC X Z V U op d a b imm R fl pc mem S at_ fin) (MC' : Array Value) : KeepI M w (W.setRow (X + 1) MC') := by
  have h2 := h.geX
  exact ⟨h.frame.os, h.frame.tape, h.frame.output, by simpa using h.frame.size, fun k hk hn => (setRow_other W (X + 1) k MC' (by omega)).trans (h.frame.block k hk hn)⟩
theorem RSt.memNe (h : RSt w W M MC X Z V U op d a b imm R fl pc mem S at_ fin) : M ≠ U ∧ M ≠ X + 1 := by
  have h1 := h.low
  have h2 := h.geX
  have h3 := h.geZ
  have h4 := h.geV
  have h5 := h.geU
  constructor <;> omega
end
section
variable (op d a b : Nat) (imm : Int) (s : Mst)
theorem exF_alu (h : op ≤ 14) : exF op d a b imm s = (true, ⟨setRF s.R d (aluF op (s.R a) (s.R b)), (s.pc + 4) % 4294967296, s.fin, s.l⟩) := if_pos h
theorem exF_imm (h1 : ¬ op ≤ 14) (h2 : op ≤ 23) : exF op d a b imm s = (true, ⟨setRF s.R d (aluF (opF op) (s.R a) (wr32 imm)), (s.pc + 4) % 4294967296, s.fin, s.l⟩) := (if_neg h1).trans (if_pos h2)
theorem exF_lui : exF 24 d a b imm s = (true, ⟨setRF s.R d (wr32 (wr32 imm * 4096)), (s.pc + 4) % 4294967296, s.fin, s.l⟩) := rfl
theorem exF_load (h1 : ¬ op ≤ 24) (h2 : op ≤ 27) (hp : (s.R a + wr32 imm) % 4294967296 + szF op ≤ s.l.length) : exF op d a b imm s = (true, ⟨setRF s.R d (ldF s.l ((s.R a + wr32 imm) % 4294967296) (szF op)), (s.pc + 4) % 4294967296, s.fin, s.l⟩) :=
  (if_neg (by omega)).trans ((if_neg (by omega)).trans ((if_neg (by omega)).trans ((if_pos (by omega)).trans ((if_pos hp).trans (if_pos h2)))))
theorem exF_store (h1 : ¬ op ≤ 27) (h2 : op ≤ 30) (hp : (s.R a + wr32 imm) % 4294967296 + szF op ≤ s.l.length) : exF op d a b imm s = (true, ⟨s.R, (s.pc + 4) % 4294967296, s.fin, stF s.l ((s.R a + wr32 imm) % 4294967296) (s.R b) (szF op)⟩) :=
  (if_neg (by omega)).trans ((if_neg (by omega)).trans ((if_neg (by omega)).trans ((if_pos h2).trans ((if_pos hp).trans (if_neg h1)))))
theorem exF_mem (h1 : ¬ op ≤ 24) (h2 : op ≤ 30) (hp : ¬ (s.R a + wr32 imm) % 4294967296 + szF op ≤ s.l.length) : exF op d a b imm s = (false, s) :=
  (if_neg (by omega)).trans ((if_neg (by omega)).trans ((if_neg (by omega)).trans ((if_pos h2).trans (if_neg hp))))
theorem exF_branch (h1 : ¬ op ≤ 30) (h2 : op ≤ 36) : exF op d a b imm s = (true, ⟨s.R, if goF op (s.R a) (s.R b) = true then (s.pc + wr32 imm) % 4294967296 else (s.pc + 4) % 4294967296, s.fin, s.l⟩) :=
  (if_neg (by omega)).trans ((if_neg (by omega)).trans ((if_neg (by omega)).trans ((if_neg h1).trans (if_pos h2))))
theorem exF_jal : exF 37 d a b imm s = (true, ⟨setRF s.R d ((s.pc + 4) % 4294967296), (s.pc + wr32 imm) % 4294967296, s.fin, s.l⟩) := rfl
theorem exF_jalr : exF 38 d a b imm s = (true, ⟨setRF s.R d ((s.pc + 4) % 4294967296), (s.R a + wr32 imm) % 4294967296 / 2 * 2, s.fin, s.l⟩) := rfl
theorem exF_ecall : exF 39 d a b imm s = (true, ⟨s.R, s.pc, 2, s.l⟩) := rfl
theorem exF_ebreak : exF 40 d a b imm s = (true, ⟨s.R, s.pc, 1, s.l⟩) := rfl
end
/-- What the reference has made when it has executed an instruction. -/
def RDone (w wx : World) (M n c : Nat) (MC : Array Value) (X Z V U : Nat) (op d a b : Nat) (imm : Int) (R : Nat → Nat) (fl : Int) (pc : Nat) (l : List Int) : Prop :=
  ∃ S at_ fin L, RSt w wx M MC X Z V U op d a b imm R fl pc (.slice (some ⟨M, 0, none⟩) n c) S at_ fin ∧ MemC wx M n c L ∧ exF op d a b imm ⟨R, pc, 0, l⟩ = (true, ⟨putR S 0 0, at_, fin, L⟩)
section
variable {w W : World} {M n c : Nat} {MC : Array Value} {X Z V U : Nat} {op d a b : Nat} {imm : Int} {R : Nat → Nat} {fl : Int} {pc : Nat} {l : List Int} {S : Nat → Nat} {at_ fin : Nat} {L : List Int}
theorem RDone.same (h : RSt w W M MC X Z V U op d a b imm R fl pc (.slice (some ⟨M, 0, none⟩) n c) S at_ fin) (hm : MemC W M n c L) (e : exF op d a b imm ⟨R, pc, 0, l⟩ = (true, ⟨putR S 0 0, at_, fin, L⟩)) :
    RDone w W M n c MC X Z V U op d a b imm R fl pc l := ⟨_, _, _, _, h, hm, e⟩
theorem RSt.mem (h : RSt w W M MC X Z V U op d a b imm R fl pc (.slice (some ⟨M, 0, none⟩) n c) S at_ fin) (hm : MemC W M n c L) (o : Nat) (v : Value) : MemC (W.setCell ⟨U, o, none⟩ v) M n c L :=
  hm.block (heap_setCell_other W ⟨U, o, none⟩ M v h.memNe.1)
theorem RDone.set (h : RSt w W M MC X Z V U op d a b imm R fl pc (.slice (some ⟨M, 0, none⟩) n c) S at_ fin) (hm : MemC W M n c L) (hd : d < 32) (x : Nat) (e : exF op d a b imm ⟨R, pc, 0, l⟩ = (true, ⟨putR (putR S d x) 0 0, at_, fin, L⟩)) :
    RDone w (W.setCell ⟨U, d, none⟩ (.int .u32 (x : Nat))) M n c MC X Z V U op d a b imm R fl pc l := ⟨_, _, _, _, h.setR d hd x, h.mem hm d _, e⟩
theorem RDone.plc (h : RSt w W M MC X Z V U op d a b imm R fl pc (.slice (some ⟨M, 0, none⟩) n c) S at_ fin) (hm : MemC W M n c L) (x : Nat) (e : exF op d a b imm ⟨R, pc, 0, l⟩ = (true, ⟨putR S 0 0, x, fin, L⟩)) :
    RDone w (W.setCell ⟨U, 33, none⟩ (.int .u32 (x : Nat))) M n c MC X Z V U op d a b imm R fl pc l := ⟨_, _, _, _, h.setAt x, h.mem hm 33 _, e⟩
end
end Go.Proofs.YthkaclmnbahieaaDoor
