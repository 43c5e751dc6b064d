/-
  Value of package trace.
-/
import Derived.Test.YtdpfglpefncigaaTrEn
import Derived.Test.YtdpfglpefncigaaTrW
namespace Go.Proofs.Ytdpfglpefncigaa
open Go.RowKit

/-- A machine as a value: its cells, its registers, where it is, its memory. -/
structure Mach (w : World) (MC : Array Value) (R : Nat → Int) (at_ : Int) (A : Option Addr) (n c : Nat) (l : List Nat) : Prop where
  reg : ∀ j, j < 32 → MC[j]? = some (.int .u32 (R j))
  at33 : MC[33]? = some (.int .u32 at_)
  mem : MC[34]? = some (.slice A n c)
  len : n = l.length
  byts : BytesAt w w.heap.size (.slice A n c) l
  lo : 0 ≤ at_
  hi : at_ ≤ 4294967295
  size36 : MC.size = 36
theorem Mach.cells {w : World} {MC : Array Value} {R : Nat → Int} {at_ : Int} {A : Option Addr} {n c : Nat} {l : List Nat} (h : Mach w MC R at_ A n c l) {W : World} {B : Nat} (hB : W.heap[B]? = some (.cells MC 41 (0, 0))) :
    W.cell? ⟨B, 33, none⟩ = some (.int .u32 at_) ∧ W.cell? ⟨B, 34, none⟩ = some (.slice A n c) ∧ ∀ j, j < 32 → W.cell? ⟨B, j, none⟩ = some (.int .u32 (R j)) := by
  refine ⟨?_, ?_, fun j hj => ?_⟩
  · simp [World.cell?, hB, h.at33]
  · simp [World.cell?, hB, h.mem]
  · simp [World.cell?, hB, h.reg j hj]
theorem eqZero (p : Plc) (hz : ¬ p.z = 0) (w : World) : (Op.equalIn 10000 33 (aggP p) (.agg #[.int .i64 0, .int .i64 0, .int .i64 0, .int .i64 0, .int .i64 0])).run Try.prog w = .ok false w := by
  have u3 := Try.underlying3
  have a3 := Try.isAgg3
  have z3 := Try.sizeOf3
  have hS : Try.prog.underlying 33 = some (.struct (Try.prog.fieldsOf 33)) := by kernel_rfl
  have hp : Try.prog.stoodInHeld 33 = false := by kernel_rfl
  obtain ⟨a, z, v, k, n⟩ := p
  simp only at hz
  rw [show (10000 : Nat) = 9999 + 1 from rfl, run_equalIn_struct w 9999 33 _ _ hS hp]
  simp only [Program.fieldsOf, Try.underlying33]
  go_simp
theorem zero_le_chk0 {zs : List Plc} {v : Int} (h : chkF zs v 0 0 = 0) : zs.length ≤ 64 := (valF_ok (chk_ok h).1).1
section
variable {w : World} {A : Option Addr} {n c : Nat} {zs : List Plc} {MC : Array Value} {R : Nat → Int} {at_ : Int} {Am : Option Addr} {nm cm : Nat} {l : List Nat}
set_option maxRecDepth 100000 in
set_option maxHeartbeats 2000000 in
theorem value_bad (h : Tab w A n c zs) (v : Int) (hX : chkF zs v 0 0 ≠ 0) : Calls Try.prog 23 #[.slice A n c, .agg MC, .int .i64 v] w fun e w' => e = .returned (.tuple #[.int .u32 0, .bool false, .int .i64 (chkF zs v 0 0)]) ∧ Below w.heap.size w w' := by
  have HC := Lib.hid (fun w1 (hb : Below w.heap.size w w1) => check_tab (h.below hb) v 0 0)
  generalize chkF zs v 0 0 = X at HC hX ⊢
  have dX : (X != 0) = true := by simp [hX]
  clear h hX
  go_enter Try.func23, Try.ntmps23
  go_wp2_with fail
  have hb0 : Below w.heap.size w (w.alloc (.cells MC 41)) := (Below.refl _ _).alloc (Nat.le_refl _) _
  refine (HC.out _ hb0).mono ?_
  rintro e w1 ⟨rfl, hb1⟩
  go_wp2
  exact bodyPost_ret (v := .tuple #[.int .u32 0, .bool false, .int .i64 X]) (by simp [results, Try.results23, go_sem]) rfl ⟨rfl, hb0.trans (hb1.mono hb0.size)⟩
set_option maxRecDepth 100000 in
set_option maxHeartbeats 2000000 in
theorem value_none (h : Tab w A n c zs) (hm : Mach w MC R at_ Am nm cm l) (v : Int) (hX : chkF zs v 0 0 = 0) (hf : (fnd zs v at_).getD zeroP = ⟨0, 0, 0, 0, 0⟩) : Calls Try.prog 23 #[.slice A n c, .agg MC, .int .i64 v] w fun e w' => e = .returned (.tuple #[.int .u32 0, .bool false, .int .i64 0]) ∧ Below w.heap.size w w' := by
  have HC := Lib.hid (fun w1 (hb : Below w.heap.size w w1) => hX ▸ check_tab (h.below hb) v 0 0)
  have HF := Lib.hid (fun w1 (hb : Below w.heap.size w w1) => hf ▸ find_tab (h.below hb) v at_ (zero_le_chk0 hX))
  have HM := Lib.hid hm
  have hlo := hm.lo
  have hhi := hm.hi
  clear h hX hf hm
  go_enter Try.func23, Try.ntmps23
  go_wp2_with fail
  have hb0 : Below w.heap.size w (w.alloc (.cells MC 41)) := (Below.refl _ _).alloc (Nat.le_refl _) _
  have hB := heap_alloc_new w (.cells MC 41)
  generalize World.alloc w _ = W0 at hb0 hB ⊢
  refine (HC.out _ hb0).mono ?_
  rintro e w1 ⟨rfl, hb1⟩
  have hb2 := hb0.trans (hb1.mono hb0.size)
  have hB1 := (hb1.block _ (lt_of_block hB)).trans hB
  obtain ⟨m1, -, -⟩ := HM.out.cells hB1
  have HB1 := Lib.hid hB1
  clear hb0 hb1 hB hB1
  go_wp2_with fail
  clear m1
  refine (HF.out _ hb2).mono ?_
  rintro e w2 ⟨rfl, hb3⟩
  have hb4 := hb2.trans (hb3.mono hb2.size)
  have hB2 := (heap_alloc_old w2 (.cells #[.int .i64 0, .int .i64 0, .int .i64 0, .int .i64 0, .int .i64 0] 33) (lt_of_block ((hb3.block _ (lt_of_block HB1.out)).trans HB1.out))).trans ((hb3.block _ (lt_of_block HB1.out)).trans HB1.out)
  obtain ⟨-, m2, m3⟩ := HM.out.cells hB2
  clear m2 m3
  clear hB2 hb2 hb3 HB1 HC HF
  go_wp2
  exact bodyPost_ret (v := .tuple #[.int .u32 0, .bool false, .int .i64 0]) (by simp [results, Try.results23, go_sem]) rfl ⟨rfl, hb4.alloc hb4.size _⟩
set_option maxRecDepth 100000 in
set_option maxHeartbeats 2000000 in
theorem value_reg (h : Tab w A n c zs) (hm : Mach w MC R at_ Am nm cm l) (v : Int) (hX : chkF zs v 0 0 = 0) (P Z V : Int) (N : Nat) (hz : ¬ Z = 0) (hN : N ≤ 31) (hf : (fnd zs v at_).getD zeroP = ⟨P, Z, V, 0, N⟩) : Calls Try.prog 23 #[.slice A n c, .agg MC, .int .i64 v] w fun e w' => e = .returned (.tuple #[.int .u32 (R N), .bool true, .int .i64 0]) ∧ Below w.heap.size w w' := by
  have HC := Lib.hid (fun w1 (hb : Below w.heap.size w w1) => hX ▸ check_tab (h.below hb) v 0 0)
  have HF := Lib.hid (fun w1 (hb : Below w.heap.size w w1) => hf ▸ find_tab (h.below hb) v at_ (zero_le_chk0 hX))
  have HM := Lib.hid hm
  have hlo := hm.lo
  have hhi := hm.hi
  clear h hX hf hm
  go_enter Try.func23, Try.ntmps23
  go_wp2_with fail
  have hb0 : Below w.heap.size w (w.alloc (.cells MC 41)) := (Below.refl _ _).alloc (Nat.le_refl _) _
  have hB := heap_alloc_new w (.cells MC 41)
  generalize World.alloc w _ = W0 at hb0 hB ⊢
  refine (HC.out _ hb0).mono ?_
  rintro e w1 ⟨rfl, hb1⟩
  have hb2 := hb0.trans (hb1.mono hb0.size)
  have hB1 := (hb1.block _ (lt_of_block hB)).trans hB
  obtain ⟨m1, -, -⟩ := HM.out.cells hB1
  have HB1 := Lib.hid hB1
  clear hb0 hb1 hB hB1
  go_wp2_with fail
  clear m1
  refine (HF.out _ hb2).mono ?_
  rintro e w2 ⟨rfl, hb3⟩
  have hb4 := hb2.trans (hb3.mono hb2.size)
  have hB2 := (heap_alloc_old w2 (.cells #[.int .i64 P, .int .i64 Z, .int .i64 V, .int .i64 0, .int .i64 (N : Int)] 33) (lt_of_block ((hb3.block _ (lt_of_block HB1.out)).trans HB1.out))).trans ((hb3.block _ (lt_of_block HB1.out)).trans HB1.out)
  obtain ⟨-, m2, m3⟩ := HM.out.cells hB2
  have mN := m3 N (by omega)
  clear m2 m3
  have heq := fun W => eqZero ⟨P, Z, V, 0, N⟩ hz W
  clear hB2 hb2 hb3 HB1 HC HF
  go_wp2
  exact bodyPost_ret (v := .tuple #[.int .u32 (R N), .bool true, .int .i64 0]) (by simp [results, Try.results23, go_sem]) rfl ⟨rfl, hb4.alloc hb4.size _⟩
set_option maxRecDepth 100000 in
set_option maxHeartbeats 2000000 in
theorem value_num (h : Tab w A n c zs) (hm : Mach w MC R at_ Am nm cm l) (v : Int) (hX : chkF zs v 0 0 = 0) (P Z V : Int) (N : Nat) (hz : ¬ Z = 0) (hN : N ≤ 4294967295) (hf : (fnd zs v at_).getD zeroP = ⟨P, Z, V, 2, N⟩) : Calls Try.prog 23 #[.slice A n c, .agg MC, .int .i64 v] w fun e w' => e = .returned (.tuple #[.int .u32 (N : Int), .bool true, .int .i64 0]) ∧ Below w.heap.size w w' := by
  have HC := Lib.hid (fun w1 (hb : Below w.heap.size w w1) => hX ▸ check_tab (h.below hb) v 0 0)
  have HF := Lib.hid (fun w1 (hb : Below w.heap.size w w1) => hf ▸ find_tab (h.below hb) v at_ (zero_le_chk0 hX))
  have HM := Lib.hid hm
  have hlo := hm.lo
  have hhi := hm.hi
  clear h hX hf hm
  go_enter Try.func23, Try.ntmps23
  go_wp2_with fail
  have hb0 : Below w.heap.size w (w.alloc (.cells MC 41)) := (Below.refl _ _).alloc (Nat.le_refl _) _
  have hB := heap_alloc_new w (.cells MC 41)
  generalize World.alloc w _ = W0 at hb0 hB ⊢
  refine (HC.out _ hb0).mono ?_
  rintro e w1 ⟨rfl, hb1⟩
  have hb2 := hb0.trans (hb1.mono hb0.size)
  have hB1 := (hb1.block _ (lt_of_block hB)).trans hB
  obtain ⟨m1, -, -⟩ := HM.out.cells hB1
  have HB1 := Lib.hid hB1
  clear hb0 hb1 hB hB1
  go_wp2_with fail
  clear m1
  refine (HF.out _ hb2).mono ?_
  rintro e w2 ⟨rfl, hb3⟩
  have hb4 := hb2.trans (hb3.mono hb2.size)
  have hB2 := (heap_alloc_old w2 (.cells #[.int .i64 P, .int .i64 Z, .int .i64 V, .int .i64 2, .int .i64 (N : Int)] 33) (lt_of_block ((hb3.block _ (lt_of_block HB1.out)).trans HB1.out))).trans ((hb3.block _ (lt_of_block HB1.out)).trans HB1.out)
  obtain ⟨-, m2, m3⟩ := HM.out.cells hB2
  clear m2 m3
  have heq := fun W => eqZero ⟨P, Z, V, 2, N⟩ hz W
  clear hB2 hb2 hb3 HB1 HC HF
  go_wp2
  exact bodyPost_ret (v := .tuple #[.int .u32 (N : Int), .bool true, .int .i64 0]) (by simp [results, Try.results23, go_sem]) rfl ⟨rfl, hb4.alloc hb4.size _⟩
set_option maxRecDepth 100000 in
set_option maxHeartbeats 2000000 in
theorem value_short (h : Tab w A n c zs) (hm : Mach w MC R at_ Am nm cm l) (v : Int) (hX : chkF zs v 0 0 = 0) (P Z V : Int) (N : Nat) (hz : ¬ Z = 0) (hN : N ≤ 32764) (hs : nm < N + 4) (hf : (fnd zs v at_).getD zeroP = ⟨P, Z, V, 1, N⟩) : Calls Try.prog 23 #[.slice A n c, .agg MC, .int .i64 v] w fun e w' => e = .returned (.tuple #[.int .u32 0, .bool false, .int .i64 4]) ∧ Below w.heap.size w w' := by
  have HC := Lib.hid (fun w1 (hb : Below w.heap.size w w1) => hX ▸ check_tab (h.below hb) v 0 0)
  have HF := Lib.hid (fun w1 (hb : Below w.heap.size w w1) => hf ▸ find_tab (h.below hb) v at_ (zero_le_chk0 hX))
  have HM := Lib.hid hm
  have hlo := hm.lo
  have hhi := hm.hi
  clear h hX hf hm
  go_enter Try.func23, Try.ntmps23
  go_wp2_with fail
  have hb0 : Below w.heap.size w (w.alloc (.cells MC 41)) := (Below.refl _ _).alloc (Nat.le_refl _) _
  have hB := heap_alloc_new w (.cells MC 41)
  generalize World.alloc w _ = W0 at hb0 hB ⊢
  refine (HC.out _ hb0).mono ?_
  rintro e w1 ⟨rfl, hb1⟩
  have hb2 := hb0.trans (hb1.mono hb0.size)
  have hB1 := (hb1.block _ (lt_of_block hB)).trans hB
  obtain ⟨m1, -, -⟩ := HM.out.cells hB1
  have HB1 := Lib.hid hB1
  clear hb0 hb1 hB hB1
  go_wp2_with fail
  clear m1
  refine (HF.out _ hb2).mono ?_
  rintro e w2 ⟨rfl, hb3⟩
  have hb4 := hb2.trans (hb3.mono hb2.size)
  have hB2 := (heap_alloc_old w2 (.cells #[.int .i64 P, .int .i64 Z, .int .i64 V, .int .i64 1, .int .i64 (N : Int)] 33) (lt_of_block ((hb3.block _ (lt_of_block HB1.out)).trans HB1.out))).trans ((hb3.block _ (lt_of_block HB1.out)).trans HB1.out)
  obtain ⟨-, m2, m3⟩ := HM.out.cells hB2
  clear m3
  have heq := fun W => eqZero ⟨P, Z, V, 1, N⟩ hz W
  clear hB2 hb2 hb3 HB1 HC HF
  go_wp2
  exact bodyPost_ret (v := .tuple #[.int .u32 0, .bool false, .int .i64 4]) (by simp [results, Try.results23, go_sem]) rfl ⟨rfl, hb4.alloc hb4.size _⟩
end
end Go.Proofs.Ytdpfglpefncigaa
