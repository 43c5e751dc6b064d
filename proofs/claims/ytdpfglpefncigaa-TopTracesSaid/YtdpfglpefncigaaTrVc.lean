/-
  Value of the reference.
-/
import Derived.Test.YtdpfglpefncigaaTrVb
namespace Go.Proofs.Ytdpfglpefncigaa
open Go.RowKit

theorem or_step (n b : Nat) (hn : n < 16777216) (hb : b < 256) : bits .or .u32 ((n : Int) * 256) (b : Int) = ((n * 256 + b : Nat) : Int) := by
  rw [show (n : Int) * 256 = ((n * 256 : Nat) : Int) by rw [Int.natCast_mul]; rfl, u32_or_nat _ _ (by omega) (by omega)]
  have := or_shift b n 8 (by omega)
  rw [Nat.shiftLeft_eq, Nat.or_comm] at this
  rw [show n * 256 = n * 2 ^ 8 from rfl, this]
  congr 1
  omega
def dn (b0 b1 b2 b3 : Nat) : Nat → Nat
  | 0 => 0
  | 1 => b3
  | 2 => b3 * 256 + b2
  | 3 => (b3 * 256 + b2) * 256 + b1
  | _ => ((b3 * 256 + b2) * 256 + b1) * 256 + b0
theorem some_of {zs : List Plc} {v t : Int} {P : Plc} (h : (fnd zs v t).getD zeroP = P) (hz : ¬ P.z = 0) : (fnd zs v t).isSome = true := by
  cases hf : fnd zs v t with
  | none =>
    rw [hf] at h
    subst h
    exact absurd rfl hz
  | some p => rfl
section
variable {w : World} {A : Option Addr} {n c : Nat} {zs : List Plc} {MC : Array Value} {R : Nat → Int} {at_ : Int} {Am : Option Addr} {nm cm : Nat} {l : List Nat}
set_option maxRecDepth 100000 in
set_option maxHeartbeats 2000000 in
theorem refValue_bad (h : Tab w A n c zs) (v : Int) (hX : chkF zs v 0 0 ≠ 0) : Calls Try.prog 24 #[.slice A n c, .agg MC, .int .i64 v] w fun e w' => e = .returned (.tuple #[.int .u32 0, .bool false, .int .i64 (chkF zs v 0 0)]) ∧ Below w.heap.size w w' := by
  have HC := Lib.hid (fun w1 (hb : Below w.heap.size w w1) => refValidate_tab (h.below hb))
  by_cases hV : valF zs = 0
  · have hv : inB v 0 63 = false := by
      cases hv : inB v 0 63
      · rfl
      · exact absurd (chk_yes hV (by rw [hv]; rfl)) hX
    have hx : chkF zs v 0 0 = 1 := chk_no hV (by rw [hv]; rfl)
    rw [hx]
    rw [hV] at HC
    have HV := Lib.hid hv
    clear h hX hv hx hV
    go_enter Try.func24, Try.ntmps24
    go_wp2_with fail
    have hb0 : Below w.heap.size w (w.alloc (.cells MC 41)) := (Below.refl _ _).alloc (Nat.le_refl _) _
    refine (HC.out _ hb0).mono ?_
    rintro e w1 ⟨rfl, hb1⟩
    go_wp2_with (go_at_call 41; ((with_reducible refine (within_at v 0 63 false _ HV.out).mono ?_); rintro e w' ⟨rfl, rfl⟩))
    exact bodyPost_ret (v := .tuple #[.int .u32 0, .bool false, .int .i64 1]) (by simp [results, Try.results24, go_sem]) rfl ⟨rfl, hb0.trans (hb1.mono hb0.size)⟩
  · rw [chk_val hV]
    generalize valF zs = X at HC hV
    have dX : (X != 0) = true := by simp [hV]
    clear h hX hV
    go_enter Try.func24, Try.ntmps24
    go_wp2_with fail
    have hb0 : Below w.heap.size w (w.alloc (.cells MC 41)) := (Below.refl _ _).alloc (Nat.le_refl _) _
    refine (HC.out _ hb0).mono ?_
    rintro e w1 ⟨rfl, hb1⟩
    go_wp2
    exact bodyPost_ret (v := .tuple #[.int .u32 0, .bool false, .int .i64 X]) (by simp [results, Try.results24, go_sem]) rfl ⟨rfl, hb0.trans (hb1.mono hb0.size)⟩
set_option maxRecDepth 100000 in
set_option maxHeartbeats 2000000 in
theorem refValue_none (h : Tab w A n c zs) (hm : Mach w MC R at_ Am nm cm l) (v : Int) (hX : chkF zs v 0 0 = 0) (hs : (fnd zs v at_).isSome = false) (hf : (fnd zs v at_).getD zeroP = ⟨0, 0, 0, 0, 0⟩) : Calls Try.prog 24 #[.slice A n c, .agg MC, .int .i64 v] w fun e w' => e = .returned (.tuple #[.int .u32 0, .bool false, .int .i64 0]) ∧ Below w.heap.size w w' := by
  have HC := Lib.hid (fun w1 (hb : Below w.heap.size w w1) => (chk_ok hX).1 ▸ refValidate_tab (h.below hb))
  have HV := Lib.hid (chk_ok hX).2.1
  have HF := Lib.hid (fun w1 (hb : Below w.heap.size w w1) => hs ▸ hf ▸ refFind_tab (h.below hb) v at_ (zero_le_chk0 hX))
  have HM := Lib.hid hm
  have hlo := hm.lo
  have hhi := hm.hi
  clear h hX hf hm
  go_enter Try.func24, Try.ntmps24
  go_wp2_with fail
  have hb0 : Below w.heap.size w (w.alloc (.cells MC 41)) := (Below.refl _ _).alloc (Nat.le_refl _) _
  have hB := heap_alloc_new w (.cells MC 41)
  generalize World.alloc w _ = W0 at hb0 hB ⊢
  refine (HC.out _ hb0).mono ?_
  rintro e w1 ⟨rfl, hb1⟩
  have hb2 := hb0.trans (hb1.mono hb0.size)
  have hB1 := (hb1.block _ (lt_of_block hB)).trans hB
  obtain ⟨m1, -, -⟩ := HM.out.cells hB1
  have HB1 := Lib.hid hB1
  clear hb0 hb1 hB hB1
  go_wp2_with (go_at_call 41; ((with_reducible refine (within_at v 0 63 true _ HV.out).mono ?_); rintro e w' ⟨rfl, rfl⟩))
  clear m1
  refine (HF.out _ hb2).mono ?_
  rintro e w2 ⟨rfl, hb3⟩
  have hb4 := hb2.trans (hb3.mono hb2.size)
  have hB2 := (heap_alloc_old w2 (.cells #[.int .i64 0, .int .i64 0, .int .i64 0, .int .i64 0, .int .i64 0] 33) (lt_of_block ((hb3.block _ (lt_of_block HB1.out)).trans HB1.out))).trans ((hb3.block _ (lt_of_block HB1.out)).trans HB1.out)
  obtain ⟨-, m2, m3⟩ := HM.out.cells hB2
  clear m2 m3
  clear hB2 hb2 hb3 HB1 HC HF
  go_wp2
  exact bodyPost_ret (v := .tuple #[.int .u32 0, .bool false, .int .i64 0]) (by simp [results, Try.results24, go_sem]) rfl ⟨rfl, hb4.alloc hb4.size _⟩
set_option maxRecDepth 100000 in
set_option maxHeartbeats 2000000 in
theorem refValue_reg (h : Tab w A n c zs) (hm : Mach w MC R at_ Am nm cm l) (v : Int) (hX : chkF zs v 0 0 = 0) (P Z V : Int) (N : Nat) (hz : ¬ Z = 0) (hN : N ≤ 31) (hf : (fnd zs v at_).getD zeroP = ⟨P, Z, V, 0, N⟩) : Calls Try.prog 24 #[.slice A n c, .agg MC, .int .i64 v] w fun e w' => e = .returned (.tuple #[.int .u32 (R N), .bool true, .int .i64 0]) ∧ Below w.heap.size w w' := by
  have HC := Lib.hid (fun w1 (hb : Below w.heap.size w w1) => (chk_ok hX).1 ▸ refValidate_tab (h.below hb))
  have HV := Lib.hid (chk_ok hX).2.1
  have HF := Lib.hid (fun w1 (hb : Below w.heap.size w w1) => (some_of hf hz) ▸ hf ▸ refFind_tab (h.below hb) v at_ (zero_le_chk0 hX))
  have HM := Lib.hid hm
  have hlo := hm.lo
  have hhi := hm.hi
  clear h hX hf hm
  go_enter Try.func24, Try.ntmps24
  go_wp2_with fail
  have hb0 : Below w.heap.size w (w.alloc (.cells MC 41)) := (Below.refl _ _).alloc (Nat.le_refl _) _
  have hB := heap_alloc_new w (.cells MC 41)
  generalize World.alloc w _ = W0 at hb0 hB ⊢
  refine (HC.out _ hb0).mono ?_
  rintro e w1 ⟨rfl, hb1⟩
  have hb2 := hb0.trans (hb1.mono hb0.size)
  have hB1 := (hb1.block _ (lt_of_block hB)).trans hB
  obtain ⟨m1, -, -⟩ := HM.out.cells hB1
  have HB1 := Lib.hid hB1
  clear hb0 hb1 hB hB1
  go_wp2_with (go_at_call 41; ((with_reducible refine (within_at v 0 63 true _ HV.out).mono ?_); rintro e w' ⟨rfl, rfl⟩))
  clear m1
  refine (HF.out _ hb2).mono ?_
  rintro e w2 ⟨rfl, hb3⟩
  have hb4 := hb2.trans (hb3.mono hb2.size)
  have hB2 := (heap_alloc_old w2 (.cells #[.int .i64 P, .int .i64 Z, .int .i64 V, .int .i64 0, .int .i64 (N : Int)] 33) (lt_of_block ((hb3.block _ (lt_of_block HB1.out)).trans HB1.out))).trans ((hb3.block _ (lt_of_block HB1.out)).trans HB1.out)
  obtain ⟨-, m2, m3⟩ := HM.out.cells hB2
  have mN := m3 N (by omega)
  clear m2 m3
  clear hB2 hb2 hb3 HB1 HC HF
  go_wp2
  exact bodyPost_ret (v := .tuple #[.int .u32 (R N), .bool true, .int .i64 0]) (by simp [results, Try.results24, go_sem]) rfl ⟨rfl, hb4.alloc hb4.size _⟩
set_option maxRecDepth 100000 in
set_option maxHeartbeats 2000000 in
theorem refValue_num (h : Tab w A n c zs) (hm : Mach w MC R at_ Am nm cm l) (v : Int) (hX : chkF zs v 0 0 = 0) (P Z V : Int) (N : Nat) (hz : ¬ Z = 0) (hN : N ≤ 4294967295) (hf : (fnd zs v at_).getD zeroP = ⟨P, Z, V, 2, N⟩) : Calls Try.prog 24 #[.slice A n c, .agg MC, .int .i64 v] w fun e w' => e = .returned (.tuple #[.int .u32 (N : Int), .bool true, .int .i64 0]) ∧ Below w.heap.size w w' := by
  have HC := Lib.hid (fun w1 (hb : Below w.heap.size w w1) => (chk_ok hX).1 ▸ refValidate_tab (h.below hb))
  have HV := Lib.hid (chk_ok hX).2.1
  have HF := Lib.hid (fun w1 (hb : Below w.heap.size w w1) => (some_of hf hz) ▸ hf ▸ refFind_tab (h.below hb) v at_ (zero_le_chk0 hX))
  have HM := Lib.hid hm
  have hlo := hm.lo
  have hhi := hm.hi
  clear h hX hf hm
  go_enter Try.func24, Try.ntmps24
  go_wp2_with fail
  have hb0 : Below w.heap.size w (w.alloc (.cells MC 41)) := (Below.refl _ _).alloc (Nat.le_refl _) _
  have hB := heap_alloc_new w (.cells MC 41)
  generalize World.alloc w _ = W0 at hb0 hB ⊢
  refine (HC.out _ hb0).mono ?_
  rintro e w1 ⟨rfl, hb1⟩
  have hb2 := hb0.trans (hb1.mono hb0.size)
  have hB1 := (hb1.block _ (lt_of_block hB)).trans hB
  obtain ⟨m1, -, -⟩ := HM.out.cells hB1
  have HB1 := Lib.hid hB1
  clear hb0 hb1 hB hB1
  go_wp2_with (go_at_call 41; ((with_reducible refine (within_at v 0 63 true _ HV.out).mono ?_); rintro e w' ⟨rfl, rfl⟩))
  clear m1
  refine (HF.out _ hb2).mono ?_
  rintro e w2 ⟨rfl, hb3⟩
  have hb4 := hb2.trans (hb3.mono hb2.size)
  have hB2 := (heap_alloc_old w2 (.cells #[.int .i64 P, .int .i64 Z, .int .i64 V, .int .i64 2, .int .i64 (N : Int)] 33) (lt_of_block ((hb3.block _ (lt_of_block HB1.out)).trans HB1.out))).trans ((hb3.block _ (lt_of_block HB1.out)).trans HB1.out)
  obtain ⟨-, m2, m3⟩ := HM.out.cells hB2
  clear m2 m3
  clear hB2 hb2 hb3 HB1 HC HF
  go_wp2
  exact bodyPost_ret (v := .tuple #[.int .u32 (N : Int), .bool true, .int .i64 0]) (by simp [results, Try.results24, go_sem]) rfl ⟨rfl, hb4.alloc hb4.size _⟩
set_option maxRecDepth 100000 in
set_option maxHeartbeats 2000000 in
theorem refValue_short (h : Tab w A n c zs) (hm : Mach w MC R at_ Am nm cm l) (v : Int) (hX : chkF zs v 0 0 = 0) (P Z V : Int) (N : Nat) (hz : ¬ Z = 0) (hN : N ≤ 32764) (hs : nm < N + 4) (hf : (fnd zs v at_).getD zeroP = ⟨P, Z, V, 1, N⟩) : Calls Try.prog 24 #[.slice A n c, .agg MC, .int .i64 v] w fun e w' => e = .returned (.tuple #[.int .u32 0, .bool false, .int .i64 4]) ∧ Below w.heap.size w w' := by
  have HC := Lib.hid (fun w1 (hb : Below w.heap.size w w1) => (chk_ok hX).1 ▸ refValidate_tab (h.below hb))
  have HV := Lib.hid (chk_ok hX).2.1
  have HF := Lib.hid (fun w1 (hb : Below w.heap.size w w1) => (some_of hf hz) ▸ hf ▸ refFind_tab (h.below hb) v at_ (zero_le_chk0 hX))
  have HM := Lib.hid hm
  have hlo := hm.lo
  have hhi := hm.hi
  clear h hX hf hm
  go_enter Try.func24, Try.ntmps24
  go_wp2_with fail
  have hb0 : Below w.heap.size w (w.alloc (.cells MC 41)) := (Below.refl _ _).alloc (Nat.le_refl _) _
  have hB := heap_alloc_new w (.cells MC 41)
  generalize World.alloc w _ = W0 at hb0 hB ⊢
  refine (HC.out _ hb0).mono ?_
  rintro e w1 ⟨rfl, hb1⟩
  have hb2 := hb0.trans (hb1.mono hb0.size)
  have hB1 := (hb1.block _ (lt_of_block hB)).trans hB
  obtain ⟨m1, -, -⟩ := HM.out.cells hB1
  have HB1 := Lib.hid hB1
  clear hb0 hb1 hB hB1
  go_wp2_with (go_at_call 41; ((with_reducible refine (within_at v 0 63 true _ HV.out).mono ?_); rintro e w' ⟨rfl, rfl⟩))
  clear m1
  refine (HF.out _ hb2).mono ?_
  rintro e w2 ⟨rfl, hb3⟩
  have hb4 := hb2.trans (hb3.mono hb2.size)
  have hB2 := (heap_alloc_old w2 (.cells #[.int .i64 P, .int .i64 Z, .int .i64 V, .int .i64 1, .int .i64 (N : Int)] 33) (lt_of_block ((hb3.block _ (lt_of_block HB1.out)).trans HB1.out))).trans ((hb3.block _ (lt_of_block HB1.out)).trans HB1.out)
  obtain ⟨-, m2, m3⟩ := HM.out.cells hB2
  clear m3
  clear hB2 hb2 hb3 HB1 HC HF
  go_wp2
  exact bodyPost_ret (v := .tuple #[.int .u32 0, .bool false, .int .i64 4]) (by simp [results, Try.results24, go_sem]) rfl ⟨rfl, hb4.alloc hb4.size _⟩
set_option maxRecDepth 100000 in
set_option maxHeartbeats 2000000 in
theorem refValue_mem (h : Tab w A n c zs) (hm : Mach w MC R at_ Am nm cm l) (v : Int) (hX : chkF zs v 0 0 = 0) (P Z V : Int) (N : Nat) (hz : ¬ Z = 0) (hN : N ≤ 32764) (hs : N + 4 ≤ nm) (hf : (fnd zs v at_).getD zeroP = ⟨P, Z, V, 1, N⟩) : Calls Try.prog 24 #[.slice A n c, .agg MC, .int .i64 v] w fun e w' => e = .returned (.tuple #[.int .u32 (wordAt l N : Int), .bool true, .int .i64 0]) ∧ Below w.heap.size w w' := by
  have HC := Lib.hid (fun w1 (hb : Below w.heap.size w w1) => (chk_ok hX).1 ▸ refValidate_tab (h.below hb))
  have HV := Lib.hid (chk_ok hX).2.1
  have HF := Lib.hid (fun w1 (hb : Below w.heap.size w w1) => (some_of hf hz) ▸ hf ▸ refFind_tab (h.below hb) v at_ (zero_le_chk0 hX))
  have HM := Lib.hid hm
  have hlo := hm.lo
  have hhi := hm.hi
  obtain ⟨g, off, rfl, hnc, hgw, hbs⟩ := hm.bytes (by omega)
  have HM := Lib.hid hm
  obtain ⟨l0, y0⟩ := hbs N (by omega)
  obtain ⟨l1, y1⟩ := hbs (N + 1) (by omega)
  obtain ⟨l2, y2⟩ := hbs (N + 2) (by omega)
  obtain ⟨l3, y3⟩ := hbs (N + 3) (by omega)
  unfold wordAt
  generalize l[N]! = b0 at y0 l0 ⊢
  generalize l[N + 1]! = b1 at y1 l1 ⊢
  generalize l[N + 2]! = b2 at y2 l2 ⊢
  generalize l[N + 3]! = b3 at y3 l3 ⊢
  obtain ⟨X, hXX⟩ : ∃ X, X = b0 + 256 * b1 + 65536 * b2 + 16777216 * b3 := ⟨_, rfl⟩
  rw [← hXX]
  have HXX := Lib.hid hXX
  clear hXX hbs
  clear h hX hf hm
  go_enter Try.func24, Try.ntmps24
  go_wp2_with fail
  have hb0 : Below w.heap.size w (w.alloc (.cells MC 41)) := (Below.refl _ _).alloc (Nat.le_refl _) _
  have hB := heap_alloc_new w (.cells MC 41)
  generalize World.alloc w _ = W0 at hb0 hB ⊢
  refine (HC.out _ hb0).mono ?_
  rintro e w1 ⟨rfl, hb1⟩
  have hb2 := hb0.trans (hb1.mono hb0.size)
  have hB1 := (hb1.block _ (lt_of_block hB)).trans hB
  obtain ⟨m1, -, -⟩ := HM.out.cells hB1
  have HB1 := Lib.hid hB1
  clear hb0 hb1 hB hB1
  go_wp2_with (go_at_call 41; ((with_reducible refine (within_at v 0 63 true _ HV.out).mono ?_); rintro e w' ⟨rfl, rfl⟩))
  clear m1
  refine (HF.out _ hb2).mono ?_
  rintro e w2 ⟨rfl, hb3⟩
  have hb4 := hb2.trans (hb3.mono hb2.size)
  have hB2 := (heap_alloc_old w2 (.cells #[.int .i64 P, .int .i64 Z, .int .i64 V, .int .i64 1, .int .i64 (N : Int)] 33) (lt_of_block ((hb3.block _ (lt_of_block HB1.out)).trans HB1.out))).trans ((hb3.block _ (lt_of_block HB1.out)).trans HB1.out)
  obtain ⟨-, m2, m3⟩ := HM.out.cells hB2
  have hb5 : Below w.heap.size w (w2.alloc (.cells #[.int .i64 P, .int .i64 Z, .int .i64 V, .int .i64 1, .int .i64 (N : Int)] 33)) := hb4.alloc hb4.size _
  have hBP := box_new w2 ⟨P, Z, V, 1, N⟩ 33
  obtain ⟨-, ⟨-, -, -, p3, p4⟩, -⟩ := hBP
  simp only at p3 p4
  have x0 := (hb5.cell (p := ⟨g, off + N, none⟩) hgw).trans y0
  have x1 := (hb5.cell (p := ⟨g, off + (N + 1), none⟩) hgw).trans y1
  have x2 := (hb5.cell (p := ⟨g, off + (N + 2), none⟩) hgw).trans y2
  have x3 := (hb5.cell (p := ⟨g, off + (N + 3), none⟩) hgw).trans y3
  clear m3 y0 y1 y2 y3 hb4
  clear hB2 hb2 hb3 HB1 HC HF
  have dS : decide ((nm : Int) < (N : Int) + 4) = false := decide_eq_false (by omega)
  go_wp2
  generalize hW : World.alloc w2 _ = W5 at m2 p3 p4 x0 x1 x2 x3 hb5 ⊢
  clear hW
  go_loopw [12, 13] (fun zn zi wr => ∃ k : Nat, k ≤ 4 ∧ zi = .int .i64 (3 - (k : Int)) ∧ zn = .int .u32 (dn b0 b1 b2 b3 k : Int) ∧ wr = W5) (fun _ zi _ => (intOf zi + 1).toNat)
  case atStart => exact ⟨0, by omega, rfl, rfl, rfl⟩
  case round =>
    obtain ⟨k, hk, rfl, rfl, rfl⟩ := hrel
    have hk5 : k = 0 ∨ k = 1 ∨ k = 2 ∨ k = 3 ∨ k = 4 := by omega
    clear hk
    rcases hk5 with rfl | rfl | rfl | rfl | rfl
    · rw [show (3 - ((0 : Nat) : Int)) = 3 from rfl]
      have hm : dn b0 b1 b2 b3 0 < 16777216 := by simp only [dn]; omega
      have HE := Lib.hid (or_step (dn b0 b1 b2 b3 0) b3 hm l3)
      have HNX := Lib.hid (show dn b0 b1 b2 b3 1 = dn b0 b1 b2 b3 0 * 256 + b3 by simp [dn])
      generalize dn b0 b1 b2 b3 0 = m at hm HE HNX ⊢
      go_wp2
      go_roundw
      case rel => exact ⟨1, by omega, by go_num, congrArg (Value.int .u32) (by rw [HNX.out]; exact HE.out), trivial⟩
      case measure => simp [intOf]
    · rw [show (3 - ((1 : Nat) : Int)) = 2 from rfl]
      have hm : dn b0 b1 b2 b3 1 < 16777216 := by simp only [dn]; omega
      have HE := Lib.hid (or_step (dn b0 b1 b2 b3 1) b2 hm l2)
      have HNX := Lib.hid (show dn b0 b1 b2 b3 2 = dn b0 b1 b2 b3 1 * 256 + b2 by simp [dn])
      generalize dn b0 b1 b2 b3 1 = m at hm HE HNX ⊢
      go_wp2
      go_roundw
      case rel => exact ⟨2, by omega, by go_num, congrArg (Value.int .u32) (by rw [HNX.out]; exact HE.out), trivial⟩
      case measure => simp [intOf]
    · rw [show (3 - ((2 : Nat) : Int)) = 1 from rfl]
      have hm : dn b0 b1 b2 b3 2 < 16777216 := by simp only [dn]; omega
      have HE := Lib.hid (or_step (dn b0 b1 b2 b3 2) b1 hm l1)
      have HNX := Lib.hid (show dn b0 b1 b2 b3 3 = dn b0 b1 b2 b3 2 * 256 + b1 by simp [dn])
      generalize dn b0 b1 b2 b3 2 = m at hm HE HNX ⊢
      go_wp2
      go_roundw
      case rel => exact ⟨3, by omega, by go_num, congrArg (Value.int .u32) (by rw [HNX.out]; exact HE.out), trivial⟩
      case measure => simp [intOf]
    · rw [show (3 - ((3 : Nat) : Int)) = 0 from rfl]
      have hm : dn b0 b1 b2 b3 3 < 16777216 := by simp only [dn]; omega
      have HE := Lib.hid (or_step (dn b0 b1 b2 b3 3) b0 hm l0)
      have HNX := Lib.hid (show dn b0 b1 b2 b3 4 = dn b0 b1 b2 b3 3 * 256 + b0 by simp [dn])
      generalize dn b0 b1 b2 b3 3 = m at hm HE HNX ⊢
      go_wp2
      go_roundw
      case rel => exact ⟨4, by omega, by go_num, congrArg (Value.int .u32) (by rw [HNX.out]; exact HE.out), trivial⟩
      case measure => simp [intOf]
    · rw [show (3 - ((4 : Nat) : Int)) = -1 from rfl]
      have HD := Lib.hid (show dn b0 b1 b2 b3 4 = X by rw [HXX.out]; simp only [dn]; omega)
      generalize dn b0 b1 b2 b3 4 = m at HD ⊢
      go_wp2
      exact bodyPost_ret (v := .tuple #[.int .u32 (m : Int), .bool true, .int .i64 0]) (by simp [results, Try.results24, go_sem]) rfl ⟨ret_v (by rw [HD.out]), hb5⟩
end
end Go.Proofs.Ytdpfglpefncigaa
