/-
  Value of package trace: a word of memory.
-/
import Derived.Test.YtdpfglpefncigaaTrVa
import Derived.Laws.BitsAllLaws
namespace Go.Proofs.Ytdpfglpefncigaa
open Go.RowKit

/-- A word in memory, its least byte first. -/
def wordAt (l : List Nat) (N : Nat) : Nat := l[N]! + 256 * l[N + 1]! + 65536 * l[N + 2]! + 16777216 * l[N + 3]!
theorem word_or (b0 b1 b2 b3 : Nat) (l0 : b0 < 256) (l1 : b1 < 256) (l2 : b2 < 256) (l3 : b3 < 256) : bits .or .u32 (bits .or .u32 (bits .or .u32 (b0 : Int) ((b1 : Int) * 256)) ((b2 : Int) * 65536)) ((b3 : Int) * 16777216) = ((b0 + 256 * b1 + 65536 * b2 + 16777216 * b3 : Nat) : Int) := by
  have e1 : bits .or .u32 (b0 : Int) ((b1 : Int) * 256) = ((b0 + b1 * 256 : Nat) : Int) := by
    rw [show (b1 : Int) * 256 = ((b1 * 256 : Nat) : Int) by rw [Int.natCast_mul]; rfl, u32_or_nat _ _ (by omega) (by omega)]
    have := or_shift b0 b1 8 (by omega)
    rw [Nat.shiftLeft_eq] at this
    rw [show b1 * 256 = b1 * 2 ^ 8 from rfl, this]
  have e2 : bits .or .u32 ((b0 + b1 * 256 : Nat) : Int) ((b2 : Int) * 65536) = ((b0 + b1 * 256 + b2 * 65536 : Nat) : Int) := by
    rw [show (b2 : Int) * 65536 = ((b2 * 65536 : Nat) : Int) by rw [Int.natCast_mul]; rfl, u32_or_nat _ _ (by omega) (by omega)]
    have := or_shift (b0 + b1 * 256) b2 16 (by omega)
    rw [Nat.shiftLeft_eq] at this
    rw [show b2 * 65536 = b2 * 2 ^ 16 from rfl, this]
  rw [e1, e2]
  rw [show (b3 : Int) * 16777216 = ((b3 * 16777216 : Nat) : Int) by rw [Int.natCast_mul]; rfl, u32_or_nat _ _ (by omega) (by omega)]
  have := or_shift (b0 + b1 * 256 + b2 * 65536) b3 24 (by omega)
  rw [Nat.shiftLeft_eq] at this
  rw [show b3 * 16777216 = b3 * 2 ^ 24 from rfl, this]
  congr 1
  omega
theorem ret_v {X Y : Int} (h : X = Y) : Ending.returned (.tuple #[.int .u32 X, .bool true, .int .i64 0]) = .returned (.tuple #[.int .u32 Y, .bool true, .int .i64 0]) := by rw [h]
section
variable {w : World} {A : Option Addr} {n c : Nat} {zs : List Plc} {MC : Array Value} {R : Nat → Int} {at_ : Int} {Am : Option Addr} {nm cm : Nat} {l : List Nat}
/-- The memory's bytes, where it is not empty. -/
theorem Mach.bytes {A : Option Addr} (h : Mach w MC R at_ A nm cm l) (h0 : 0 < nm) : ∃ g off, A = some ⟨g, off, none⟩ ∧ nm ≤ cm ∧ g < w.heap.size ∧ ∀ j, j < nm → l[j]! < 256 ∧ w.cell? ⟨g, off + j, none⟩ = some (.int .u8 (l[j]! : Int)) := by
  have hl := h.len
  rcases h.byts with ⟨rfl, _⟩ | ⟨_, g, off, c, he, hc, hg, hj⟩
  · simp at hl
    omega
  · injection he with e1 e2 e3
    subst e1 e3
    refine ⟨g, off, rfl, by omega, hg, fun j hjl => hj j (by omega)⟩
set_option maxRecDepth 100000 in
set_option maxHeartbeats 4000000 in
theorem value_mem (h : Tab w A n c zs) (hm : Mach w MC R at_ Am nm cm l) (v : Int) (hX : chkF zs v 0 0 = 0) (P Z V : Int) (N : Nat) (hz : ¬ Z = 0) (hN : N ≤ 32764) (hs : N + 4 ≤ nm) (hf : (fnd zs v at_).getD zeroP = ⟨P, Z, V, 1, N⟩) :
    Calls Try.prog 23 #[.slice A n c, .agg MC, .int .i64 v] w fun e w' => e = .returned (.tuple #[.int .u32 (wordAt l N : Int), .bool true, .int .i64 0]) ∧ Below w.heap.size w w' := by
  obtain ⟨g, off, rfl, hnc, hgw, hbs⟩ := hm.bytes (by omega)
  have HC := Lib.hid (fun w1 (hb : Below w.heap.size w w1) => hX ▸ check_tab (h.below hb) v 0 0)
  have HF := Lib.hid (fun w1 (hb : Below w.heap.size w w1) => hf ▸ find_tab (h.below hb) v at_ (zero_le_chk0 hX))
  have HM := Lib.hid hm
  obtain ⟨l0, y0⟩ := hbs N (by omega)
  obtain ⟨l1, y1⟩ := hbs (N + 1) (by omega)
  obtain ⟨l2, y2⟩ := hbs (N + 2) (by omega)
  obtain ⟨l3, y3⟩ := hbs (N + 3) (by omega)
  unfold wordAt
  generalize l[N]! = b0 at y0 l0 ⊢
  generalize l[N + 1]! = b1 at y1 l1 ⊢
  generalize l[N + 2]! = b2 at y2 l2 ⊢
  generalize l[N + 3]! = b3 at y3 l3 ⊢
  obtain ⟨X, hXX⟩ : ∃ X, X = b0 + 256 * b1 + 65536 * b2 + 16777216 * b3 := ⟨_, rfl⟩
  rw [← hXX]
  have HXX := Lib.hid hXX
  clear hXX
  have hlo := hm.lo
  have hhi := hm.hi
  clear h hX hf hm hbs
  go_enter Try.func23, Try.ntmps23
  go_wp2_with fail
  have hb0 : Below w.heap.size w (w.alloc (.cells MC 41)) := (Below.refl _ _).alloc (Nat.le_refl _) _
  have hB := heap_alloc_new w (.cells MC 41)
  generalize World.alloc w _ = W0 at hb0 hB ⊢
  refine (HC.out _ hb0).mono ?_
  rintro e w1 ⟨rfl, hb1⟩
  have hb2 := hb0.trans (hb1.mono hb0.size)
  have hB1 := (hb1.block _ (lt_of_block hB)).trans hB
  obtain ⟨m1, -, -⟩ := HM.out.cells hB1
  have HB1 := Lib.hid hB1
  clear hb0 hb1 hB hB1
  go_wp2_with fail
  clear m1
  refine (HF.out _ hb2).mono ?_
  rintro e w2 ⟨rfl, hb3⟩
  have hb4 := hb2.trans (hb3.mono hb2.size)
  have hB2 := (heap_alloc_old w2 (.cells #[.int .i64 P, .int .i64 Z, .int .i64 V, .int .i64 1, .int .i64 (N : Int)] 33) (lt_of_block ((hb3.block _ (lt_of_block HB1.out)).trans HB1.out))).trans ((hb3.block _ (lt_of_block HB1.out)).trans HB1.out)
  obtain ⟨-, m2, -⟩ := HM.out.cells hB2
  have heq := fun W => eqZero ⟨P, Z, V, 1, N⟩ hz W
  have hb5 : Below w.heap.size w (w2.alloc (.cells #[.int .i64 P, .int .i64 Z, .int .i64 V, .int .i64 1, .int .i64 (N : Int)] 33)) := hb4.alloc hb4.size _
  have x0 := (hb5.cell (p := ⟨g, off + N, none⟩) hgw).trans y0
  have x1 := (hb5.cell (p := ⟨g, off + N + 1, none⟩) hgw).trans y1
  have x2 := (hb5.cell (p := ⟨g, off + N + 2, none⟩) hgw).trans y2
  have x3 := (hb5.cell (p := ⟨g, off + N + 3, none⟩) hgw).trans y3
  clear hB2 hb2 hb3 HB1 HC HF y0 y1 y2 y3
  go_wp2
  rw [show N + 4 - N = 4 by omega]
  generalize cm - N = cc
  go_quiet (fail)
  go_wp2
  exact bodyPost_ret (v := .tuple #[.int .u32 (bits .or .u32 (bits .or .u32 (bits .or .u32 (b0 : Int) ((b1 : Int) * 256)) ((b2 : Int) * 65536)) ((b3 : Int) * 16777216)), .bool true, .int .i64 0]) (by simp [results, Try.results23, go_sem]) rfl ⟨ret_v (by rw [HXX.out]; exact word_or b0 b1 b2 b3 l0 l1 l2 l3), drewNR hb5 nq⟩
end
end Go.Proofs.Ytdpfglpefncigaa
