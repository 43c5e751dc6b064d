/-
  The walk of LoopEnds.
-/
import Derived.Test.YtgnaohhopbhihaaDoorLoopW
namespace Go.Proofs.YtgnaohhopbhihaaDoor
open Go.RowKit

theorem arr5_cell (w : World) (T : Nat) (x0 x1 x2 x3 x4 : Int) (R : Nat) (h0 : 0 ≤ x0 ∧ x0 < R) (h1 : 0 ≤ x1 ∧ x1 < R) (h2 : 0 ≤ x2 ∧ x2 < R) (h3 : 0 ≤ x3 ∧ x3 < R) (h4 : 0 ≤ x4 ∧ x4 < R) :
    ∀ i, i < 5 → ∃ l : Nat, l < R ∧ (w.alloc (.cells #[.int .i64 x0, .int .i64 x1, .int .i64 x2, .int .i64 x3, .int .i64 x4] T)).cell? ⟨w.heap.size, i, none⟩ = some (.int .i64 (l : Int)) := by
  intro i hi
  obtain ⟨x0, rfl⟩ : ∃ n : Nat, x0 = n := ⟨x0.toNat, by omega⟩
  obtain ⟨x1, rfl⟩ : ∃ n : Nat, x1 = n := ⟨x1.toNat, by omega⟩
  obtain ⟨x2, rfl⟩ : ∃ n : Nat, x2 = n := ⟨x2.toNat, by omega⟩
  obtain ⟨x3, rfl⟩ : ∃ n : Nat, x3 = n := ⟨x3.toNat, by omega⟩
  obtain ⟨x4, rfl⟩ : ∃ n : Nat, x4 = n := ⟨x4.toNat, by omega⟩
  obtain rfl | rfl | rfl | rfl | rfl : i = 0 ∨ i = 1 ∨ i = 2 ∨ i = 3 ∨ i = 4 := by omega
  · exact ⟨x0, by omega, by simp [go_sem]⟩
  · exact ⟨x1, by omega, by simp [go_sem]⟩
  · exact ⟨x2, by omega, by simp [go_sem]⟩
  · exact ⟨x3, by omega, by simp [go_sem]⟩
  · exact ⟨x4, by omega, by simp [go_sem]⟩
theorem half_in {R : Nat} (h : 0 < R) (h2 : R ≤ 4294967296) (c : Int) : (0 ≤ (0 : Int) ∧ (0 : Int) < R) ∧ (0 ≤ (R : Int) - 1 ∧ (R : Int) - 1 < R) ∧ (0 ≤ (R : Int) / 2 ∧ (R : Int) / 2 < R) ∧ (0 ≤ (R : Int) / 3 ∧ (R : Int) / 3 < R) ∧
    (0 ≤ wrap64 ((IntKind.u64.wrap c).tmod R) ∧ wrap64 ((IntKind.u64.wrap c).tmod R) < R) := by
  have hu : 0 ≤ IntKind.u64.wrap c := by rw [IntKind.wrap_u64]; omega
  have e : (IntKind.u64.wrap c).tmod R = IntKind.u64.wrap c % R := Int.tmod_eq_emod_of_nonneg hu
  have l1 := Int.emod_nonneg (IntKind.u64.wrap c) (show (R : Int) ≠ 0 by omega)
  have l2 := Int.emod_lt_of_pos (IntKind.u64.wrap c) (show (0 : Int) < R by omega)
  rw [e, wrap64_in (by omega) (by omega)]
  omega
set_option maxRecDepth 100000 in
set_option maxHeartbeats 1000000 in
theorem ends_walk_no (p n a b d : Nat) (c : Int) (w : World) (hM : Masks w) (hp : p < 10) (h1 : 1 ≤ n) (h2 : n ≤ 32) (ha : a < pw n) (hb : b < pw n) (hd : d < pw n)
    (hT : ∀ w, Masks w → Calls Tryd.prog 24 #[.int .i64 p, .int .i64 n, .int .u32 a, .int .u32 b, .int .u32 d] w fun e w' => e = .returned (.tuple #[.int .i64 0, .bool false, .int .i64 0]) ∧ Below w.heap.size w w')
    (hj : ∀ j, cmpF p n (aftF n a b j) d = true) :
    Calls Tryd.prog 5 #[.agg #[.int .i64 p, .int .i64 n, .int .u32 a, .int .u32 b, .int .u32 d], .int .i64 c] w fun e w' => e = .returned (.bool true) ∧ Below w.heap.size w w' := by
  obtain ⟨o, ho⟩ : ∃ o : Obj, o = .cells #[.int .i64 p, .int .i64 n, .int .u32 a, .int .u32 b, .int .u32 d] 44 := ⟨_, rfl⟩
  have g0 : Way16 (w.alloc o) (w.alloc o) := ⟨hM.alloc o, Below.refl _ _⟩
  have k0 : (w.alloc o).cell? ⟨w.heap.size, 0, none⟩ = some (.int .i64 p) := by rw [ho]; simp [go_sem]
  have k1 : (w.alloc o).cell? ⟨w.heap.size, 1, none⟩ = some (.int .i64 n) := by rw [ho]; simp [go_sem]
  have k2 : (w.alloc o).cell? ⟨w.heap.size, 2, none⟩ = some (.int .u32 a) := by rw [ho]; simp [go_sem]
  have k3 : (w.alloc o).cell? ⟨w.heap.size, 3, none⟩ = some (.int .u32 b) := by rw [ho]; simp [go_sem]
  have k4 : (w.alloc o).cell? ⟨w.heap.size, 4, none⟩ = some (.int .u32 d) := by rw [ho]; simp [go_sem]
  have K0 := Lib.hid k0
  have K1 := Lib.hid k1
  have K2 := Lib.hid k2
  have K3 := Lib.hid k3
  have K4 := Lib.hid k4
  clear k0 k1 k2 k3 k4
  have hrl := ring_le (b := b) h2
  have hr0 := ring_pos n b
  obtain ⟨R, hR⟩ : ∃ R, R = ringF n b := ⟨_, rfl⟩
  rw [← hR] at hrl hr0
  have dR1 : decide ((R : Int) < 1) = false := by simp; omega
  have dR2 : ((R : Int) == 0) = false := by simp; omega
  have HL5 := Lib.hid (half_in hr0 hrl c)
  have RR := Lib.hid hR
  have HT := Lib.hid hT
  have HJ := Lib.hid hj
  clear hR hT hj
  go_enter Tryd.func5, Tryd.ntmps5
  go_wp2_with fail
  rw [← ho]
  refine (HT.out _ g0.1).mono ?_
  rintro e w1 ⟨rfl, hb1⟩
  have g1 := g0.next hb1
  have u0 := box_cell g1 K0.out
  have u1 := box_cell g1 K1.out
  have u2 := box_cell g1 K2.out
  have u3 := box_cell g1 K3.out
  have u4 := box_cell g1 K4.out
  go_wp2_with fail
  refine (counted_ok p n a b d _ hp h1 h2 ha hb hd).mono ?_
  rintro e w2 ⟨rfl, hb2⟩
  have g2 := g1.next hb2
  have v1 := box_cell g2 K1.out
  have v3 := box_cell g2 K3.out
  go_wp2_with fail
  refine (ring_ok n b _ g2.1 h1 h2 hb).mono ?_
  rw [← RR.out]
  rintro e w3 ⟨rfl, hb3⟩
  have g3 := g2.next hb3
  go_wp2_with fail
  generalize hW5 : (World.alloc w3 _) = W5
  have hC : ∀ i, i < 5 → ∃ l : Nat, l < R ∧ W5.cell? ⟨w3.heap.size, i, none⟩ = some (.int .i64 (l : Int)) := by
    have hl5 := HL5.out
    rw [← hW5]
    exact arr5_cell w3 _ _ _ _ _ _ R hl5.1 hl5.2.1 hl5.2.2.1 hl5.2.2.2.1 hl5.2.2.2.2
  have HC := Lib.hid hC
  have g5 : Way16 (w.alloc o) W5 := by
    rw [← hW5]
    exact ⟨g3.1.alloc _, g3.2.alloc (by simpa using g3.2.size) _⟩
  have sz : w3.heap.size < W5.heap.size := by rw [← hW5]; simp
  clear hC hW5
  go_loopw [13] (fun z wr => ∃ j : Nat, j ≤ 5 ∧ z = .int .i64 (j : Int) ∧ Way16 W5 wr) (fun z _ => 5 - (intOf z).toNat)
  case atStart => exact ⟨0, by omega, rfl, g5.1, Below.refl _ _⟩
  case round =>
    obtain ⟨j, hj, rfl, gr⟩ := hrel
    have gw : Way16 (w.alloc o) _ := ⟨gr.1, g5.2.trans (gr.2.mono g5.2.size)⟩
    have x0 := box_cell gw K0.out
    have x1 := box_cell gw K1.out
    have x2 := box_cell gw K2.out
    have x3 := box_cell gw K3.out
    have x4 := box_cell gw K4.out
    by_cases hj5 : j < 5
    · obtain ⟨l, hl, hc⟩ := HC.out j hj5
      have hc2 := (gr.2.cell (p := ⟨w3.heap.size, j, none⟩) sz).trans hc
      clear hc
      have J := Lib.hid (HJ.out l)
      go_wp2_with fail
      go_still_tail 13, (by kernel_rfl)
      have gd := Masks.drew gr.1
      rename_i wr
      change wpList _ _ _ _ _ (World.drew _)
      go_wp2_with fail
      refine (goes_ok p n a b d l _ hp h1 h2 ha hb hd (by omega)).mono ?_
      rw [J.out]
      rintro e w6 ⟨rfl, hb6⟩
      have gr := gr.next (below_drew hb6)
      go_wp2
      go_roundw
      case rel => exact ⟨j + 1, by omega, by go_num, gr⟩
      case measure => simp [intOf]; omega
    · go_wp2_with fail
      refine (known16_any _ gr.1).mono ?_
      rintro e w6 ⟨rfl, hb6⟩
      go_wp2
      go_ret
      exact ⟨rfl, way_base (gw.next hb6)⟩
end Go.Proofs.YtgnaohhopbhihaaDoor
