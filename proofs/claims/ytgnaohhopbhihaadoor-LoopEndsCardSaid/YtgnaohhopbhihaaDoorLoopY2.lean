/-
  The walk of LoopEnds.
-/
import Derived.Test.YtgnaohhopbhihaaDoorLoopY
namespace Go.Proofs.YtgnaohhopbhihaaDoor
open Go.RowKit

set_option maxRecDepth 100000 in
set_option maxHeartbeats 1000000 in
theorem ends_walk_zero (p n a b d : Nat) (c : Int) (w : World) (hM : Masks w) (hp : p < 10) (h1 : 1 ≤ n) (h2 : n ≤ 32) (ha : a < pw n) (hb : b < pw n) (hd : d < pw n)
    (hT : ∀ w, Masks w → Calls Tryd.prog 24 #[.int .i64 p, .int .i64 n, .int .u32 a, .int .u32 b, .int .u32 d] w fun e w' => e = .returned (.tuple #[.int .i64 0, .bool true, .int .i64 0]) ∧ Below w.heap.size w w')
    (hj : cmpF p n (aftF n a b 0) d = false) :
    Calls Tryd.prog 5 #[.agg #[.int .i64 p, .int .i64 n, .int .u32 a, .int .u32 b, .int .u32 d], .int .i64 c] w fun e w' => e = .returned (.bool true) ∧ Below w.heap.size w w' := by
  obtain ⟨o, ho⟩ : ∃ o : Obj, o = .cells #[.int .i64 p, .int .i64 n, .int .u32 a, .int .u32 b, .int .u32 d] 44 := ⟨_, rfl⟩
  have g0 : Way16 (w.alloc o) (w.alloc o) := ⟨hM.alloc o, Below.refl _ _⟩
  have k0 : (w.alloc o).cell? ⟨w.heap.size, 0, none⟩ = some (.int .i64 p) := by rw [ho]; simp [go_sem]
  have k1 : (w.alloc o).cell? ⟨w.heap.size, 1, none⟩ = some (.int .i64 n) := by rw [ho]; simp [go_sem]
  have k2 : (w.alloc o).cell? ⟨w.heap.size, 2, none⟩ = some (.int .u32 a) := by rw [ho]; simp [go_sem]
  have k3 : (w.alloc o).cell? ⟨w.heap.size, 3, none⟩ = some (.int .u32 b) := by rw [ho]; simp [go_sem]
  have k4 : (w.alloc o).cell? ⟨w.heap.size, 4, none⟩ = some (.int .u32 d) := by rw [ho]; simp [go_sem]
  have K0 := Lib.hid k0
  have K1 := Lib.hid k1
  have K2 := Lib.hid k2
  have K3 := Lib.hid k3
  have K4 := Lib.hid k4
  clear k0 k1 k2 k3 k4
  have hrl := ring_le (b := b) h2
  have hr0 := ring_pos n b
  obtain ⟨R, hR⟩ : ∃ R, R = ringF n b := ⟨_, rfl⟩
  rw [← hR] at hrl hr0
  have dR1 : decide ((R : Int) < 1) = false := by simp; omega
  have dR2 : ((R : Int) == 0) = false := by simp; omega
  have HL5 := Lib.hid (half_in hr0 hrl c)
  have RR := Lib.hid hR
  have HT := Lib.hid hT
  have HJ := Lib.hid hj
  clear hR hT hj
  go_enter Tryd.func5, Tryd.ntmps5
  go_wp2_with fail
  rw [← ho]
  refine (HT.out _ g0.1).mono ?_
  rintro e w1 ⟨rfl, hb1⟩
  have g1 := g0.next hb1
  have u0 := box_cell g1 K0.out
  have u1 := box_cell g1 K1.out
  have u2 := box_cell g1 K2.out
  have u3 := box_cell g1 K3.out
  have u4 := box_cell g1 K4.out
  go_wp2_with fail
  refine (counted_ok p n a b d _ hp h1 h2 ha hb hd).mono ?_
  rintro e w2 ⟨rfl, hb2⟩
  have g2 := g1.next hb2
  have v1 := box_cell g2 K1.out
  have v3 := box_cell g2 K3.out
  go_wp2_with fail
  refine (ring_ok n b _ g2.1 h1 h2 hb).mono ?_
  rw [← RR.out]
  rintro e w3 ⟨rfl, hb3⟩
  have g3 := g2.next hb3
  have y0 := box_cell g3 K0.out
  have y1 := box_cell g3 K1.out
  have y2 := box_cell g3 K2.out
  have y3 := box_cell g3 K3.out
  have y4 := box_cell g3 K4.out
  go_wp2_with fail
  refine (goes_ok p n a b d 0 _ hp h1 h2 ha hb hd (by omega)).mono ?_
  rw [HJ.out]
  rintro e w4 ⟨rfl, hb4⟩
  have g4 := g3.next hb4
  go_wp2_with fail
  refine (known16_any _ g4.1).mono ?_
  rintro e w6 ⟨rfl, hb6⟩
  go_wp2
  go_ret
  exact ⟨rfl, way_base (g4.next hb6)⟩
set_option maxRecDepth 100000 in
set_option maxHeartbeats 1000000 in
theorem ends_walk_yes (p n a b d k : Nat) (c : Int) (w : World) (hM : Masks w) (hp : p < 10) (h1 : 1 ≤ n) (h2 : n ≤ 32) (ha : a < pw n) (hb : b < pw n) (hd : d < pw n)
    (hT : ∀ w, Masks w → Calls Tryd.prog 24 #[.int .i64 p, .int .i64 n, .int .u32 a, .int .u32 b, .int .u32 d] w fun e w' => e = .returned (.tuple #[.int .i64 k, .bool true, .int .i64 0]) ∧ Below w.heap.size w w')
    (hk : cmpF p n (aftF n a b k) d = false) (hj : ∀ j, j < k → cmpF p n (aftF n a b j) d = true) (hk0 : 0 < k) (hkR : k < ringF n b) :
    Calls Tryd.prog 5 #[.agg #[.int .i64 p, .int .i64 n, .int .u32 a, .int .u32 b, .int .u32 d], .int .i64 c] w fun e w' => e = .returned (.bool true) ∧ Below w.heap.size w w' := by
  obtain ⟨o, ho⟩ : ∃ o : Obj, o = .cells #[.int .i64 p, .int .i64 n, .int .u32 a, .int .u32 b, .int .u32 d] 44 := ⟨_, rfl⟩
  have g0 : Way16 (w.alloc o) (w.alloc o) := ⟨hM.alloc o, Below.refl _ _⟩
  have k0 : (w.alloc o).cell? ⟨w.heap.size, 0, none⟩ = some (.int .i64 p) := by rw [ho]; simp [go_sem]
  have k1 : (w.alloc o).cell? ⟨w.heap.size, 1, none⟩ = some (.int .i64 n) := by rw [ho]; simp [go_sem]
  have k2 : (w.alloc o).cell? ⟨w.heap.size, 2, none⟩ = some (.int .u32 a) := by rw [ho]; simp [go_sem]
  have k3 : (w.alloc o).cell? ⟨w.heap.size, 3, none⟩ = some (.int .u32 b) := by rw [ho]; simp [go_sem]
  have k4 : (w.alloc o).cell? ⟨w.heap.size, 4, none⟩ = some (.int .u32 d) := by rw [ho]; simp [go_sem]
  have K0 := Lib.hid k0
  have K1 := Lib.hid k1
  have K2 := Lib.hid k2
  have K3 := Lib.hid k3
  have K4 := Lib.hid k4
  clear k0 k1 k2 k3 k4
  have hrl := ring_le (b := b) h2
  have hr0 := ring_pos n b
  obtain ⟨R, hR⟩ : ∃ R, R = ringF n b := ⟨_, rfl⟩
  rw [← hR] at hrl hr0 hkR
  have dR1 : decide ((R : Int) < 1) = false := by simp; omega
  have dR2 : ((R : Int) == 0) = false := by simp; omega
  have HL5 := Lib.hid (half_in hk0 (by omega) c)
  have dk1 : decide ((k : Int) < 0) = false := by simp
  have dk2 : decide (R ≤ k) = false := by simp; omega
  have dk3 : ((k : Int) == 0) = false := by simp; omega
  have HK := Lib.hid hk
  clear hk
  have RR := Lib.hid hR
  have HT := Lib.hid hT
  have HJ := Lib.hid hj
  clear hR hT hj
  go_enter Tryd.func5, Tryd.ntmps5
  go_wp2_with fail
  rw [← ho]
  refine (HT.out _ g0.1).mono ?_
  rintro e w1 ⟨rfl, hb1⟩
  have g1 := g0.next hb1
  have u0 := box_cell g1 K0.out
  have u1 := box_cell g1 K1.out
  have u2 := box_cell g1 K2.out
  have u3 := box_cell g1 K3.out
  have u4 := box_cell g1 K4.out
  go_wp2_with fail
  refine (counted_ok p n a b d _ hp h1 h2 ha hb hd).mono ?_
  rintro e w2 ⟨rfl, hb2⟩
  have g2 := g1.next hb2
  have v1 := box_cell g2 K1.out
  have v3 := box_cell g2 K3.out
  go_wp2_with fail
  refine (ring_ok n b _ g2.1 h1 h2 hb).mono ?_
  rw [← RR.out]
  rintro e w3 ⟨rfl, hb3⟩
  have g3 := g2.next hb3
  have y0 := box_cell g3 K0.out
  have y1 := box_cell g3 K1.out
  have y2 := box_cell g3 K2.out
  have y3 := box_cell g3 K3.out
  have y4 := box_cell g3 K4.out
  go_wp2_with fail
  refine (goes_ok p n a b d k _ hp h1 h2 ha hb hd (by omega)).mono ?_
  rw [HK.out]
  rintro e w4 ⟨rfl, hb4⟩
  have g4 := g3.next hb4
  go_wp2_with fail
  generalize hW5 : (World.alloc w4 _) = W5
  have hC : ∀ i, i < 5 → ∃ l : Nat, l < k ∧ W5.cell? ⟨w4.heap.size, i, none⟩ = some (.int .i64 (l : Int)) := by
    have hl5 := HL5.out
    rw [← hW5]
    exact arr5_cell w4 _ _ _ _ _ _ k hl5.1 hl5.2.1 hl5.2.2.1 hl5.2.2.2.1 hl5.2.2.2.2
  have HC := Lib.hid hC
  have g5 : Way16 (w.alloc o) W5 := by
    rw [← hW5]
    exact ⟨g4.1.alloc _, g4.2.alloc (by simpa using g4.2.size) _⟩
  have sz : w4.heap.size < W5.heap.size := by rw [← hW5]; simp
  clear hC hW5
  go_loopw [13] (fun z wr => ∃ j : Nat, j ≤ 5 ∧ z = .int .i64 (j : Int) ∧ Way16 W5 wr) (fun z _ => 5 - (intOf z).toNat)
  case atStart => exact ⟨0, by omega, rfl, g5.1, Below.refl _ _⟩
  case round =>
    obtain ⟨j, hj, rfl, gr⟩ := hrel
    have gw : Way16 (w.alloc o) _ := ⟨gr.1, g5.2.trans (gr.2.mono g5.2.size)⟩
    have x0 := box_cell gw K0.out
    have x1 := box_cell gw K1.out
    have x2 := box_cell gw K2.out
    have x3 := box_cell gw K3.out
    have x4 := box_cell gw K4.out
    by_cases hj5 : j < 5
    · obtain ⟨l, hl, hc⟩ := HC.out j hj5
      have hc2 := (gr.2.cell (p := ⟨w4.heap.size, j, none⟩) sz).trans hc
      clear hc
      have J := Lib.hid (HJ.out l hl)
      go_wp2_with fail
      go_still_tail 13, (by kernel_rfl)
      have gd := Masks.drew gr.1
      change wpList _ _ _ _ _ (World.drew _)
      go_wp2_with fail
      refine (goes_ok p n a b d l _ hp h1 h2 ha hb hd (by omega)).mono ?_
      rw [J.out]
      rintro e w6 ⟨rfl, hb6⟩
      have gr := gr.next (below_drew hb6)
      go_wp2
      go_roundw
      case rel => exact ⟨j + 1, by omega, by go_num, gr⟩
      case measure => simp [intOf]; omega
    · by_cases hp1 : p = 1
      · subst hp1
        have hA : aftF n a b k = d := by
          have := HK.out
          simpa [cmpF] using this
        have RA := Lib.hid hA
        clear hA
        go_wp2_with fail
        refine (after_ok n a b k _ gr.1 h1 h2 ha hb (by omega)).mono ?_
        rw [RA.out]
        rintro e w6 ⟨rfl, hb6⟩
        have g6 := gw.next hb6
        have z4 := box_cell g6 K4.out
        go_wp2_with fail
        refine (known16_any _ g6.1).mono ?_
        rintro e w7 ⟨rfl, hb7⟩
        go_wp2
        go_ret
        exact ⟨rfl, way_base (g6.next hb7)⟩
      · have dp1 : ((p : Int) == 1) = false := by simp; omega
        clear hp1
        go_wp2_with fail
        refine (known16_any _ gr.1).mono ?_
        rintro e w6 ⟨rfl, hb6⟩
        go_wp2
        go_ret
        exact ⟨rfl, way_base (gw.next hb6)⟩
end Go.Proofs.YtgnaohhopbhihaaDoor
