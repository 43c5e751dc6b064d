/-
  The walk of LoopEnds, at every input.
-/
import Derived.Test.YtgnaohhopbhihaaDoorLoopY2
namespace Go.Proofs.YtgnaohhopbhihaaDoor
open Go.RowKit

set_option maxRecDepth 100000 in
set_option maxHeartbeats 1000000 in
theorem ends_walk_bad (p m : Int) (a b d : Nat) (c : Int) (w : World) (hM : Masks w) (a32 : a < 4294967296) (b32 : b < 4294967296) (d32 : d < 4294967296) (hbad : TripBad p m a b d) :
    Calls Tryd.prog 5 #[.agg #[.int .i64 p, .int .i64 m, .int .u32 a, .int .u32 b, .int .u32 d], .int .i64 c] w fun e w' => e = .returned (.bool true) ∧ Below w.heap.size w w' := by
  obtain ⟨o, ho⟩ : ∃ o : Obj, o = .cells #[.int .i64 p, .int .i64 m, .int .u32 a, .int .u32 b, .int .u32 d] 44 := ⟨_, rfl⟩
  have g0 : Way16 (w.alloc o) (w.alloc o) := ⟨hM.alloc o, Below.refl _ _⟩
  have k0 : (w.alloc o).cell? ⟨w.heap.size, 0, none⟩ = some (.int .i64 p) := by rw [ho]; simp [go_sem]
  have k1 : (w.alloc o).cell? ⟨w.heap.size, 1, none⟩ = some (.int .i64 m) := by rw [ho]; simp [go_sem]
  have k2 : (w.alloc o).cell? ⟨w.heap.size, 2, none⟩ = some (.int .u32 a) := by rw [ho]; simp [go_sem]
  have k3 : (w.alloc o).cell? ⟨w.heap.size, 3, none⟩ = some (.int .u32 b) := by rw [ho]; simp [go_sem]
  have k4 : (w.alloc o).cell? ⟨w.heap.size, 4, none⟩ = some (.int .u32 d) := by rw [ho]; simp [go_sem]
  have K0 := Lib.hid k0
  have K1 := Lib.hid k1
  have K2 := Lib.hid k2
  have K3 := Lib.hid k3
  have K4 := Lib.hid k4
  clear k0 k1 k2 k3 k4
  have HB := Lib.hid hbad
  clear hbad
  go_enter Tryd.func5, Tryd.ntmps5
  go_wp2_with fail
  rw [← ho]
  refine (trip_err p m a b d _ g0.1 HB.out).mono ?_
  rintro e w1 ⟨rfl, hb1⟩
  have g1 := g0.next hb1
  have u0 := box_cell g1 K0.out
  have u1 := box_cell g1 K1.out
  have u2 := box_cell g1 K2.out
  have u3 := box_cell g1 K3.out
  have u4 := box_cell g1 K4.out
  go_wp2_with fail
  refine (counted_err p m a b d _ a32 b32 d32 HB.out).mono ?_
  rintro e w2 ⟨rfl, hb2⟩
  have g2 := g1.next hb2
  go_wp2_with fail
  refine (known16_any _ g2.1).mono ?_
  rintro e w6 ⟨rfl, hb6⟩
  go_wp2
  go_ret
  exact ⟨rfl, way_base (g2.next hb6)⟩
theorem ends_walk (p m : Int) (a b d : Nat) (c : Int) (w : World) (hM : Masks w) (a32 : a < 4294967296) (b32 : b < 4294967296) (d32 : d < 4294967296) :
    Calls Tryd.prog 5 #[.agg #[.int .i64 p, .int .i64 m, .int .u32 a, .int .u32 b, .int .u32 d], .int .i64 c] w fun e w' => e = .returned (.bool true) ∧ Below w.heap.size w w' := by
  by_cases h : TripBad p m a b d
  · exact ends_walk_bad p m a b d c w hM a32 b32 d32 h
  · obtain ⟨q, n, rfl, rfl, hq, h1, h2, ha, hb, hd⟩ := trip_split p m a b d h
    obtain ⟨k, is, hT, hC⟩ := trips_ok q n a b d hq h1 h2 ha hb hd
    have hlt := tripsR_lt hT hb (ring_pos n b)
    rcases hT with ⟨rfl, t1, t2⟩ | ⟨rfl, rfl, t2⟩
    · rcases Nat.eq_zero_or_pos k with rfl | hk
      · exact ends_walk_zero q n a b d c w hM hq h1 h2 ha hb hd hC t1
      · exact ends_walk_yes q n a b d k c w hM hq h1 h2 ha hb hd hC t1 t2 hk hlt
    · exact ends_walk_no q n a b d c w hM hq h1 h2 ha hb hd hC t2
end Go.Proofs.YtgnaohhopbhihaaDoor
