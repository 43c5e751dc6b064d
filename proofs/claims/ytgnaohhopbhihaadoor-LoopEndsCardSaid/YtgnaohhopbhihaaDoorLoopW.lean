/-
  Trips of the reference, at every input; the walk of LoopTrips.
-/
import Derived.Test.YtgnaohhopbhihaaDoorLoopV
namespace Go.Proofs.YtgnaohhopbhihaaDoor
open Go.RowKit

theorem way_start (w : World) (hM : Masks w) : Way16 w w := ⟨hM, Below.refl _ _⟩
theorem ring_pos (n b : Nat) : 0 < ringF n b := Nat.two_pow_pos _
theorem ring_le {n b : Nat} (h2 : n ≤ 32) : ringF n b ≤ 4294967296 := (pw_le (n := n - tzF b n 0) (by omega)).2
set_option maxHeartbeats 1000000 in
theorem refTrips_yes (p n a b c k : Nat) (w : World) (hp : p < 10) (h1 : 1 ≤ n) (h2 : n ≤ 32) (ha : a < pw n) (hb : b < pw n) (hc : c < pw n)
    (hk : cmpF p n (aftF n a b k) c = false) (hj : ∀ j, j < k → cmpF p n (aftF n a b j) c = true) (hr : k < ringF n b) :
    Calls Tryd.prog 25 #[.int .i64 p, .int .i64 n, .int .u32 a, .int .u32 b, .int .u32 c] w fun e w' => e = .returned (.tuple #[.int .i64 k, .bool true, .int .i64 0]) ∧ Below w.heap.size w w' := by
  have hrl := ring_le (b := b) h2
  have HK := Lib.hid hk
  have HJ := Lib.hid hj
  obtain ⟨R, hR⟩ : ∃ R, R = ringF n b := ⟨_, rfl⟩
  rw [← hR] at hr hrl
  have RR := Lib.hid hR
  clear hk hj hR
  go_enter Tryd.func25, Tryd.ntmps25
  go_wp2_with fail
  refine (counted_ok p n a b c _ hp h1 h2 ha hb hc).mono ?_
  rintro e w1 ⟨rfl, hb1⟩
  go_wp2_with fail
  refine (refRing_ok n b _ h1 h2 hb).mono ?_
  rw [← RR.out]
  rintro e w2 ⟨rfl, hb2⟩
  have hb2 := hb1.trans (hb2.mono hb1.size)
  go_wp2_with fail
  go_loopw [16] (fun z wr => ∃ j : Nat, j ≤ k ∧ z = .int .i64 (j : Int) ∧ Below w.heap.size w wr) (fun z _ => R - (intOf z).toNat)
  case atStart => exact ⟨0, by omega, rfl, hb2⟩
  case round =>
    obtain ⟨j, hj, rfl, hbr⟩ := hrel
    have hjr : j < R := by omega
    by_cases hjk : j < k
    · have J := Lib.hid (HJ.out j hjk)
      go_wp2_with fail
      refine (goes_ok p n a b c j _ hp h1 h2 ha hb hc (by omega)).mono ?_
      rw [J.out]
      rintro e w3 ⟨rfl, hb3⟩
      have hb3 := hbr.trans (hb3.mono hbr.size)
      go_wp2
      go_roundw
      case rel => exact ⟨j + 1, by omega, by go_num, hb3⟩
      case measure => simp [intOf]; omega
    · obtain rfl : j = k := by omega
      go_wp2_with fail
      refine (goes_ok p n a b c j _ hp h1 h2 ha hb hc (by omega)).mono ?_
      rw [HK.out]
      rintro e w3 ⟨rfl, hb3⟩
      have hb3 := hbr.trans (hb3.mono hbr.size)
      go_wp2
      go_ret3
      exact ⟨rfl, hb3⟩
set_option maxHeartbeats 1000000 in
theorem refTrips_no (p n a b c : Nat) (w : World) (hp : p < 10) (h1 : 1 ≤ n) (h2 : n ≤ 32) (ha : a < pw n) (hb : b < pw n) (hc : c < pw n)
    (hj : ∀ j, cmpF p n (aftF n a b j) c = true) :
    Calls Tryd.prog 25 #[.int .i64 p, .int .i64 n, .int .u32 a, .int .u32 b, .int .u32 c] w fun e w' => e = .returned (.tuple #[.int .i64 0, .bool false, .int .i64 0]) ∧ Below w.heap.size w w' := by
  have hrl := ring_le (b := b) h2
  have HJ := Lib.hid hj
  obtain ⟨R, hR⟩ : ∃ R, R = ringF n b := ⟨_, rfl⟩
  rw [← hR] at hrl
  have RR := Lib.hid hR
  clear hj hR
  go_enter Tryd.func25, Tryd.ntmps25
  go_wp2_with fail
  refine (counted_ok p n a b c _ hp h1 h2 ha hb hc).mono ?_
  rintro e w1 ⟨rfl, hb1⟩
  go_wp2_with fail
  refine (refRing_ok n b _ h1 h2 hb).mono ?_
  rw [← RR.out]
  rintro e w2 ⟨rfl, hb2⟩
  have hb2 := hb1.trans (hb2.mono hb1.size)
  go_wp2_with fail
  go_loopw [16] (fun z wr => ∃ j : Nat, j ≤ R ∧ z = .int .i64 (j : Int) ∧ Below w.heap.size w wr) (fun z _ => R - (intOf z).toNat)
  case atStart => exact ⟨0, by omega, rfl, hb2⟩
  case round =>
    obtain ⟨j, hj, rfl, hbr⟩ := hrel
    by_cases hjk : j < R
    · have J := Lib.hid (HJ.out j)
      go_wp2_with fail
      refine (goes_ok p n a b c j _ hp h1 h2 ha hb hc (by omega)).mono ?_
      rw [J.out]
      rintro e w3 ⟨rfl, hb3⟩
      have hb3 := hbr.trans (hb3.mono hbr.size)
      go_wp2
      go_roundw
      case rel => exact ⟨j + 1, by omega, by go_num, hb3⟩
      case measure => simp [intOf]; omega
    · go_wp2
      go_ret3
      exact ⟨rfl, hbr⟩
theorem refTrips_err (p m : Int) (a b c : Nat) (w : World) (a32 : a < 4294967296) (b32 : b < 4294967296) (c32 : c < 4294967296) (h : TripBad p m a b c) :
    Calls Tryd.prog 25 #[.int .i64 p, .int .i64 m, .int .u32 a, .int .u32 b, .int .u32 c] w fun e w' => e = .returned (.tuple #[.int .i64 0, .bool false, .int .i64 1]) ∧ Below w.heap.size w w' := by
  have H := Lib.hid h
  clear h
  go_enter Tryd.func25, Tryd.ntmps25
  go_wp2_with fail
  refine (counted_err p m a b c _ a32 b32 c32 H.out).mono ?_
  rintro e w1 ⟨rfl, hb1⟩
  go_wp2
  go_ret3
  exact ⟨rfl, hb1⟩
theorem trips_same (p m : Int) (a b c : Nat) (a32 : a < 4294967296) (b32 : b < 4294967296) (c32 : c < 4294967296) : ∃ (K : Nat) (B : Bool) (E : Int),
    (∀ w, Masks w → Calls Tryd.prog 24 #[.int .i64 p, .int .i64 m, .int .u32 a, .int .u32 b, .int .u32 c] w fun e w' => e = .returned (.tuple #[.int .i64 K, .bool B, .int .i64 E]) ∧ Below w.heap.size w w') ∧
    (∀ w, Calls Tryd.prog 25 #[.int .i64 p, .int .i64 m, .int .u32 a, .int .u32 b, .int .u32 c] w fun e w' => e = .returned (.tuple #[.int .i64 K, .bool B, .int .i64 E]) ∧ Below w.heap.size w w') := by
  by_cases h : TripBad p m a b c
  · exact ⟨0, false, 1, fun w hM => trip_err p m a b c w hM h, fun w => refTrips_err p m a b c w a32 b32 c32 h⟩
  · obtain ⟨q, n, rfl, rfl, hq, h1, h2, ha, hb, hc⟩ := trip_split p m a b c h
    obtain ⟨k, is, hT, hC⟩ := trips_ok q n a b c hq h1 h2 ha hb hc
    have hlt := tripsR_lt hT hb (ring_pos n b)
    refine ⟨k, is, 0, hC, fun w => ?_⟩
    rcases hT with ⟨rfl, t1, t2⟩ | ⟨rfl, rfl, t2⟩
    · exact refTrips_yes q n a b c k w hq h1 h2 ha hb hc t1 t2 hlt
    · exact refTrips_no q n a b c w hq h1 h2 ha hb hc t2
set_option maxHeartbeats 1000000 in
theorem trips_walk (p m : Int) (a b d : Nat) (w : World) (hM : Masks w) (a32 : a < 4294967296) (b32 : b < 4294967296) (d32 : d < 4294967296) :
    Calls Tryd.prog 4 #[.agg #[.int .i64 p, .int .i64 m, .int .u32 a, .int .u32 b, .int .u32 d]] w fun e w' => e = .returned (.bool true) ∧ Below w.heap.size w w' := by
  obtain ⟨o, ho⟩ : ∃ o : Obj, o = .cells #[.int .i64 p, .int .i64 m, .int .u32 a, .int .u32 b, .int .u32 d] 44 := ⟨_, rfl⟩
  have g0 : Way16 (w.alloc o) (w.alloc o) := ⟨hM.alloc o, Below.refl _ _⟩
  have k0 : (w.alloc o).cell? ⟨w.heap.size, 0, none⟩ = some (.int .i64 p) := by rw [ho]; simp [go_sem]
  have k1 : (w.alloc o).cell? ⟨w.heap.size, 1, none⟩ = some (.int .i64 m) := by rw [ho]; simp [go_sem]
  have k2 : (w.alloc o).cell? ⟨w.heap.size, 2, none⟩ = some (.int .u32 a) := by rw [ho]; simp [go_sem]
  have k3 : (w.alloc o).cell? ⟨w.heap.size, 3, none⟩ = some (.int .u32 b) := by rw [ho]; simp [go_sem]
  have k4 : (w.alloc o).cell? ⟨w.heap.size, 4, none⟩ = some (.int .u32 d) := by rw [ho]; simp [go_sem]
  have K0 := Lib.hid k0
  have K1 := Lib.hid k1
  have K2 := Lib.hid k2
  have K3 := Lib.hid k3
  have K4 := Lib.hid k4
  clear k0 k1 k2 k3 k4
  by_cases hbig : 9 < m ∧ m ≤ 32
  · obtain ⟨l1, l2⟩ := hbig
    go_enter Tryd.func4, Tryd.ntmps4
    go_wp2_with fail
    rw [← ho]
    refine (known16_any _ g0.1).mono ?_
    rintro e w5 ⟨rfl, hb5⟩
    go_wp2
    go_ret
    exact ⟨rfl, way_base (g0.next hb5)⟩
  obtain ⟨K, B, E, hP, hR⟩ := trips_same p m a b d a32 b32 d32
  have HP := Lib.hid hP
  have HR := Lib.hid hR
  clear hP hR
  by_cases l1 : m ≤ 9
  · clear hbig
    go_enter Tryd.func4, Tryd.ntmps4
    go_wp2_with fail
    rw [← ho]
    refine (HP.out _ g0.1).mono ?_
    rintro e w1 ⟨rfl, hb1⟩
    have g1 := g0.next hb1
    have u0 := box_cell g1 K0.out
    have u1 := box_cell g1 K1.out
    have u2 := box_cell g1 K2.out
    have u3 := box_cell g1 K3.out
    have u4 := box_cell g1 K4.out
    go_wp2_with fail
    refine (HR.out _).mono ?_
    rintro e w2 ⟨rfl, hb2⟩
    have g2 := g1.next hb2
    go_wp2_with fail
    refine (known16_any _ g2.1).mono ?_
    rintro e w5 ⟨rfl, hb5⟩
    go_wp2
    go_ret
    exact ⟨rfl, way_base (g2.next hb5)⟩
  · have l2 : 9 < m := by omega
    have l3 : 32 < m := by omega
    clear hbig
    go_enter Tryd.func4, Tryd.ntmps4
    go_wp2_with fail
    rw [← ho]
    refine (HP.out _ g0.1).mono ?_
    rintro e w1 ⟨rfl, hb1⟩
    have g1 := g0.next hb1
    have u0 := box_cell g1 K0.out
    have u1 := box_cell g1 K1.out
    have u2 := box_cell g1 K2.out
    have u3 := box_cell g1 K3.out
    have u4 := box_cell g1 K4.out
    go_wp2_with fail
    refine (HR.out _).mono ?_
    rintro e w2 ⟨rfl, hb2⟩
    have g2 := g1.next hb2
    go_wp2_with fail
    refine (known16_any _ g2.1).mono ?_
    rintro e w5 ⟨rfl, hb5⟩
    go_wp2
    go_ret
    exact ⟨rfl, way_base (g2.next hb5)⟩
end Go.Proofs.YtgnaohhopbhihaaDoor
