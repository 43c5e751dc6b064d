/-
  The walk of LoopPowers.
-/
import Derived.Test.YtebhahmgbdglnaaDoorLoopJ
namespace Go.Proofs.YtebhahmgbdglnaaDoor
open Go.RowKit

theorem power_same (m c : Int) (b : Nat) (b32 : b < 4294967296) : ∃ (R : Nat) (E : Int),
    (∀ w, Masks w → Calls Tryd.prog 49 #[.int .i64 m, .int .u32 b, .int .i64 c] w fun e w' => e = .returned (.tuple #[.int .u32 R, .int .i64 E]) ∧ Below w.heap.size w w') ∧
    (∀ w, Calls Tryd.prog 50 #[.int .i64 m, .int .u32 b, .int .i64 c] w fun e w' => e = .returned (.tuple #[.int .u32 R, .int .i64 E]) ∧ Below w.heap.size w w') := by
  by_cases h : PowBad m b c
  · exact ⟨0, 1, fun w hM => power_err m c b w hM h, fun w => refPower_err m c b w b32 h⟩
  · obtain ⟨n, k, rfl, rfl, h1, h2, hb, hc⟩ : ∃ n k : Nat, m = n ∧ c = k ∧ 1 ≤ n ∧ n ≤ 32 ∧ b < pw n ∧ k ≤ 4294967296 := by
      unfold PowBad at h
      exact ⟨m.toNat, c.toNat, by omega, by omega, by omega, by omega, by omega, by omega⟩
    exact ⟨_, 0, fun w hM => power_ok n b k w hM h1 h2 hb hc, fun w => refPower_ok n b k w h1 h2 hb hc⟩
theorem after_back (n b : Nat) (w : World) (hM : Masks w) (h1 : 1 ≤ n) (h2 : n ≤ 32) (hb : b < pw n) :
    Calls Tryd.prog 44 #[.int .i64 n, .int .u32 0, .int .u32 b, .int .i64 (ringF n b)] w fun e w' => e = .returned (.tuple #[.int .u32 0, .int .i64 0]) ∧ Below w.heap.size w w' := by
  have h := after_ok n 0 b (ringF n b) w hM h1 h2 (by have := (pw_le h2).1; omega) hb (by unfold ringF; exact (pw_le (by omega)).2)
  rw [ring_back n b hb] at h
  exact h
set_option maxHeartbeats 1000000 in
theorem powers_walk (m c : Int) (b : Nat) (w : World) (hM : Masks w) (b32 : b < 4294967296) :
    Calls Tryd.prog 13 #[.int .i64 m, .int .u32 b, .int .i64 c] w fun e w' => e = .returned (.bool true) ∧ Below w.heap.size w w' := by
  obtain ⟨R, E, hP, hQ⟩ := power_same m c b b32
  have HP := Lib.hid hP
  have HQ := Lib.hid hQ
  clear hP hQ
  have g0 : Way16 w w := ⟨hM, Below.refl _ _⟩
  by_cases hbad : m < 1 ∨ 32 < m ∨ pw m.toNat ≤ b
  · have HB := Lib.hid hbad
    clear hbad
    go_enter Tryd.func13, Tryd.ntmps13
    go_wp2_with fail
    refine (HP.out _ g0.1).mono ?_
    rintro e w1 ⟨rfl, hb1⟩
    have g1 := g0.next hb1
    go_wp2_with fail
    refine (HQ.out _).mono ?_
    rintro e w2 ⟨rfl, hb2⟩
    have g2 := g1.next hb2
    go_wp2_with fail
    refine (ring_err m b _ g2.1 HB.out).mono ?_
    rintro e w3 ⟨rfl, hb3⟩
    have g3 := g2.next hb3
    go_wp2_with fail
    refine (refRing_err m b _ b32 HB.out).mono ?_
    rintro e w4 ⟨rfl, hb4⟩
    have g4 := g3.next hb4
    go_wp2_with fail
    refine (known16_any _ g4.1).mono ?_
    rintro e w5 ⟨rfl, hb5⟩
    go_wp2
    go_ret
    exact ⟨rfl, (g4.next hb5).2⟩
  · obtain ⟨n, rfl, h1, h2, hb⟩ : ∃ n : Nat, m = n ∧ 1 ≤ n ∧ n ≤ 32 ∧ b < pw n := ⟨m.toNat, by omega, by omega, by omega, by omega⟩
    clear hbad
    obtain ⟨D, hD⟩ : ∃ D, D = ringF n b := ⟨_, rfl⟩
    have RD := Lib.hid hD
    clear hD
    go_enter Tryd.func13, Tryd.ntmps13
    go_wp2_with fail
    refine (HP.out _ g0.1).mono ?_
    rintro e w1 ⟨rfl, hb1⟩
    have g1 := g0.next hb1
    go_wp2_with fail
    refine (HQ.out _).mono ?_
    rintro e w2 ⟨rfl, hb2⟩
    have g2 := g1.next hb2
    go_wp2_with fail
    refine (ring_ok n b _ g2.1 h1 h2 hb).mono ?_
    rw [← RD.out]
    rintro e w3 ⟨rfl, hb3⟩
    have g3 := g2.next hb3
    go_wp2_with fail
    refine (refRing_ok n b _ h1 h2 hb).mono ?_
    rw [← RD.out]
    rintro e w4 ⟨rfl, hb4⟩
    have g4 := g3.next hb4
    go_wp2_with fail
    rw [RD.out]
    refine (after_back n b _ g4.1 h1 h2 hb).mono ?_
    rintro e w5 ⟨rfl, hb5⟩
    have g5 := g4.next hb5
    go_wp2_with fail
    refine (known16_any _ g5.1).mono ?_
    rintro e w6 ⟨rfl, hb6⟩
    go_wp2
    go_ret
    exact ⟨rfl, (g5.next hb6).2⟩
end Go.Proofs.YtebhahmgbdglnaaDoor
