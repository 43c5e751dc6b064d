/-
  Lanes of package bits.
-/
import Derived.Test.YtbohigjfdnnomaaGreatDoorBitsC
import Derived.Deep.QuietTactic
import Derived.BigQuiet
namespace Go.Proofs.YtbohigjfdnnomaaGreatDoor
open Go.RowKit

theorem Masks.drewN {w : World} (h : Masks w) (n : Nat) : Masks (w.drewN n) := fun i hi => by
  have := h i hi
  simpa [go_sem] using this
theorem below_drewN {B : Nat} {a w : World} (h : Below B a w) (n : Nat) : Below B a (w.drewN n) := ⟨h.os, h.tape, h.output, h.size, h.block⟩

/-- One lane's word: the sum, or (s) the difference. -/
def laneW (s : Bool) (lane at' a b : Nat) : Nat := wr lane (if s then ((a / pw at' % pw lane : Nat) : Int) - ((b / pw at' % pw lane : Nat) : Int) else ((a / pw at' % pw lane : Nat) : Int) + ((b / pw at' % pw lane : Nat) : Int))
/-- The first k lanes. -/
def lanesF (s : Bool) (lane a b : Nat) : Nat → Nat
  | 0 => 0
  | k + 1 => lanesF s lane a b k + laneW s lane (k * lane) a b * pw (k * lane)
theorem pw_add (m n : Nat) : pw (m + n) = pw m * pw n := Nat.pow_add 2 m n
theorem laneW_lt (s : Bool) (lane t a b : Nat) : laneW s lane t a b < pw lane := wr_lt _
theorem lanesF_lt (s : Bool) (lane a b : Nat) : ∀ k, lanesF s lane a b k < pw (k * lane)
  | 0 => by simp [lanesF, pw]
  | k + 1 => by
    have ih := lanesF_lt s lane a b k
    have h1 := laneW_lt s lane (k * lane) a b
    have h2 : (laneW s lane (k * lane) a b + 1) * pw (k * lane) ≤ pw lane * pw (k * lane) := Nat.mul_le_mul_right _ h1
    rw [show (k + 1) * lane = lane + k * lane by rw [Nat.add_mul]; omega, pw_add]
    simp only [lanesF]
    rw [Nat.add_mul] at h2
    omega
theorem div_pow_cast (a t : Nat) : (a : Int) / 2 ^ t = ((a / pw t : Nat) : Int) := by
  unfold pw
  rw [Int.natCast_ediv]
  simp
theorem mul_pow_cast (a t : Nat) : (a : Int) * 2 ^ t = ((a * pw t : Nat) : Int) := by
  unfold pw
  rw [Int.natCast_mul]
  simp
/-- What a round adds. -/
theorem lane_or (lane t S : Nat) (y : Int) (hT : t + lane ≤ 32) (hS : S < pw t) :
    bits .or .u32 (S : Int) (bits .and .u32 (y % 4294967296) ((pw lane - 1 : Nat) : Int) * 2 ^ t % 4294967296) = ((S + wr lane y * pw t : Nat) : Int) := by
  have hp := pw_le (n := t + lane) hT
  rw [wrap_eq lane y (by omega), mul_pow_cast]
  have h1 : wr lane y < pw lane := wr_lt y
  have h2 : (wr lane y + 1) * pw t ≤ pw lane * pw t := Nat.mul_le_mul_right _ h1
  rw [Nat.add_mul] at h2
  rw [Nat.add_comm, pw_add] at hp
  have h3 : wr lane y * pw t < 4294967296 := by omega
  have h4 : ((wr lane y * pw t : Nat) : Int) % 4294967296 = ((wr lane y * pw t : Nat) : Int) := by omega
  rw [h4, u32_or_nat _ _ (by have := pw_le (n := t) (by omega); omega) h3, Nat.or_comm, nat_join t _ _ (by unfold pw; exact Nat.mul_mod_left _ _) (by simpa [pw] using hS), Nat.add_comm]
theorem lane_half (lane t a : Nat) (hl : lane ≤ 32) (ha : a < 4294967296) :
    bits .and .u32 ((a : Int) / 2 ^ t) ((pw lane - 1 : Nat) : Int) = ((a / pw t % pw lane : Nat) : Int) := by
  rw [div_pow_cast, and_mask lane _ hl (by have := Nat.div_le_self a (pw t); omega)]
end Go.Proofs.YtbohigjfdnnomaaGreatDoor
