/-
  Lanes of the reference package.
-/
import Derived.Test.YtbohigjfdnnomaaGreatDoorBitsN
namespace Go.Proofs.YtbohigjfdnnomaaGreatDoor
open Go.RowKit

section
variable {P : Program} {f : FuncId} {args : Array Value} {v : Value}
theorem quietly {w : World} {n : Nat} (c : ∀ W, Calls P f args W fun e w' => e = .returned v ∧ W = w') : Calls P f args (w.drewN n) fun e w2 => e = .returned v ∧ ∃ m, w2 = w.drewN m :=
  (c _).mono fun _ _ ⟨he, hm⟩ => ⟨he, n, hm.symm⟩
theorem quietly_add {w : World} {a n : Nat} (c : ∀ W, Calls P f args W fun e w' => e = .returned v ∧ W = w') : Calls P f args (w.drewN (a + n)) fun e w2 => e = .returned v ∧ ∃ m, w2 = w.drewN (a + m) :=
  (c _).mono fun _ _ ⟨he, hm⟩ => ⟨he, n, hm.symm⟩
end
theorem half_bounds (lane t a : Nat) : 0 ≤ (a : Int) / (pw t : Int) % (pw lane : Int) ∧ (a : Int) / (pw t : Int) % (pw lane : Int) < (pw lane : Int) := by
  have h : 0 < (pw lane : Int) := by have : 0 < pw lane := Nat.two_pow_pos lane
                                     omega
  exact ⟨Int.emod_nonneg _ (by omega), Int.emod_lt_of_pos _ h⟩
theorem lane_le (lane t S : Nat) (y : Int) (hT : t + lane ≤ 32) (hS : S < pw t) : S + wr lane y * pw t < 4294967296 := by
  have hp := pw_le (n := t + lane) hT
  have h1 : wr lane y < pw lane := wr_lt y
  have h2 : (wr lane y + 1) * pw t ≤ pw lane * pw t := Nat.mul_le_mul_right _ h1
  rw [Nat.add_mul] at h2
  rw [Nat.add_comm, pw_add] at hp
  omega
theorem half_cast (lane t a : Nat) : ((a / pw t % pw lane : Nat) : Int) = (a : Int) / (pw t : Int) % (pw lane : Int) := by
  rw [Int.natCast_emod, Int.natCast_ediv]
end Go.Proofs.YtbohigjfdnnomaaGreatDoor
