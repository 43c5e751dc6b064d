/-
  Trailing and Ones of both packages, and the walk of BitsCounts.
-/
import Derived.Test.YtbohigjfdnnomaaGreatDoorBitsW
namespace Go.Proofs.YtbohigjfdnnomaaGreatDoor
open Go.RowKit

/-- Zeros at the end, from bit k on, at most f more. -/
def tzF (x : Nat) : Nat → Nat → Nat
  | 0, k => k
  | f + 1, k => if x / pw k % 2 = 0 then tzF x f (k + 1) else k
/-- The ones among the lowest f bits. -/
def pop : Nat → Nat → Nat
  | 0, _ => 0
  | f + 1, x => x % 2 + pop f (x / 2)
/-- The same, bit by bit. -/
def sumF (x : Nat) : Nat → Nat
  | 0 => 0
  | k + 1 => sumF x k + x / pw k % 2
theorem pw_succ (k : Nat) : pw (k + 1) = 2 * pw k := by unfold pw; rw [Nat.pow_succ]; omega
theorem sumF_step (x : Nat) : ∀ k, sumF x (k + 1) = x % 2 + sumF (x / 2) k
  | 0 => by simp [sumF, pw]
  | k + 1 => by
    have ih := sumF_step x k
    rw [show sumF x (k + 1 + 1) = sumF x (k + 1) + x / pw (k + 1) % 2 from rfl, ih, show sumF (x / 2) (k + 1) = sumF (x / 2) k + x / 2 / pw k % 2 from rfl, pw_succ, Nat.div_div_eq_div_mul]
    omega
theorem pop_sum : ∀ f x, pop f x = sumF x f
  | 0, _ => rfl
  | f + 1, x => by rw [sumF_step, ← pop_sum f]; rfl
theorem sumF_stop (x n : Nat) (hx : x < pw n) : ∀ k, sumF x (n + k) = sumF x n
  | 0 => rfl
  | k + 1 => by
    have : x / pw (n + k) = 0 := Nat.div_eq_of_lt (Nat.lt_of_lt_of_le hx (Nat.pow_le_pow_right (by omega) (by omega)))
    rw [show n + (k + 1) = n + k + 1 by omega, show sumF x (n + k + 1) = sumF x (n + k) + x / pw (n + k) % 2 from rfl, sumF_stop x n hx k, this]
    rfl
theorem sumF_pop (x n : Nat) (h : n ≤ 32) (hx : x < pw n) : sumF x n = pop 32 x := by
  rw [pop_sum, ← sumF_stop x n hx (32 - n)]
  congr 1; omega
theorem and_pred_odd (y : Nat) : (2 * y + 1) &&& (2 * y) = 2 * y := by
  have h1 : ((2 * y + 1) &&& (2 * y)) / 2 = y := by
    rw [Nat.and_div_two, show (2 * y + 1) / 2 = y by omega, show (2 * y) / 2 = y by omega, Nat.and_self]
  have h2 : ¬ ((2 * y + 1) &&& (2 * y)) % 2 = 1 := by rw [Nat.and_mod_two_eq_one]; omega
  omega
theorem and_pred_even (y : Nat) (h : 0 < y) : (2 * y) &&& (2 * y - 1) = 2 * (y &&& (y - 1)) := by
  have h1 : ((2 * y) &&& (2 * y - 1)) / 2 = y &&& (y - 1) := by
    rw [Nat.and_div_two, show (2 * y) / 2 = y by omega, show (2 * y - 1) / 2 = y - 1 by omega]
  have h2 : ¬ ((2 * y) &&& (2 * y - 1)) % 2 = 1 := by rw [Nat.and_mod_two_eq_one]; omega
  omega
theorem pop_zero : ∀ f, pop f 0 = 0
  | 0 => rfl
  | f + 1 => by simp [pop, pop_zero f]
theorem pop_and : ∀ f x, x ≠ 0 → x < pw f → pop f (x &&& (x - 1)) + 1 = pop f x
  | 0, x, h, hx => by simp [pw] at hx; omega
  | f + 1, x, h, hx => by
    rw [pw_succ] at hx
    rcases Nat.mod_two_eq_zero_or_one x with hm | hm
    · obtain ⟨y, rfl⟩ : ∃ y, x = 2 * y := ⟨x / 2, by omega⟩
      rw [and_pred_even y (by omega)]
      have ih := pop_and f y (by omega) (by omega)
      simp only [pop]
      rw [show 2 * (y &&& (y - 1)) / 2 = y &&& (y - 1) by omega, show 2 * y / 2 = y by omega]
      omega
    · obtain ⟨y, rfl⟩ : ∃ y, x = 2 * y + 1 := ⟨x / 2, by omega⟩
      rw [show 2 * y + 1 - 1 = 2 * y by omega, and_pred_odd y]
      simp only [pop]
      rw [show 2 * y / 2 = y by omega, show (2 * y + 1) / 2 = y by omega]
      omega
theorem bit_u32 (x k : Nat) (hx : x < 4294967296) : bits .and .u32 ((x : Int) / 2 ^ k) 1 = ((x / pw k % 2 : Nat) : Int) := by
  have h := u32_and_nat (x / pw k) 1 (by have := Nat.div_le_self x (pw k); omega) (by omega)
  rw [div_pow_cast, show (1 : Int) = ((1 : Nat) : Int) from rfl, h, nat_mask1]
theorem pred_u32 (x : Nat) (h0 : 0 < x) (hx : x < 4294967296) : bits .and .u32 (x : Int) ((x : Int) - 1) = ((x &&& (x - 1) : Nat) : Int) := by
  rw [show (x : Int) - 1 = ((x - 1 : Nat) : Int) by omega]
  exact u32_and_nat x (x - 1) hx (by omega)

theorem quo_bounds (x k : Nat) (hx : x < 4294967296) : 0 ≤ (x : Int) / (pw k : Int) ∧ (x : Int) / (pw k : Int) ≤ 4294967295 := by
  rw [← Int.natCast_ediv]
  have := Nat.div_le_self x (pw k)
  generalize x / pw k = q at *
  omega

end Go.Proofs.YtbohigjfdnnomaaGreatDoor
