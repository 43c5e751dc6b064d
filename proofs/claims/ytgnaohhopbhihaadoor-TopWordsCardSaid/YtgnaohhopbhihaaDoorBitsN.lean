/-
  Trailing and Ones of both packages, and the walk of BitsCounts.
-/
import Derived.Test.YtgnaohhopbhihaaDoorBitsW
namespace Go.Proofs.YtgnaohhopbhihaaDoor
open Go.RowKit

/-- Zeros at the end, from bit k on, at most f more. -/
def tzF (x : Nat) : Nat → Nat → Nat
  | 0, k => k
  | f + 1, k => if x / pw k % 2 = 0 then tzF x f (k + 1) else k
/-- The ones among the lowest f bits. -/
def pop : Nat → Nat → Nat
  | 0, _ => 0
  | f + 1, x => x % 2 + pop f (x / 2)
/-- The same, bit by bit. -/
def sumF (x : Nat) : Nat → Nat
  | 0 => 0
  | k + 1 => sumF x k + x / pw k % 2
theorem pw_succ (k : Nat) : pw (k + 1) = 2 * pw k := by unfold pw; rw [Nat.pow_succ]; omega
theorem sumF_step (x : Nat) : ∀ k, sumF x (k + 1) = x % 2 + sumF (x / 2) k
  | 0 => by simp [sumF, pw]
  | k + 1 => by
    have ih := sumF_step x k
    rw [show sumF x (k + 1 + 1) = sumF x (k + 1) + x / pw (k + 1) % 2 from rfl, ih, show sumF (x / 2) (k + 1) = sumF (x / 2) k + x / 2 / pw k % 2 from rfl, pw_succ, Nat.div_div_eq_div_mul]
    omega
theorem pop_sum : ∀ f x, pop f x = sumF x f
  | 0, _ => rfl
  | f + 1, x => by rw [sumF_step, ← pop_sum f]; rfl
theorem sumF_stop (x n : Nat) (hx : x < pw n) : ∀ k, sumF x (n + k) = sumF x n
  | 0 => rfl
  | k + 1 => by
    have : x / pw (n + k) = 0 := Nat.div_eq_of_lt (Nat.lt_of_lt_of_le hx (Nat.pow_le_pow_right (by omega) (by omega)))
    rw [show n + (k + 1) = n + k + 1 by omega, show sumF x (n + k + 1) = sumF x (n + k) + x / pw (n + k) % 2 from rfl, sumF_stop x n hx k, this]
    rfl
theorem sumF_pop (x n : Nat) (h : n ≤ 32) (hx : x < pw n) : sumF x n = pop 32 x := by
  rw [pop_sum, ← sumF_stop x n hx (32 - n)]
  congr 1; omega
theorem and_pred_odd (y : Nat) : (2 * y + 1) &&& (2 * y) = 2 * y := by
  have h1 : ((2 * y + 1) &&& (2 * y)) / 2 = y := by
    rw [Nat.and_div_two, show (2 * y + 1) / 2 = y by omega, show (2 * y) / 2 = y by omega, Nat.and_self]
  have h2 : ¬ ((2 * y + 1) &&& (2 * y)) % 2 = 1 := by rw [Nat.and_mod_two_eq_one]; omega
  omega
theorem and_pred_even (y : Nat) (h : 0 < y) : (2 * y) &&& (2 * y - 1) = 2 * (y &&& (y - 1)) := by
  have h1 : ((2 * y) &&& (2 * y - 1)) / 2 = y &&& (y - 1) := by
    rw [Nat.and_div_two, show (2 * y) / 2 = y by omega, show (2 * y - 1) / 2 = y - 1 by omega]
  have h2 : ¬ ((2 * y) &&& (2 * y - 1)) % 2 = 1 := by rw [Nat.and_mod_two_eq_one]; omega
  omega
theorem pop_zero : ∀ f, pop f 0 = 0
  | 0 => rfl
  | f + 1 => by simp [pop, pop_zero f]
theorem pop_and : ∀ f x, x ≠ 0 → x < pw f → pop f (x &&& (x - 1)) + 1 = pop f x
  | 0, x, h, hx => by simp [pw] at hx; omega
  | f + 1, x, h, hx => by
    rw [pw_succ] at hx
    rcases Nat.mod_two_eq_zero_or_one x with hm | hm
    · obtain ⟨y, rfl⟩ : ∃ y, x = 2 * y := ⟨x / 2, by omega⟩
      rw [and_pred_even y (by omega)]
      have ih := pop_and f y (by omega) (by omega)
      simp only [pop]
      rw [show 2 * (y &&& (y - 1)) / 2 = y &&& (y - 1) by omega, show 2 * y / 2 = y by omega]
      omega
    · obtain ⟨y, rfl⟩ : ∃ y, x = 2 * y + 1 := ⟨x / 2, by omega⟩
      rw [show 2 * y + 1 - 1 = 2 * y by omega, and_pred_odd y]
      simp only [pop]
      rw [show 2 * y / 2 = y by omega, show (2 * y + 1) / 2 = y by omega]
      omega
theorem bit_u32 (x k : Nat) (hx : x < 4294967296) : bits .and .u32 ((x : Int) / 2 ^ k) 1 = ((x / pw k % 2 : Nat) : Int) := by
  have h := u32_and_nat (x / pw k) 1 (by have := Nat.div_le_self x (pw k); omega) (by omega)
  rw [div_pow_cast, show (1 : Int) = ((1 : Nat) : Int) from rfl, h, nat_mask1]
theorem pred_u32 (x : Nat) (h0 : 0 < x) (hx : x < 4294967296) : bits .and .u32 (x : Int) ((x : Int) - 1) = ((x &&& (x - 1) : Nat) : Int) := by
  rw [show (x : Int) - 1 = ((x - 1 : Nat) : Int) by omega]
  exact u32_and_nat x (x - 1) hx (by omega)

theorem quo_bounds (x k : Nat) (hx : x < 4294967296) : 0 ≤ (x : Int) / (pw k : Int) ∧ (x : Int) / (pw k : Int) ≤ 4294967295 := by
  rw [← Int.natCast_ediv]
  have := Nat.div_le_self x (pw k)
  generalize x / pw k = q at *
  omega

theorem trailing_ok (n x : Nat) (w : World) (hM : Masks w) (h1 : 1 ≤ n) (h2 : n ≤ 32) (hx : x < pw n) :
    Calls Tryd.prog 20 #[.int .i64 n, .int .u32 x] w fun e w' => e = .returned (.tuple #[.int .i64 (tzF x n 0), .int .i64 0]) ∧ w = w' := by
  have hp := pw_le h2
  go_enter Tryd.func20, Tryd.ntmps20
  go_wp2_with (go_at_call 52; refine (areWords0_yes n x _ hM h1 h2 hx).mono ?_; rintro e w' ⟨rfl, rfl⟩)
  go_loop [6] (fun z => ∃ k : Nat, k ≤ n ∧ z = .int .i64 (k : Int) ∧ tzF x (n - k) k = tzF x n 0) (fun z => n - (intOf z).toNat)
  case atStart => exact ⟨0, by omega, rfl, rfl⟩
  case round =>
    obtain ⟨k, hk, rfl, hr⟩ := hrel
    have R := Lib.hid hr
    clear hr
    have e1 := bit_u32 x k (by omega)
    by_cases hlt : k < n
    · rcases Nat.mod_two_eq_zero_or_one (x / pw k) with hb | hb
      · go_wp2
        go_round
        case rel =>
          refine ⟨k + 1, by omega, by go_num, ?_⟩
          have := R.out
          rw [show n - k = (n - (k + 1)) + 1 by omega, tzF, if_pos hb] at this
          exact this
        case measure => simp [intOf]; omega
      · go_wp2
        go_ret2
        have := R.out
        rw [show n - k = (n - (k + 1)) + 1 by omega, tzF, if_neg (by omega)] at this
        rw [← this]
        exact ⟨rfl, rfl⟩
    · go_wp2
      go_ret2
      have := R.out
      rw [show n - k = 0 by omega, tzF] at this
      rw [← this]
      exact ⟨rfl, rfl⟩
theorem ones_ok (n x : Nat) (w : World) (hM : Masks w) (h1 : 1 ≤ n) (h2 : n ≤ 32) (hx : x < pw n) :
    Calls Tryd.prog 21 #[.int .i64 n, .int .u32 x] w fun e w' => e = .returned (.tuple #[.int .i64 (pop 32 x), .int .i64 0]) ∧ w = w' := by
  have hp := pw_le h2
  go_enter Tryd.func21, Tryd.ntmps21
  go_wp2_with (go_at_call 52; refine (areWords0_yes n x _ hM h1 h2 hx).mono ?_; rintro e w' ⟨rfl, rfl⟩)
  go_loop [1, 6] (fun y z => ∃ a k : Nat, y = .int .u32 (a : Int) ∧ z = .int .i64 (k : Int) ∧ k + a ≤ x ∧ k + pop 32 a = pop 32 x) (fun y _ => (intOf y).toNat)
  case atStart => exact ⟨x, 0, rfl, rfl, by omega, by omega⟩
  case round =>
    obtain ⟨a, k, rfl, rfl, hle, hr⟩ := hrel
    obtain ⟨pa, hpa⟩ : ∃ pa, pa = pop 32 a := ⟨_, rfl⟩
    obtain ⟨px, hpx⟩ : ∃ px, px = pop 32 x := ⟨_, rfl⟩
    rw [← hpa, ← hpx] at hr
    by_cases h0 : a = 0
    · subst h0
      rw [pop_zero] at hpa
      have e : k = px := by omega
      rw [hpx] at e
      have R := Lib.hid e
      clear e hpa hpx hr
      go_wp2
      go_ret2
      rw [R.out]
      exact ⟨rfl, rfl⟩
    · have e1 := pred_u32 a (by omega) (by omega)
      have hand := pop_and 32 a h0 (show a < pw 32 by show a < 4294967296; omega)
      have hle2 : a &&& (a - 1) ≤ a - 1 := Nat.and_le_right
      generalize a &&& (a - 1) = b at e1 hand hle2
      rw [← hpa] at hand
      obtain ⟨pb, hpb⟩ : ∃ pb, pb = pop 32 b := ⟨_, rfl⟩
      rw [← hpb] at hand
      have A := Lib.hid (show k + 1 + pb = px by omega)
      have X := Lib.hid hpx
      have B := Lib.hid hpb
      have E := Lib.hid e1
      clear hand e1 hr hpa hpx hpb
      go_wp2
      go_round
      case rel =>
        have e1 := A.out
        rw [X.out, B.out] at e1
        exact ⟨b, k + 1, by rw [E.out], by go_num, by omega, e1⟩
      case measure =>
        have := E.out
        simp [intOf, this]; omega
theorem trailing_err (n : Int) (x : Nat) (w : World) (hM : Masks w) (h : n < 1 ∨ 32 < n ∨ pw n.toNat ≤ x) : Calls Tryd.prog 20 #[.int .i64 n, .int .u32 x] w fun e w' => e = .returned (.tuple #[.int .i64 0, .int .i64 1]) ∧ w = w' := by
  go_enter Tryd.func20, Tryd.ntmps20
  go_wp2_with (go_at_call 52; refine (areWords0_no n x _ hM h).mono ?_; rintro e w' ⟨rfl, rfl⟩)
  go_ret2
  exact ⟨rfl, rfl⟩
theorem ones_err (n : Int) (x : Nat) (w : World) (hM : Masks w) (h : n < 1 ∨ 32 < n ∨ pw n.toNat ≤ x) : Calls Tryd.prog 21 #[.int .i64 n, .int .u32 x] w fun e w' => e = .returned (.tuple #[.int .i64 0, .int .i64 1]) ∧ w = w' := by
  go_enter Tryd.func21, Tryd.ntmps21
  go_wp2_with (go_at_call 52; refine (areWords0_no n x _ hM h).mono ?_; rintro e w' ⟨rfl, rfl⟩)
  go_ret2
  exact ⟨rfl, rfl⟩
end Go.Proofs.YtgnaohhopbhihaaDoor
