/-
  Plain lemmas for TopWords: signed values of wraps, ones of and/or, zeros of shifted words.
-/
import Derived.Test.YtgnaohhopbhihaaDoorBitsV6
import Derived.Test.YtgnaohhopbhihaaDoorBitsRg
import Derived.Test.YtgnaohhopbhihaaDoorBitsM2
import Derived.Test.YtgnaohhopbhihaaDoorBitsQ2
namespace Go.Proofs.YtgnaohhopbhihaaDoor
open Go.RowKit

theorem sgn_wr {n : Nat} {y : Int} (h1 : 1 ≤ n) (l : -(pw (n - 1) : Int) ≤ y) (u : y < (pw (n - 1) : Int)) : sgn n (wr n y) = y := by
  have hh := pw_half h1
  have hp : 0 < pw (n - 1) := Nat.two_pow_pos _
  by_cases hy : 0 ≤ y
  · obtain ⟨k, rfl⟩ : ∃ k : Nat, y = k := ⟨y.toNat, by omega⟩
    rw [wr_of_lt (by omega)]
    exact sgn_lo (by omega)
  · have e : wr n y = (y + pw n).toNat := by
      have h : ((y + pw n).toNat : Int) = y + pw n := by omega
      have h2 : wr n ((y + pw n).toNat : Int) = (y + pw n).toNat := wr_of_lt (by omega)
      rw [← h2, h]
      apply wr_congr
      rw [Int.add_emod_right]
    rw [e, sgn_hi (by omega)]
    omega
theorem wr_sadd (n a b : Nat) : wr n ((a : Int) + b) = wr n (sgn n a + sgn n b) := by
  apply wr_congr
  rw [Int.add_emod, ← sgn_mod n a, ← sgn_mod n b, ← Int.add_emod]
theorem wr_ssub (n a b : Nat) : wr n ((a : Int) - b) = wr n (sgn n a - sgn n b) := by
  apply wr_congr
  rw [Int.sub_emod, ← sgn_mod n a, ← sgn_mod n b, ← Int.sub_emod]
theorem sgn_wr_hi {n : Nat} {y : Int} (h1 : 1 ≤ n) (l : (pw (n - 1) : Int) ≤ y) (u : y < (pw n : Int)) : sgn n (wr n y) = y - pw n := by
  have hh := pw_half h1
  have e : wr n y = wr n (y - pw n) := by
    apply wr_congr
    rw [Int.sub_emod_right]
  rw [e, sgn_wr h1 (by omega) (by omega)]
theorem sgn_wr_lo {n : Nat} {y : Int} (h1 : 1 ≤ n) (l : -(pw n : Int) ≤ y) (u : y < -(pw (n - 1) : Int)) : sgn n (wr n y) = y + pw n := by
  have hh := pw_half h1
  have e : wr n y = wr n (y + pw n) := by
    apply wr_congr
    rw [Int.add_emod_right]
  rw [e, sgn_wr h1 (by omega) (by omega)]
theorem pop_and_or : ∀ f a b, pop f (a &&& b) + pop f (a ||| b) = pop f a + pop f b
  | 0, _, _ => rfl
  | f + 1, a, b => by
    have ih := pop_and_or f (a / 2) (b / 2)
    have d1 : (a &&& b) / 2 = (a / 2) &&& (b / 2) := Nat.and_div_two
    have d2 : (a ||| b) / 2 = (a / 2) ||| (b / 2) := Nat.or_div_two
    have m1 : (a &&& b) % 2 = (a % 2) * (b % 2) := bw_low 8 a b (by omega)
    have m2 : (a ||| b) % 2 = max (a % 2) (b % 2) := bw_low 9 a b (by omega)
    simp only [pop]
    rw [d1, d2, m1, m2]
    rcases Nat.mod_two_eq_zero_or_one a with ha | ha <;> rcases Nat.mod_two_eq_zero_or_one b with hb | hb <;> rw [ha, hb] <;> omega
theorem tzF_ge (x m : Nat) (h : ∀ j, j < m → x / pw j % 2 = 0) : ∀ f k, k + f ≥ m → k ≤ m → m ≤ tzF x f k
  | 0, k, h1, h2 => by simp only [tzF]; omega
  | f + 1, k, h1, h2 => by
    simp only [tzF]
    by_cases hk : k < m
    · rw [if_pos (h k hk)]
      exact tzF_ge x m h f (k + 1) (by omega) (by omega)
    · split
      · have hm : m ≤ k + 1 := by omega
        have : k + 1 ≤ tzF x f (k + 1) := tzF_from x f (k + 1)
        omega
      · omega
where tzF_from (x : Nat) : ∀ f k, k ≤ tzF x f k
  | 0, k => Nat.le_refl _
  | f + 1, k => by
    simp only [tzF]
    split
    · have := tzF_from x f (k + 1)
      omega
    · omega
theorem shl_zeros (n a m : Nat) (hm : m < n) : m ≤ tzF (wr n ((a : Int) * pw m)) n 0 := by
  have e : wr n ((a : Int) * pw m) = a * pw m % pw n := by
    rw [← Int.natCast_mul]
    exact wr_mod
  rw [e]
  obtain ⟨d, hd⟩ := pw_dvd (Nat.le_of_lt hm)
  have e2 : a * pw m % pw n = pw m * (a % d) := by
    rw [hd, Nat.mul_comm a, Nat.mul_mod_mul_left]
  rw [e2]
  apply tzF_ge _ m _ n 0 (by omega) (by omega)
  intro j hj
  obtain ⟨c, hc⟩ : ∃ c, pw m = pw j * (2 * c) := by
    refine ⟨pw (m - j - 1), ?_⟩
    rw [← pw_succ, ← pw_add]
    congr 1; omega
  have hpos : 0 < pw j := Nat.two_pow_pos _
  rw [hc, Nat.mul_assoc, Nat.mul_div_cancel_left _ hpos, Nat.mul_assoc]
  exact Nat.mul_mod_right _ _
theorem xor_zero_iff (a b : Nat) : a ^^^ b = 0 ↔ a = b := by
  constructor
  · intro h
    have : (a ^^^ b) ^^^ b = a := by rw [Nat.xor_assoc, Nat.xor_self, Nat.xor_zero]
    rw [h, Nat.zero_xor] at this
    exact this.symm
  · rintro rfl
    exact Nat.xor_self a
theorem by_lt_pw (m n : Nat) (h : m < n) : m < pw n := Nat.lt_trans h Nat.lt_two_pow_self
end Go.Proofs.YtgnaohhopbhihaaDoor
