/-
  The tables of the program lie as its text lays them; parts of words.
-/
import Derived.Test.YthkaclmnbahieaaDoorRvM
import Derived.Test.YthkaclmnbahieaaDoorProg
import Derived.WalkKit
import Derived.IntWalk
import Derived.ProofKit
import Derived.Laws.Rows
import Derived.Laws.AppendOwn
import Derived.Laws.OwnMore
import Derived.WalkLawsBesides
import Derived.WalkSpells
import Derived.Outline
import Derived.OwnWalk
import Derived.OneCell
import Derived.Lib.Hide
import Derived.Deep.QuietTactic
import Derived.BigQuiet
import Derived.StillTailTactics
import Derived.Below
import Derived.Lib.QuietBelow
import Derived.Laws.Tables
import Derived.Deep.Cut
import Derived.Deep.RegionHeld3
import Derived.Great.BuildSlice
namespace Go.Proofs.YthkaclmnbahieaaDoor
open Go.RowKit

theorem ret_of {v v' : Value} (h : v = v') : Ending.returned v = .returned v' := by rw [h]
theorem ret_b {a b : Bool} (h : a = b) : Ending.returned (.bool a) = .returned (.bool b) := by rw [h]
theorem ret_i {k : IntKind} {a b : Int} (h : a = b) : Ending.returned (.int k a) = .returned (.int k b) := by rw [h]
theorem u32_mask (n : Int) (k : Nat) (hk : k ≤ 32) : bits .and .u32 n ((2 ^ k - 1 : Nat) : Int) = n % ((2 ^ k : Nat) : Int) := by
  have hp : 2 ^ k ≤ 2 ^ 32 := Nat.pow_le_pow_right (by omega) hk
  have hp0 : 0 < 2 ^ k := Nat.pow_pos (by omega)
  have hm : (BitVec.ofInt 32 ((2 ^ k - 1 : Nat) : Int)).toNat = 2 ^ k - 1 := by
    rw [BitVec.toNat_ofInt]
    omega
  have key : (BitVec.ofInt 32 n &&& BitVec.ofInt 32 ((2 ^ k - 1 : Nat) : Int)).toNat = (n % ((2 ^ 32 : Nat) : Int)).toNat % 2 ^ k := by
    rw [BitVec.toNat_and, BitVec.toNat_ofInt, hm, Nat.and_two_pow_sub_one_eq_mod]
  show IntKind.u32.wrap ((BitVec.ofInt 32 n &&& BitVec.ofInt 32 ((2 ^ k - 1 : Nat) : Int)).toNat : Nat) = _
  rw [key]
  have h2 : ((n % ((2 ^ 32 : Nat) : Int)).toNat % 2 ^ k : Nat) < 2 ^ k := Nat.mod_lt _ hp0
  have h3 : (((n % ((2 ^ 32 : Nat) : Int)).toNat % 2 ^ k : Nat) : Int) = n % ((2 ^ k : Nat) : Int) := by
    rw [Int.natCast_emod, Int.toNat_of_nonneg (Int.emod_nonneg _ (by decide)), Int.emod_emod_of_dvd]
    exact Int.natCast_dvd_natCast.2 (Nat.pow_dvd_pow 2 (by omega))
  rw [← h3]
  have : ∀ x : Int, 0 ≤ x → x < 4294967296 → IntKind.u32.wrap x = x := fun x h0 h1 => by
    show x % 4294967296 = x
    omega
  exact this _ (by omega) (by omega)
theorem u32_or (a b : Nat) (ha : a < 4294967296) (hb : b < 4294967296) : bits .or .u32 (a : Int) (b : Int) = ((a ||| b : Nat) : Int) := by
  have hx : a ||| b < 2 ^ 32 := Nat.or_lt_two_pow (by omega) (by omega)
  show IntKind.u32.wrap ((BitVec.ofInt 32 (a : Int) ||| BitVec.ofInt 32 (b : Int)).toNat : Int) = _
  rw [BitVec.toNat_or, BitVec.toNat_ofInt, BitVec.toNat_ofInt]
  rw [show ((a : Int) % ((2 ^ 32 : Nat) : Int)).toNat = a by omega, show ((b : Int) % ((2 ^ 32 : Nat) : Int)).toNat = b by omega]
  show ((a ||| b : Nat) : Int) % 4294967296 = _
  omega
theorem part_val (n lo hi to : Nat) (_ : lo ≤ hi) (_ : hi ≤ 31) (h4 : hi - lo ≤ 30) (hp : part n lo hi to < 4294967296) : bits BinOp.and IntKind.u32 (↑n / 2 ^ lo) ((2 ^ (hi - lo + 1) - 1) % 4294967296) * 2 ^ to % 4294967296 = ((part n lo hi to : Nat) : Int) := by
  have hm : 2 ^ (hi - lo + 1) ≤ 2 ^ 31 := Nat.pow_le_pow_right (by omega) (by omega)
  have hm0 : 0 < 2 ^ (hi - lo + 1) := Nat.pow_pos (by omega)
  have e1 : ((2 : Int) ^ (hi - lo + 1) - 1) % 4294967296 = ((2 ^ (hi - lo + 1) - 1 : Nat) : Int) := by
    have e : ((2 : Int) ^ (hi - lo + 1)) = ((2 ^ (hi - lo + 1) : Nat) : Int) := by simp
    rw [e]
    omega
  rw [e1, u32_mask _ _ (by omega)]
  have e2 : ((n : Int) / 2 ^ lo % ((2 ^ (hi - lo + 1) : Nat) : Int)) * 2 ^ to = ((part n lo hi to : Nat) : Int) := by
    unfold part
    simp
  rw [e2]
  omega
theorem part_any (n lo hi to : Nat) (w : World) (_ : n < 4294967296) (h1 : lo ≤ hi) (h2 : hi ≤ 31) (h3 : to ≤ 31) (h4 : hi - lo ≤ 30) (hp : part n lo hi to < 4294967296) :
    Calls Tryd.prog 61 #[.int .u32 n, .int .i64 lo, .int .i64 hi, .int .i64 to] w fun e w' => e = .returned (.int .u32 (part n lo hi to : Nat)) ∧ w' = w.drew := by
  have E := Lib.hid (part_val n lo hi to h1 h2 h4 hp)
  clear hp
  go_enter Tryd.func61, Tryd.ntmps61
  go_wp2_with fail
  go_region
  go_wp2
  go_ret
  exact ⟨ret_i E.out, rfl⟩
theorem refBits_any (n lo hi to : Nat) (w : World) (_ : n < 4294967296) (h1 : lo ≤ hi) (h2 : hi ≤ 31) (h3 : to ≤ 31) (h4 : hi - lo ≤ 30) (hp : part n lo hi to < 4294967296) :
    Calls Tryd.prog 46 #[.int .u32 n, .int .i64 lo, .int .i64 hi, .int .i64 to] w fun e w' => e = .returned (.int .u32 (part n lo hi to : Nat)) ∧ w' = w := by
  have E := Lib.hid (part_val n lo hi to h1 h2 h4 hp)
  clear hp
  go_enter Tryd.func46, Tryd.ntmps46
  go_wp2
  go_ret
  exact ⟨ret_i E.out, rfl⟩
theorem isRegister_any (x : Int) (has : Bool) (w : World) : Calls Tryd.prog 37 #[.int .i64 x, .bool has] w fun e w' => e = .returned (.bool (decide (regF has x))) ∧ w' = w := by
  by_cases e0 : x = 0
  · subst e0
    go_enter Tryd.func37, Tryd.ntmps37
    go_wp2
    go_ret
    exact ⟨ret_b (by simp [regF]), rfl⟩
  · cases has
    · go_enter Tryd.func37, Tryd.ntmps37
      go_wp2
      go_ret
      exact ⟨ret_b (by simp [regF, e0]), rfl⟩
    · by_cases e1 : 0 < x
      · go_enter Tryd.func37, Tryd.ntmps37
        go_wp2
        go_ret
        exact ⟨ret_b (by simp [regF, e0, e1]), rfl⟩
      · go_enter Tryd.func37, Tryd.ntmps37
        go_wp2
        go_ret
        exact ⟨ret_b (by have e2 : ¬ 0 < x := by omega
                         simp [regF, e0, e2]), rfl⟩
theorem within_any (n lo hi : Int) (w : World) : Calls Tryd.prog 38 #[.int .i64 n, .int .i64 lo, .int .i64 hi] w fun e w' => e = .returned (.bool (decide (lo ≤ n ∧ n ≤ hi))) ∧ w' = w := by
  by_cases e1 : lo ≤ n
  · go_enter Tryd.func38, Tryd.ntmps38
    go_wp2
    go_ret
    exact ⟨ret_b (by simp [e1]), rfl⟩
  · go_enter Tryd.func38, Tryd.ntmps38
    go_wp2
    go_ret
    exact ⟨ret_b (by simp; omega), rfl⟩
theorem refIsRegister_any (x : Int) (has : Bool) (w : World) : Calls Tryd.prog 41 #[.bool has, .int .i64 x] w fun e w' => e = .returned (.bool (decide (regF has x))) ∧ w' = w := by
  cases has
  · go_enter Tryd.func41, Tryd.ntmps41
    go_wp2
    go_ret
    exact ⟨ret_b (by simp [regF]; rfl), rfl⟩
  · have H := Lib.hid (within_any x 0 31 w)
    by_cases e0 : 0 ≤ x ∧ x ≤ 31
    · have e1 : decide (0 ≤ x ∧ x ≤ 31) = true := decide_eq_true e0
      have e2 : regF true x := by unfold regF; simp; omega
      rw [e1] at H
      clear e1 e0
      go_enter Tryd.func41, Tryd.ntmps41
      go_wp2_with (with_reducible refine H.out.mono ?_; rintro e w' ⟨rfl, rfl⟩)
      go_ret
      exact ⟨ret_b (decide_eq_true e2).symm, rfl⟩
    · have e1 : decide (0 ≤ x ∧ x ≤ 31) = false := decide_eq_false e0
      have e2 : ¬ regF true x := by unfold regF; simp; omega
      have e3 : ¬ x = 0 := by omega
      rw [e1] at H
      clear e1 e0
      go_enter Tryd.func41, Tryd.ntmps41
      go_wp2_with (with_reducible refine H.out.mono ?_; rintro e w' ⟨rfl, rfl⟩)
      go_ret
      exact ⟨ret_b (by rw [decide_eq_false e2]; simp [e3]), rfl⟩
end Go.Proofs.YthkaclmnbahieaaDoor
