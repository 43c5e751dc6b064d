/-
  The reference's shifts, do, two, Do and Total.
-/
import Derived.Test.YtbohigjfdnnomaaGreatDoorBitsG
namespace Go.Proofs.YtbohigjfdnnomaaGreatDoor
open Go.RowKit

theorem shl_step (n a j : Nat) : 2 * (a * pw j % pw n) % pw n = a * pw (j + 1) % pw n := by
  rw [Nat.mul_mod_mod, pw_succ, ← Nat.mul_assoc, Nat.mul_comm 2 a, Nat.mul_assoc a 2]
theorem bitwise_none (op : Int) (n a b : Nat) (w : World) (hop : op = 11 ∨ op = 12 ∨ op = 13) (b32 : b < 4294967296) (hb : n ≤ b) :
    Calls Tryz.prog 103 #[.int .i64 op, .int .i64 n, .int .u32 a, .int .u32 b] w fun e w' => e = .returned (.tuple #[.int .u32 0, .bool false]) ∧ w = w' := by
  rcases hop with rfl | rfl | rfl
  all_goals
    go_enter Tryz.func103, Tryz.ntmps103
    go_wp2
    go_ret2
    exact ⟨rfl, rfl⟩
theorem bitwise_11 (n a b : Nat) (w : World) (h2 : n ≤ 32) (ha : a < pw n) (hb : b < n) :
    Calls Tryz.prog 103 #[.int .i64 11, .int .i64 n, .int .u32 a, .int .u32 b] w fun e w' => e = .returned (.tuple #[.int .u32 (wr n ((a : Int) * pw b)), .bool true]) ∧ w = w' := by
  have hp := pw_le h2
  have es := fun W => size_any n W h2
  have hd1 : decide (n ≤ b) = false := by simp; omega
  go_enter Tryz.func103, Tryz.ntmps103
  go_wp2
  go_loop [16, 17] (fun r t => ∃ j S : Nat, j ≤ b ∧ t = .int .i64 (j : Int) ∧ r = .int .i64 (S : Int) ∧ S = a * pw j % pw n ∧ S < pw n) (fun _ t => b - (intOf t).toNat)
  case atStart => exact ⟨0, a, by omega, rfl, rfl, by simp [pw] at *; rw [Nat.mod_eq_of_lt ha], ha⟩
  case round =>
    obtain ⟨j, S, hj, rfl, rfl, hS, hlt⟩ := hrel
    have HS := Lib.hid hS
    clear hS
    by_cases hjb : j < b
    · go_wp2_with (go_at_call 87; refine (es _).mono ?_; rintro e w' ⟨rfl, rfl⟩)
      go_round
      case rel =>
        have e1 := HS.out
        have e2 := shl_step n a j
        rw [← e1] at e2
        have e3 : 2 * S % pw n < pw n := Nat.mod_lt _ (by omega)
        exact ⟨j + 1, 2 * S % pw n, by omega, by go_num, by rw [Int.natCast_emod]; first | rfl | (congr 1), e2, e3⟩
      case measure => simp [intOf]; omega
    · go_wp2
      go_ret2
      have e1 := HS.out
      obtain rfl : j = b := by omega
      have e2 : wr n ((a : Int) * pw j) = a * pw j % pw n := by
        rw [← Int.natCast_mul]
        exact wr_mod
      rw [e2, ← e1]
      exact ⟨rfl, rfl⟩
theorem bitwise_12 (n a b : Nat) (w : World) (h2 : n ≤ 32) (ha : a < pw n) (hb : b < n) :
    Calls Tryz.prog 103 #[.int .i64 12, .int .i64 n, .int .u32 a, .int .u32 b] w fun e w' => e = .returned (.tuple #[.int .u32 (a / pw b : Nat), .bool true]) ∧ w = w' := by
  have hp := pw_le h2
  obtain ⟨q0, q1⟩ := quo_bounds a b (by omega)
  have ec : (a : Int) / (pw b : Int) = ((a / pw b : Nat) : Int) := (Int.natCast_ediv _ _).symm
  have EC := Lib.hid ec
  clear ec
  go_enter Tryz.func103, Tryz.ntmps103
  go_wp2_with (go_at_call 135; refine (down_any (a : Int) b _ (by omega) (by omega)).mono ?_; rintro e w' ⟨rfl, rfl⟩)
  go_ret2
  rw [← EC.out]
  exact ⟨rfl, rfl⟩
theorem bitwise_13 (n a b : Nat) (w : World) (h1 : 1 ≤ n) (h2 : n ≤ 32) (ha : a < pw n) (hb : b < n) :
    Calls Tryz.prog 103 #[.int .i64 13, .int .i64 n, .int .u32 a, .int .u32 b] w fun e w' => e = .returned (.tuple #[.int .u32 (wr n (sgn n a / (pw b : Int))), .bool true]) ∧ w = w' := by
  obtain ⟨s1, s2, s3⟩ := sgn_bounds h1 h2 ha
  go_enter Tryz.func103, Tryz.ntmps103
  go_wp2_with (first
    | (go_at_call 90; refine (refSign_any n a _ h1 h2 ha).mono ?_; rintro e w' ⟨rfl, rfl⟩)
    | (go_at_call 135; refine (down_any (sgn n a) b _ (by omega) (by omega)).mono ?_; rintro e w' ⟨rfl, rfl⟩)
    | (go_at_call 91; refine (refWrap_any n _ _ h2).mono ?_; rintro e w' ⟨rfl, rfl⟩))
  go_ret2
  exact ⟨rfl, rfl⟩
theorem two_ok (op n a b : Nat) (w : World) (o1 : 1 ≤ op) (o2 : op ≤ 13) (h1 : 1 ≤ n) (h2 : n ≤ 32) (ha : a < pw n) (hb : b < pw n) :
    Calls Tryz.prog 92 #[.int .i64 op, .int .i64 n, .int .u32 a, .int .u32 b] w fun e w' => e = .returned (.int .i64 0) ∧ w = w' := by
  go_enter Tryz.func92, Tryz.ntmps92
  go_wp2_with (first
    | (go_at_call 86; refine (refIsWidth_yes _ _ (by omega) (by omega)).mono ?_; rintro e w' ⟨rfl, rfl⟩)
    | (go_at_call 67; ((with_reducible refine (isWord_yes n a _ h1 h2 ha).mono ?_); rintro e w' ⟨rfl, rfl⟩))
    | (go_at_call 67; ((with_reducible refine (isWord_yes n b _ h1 h2 hb).mono ?_); rintro e w' ⟨rfl, rfl⟩)))
  go_ret
  exact ⟨rfl, rfl⟩
def TwoBad (op n : Int) (a b : Nat) : Prop := (op < 1 ∨ 13 < op) ∨ (1 ≤ op ∧ op ≤ 13) ∧ (n < 1 ∨ 32 < n ∨ pw n.toNat ≤ a ∨ pw n.toNat ≤ b)
theorem two_err (op n : Int) (a b : Nat) (w : World) (a32 : a < 4294967296) (b32 : b < 4294967296) (h : TwoBad op n a b) :
    Calls Tryz.prog 92 #[.int .i64 op, .int .i64 n, .int .u32 a, .int .u32 b] w fun e w' => e = .returned (.int .i64 1) ∧ w = w' := by
  by_cases hn : n < 1 ∨ 32 < n
  · clear h
    go_enter Tryz.func92, Tryz.ntmps92
    go_wp2_with (go_at_call 86; refine (refIsWidth_no _ _ hn).mono ?_; rintro e w' ⟨rfl, rfl⟩)
    go_ret
    exact ⟨rfl, rfl⟩
  obtain ⟨m, rfl⟩ : ∃ m : Nat, n = m := ⟨n.toNat, by omega⟩
  have h1 : 1 ≤ m := by omega
  have h2 : m ≤ 32 := by omega
  by_cases ho1 : op < 1
  · clear h hn
    go_enter Tryz.func92, Tryz.ntmps92
    go_wp2_with (go_at_call 86; refine (refIsWidth_yes _ _ (by omega) (by omega)).mono ?_; rintro e w' ⟨rfl, rfl⟩)
    go_ret
    exact ⟨rfl, rfl⟩
  by_cases ho2 : 13 < op
  · clear h hn
    go_enter Tryz.func92, Tryz.ntmps92
    go_wp2_with (go_at_call 86; refine (refIsWidth_yes _ _ (by omega) (by omega)).mono ?_; rintro e w' ⟨rfl, rfl⟩)
    go_ret
    exact ⟨rfl, rfl⟩
  have hab : pw m ≤ a ∨ pw m ≤ b := by
    rcases h with h | ⟨_, h⟩
    · omega
    · rcases h with h | h | h | h
      · omega
      · omega
      · exact .inl (by simpa using h)
      · exact .inr (by simpa using h)
  clear h hn
  by_cases hA : pw m ≤ a
  · have HA := Lib.hid (show (m : Int) < 1 ∨ 32 < (m : Int) ∨ pw (m : Int).toNat ≤ a from .inr (.inr (by simpa using hA)))
    clear hA hab
    go_enter Tryz.func92, Tryz.ntmps92
    go_wp2_with (first
      | (go_at_call 86; refine (refIsWidth_yes _ _ (by omega) (by omega)).mono ?_; rintro e w' ⟨rfl, rfl⟩)
      | (go_at_call 67; refine (isWord_no m a _ a32 HA.out).mono ?_; rintro e w' ⟨rfl, rfl⟩))
    go_ret
    exact ⟨rfl, rfl⟩
  · have ha : a < pw m := by omega
    have hB : pw m ≤ b := by omega
    have HB := Lib.hid (show (m : Int) < 1 ∨ 32 < (m : Int) ∨ pw (m : Int).toNat ≤ b from .inr (.inr (by simpa using hB)))
    clear hB
    clear hA hab
    go_enter Tryz.func92, Tryz.ntmps92
    go_wp2_with (first
      | (go_at_call 86; refine (refIsWidth_yes _ _ (by omega) (by omega)).mono ?_; rintro e w' ⟨rfl, rfl⟩)
      | (go_at_call 67; ((with_reducible refine (isWord_yes m a _ h1 h2 ha).mono ?_); rintro e w' ⟨rfl, rfl⟩))
      | (go_at_call 67; refine (isWord_no m b _ b32 HB.out).mono ?_; rintro e w' ⟨rfl, rfl⟩))
    go_ret
    exact ⟨rfl, rfl⟩
end Go.Proofs.YtbohigjfdnnomaaGreatDoor
