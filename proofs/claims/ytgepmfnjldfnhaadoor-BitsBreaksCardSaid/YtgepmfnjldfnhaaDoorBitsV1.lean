/-
  Breaks of the reference; Breaks of package bits at whatever operation; the walk of BitsBreaks.
-/
import Derived.Test.YtgepmfnjldfnhaaDoorBitsV
namespace Go.Proofs.YtgepmfnjldfnhaaDoor
open Go.RowKit

theorem rflag1 {f : Nat} (h : f < 8) : ((f : Int) % 2 == 1) = fB 1 f := by
  rcases flag_cases h with rfl | rfl | rfl | rfl | rfl | rfl | rfl | rfl <;> rfl
theorem rflag2 {f : Nat} (h : f < 8) : ((f : Int) / 2 % 2 == 1) = fB 2 f := by
  rcases flag_cases h with rfl | rfl | rfl | rfl | rfl | rfl | rfl | rfl <;> rfl
theorem rflag4 {f : Nat} (h : f < 8) : ((f : Int) / 4 % 2 == 1) = fB 4 f := by
  rcases flag_cases h with rfl | rfl | rfl | rfl | rfl | rfl | rfl | rfl <;> rfl
theorem beyond_any (a b l : Nat) (w : World) (a32 : a < 4294967296) (l32 : l < 4294967296) :
    Calls Tryd.prog 53 #[.int .i64 a, .int .i64 b, .int .i64 l] w fun e w' => e = .returned (.bool (decide (l < a * b))) ∧ w = w' := by
  by_cases h0 : a = 0
  · subst h0
    have E := Lib.hid (show decide (l < 0 * b) = false by simp)
    rw [E.out]
    go_enter Tryd.func53, Tryd.ntmps53
    go_wp2
    go_ret
    exact ⟨rfl, rfl⟩
  · have ec : (l : Int) / (a : Int) = ((l / a : Nat) : Int) := (Int.natCast_ediv _ _).symm
    have hq := Nat.div_le_self l a
    have hiff : l < a * b ↔ l / a < b := by rw [Nat.mul_comm]; exact (Nat.div_lt_iff_lt_mul (by omega)).symm
    have E := Lib.hid (show decide (l < a * b) = decide (l / a < b) by rw [Bool.eq_iff_iff]; simpa using hiff)
    rw [E.out]
    have ha1 : 1 ≤ a := by omega
    clear hiff
    generalize l / a = q at *
    go_enter Tryd.func53, Tryd.ntmps53
    go_wp2
    go_ret
    first | exact ⟨rfl, rfl⟩ | exact ⟨ret_b (by simp [h0]), rfl⟩
end Go.Proofs.YtgepmfnjldfnhaaDoor
