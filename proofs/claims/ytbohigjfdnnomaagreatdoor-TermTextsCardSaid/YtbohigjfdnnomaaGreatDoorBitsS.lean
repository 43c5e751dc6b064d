/-
  Do and Total of both packages at whatever operation; the walks of BitsDoes and BitsTotals.
-/
import Derived.Test.YtbohigjfdnnomaaGreatDoorBitsR
namespace Go.Proofs.YtbohigjfdnnomaaGreatDoor
open Go.RowKit

section
variable (n a b : Nat) (w : World) (hM : Masks w) (h1 : 1 ≤ n) (h2 : n ≤ 32) (ha : a < pw n) (hb : b < pw n) (op : Nat) (o1 : 1 ≤ op) (o2 : op ≤ 13)
include hM h1 h2 ha hb o1 o2
theorem bitsTotal_some (hh : hasF op n a b = true) : Calls Tryz.prog 75 #[.int .i64 op, .int .i64 n, .int .u32 a, .int .u32 b] w fun e w' => e = .returned (.tuple #[.int .u32 (doF op n a b), .int .i64 0]) ∧ Below w.heap.size w w' := by
  obtain ⟨hf, df, lf, bf, R⟩ := rowOk n a b h1 h2 ha hb op o1 o2
  have hhas := R.has
  rw [hh] at hhas
  exact total_yes op n a b hf df lf bf _ w hM h1 h2 ha hb (by omega) (by omega) R.row R.eh R.ed hhas (R.make hh)
theorem bitsTotal_none (hh : hasF op n a b = false) : Calls Tryz.prog 75 #[.int .i64 op, .int .i64 n, .int .u32 a, .int .u32 b] w fun e w' => e = .returned (.tuple #[.int .u32 (lackF op n a b), .int .i64 0]) ∧ Below w.heap.size w w' := by
  obtain ⟨hf, df, lf, bf, R⟩ := rowOk n a b h1 h2 ha hb op o1 o2
  have hhas := R.has
  rw [hh] at hhas
  exact total_none op n a b hf df lf bf _ w hM h1 h2 ha hb (by omega) (by omega) R.row R.eh R.el hhas (R.lack hh)
end
section
variable (n a b : Nat) (w : World) (h1 : 1 ≤ n) (h2 : n ≤ 32) (ha : a < pw n) (hb : b < pw n) (op : Nat) (o1 : 1 ≤ op) (o2 : op ≤ 13)
include h1 h2 ha hb o1 o2
theorem refTotal_some (hh : hasF op n a b = true) : Calls Tryz.prog 71 #[.int .i64 op, .int .i64 n, .int .u32 a, .int .u32 b] w fun e w' => e = .returned (.tuple #[.int .u32 (doF op n a b), .int .i64 0]) ∧ Below w.heap.size w w' := by
  have HH := Lib.hid hh
  clear hh
  go_enter Tryz.func71, Tryz.ntmps71
  go_wp2_with (first
    | (go_at_call 92; refine (two_ok op n a b _ o1 o2 h1 h2 ha hb).mono ?_; rintro e w' ⟨rfl, rfl⟩)
    | (go_at_call 93; refine (refdo_some n a b h1 h2 ha hb _ op o1 o2 HH.out).mono ?_; rintro e w' ⟨rfl, m, rfl⟩))
  go_ret2
  exact ⟨rfl, below_drewN (Below.refl _ _) _⟩
set_option maxHeartbeats 2000000 in
theorem refTotal_none (hh : hasF op n a b = false) : Calls Tryz.prog 71 #[.int .i64 op, .int .i64 n, .int .u32 a, .int .u32 b] w fun e w' => e = .returned (.tuple #[.int .u32 (lackF op n a b), .int .i64 0]) ∧ Below w.heap.size w w' := by
  have hp := pw_le h2
  have hcast : ((pw n : Int) - 1) % 4294967296 = ((pw n - 1 : Nat) : Int) := by omega
  have HH := Lib.hid hh
  have HC := Lib.hid hcast
  have hops : op = 4 ∨ op = 5 ∨ op = 6 ∨ op = 7 ∨ op = 11 ∨ op = 12 ∨ op = 13 := by
    rcases op_cases o1 o2 with rfl | rfl | rfl | rfl | rfl | rfl | rfl | rfl | rfl | rfl | rfl | rfl | rfl <;> first | omega | (simp [hasF] at hh)
  clear hh hcast
  have hzc : ((b : Int) == 0) = true ∧ b = 0 ∨ ((b : Int) == 0) = false ∧ ¬ b = 0 := by
    by_cases hz : b = 0
    · exact .inl ⟨by simpa using hz, hz⟩
    · exact .inr ⟨by simpa using hz, hz⟩
  rcases hops with rfl | rfl | rfl | rfl | rfl | rfl | rfl
  all_goals
    by_cases hs : sgn n a < 0
    all_goals
      have S := Lib.hid hs
      rcases hzc with ⟨hz', hz⟩ | ⟨hz', hz⟩
      all_goals
        have HZ := Lib.hid hz
        clear hz
        go_enter Tryz.func71, Tryz.ntmps71
        go_wp2_with (first
          | (go_at_call 92; refine (two_ok _ n a b _ o1 o2 h1 h2 ha hb).mono ?_; rintro e w' ⟨rfl, rfl⟩)
          | (go_at_call 93; refine (refdo_none n a b h1 h2 ha hb _ _ o1 o2 HH.out).mono ?_; rintro e w' ⟨rfl, m, rfl⟩)
          | (go_at_call 87; refine (size_any n _ h2).mono ?_; rintro e w' ⟨rfl, rfl⟩)
          | (go_at_call 90; refine (refSign_any n a _ h1 h2 ha).mono ?_; rintro e w' ⟨rfl, rfl⟩))
        go_ret2
        have hz := HZ.out
        have hs2 := S.out
        refine ⟨?_, below_drewN (Below.refl _ _) _⟩
        first | (simp [lackF, hz, hs2]; done) | (have hs3 := eq_false (show ¬ sgn n a < 0 by omega); simp [lackF, hz, hs3]; done) | (have hc := HC.out; simp [lackF, hz, hs2]; omega) | (have hs3 := eq_false (show ¬ sgn n a < 0 by omega); simp [lackF, hz, hs3]; omega)
end
theorem two_split (op n : Int) (a b : Nat) (h : ¬ TwoBad op n a b) : ∃ p m : Nat, op = p ∧ n = m ∧ 1 ≤ p ∧ p ≤ 13 ∧ 1 ≤ m ∧ m ≤ 32 ∧ a < pw m ∧ b < pw m := by
  unfold TwoBad at h
  have ho : ¬ (op < 1 ∨ 13 < op) := fun e => h (.inl e)
  have hn : ¬ (n < 1 ∨ 32 < n ∨ pw n.toNat ≤ a ∨ pw n.toNat ≤ b) := fun e => h (.inr ⟨by omega, e⟩)
  exact ⟨op.toNat, n.toNat, by omega, by omega, by omega, by omega, by omega, by omega, by omega, by omega⟩
theorem refTotal_err (op n : Int) (a b : Nat) (w : World) (a32 : a < 4294967296) (b32 : b < 4294967296) (h : TwoBad op n a b) :
    Calls Tryz.prog 71 #[.int .i64 op, .int .i64 n, .int .u32 a, .int .u32 b] w fun e w' => e = .returned (.tuple #[.int .u32 0, .int .i64 1]) ∧ w = w' := by
  go_enter Tryz.func71, Tryz.ntmps71
  go_wp2_with (go_at_call 92; refine (two_err op n a b _ a32 b32 h).mono ?_; rintro e w' ⟨rfl, rfl⟩)
  go_ret2
  exact ⟨rfl, rfl⟩
end Go.Proofs.YtbohigjfdnnomaaGreatDoor
