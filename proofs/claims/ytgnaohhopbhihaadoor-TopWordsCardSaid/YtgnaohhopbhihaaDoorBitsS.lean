/-
  Do and Total of both packages at whatever operation; the walks of BitsDoes and BitsTotals.
-/
import Derived.Test.YtgnaohhopbhihaaDoorBitsR
namespace Go.Proofs.YtgnaohhopbhihaaDoor
open Go.RowKit

section
variable (n a b : Nat) (w : World) (hM : Masks w) (h1 : 1 ≤ n) (h2 : n ≤ 32) (ha : a < pw n) (hb : b < pw n) (op : Nat) (o1 : 1 ≤ op) (o2 : op ≤ 13)
include hM h1 h2 ha hb o1 o2
theorem bitsDo_some (hh : hasF op n a b = true) : Calls Tryd.prog 15 #[.int .i64 op, .int .i64 n, .int .u32 a, .int .u32 b] w fun e w' => e = .returned (.tuple #[.int .u32 (doF op n a b), .bool true, .int .i64 0]) ∧ Below w.heap.size w w' := by
  obtain ⟨hf, df, lf, bf, R⟩ := rowOk n a b h1 h2 ha hb op o1 o2
  have hhas := R.has
  rw [hh] at hhas
  exact do_yes op n a b hf df lf bf _ w hM h1 h2 ha hb (by omega) (by omega) R.row R.eh R.ed hhas (R.make hh)
theorem bitsDo_none (hh : hasF op n a b = false) : Calls Tryd.prog 15 #[.int .i64 op, .int .i64 n, .int .u32 a, .int .u32 b] w fun e w' => e = .returned (.tuple #[.int .u32 0, .bool false, .int .i64 0]) ∧ Below w.heap.size w w' := by
  obtain ⟨hf, df, lf, bf, R⟩ := rowOk n a b h1 h2 ha hb op o1 o2
  have hhas := R.has
  rw [hh] at hhas
  exact do_none op n a b hf df lf bf w hM h1 h2 ha hb (by omega) (by omega) R.row R.eh hhas
end
section
variable (n a b : Nat) (w : World) (h1 : 1 ≤ n) (h2 : n ≤ 32) (ha : a < pw n) (hb : b < pw n) (op : Nat) (o1 : 1 ≤ op) (o2 : op ≤ 13)
include h1 h2 ha hb o1 o2
end
theorem two_split (op n : Int) (a b : Nat) (h : ¬ TwoBad op n a b) : ∃ p m : Nat, op = p ∧ n = m ∧ 1 ≤ p ∧ p ≤ 13 ∧ 1 ≤ m ∧ m ≤ 32 ∧ a < pw m ∧ b < pw m := by
  unfold TwoBad at h
  have ho : ¬ (op < 1 ∨ 13 < op) := fun e => h (.inl e)
  have hn : ¬ (n < 1 ∨ 32 < n ∨ pw n.toNat ≤ a ∨ pw n.toNat ≤ b) := fun e => h (.inr ⟨by omega, e⟩)
  exact ⟨op.toNat, n.toNat, by omega, by omega, by omega, by omega, by omega, by omega, by omega, by omega⟩
end Go.Proofs.YtgnaohhopbhihaaDoor
