/-
  Breaks of both packages at whatever operation; the walk of BitsBreaks.
-/
import Derived.Test.YtgnaohhopbhihaaDoorBitsV2
import Derived.Test.YtgnaohhopbhihaaDoorBitsV3
import Derived.Test.YtgnaohhopbhihaaDoorBitsV4
import Derived.Test.YtgnaohhopbhihaaDoorBitsV5
namespace Go.Proofs.YtgnaohhopbhihaaDoor
open Go.RowKit

structure BrOk (op flags n a b hf df lf bf : Nat) : Prop where
  row : OpRow op hf df lf bf
  eh : Enters hf
  eb : Enters bf
  has : OpFn hf n a b (.bool (hasF op n a b))
  brk : hasF op n a b = true → BrFn bf flags n a b (.bool (brF op flags n a b))
theorem brOk (n a b : Nat) (h1 : 1 ≤ n) (h2 : n ≤ 32) (ha : a < pw n) (hb : b < pw n) (op flags : Nat) (hf : flags < 8) (o1 : 1 ≤ op) (o2 : op ≤ 13) : ∃ hf df lf bf, BrOk op flags n a b hf df lf bf := by
  rcases op_cases o1 o2 with rfl | rfl | rfl | rfl | rfl | rfl | rfl | rfl | rfl | rfl | rfl | rfl | rfl
  · refine ⟨_, _, _, _, row1, en_always, en_addBreaks, always_any n a b, fun _ => ?_⟩
    exact addBreaks_any flags n a b hf h1 h2 ha hb
  · refine ⟨_, _, _, _, row2, en_always, en_subBreaks, always_any n a b, fun _ => ?_⟩
    exact subBreaks_any flags n a b hf h1 h2 ha hb
  · refine ⟨_, _, _, _, row3, en_always, en_mulBreaks, always_any n a b, fun _ => ?_⟩
    exact mulBreaks_any flags n a b hf h1 h2 ha hb
  · refine ⟨_, _, _, _, row4, en_divides, en_udivBreaks, divides_any n a b, fun h => ?_⟩
    exact udivBreaks_any flags n a b hf (of_decide_eq_true h)
  · refine ⟨_, _, _, _, row5, en_divides, en_never, divides_any n a b, fun _ => ?_⟩
    rw [show brF 5 flags n a b = false by simp [brF, uB, sB, eB]]
    exact never_any flags n a b
  · refine ⟨_, _, _, _, row6, en_dividesSigned, en_sdivBreaks, dividesSigned_any n a b h1 h2, fun h => ?_⟩
    exact sdivBreaks_any flags n a b hf h1 h2 ha hb (of_decide_eq_true h).1
  · refine ⟨_, _, _, _, row7, en_dividesSigned, en_never, dividesSigned_any n a b h1 h2, fun _ => ?_⟩
    rw [show brF 7 flags n a b = false by simp [brF, uB, sB, eB]]
    exact never_any flags n a b
  · refine ⟨_, _, _, _, row8, en_always, en_never, always_any n a b, fun _ => ?_⟩
    rw [show brF 8 flags n a b = false by simp [brF, uB, sB, eB]]
    exact never_any flags n a b
  · refine ⟨_, _, _, _, row9, en_always, en_never, always_any n a b, fun _ => ?_⟩
    rw [show brF 9 flags n a b = false by simp [brF, uB, sB, eB]]
    exact never_any flags n a b
  · refine ⟨_, _, _, _, row10, en_always, en_never, always_any n a b, fun _ => ?_⟩
    rw [show brF 10 flags n a b = false by simp [brF, uB, sB, eB]]
    exact never_any flags n a b
  · refine ⟨_, _, _, _, row11, en_shifts, en_shlBreaks, shifts_any n a b h2, fun h => ?_⟩
    have hbn : b < n := of_decide_eq_true h
    exact shlBreaks_any flags n a b hf h1 h2 ha hb (by omega)
  · refine ⟨_, _, _, _, row12, en_shifts, en_shiftBreaks, shifts_any n a b h2, fun h => ?_⟩
    have hbn : b < n := of_decide_eq_true h
    exact shiftBreaks_any_12 flags n a b hf h2 ha (by omega)
  · refine ⟨_, _, _, _, row13, en_shifts, en_shiftBreaks, shifts_any n a b h2, fun h => ?_⟩
    have hbn : b < n := of_decide_eq_true h
    exact shiftBreaks_any_13 flags n a b hf h2 ha (by omega)
section
variable (n a b : Nat) (w : World) (hM : Masks w) (h1 : 1 ≤ n) (h2 : n ≤ 32) (ha : a < pw n) (hb : b < pw n) (op flags : Nat) (hf : flags < 8) (o1 : 1 ≤ op) (o2 : op ≤ 13)
include hM h1 h2 ha hb hf o1 o2
theorem bitsBreaks_some (hh : hasF op n a b = true) : Calls Tryd.prog 55 #[.int .i64 op, .int .i64 flags, .int .i64 n, .int .u32 a, .int .u32 b] w fun e w' => e = .returned (.tuple #[.bool (brF op flags n a b), .int .i64 0]) ∧ Below w.heap.size w w' := by
  obtain ⟨kf, df, lf, bf, ⟨row, eh, eb, has, brk⟩⟩ := brOk n a b h1 h2 ha hb op flags hf o1 o2
  have hk := brk hh
  rw [hh] at has
  have hidx := row
  clear brk hh row
  go_enter Tryd.func55, Tryd.ntmps55
  go_wp2_with (first
    | (go_at_call 51; refine (isArithmetic_yes _ _ (by omega) (by omega)).mono ?_; rintro e w' ⟨rfl, rfl⟩)
    | (go_at_call 52; refine (areWords_yes n a b _ hM h1 h2 ha hb).mono ?_; rintro e w' ⟨rfl, rfl⟩)
    | (go_at_call 53; refine (operations_any _).mono ?_; rintro e w' ⟨rfl, rfl⟩)
    | ((with_reducible refine (has _ ((hM.alloc _).alloc _)).mono ?_); rintro e w' ⟨rfl, rfl⟩)
    | ((with_reducible refine (hk _ ((hM.alloc _).alloc _)).mono ?_); rintro e w' ⟨rfl, rfl⟩))
  go_ret2
  exact ⟨rfl, ((Below.refl _ _).alloc (Nat.le_refl _) _).alloc (by simp) _⟩
theorem bitsBreaks_none (hh : hasF op n a b = false) : Calls Tryd.prog 55 #[.int .i64 op, .int .i64 flags, .int .i64 n, .int .u32 a, .int .u32 b] w fun e w' => e = .returned (.tuple #[.bool false, .int .i64 0]) ∧ Below w.heap.size w w' := by
  obtain ⟨kf, df, lf, bf, ⟨row, eh, eb, has, brk⟩⟩ := brOk n a b h1 h2 ha hb op flags hf o1 o2
  rw [hh] at has
  have hidx := row
  clear brk hh row
  go_enter Tryd.func55, Tryd.ntmps55
  go_wp2_with (first
    | (go_at_call 51; refine (isArithmetic_yes _ _ (by omega) (by omega)).mono ?_; rintro e w' ⟨rfl, rfl⟩)
    | (go_at_call 52; refine (areWords_yes n a b _ hM h1 h2 ha hb).mono ?_; rintro e w' ⟨rfl, rfl⟩)
    | (go_at_call 53; refine (operations_any _).mono ?_; rintro e w' ⟨rfl, rfl⟩)
    | ((with_reducible refine (has _ ((hM.alloc _).alloc _)).mono ?_); rintro e w' ⟨rfl, rfl⟩))
  go_ret2
  exact ⟨rfl, ((Below.refl _ _).alloc (Nat.le_refl _) _).alloc (by simp) _⟩
end
/-- When Breaks refuses. -/
def BrBad (op flags n : Int) (a b : Nat) : Prop := TwoBad op n a b ∨ flags < 0 ∨ 7 < flags
theorem breaks_err (op flags n : Int) (a b : Nat) (w : World) (hM : Masks w) (h : BrBad op flags n a b) :
    Calls Tryd.prog 55 #[.int .i64 op, .int .i64 flags, .int .i64 n, .int .u32 a, .int .u32 b] w fun e w' => e = .returned (.tuple #[.bool false, .int .i64 1]) ∧ w = w' := by
  by_cases ho : op < 1 ∨ 13 < op
  · clear h
    go_enter Tryd.func55, Tryd.ntmps55
    go_wp2_with (go_at_call 51; refine (isArithmetic_no _ _ ho).mono ?_; rintro e w' ⟨rfl, rfl⟩)
    go_ret2
    exact ⟨rfl, rfl⟩
  have o1 : 1 ≤ op := by omega
  have o2 : op ≤ 13 := by omega
  clear ho
  by_cases hf1 : flags < 0
  · clear h
    go_enter Tryd.func55, Tryd.ntmps55
    go_wp2_with (go_at_call 51; refine (isArithmetic_yes _ _ o1 o2).mono ?_; rintro e w' ⟨rfl, rfl⟩)
    go_ret2
    exact ⟨rfl, rfl⟩
  by_cases hf2 : 7 < flags
  · clear h
    go_enter Tryd.func55, Tryd.ntmps55
    go_wp2_with (go_at_call 51; refine (isArithmetic_yes _ _ o1 o2).mono ?_; rintro e w' ⟨rfl, rfl⟩)
    go_ret2
    exact ⟨rfl, rfl⟩
  have hn : n < 1 ∨ 32 < n ∨ pw n.toNat ≤ a ∨ pw n.toNat ≤ b := by
    rcases h with (h | ⟨_, h⟩) | h
    · omega
    · exact h
    · omega
  have HN := Lib.hid hn
  clear h hn
  go_enter Tryd.func55, Tryd.ntmps55
  go_wp2_with (first
    | (go_at_call 51; refine (isArithmetic_yes _ _ o1 o2).mono ?_; rintro e w' ⟨rfl, rfl⟩)
    | (go_at_call 52; refine (areWords_no n a b _ hM HN.out).mono ?_; rintro e w' ⟨rfl, rfl⟩))
  go_ret2
  exact ⟨rfl, rfl⟩
end Go.Proofs.YtgnaohhopbhihaaDoor
