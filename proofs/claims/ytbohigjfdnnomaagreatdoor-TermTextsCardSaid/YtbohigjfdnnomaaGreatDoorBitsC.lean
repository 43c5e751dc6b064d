/-
  Do, Total and Breaks of package bits, at whatever row of the table of operations.
-/
import Derived.Test.YtbohigjfdnnomaaGreatDoorBitsB
namespace Go.Proofs.YtbohigjfdnnomaaGreatDoor
open Go.RowKit

theorem isArithmetic_yes (op : Int) (w : World) (o1 : 1 ≤ op) (o2' : op ≤ 13) : Calls Tryz.prog 99 #[.int .i64 op] w fun e w' => e = .returned (.bool true) ∧ w = w' := by
  go_enter Tryz.func99, Tryz.ntmps99
  go_wp2
  go_ret
  exact ⟨ret_b (by simp), rfl⟩
theorem isArithmetic_no (op : Int) (w : World) (h : op < 1 ∨ 13 < op) : Calls Tryz.prog 99 #[.int .i64 op] w fun e w' => e = .returned (.bool false) ∧ w = w' := by
  by_cases h1 : op < 1
  · go_enter Tryz.func99, Tryz.ntmps99
    go_wp2
    go_ret
    exact ⟨rfl, rfl⟩
  · have h3 : 1 ≤ op := by omega
    go_enter Tryz.func99, Tryz.ntmps99
    go_wp2
    go_ret
    exact ⟨ret_b (by simp; omega), rfl⟩

abbrev Enters (f : Nat) : Prop := ∀ args w, (callFunc f args).run Tryz.prog w = .ok (.enter f args) w
abbrev OpFn (f : Nat) (n a b : Nat) (v : Value) : Prop := ∀ w, Masks w → Calls Tryz.prog f #[.int .i64 n, .int .u32 a, .int .u32 b] w fun e w' => e = .returned v ∧ w = w'
abbrev BrFn (f : Nat) (flags n a b : Nat) (v : Value) : Prop := ∀ w, Masks w → Calls Tryz.prog f #[.int .i64 flags, .int .i64 n, .int .u32 a, .int .u32 b] w fun e w' => e = .returned v ∧ w = w'
abbrev OpRow (op : Int) (hf df lf bf : Nat) : Prop := ∀ w, (Instr.index 128 (.agg opCells) (.int .i64 (op - 1))).run Tryz.prog w = .ok (.agg #[fv hf, fv df, fv lf, fv bf]) w
theorem total_yes (op : Int) (n a b : Nat) (hf df lf bf : Nat) (r : Int) (w : World) (hM : Masks w) (h1 : 1 ≤ n) (h2 : n ≤ 32) (ha : a < pw n) (hb : b < pw n) (o1 : 1 ≤ op) (o2 : op ≤ 13)
    (hidx : OpRow op hf df lf bf) (eh : Enters hf) (ed : Enters df) (hh : OpFn hf n a b (.bool true)) (hd : OpFn df n a b (.int .u32 r)) :
    Calls Tryz.prog 75 #[.int .i64 op, .int .i64 n, .int .u32 a, .int .u32 b] w fun e w' => e = .returned (.tuple #[.int .u32 r, .int .i64 0]) ∧ Below w.heap.size w w' := by
  go_enter Tryz.func75, Tryz.ntmps75
  go_wp2_with (first
    | (go_at_call 99; refine (isArithmetic_yes _ _ o1 o2).mono ?_; rintro e w' ⟨rfl, rfl⟩)
    | (go_at_call 95; refine (areWords_yes n a b _ hM h1 h2 ha hb).mono ?_; rintro e w' ⟨rfl, rfl⟩)
    | (go_at_call 100; refine (operations_any _).mono ?_; rintro e w' ⟨rfl, rfl⟩)
    | ((with_reducible refine (hh _ ((hM.alloc _).alloc _)).mono ?_); rintro e w' ⟨rfl, rfl⟩)
    | ((with_reducible refine (hd _ ((hM.alloc _).alloc _)).mono ?_); rintro e w' ⟨rfl, rfl⟩))
  go_ret2
  exact ⟨rfl, ((Below.refl _ _).alloc (Nat.le_refl _) _).alloc (by simp) _⟩
theorem total_none (op : Int) (n a b : Nat) (hf df lf bf : Nat) (r : Int) (w : World) (hM : Masks w) (h1 : 1 ≤ n) (h2 : n ≤ 32) (ha : a < pw n) (hb : b < pw n) (o1 : 1 ≤ op) (o2 : op ≤ 13)
    (hidx : OpRow op hf df lf bf) (eh : Enters hf) (el : Enters lf) (hh : OpFn hf n a b (.bool false)) (hl : OpFn lf n a b (.int .u32 r)) :
    Calls Tryz.prog 75 #[.int .i64 op, .int .i64 n, .int .u32 a, .int .u32 b] w fun e w' => e = .returned (.tuple #[.int .u32 r, .int .i64 0]) ∧ Below w.heap.size w w' := by
  go_enter Tryz.func75, Tryz.ntmps75
  go_wp2_with (first
    | (go_at_call 99; refine (isArithmetic_yes _ _ o1 o2).mono ?_; rintro e w' ⟨rfl, rfl⟩)
    | (go_at_call 95; refine (areWords_yes n a b _ hM h1 h2 ha hb).mono ?_; rintro e w' ⟨rfl, rfl⟩)
    | (go_at_call 100; refine (operations_any _).mono ?_; rintro e w' ⟨rfl, rfl⟩)
    | ((with_reducible refine (hh _ ((hM.alloc _).alloc _)).mono ?_); rintro e w' ⟨rfl, rfl⟩)
    | ((with_reducible refine (hl _ ((hM.alloc _).alloc _)).mono ?_); rintro e w' ⟨rfl, rfl⟩))
  go_ret2
  exact ⟨rfl, ((Below.refl _ _).alloc (Nat.le_refl _) _).alloc (by simp) _⟩
theorem total_err (op n : Int) (a b : Nat) (w : World) (hM : Masks w) (h : (op < 1 ∨ 13 < op) ∨ (1 ≤ op ∧ op ≤ 13) ∧ (n < 1 ∨ 32 < n ∨ pw n.toNat ≤ a ∨ pw n.toNat ≤ b)) :
    Calls Tryz.prog 75 #[.int .i64 op, .int .i64 n, .int .u32 a, .int .u32 b] w fun e w' => e = .returned (.tuple #[.int .u32 0, .int .i64 1]) ∧ w = w' := by
  rcases h with h | ⟨⟨o1, o2⟩, h⟩
  · go_enter Tryz.func75, Tryz.ntmps75
    go_wp2_with (go_at_call 99; refine (isArithmetic_no _ _ h).mono ?_; rintro e w' ⟨rfl, rfl⟩)
    go_ret2
    exact ⟨rfl, rfl⟩
  · go_enter Tryz.func75, Tryz.ntmps75
    go_wp2_with (first
      | (go_at_call 99; refine (isArithmetic_yes _ _ o1 o2).mono ?_; rintro e w' ⟨rfl, rfl⟩)
      | (go_at_call 95; refine (areWords_no n a b _ hM h).mono ?_; rintro e w' ⟨rfl, rfl⟩))
    go_ret2
    exact ⟨rfl, rfl⟩
end Go.Proofs.YtbohigjfdnnomaaGreatDoor
