/-
  The arithmetic of the first set: alu, divide, taken, plain. The rest of the arithmetic: plain, taken of the program, and the reference's goes, quotient and result. The arithmetic of the reference: goes, quotient, result. Division of the reference, and result at all operations with an answer.
-/
import Derived.Test.YthkaclmnbahieaaDoorRvA
import Derived.Test.YthkaclmnbahieaaDoorProg
namespace Go.Proofs.YthkaclmnbahieaaDoor
open Go.RowKit

/-- A word as a signed number. -/
def s32 (a : Nat) : Int := if a < 2147483648 then (a : Int) else (a : Int) - 4294967296
def bitF (b : Bool) : Nat := if b then 1 else 0
def wr32 (x : Int) : Nat := (x % 4294967296).toNat
theorem wr32_cast (x : Int) : ((wr32 x : Nat) : Int) = x % 4294967296 := by
  unfold wr32
  omega
def divF (op : Nat) (a b : Nat) : Nat :=
  if b = 0 then (if op = 11 ∨ op = 12 then 4294967295 else a)
  else if op = 11 then wr32 (Int.tdiv (s32 a) (s32 b)) else if op = 12 then a / b else if op = 13 then wr32 (Int.tmod (s32 a) (s32 b)) else a % b
def aluF (op : Nat) (a b : Nat) : Nat :=
  if op = 0 then wr32 (a + b) else if op = 1 then wr32 ((a : Int) - b) else if op = 2 then wr32 ((a : Int) * 2 ^ (b % 32)) else if op = 3 then bitF (decide (s32 a < s32 b)) else if op = 4 then bitF (decide (a < b))
  else if op = 5 then a ^^^ b else if op = 6 then a / 2 ^ (b % 32) else if op = 7 then wr32 (s32 a / 2 ^ (b % 32)) else if op = 8 then a ||| b else if op = 9 then a &&& b else if op = 10 then wr32 ((a : Int) * b) else divF op a b
theorem bit_any (b : Bool) (w : World) : Calls Tryd.prog 102 #[.bool b] w fun e w' => e = .returned (.int .u32 (bitF b : Nat)) ∧ w' = w := by
  cases b
  all_goals
    go_enter Tryd.func102, Tryd.ntmps102
    go_wp2
    go_ret
    exact ⟨rfl, rfl⟩
theorem one_any (b : Bool) (w : World) : Calls Tryd.prog 86 #[.bool b] w fun e w' => e = .returned (.int .u32 (bitF b : Nat)) ∧ w' = w := by
  cases b
  all_goals
    go_enter Tryd.func86, Tryd.ntmps86
    go_wp2
    go_ret
    exact ⟨rfl, rfl⟩
theorem wrap32_nat (a : Nat) (ha : a < 4294967296) : wrap32 (a : Int) = s32 a := by
  unfold wrap32 s32
  split <;> omega
theorem u32_and2 (a b : Nat) (ha : a < 4294967296) (hb : b < 4294967296) : bits .and .u32 (a : Int) (b : Int) = ((a &&& b : Nat) : Int) := by
  have hx : a &&& b < 2 ^ 32 := Nat.and_lt_two_pow _ (by omega)
  show IntKind.u32.wrap ((BitVec.ofInt 32 (a : Int) &&& BitVec.ofInt 32 (b : Int)).toNat : Int) = _
  rw [BitVec.toNat_and, BitVec.toNat_ofInt, BitVec.toNat_ofInt]
  rw [show ((a : Int) % ((2 ^ 32 : Nat) : Int)).toNat = a by omega, show ((b : Int) % ((2 ^ 32 : Nat) : Int)).toNat = b by omega]
  show ((a &&& b : Nat) : Int) % 4294967296 = _
  omega
theorem u32_xor (a b : Nat) (ha : a < 4294967296) (hb : b < 4294967296) : bits .xor .u32 (a : Int) (b : Int) = ((a ^^^ b : Nat) : Int) := by
  have hx : a ^^^ b < 2 ^ 32 := Nat.xor_lt_two_pow (by omega) (by omega)
  show IntKind.u32.wrap ((BitVec.ofInt 32 (a : Int) ^^^ BitVec.ofInt 32 (b : Int)).toNat : Int) = _
  rw [BitVec.toNat_xor, BitVec.toNat_ofInt, BitVec.toNat_ofInt]
  rw [show ((a : Int) % ((2 ^ 32 : Nat) : Int)).toNat = a by omega, show ((b : Int) % ((2 ^ 32 : Nat) : Int)).toNat = b by omega]
  show ((a ^^^ b : Nat) : Int) % 4294967296 = _
  omega
set_option maxRecDepth 100000 in
set_option maxHeartbeats 4000000 in
theorem alu_any (op a b : Nat) (hop : op ≤ 10) (ha : a < 4294967296) (hb : b < 4294967296) (w : World) : Calls Tryd.prog 82 #[.int .i64 (op : Int), .int .u32 (a : Nat), .int .u32 (b : Nat)] w fun e w' => e = .returned (.int .u32 (aluF op a b : Nat)) ∧ w' = w := by
  obtain rfl | rfl | rfl | rfl | rfl | rfl | rfl | rfl | rfl | rfl | rfl : op = 0 ∨ op = 1 ∨ op = 2 ∨ op = 3 ∨ op = 4 ∨ op = 5 ∨ op = 6 ∨ op = 7 ∨ op = 8 ∨ op = 9 ∨ op = 10 := by omega
  all_goals
    go_enter Tryd.func82, Tryd.ntmps82
    go_wp2_with (with_reducible refine (bit_any _ _).mono ?_; rintro e w' ⟨rfl, rfl⟩)
    go_ret
    refine ⟨congrArg (fun z => Ending.returned (.int .u32 z)) (?_ : (_ : Int) = _), rfl⟩
    first
      | exact (wr32_cast _).symm
      | exact (u32_xor a b ha hb)
      | exact (u32_or a b ha hb)
      | exact (u32_and2 a b ha hb)
      | exact rfl
      | (rw [wrap32_nat a ha, wrap32_nat b hb]; exact rfl)
      | (rw [wrap32_nat a ha]; exact (wr32_cast _).symm)
      | exact (Int.natCast_ediv a (2 ^ (b % 32))).symm
theorem wrap32_mod (x : Int) : wrap32 x % 4294967296 = x % 4294967296 := by
  unfold wrap32
  omega
set_option maxRecDepth 100000 in
set_option maxHeartbeats 4000000 in
theorem div_any (op a b : Nat) (hop : 11 ≤ op ∧ op ≤ 14) (ha : a < 4294967296) (hb : b < 4294967296) (w : World) : Calls Tryd.prog 103 #[.int .i64 (op : Int), .int .u32 (a : Nat), .int .u32 (b : Nat)] w fun e w' => e = .returned (.int .u32 (divF op a b : Nat)) ∧ w' = w := by
  by_cases hb0 : b = 0
  · subst hb0
    obtain rfl | rfl | rfl | rfl : op = 11 ∨ op = 12 ∨ op = 13 ∨ op = 14 := by omega
    all_goals
      go_enter Tryd.func103, Tryd.ntmps103
      go_wp2
      go_ret
      exact ⟨rfl, rfl⟩
  · have hw : ¬ wrap32 (b : Int) = 0 := by
      rw [wrap32_nat b hb]
      unfold s32
      split <;> omega
    obtain rfl | rfl | rfl | rfl : op = 11 ∨ op = 12 ∨ op = 13 ∨ op = 14 := by omega
    all_goals
      go_enter Tryd.func103, Tryd.ntmps103
      go_wp2
      go_ret
      refine ⟨congrArg (fun z => Ending.returned (.int .u32 z)) (?_ : (_ : Int) = _), rfl⟩
      first
        | exact rfl
        | (rw [wrap32_mod, wrap32_nat a ha, wrap32_nat b hb, show divF 11 a b = wr32 (Int.tdiv (s32 a) (s32 b)) from if_neg hb0]; exact (wr32_cast _).symm)
        | (have h := Nat.div_le_self a b
           have e : divF 12 a b = a / b := if_neg hb0
           have c : (a : Int) / (b : Int) = ((a / b : Nat) : Int) := (Int.natCast_ediv a b).symm
           refine (congrArg (· % 4294967296) c).trans ?_
           refine Eq.trans ?_ (congrArg Int.ofNat e).symm
           show ((a / b : Nat) : Int) % 4294967296 = ((a / b : Nat) : Int)
           omega)
        | (rw [wrap32_nat a ha, wrap32_nat b hb, show divF 13 a b = wr32 (Int.tmod (s32 a) (s32 b)) from if_neg hb0]; exact (wr32_cast _).symm)
        | (rw [show divF 14 a b = a % b from if_neg hb0, ← Int.natCast_emod])
end Go.Proofs.YthkaclmnbahieaaDoor

namespace Go.Proofs.YthkaclmnbahieaaDoor
open Go.RowKit

theorem ix9_0 (a0 a1 a2 a3 a4 a5 a6 a7 a8 : Value) (w : World) : (Instr.index 144 (.agg #[a0, a1, a2, a3, a4, a5, a6, a7, a8]) (.int .i64 0)).run Tryd.prog w = .ok a0 w := by kernel_rfl
theorem ix9_1 (a0 a1 a2 a3 a4 a5 a6 a7 a8 : Value) (w : World) : (Instr.index 144 (.agg #[a0, a1, a2, a3, a4, a5, a6, a7, a8]) (.int .i64 1)).run Tryd.prog w = .ok a1 w := by kernel_rfl
theorem ix9_2 (a0 a1 a2 a3 a4 a5 a6 a7 a8 : Value) (w : World) : (Instr.index 144 (.agg #[a0, a1, a2, a3, a4, a5, a6, a7, a8]) (.int .i64 2)).run Tryd.prog w = .ok a2 w := by kernel_rfl
theorem ix9_3 (a0 a1 a2 a3 a4 a5 a6 a7 a8 : Value) (w : World) : (Instr.index 144 (.agg #[a0, a1, a2, a3, a4, a5, a6, a7, a8]) (.int .i64 3)).run Tryd.prog w = .ok a3 w := by kernel_rfl
theorem ix9_4 (a0 a1 a2 a3 a4 a5 a6 a7 a8 : Value) (w : World) : (Instr.index 144 (.agg #[a0, a1, a2, a3, a4, a5, a6, a7, a8]) (.int .i64 4)).run Tryd.prog w = .ok a4 w := by kernel_rfl
theorem ix9_5 (a0 a1 a2 a3 a4 a5 a6 a7 a8 : Value) (w : World) : (Instr.index 144 (.agg #[a0, a1, a2, a3, a4, a5, a6, a7, a8]) (.int .i64 5)).run Tryd.prog w = .ok a5 w := by kernel_rfl
theorem ix9_6 (a0 a1 a2 a3 a4 a5 a6 a7 a8 : Value) (w : World) : (Instr.index 144 (.agg #[a0, a1, a2, a3, a4, a5, a6, a7, a8]) (.int .i64 6)).run Tryd.prog w = .ok a6 w := by kernel_rfl
theorem ix9_7 (a0 a1 a2 a3 a4 a5 a6 a7 a8 : Value) (w : World) : (Instr.index 144 (.agg #[a0, a1, a2, a3, a4, a5, a6, a7, a8]) (.int .i64 7)).run Tryd.prog w = .ok a7 w := by kernel_rfl
theorem ix9_8 (a0 a1 a2 a3 a4 a5 a6 a7 a8 : Value) (w : World) : (Instr.index 144 (.agg #[a0, a1, a2, a3, a4, a5, a6, a7, a8]) (.int .i64 8)).run Tryd.prog w = .ok a8 w := by kernel_rfl
/-- What an operation with a number is over registers. -/
def plF (op : Nat) : Nat :=
  if op = 15 then 0 else if op = 16 then 3 else if op = 17 then 4 else if op = 18 then 5 else if op = 19 then 8 else if op = 20 then 9 else if op = 21 then 2 else if op = 22 then 6 else 7
set_option maxRecDepth 100000 in
theorem plain_any (op : Nat) (hop : 15 ≤ op ∧ op ≤ 23) (w : World) : Calls Tryd.prog 83 #[.int .i64 (op : Int)] w fun e w' => e = .returned (.int .i64 (plF op : Nat)) ∧ w' = w := by
  obtain rfl | rfl | rfl | rfl | rfl | rfl | rfl | rfl | rfl : op = 15 ∨ op = 16 ∨ op = 17 ∨ op = 18 ∨ op = 19 ∨ op = 20 ∨ op = 21 ∨ op = 22 ∨ op = 23 := by omega
  · have hI := ix9_0
    go_enter Tryd.func83, Tryd.ntmps83
    go_wp2
    go_ret
    exact ⟨rfl, rfl⟩
  · have hI := ix9_1
    go_enter Tryd.func83, Tryd.ntmps83
    go_wp2
    go_ret
    exact ⟨rfl, rfl⟩
  · have hI := ix9_2
    go_enter Tryd.func83, Tryd.ntmps83
    go_wp2
    go_ret
    exact ⟨rfl, rfl⟩
  · have hI := ix9_3
    go_enter Tryd.func83, Tryd.ntmps83
    go_wp2
    go_ret
    exact ⟨rfl, rfl⟩
  · have hI := ix9_4
    go_enter Tryd.func83, Tryd.ntmps83
    go_wp2
    go_ret
    exact ⟨rfl, rfl⟩
  · have hI := ix9_5
    go_enter Tryd.func83, Tryd.ntmps83
    go_wp2
    go_ret
    exact ⟨rfl, rfl⟩
  · have hI := ix9_6
    go_enter Tryd.func83, Tryd.ntmps83
    go_wp2
    go_ret
    exact ⟨rfl, rfl⟩
  · have hI := ix9_7
    go_enter Tryd.func83, Tryd.ntmps83
    go_wp2
    go_ret
    exact ⟨rfl, rfl⟩
  · have hI := ix9_8
    go_enter Tryd.func83, Tryd.ntmps83
    go_wp2
    go_ret
    exact ⟨rfl, rfl⟩
def goF (op a b : Nat) : Bool :=
  if op = 31 then a == b else if op = 32 then a != b else if op = 33 then decide (s32 a < s32 b) else if op = 34 then decide (s32 b ≤ s32 a) else if op = 35 then decide (a < b) else decide (b ≤ a)
set_option maxRecDepth 100000 in
theorem taken_any (op a b : Nat) (hop : 31 ≤ op ∧ op ≤ 36) (ha : a < 4294967296) (hb : b < 4294967296) (w : World) : Calls Tryd.prog 85 #[.int .i64 (op : Int), .int .u32 (a : Nat), .int .u32 (b : Nat)] w fun e w' => e = .returned (.bool (goF op a b)) ∧ w' = w := by
  obtain rfl | rfl | rfl | rfl | rfl | rfl : op = 31 ∨ op = 32 ∨ op = 33 ∨ op = 34 ∨ op = 35 ∨ op = 36 := by omega
  all_goals
    go_enter Tryd.func85, Tryd.ntmps85
    go_wp2
    go_ret
    refine ⟨congrArg (fun z => Ending.returned (.bool z)) (?_ : (_ : Bool) = _), rfl⟩
    first
      | exact rfl
      | exact (Bool.eq_iff_iff.mpr (by rw [beq_iff_eq, show goF 31 a b = (a == b) from rfl, beq_iff_eq]; omega))
      | exact (Bool.eq_iff_iff.mpr (by rw [bne_iff_ne, show goF 32 a b = (a != b) from rfl, bne_iff_ne]; omega))
      | (rw [wrap32_nat a ha, wrap32_nat b hb]; exact rfl)
end Go.Proofs.YthkaclmnbahieaaDoor

namespace Go.Proofs.YthkaclmnbahieaaDoor
open Go.RowKit

set_option maxRecDepth 100000 in
theorem goes_any (op a b : Nat) (hop : 31 ≤ op ∧ op ≤ 36) (ha : a < 4294967296) (hb : b < 4294967296) (w : World) : Calls Tryd.prog 73 #[.int .i64 (op : Int), .int .u32 (a : Nat), .int .u32 (b : Nat)] w fun e w' => e = .returned (.bool (goF op a b)) ∧ w' = w := by
  obtain rfl | rfl | rfl | rfl | rfl | rfl : op = 31 ∨ op = 32 ∨ op = 33 ∨ op = 34 ∨ op = 35 ∨ op = 36 := by omega
  all_goals
    go_enter Tryd.func73, Tryd.ntmps73
    go_wp2
    go_ret
    refine ⟨congrArg (fun z => Ending.returned (.bool z)) (?_ : (_ : Bool) = _), rfl⟩
    first
      | exact rfl
      | exact (Bool.eq_iff_iff.mpr (by rw [beq_iff_eq, show goF 31 a b = (a == b) from rfl, beq_iff_eq]; omega))
      | exact (Bool.eq_iff_iff.mpr (by rw [bne_iff_ne, show goF 32 a b = (a != b) from rfl, bne_iff_ne]; omega))
      | (rw [wrap32_nat a ha, wrap32_nat b hb]; exact rfl)
def quoI (x y : Int) : Int := if y = 0 then 4294967295 else Int.tdiv x y % 4294967296
def remI (x y : Int) : Int := if y = 0 then x % 4294967296 else Int.tmod x y % 4294967296
theorem quoI_a (y : Int) (h : ¬ y = 0) (x : Int) : wrap32 (Int.tdiv x y) % 4294967296 = quoI x y := by
  rw [wrap32_mod]
  exact (if_neg h).symm
theorem remI_a (y : Int) (h : ¬ y = 0) (x : Int) : Int.tmod x y % 4294967296 = remI x y := (if_neg h).symm
set_option maxRecDepth 100000 in
theorem quo_zero (x : Int) (_ : -2147483648 ≤ x ∧ x < 2147483648) (w : World) : Calls Tryd.prog 87 #[.int .i32 x, .int .i32 0] w fun e w' => e = .returned (.tuple #[.int .u32 (quoI x 0), .int .u32 (remI x 0)]) ∧ ∃ m, w' = w.drewN m := by
  go_enter Tryd.func87, Tryd.ntmps87
  go_wp2
  go_ret2
  exact ⟨rfl, 0, rfl⟩
set_option maxRecDepth 100000 in
theorem quo_low (w : World) : Calls Tryd.prog 87 #[.int .i32 (-2147483648), .int .i32 (-1)] w fun e w' => e = .returned (.tuple #[.int .u32 (quoI (-2147483648) (-1)), .int .u32 (remI (-2147483648) (-1))]) ∧ ∃ m, w' = w.drewN m := by
  go_enter Tryd.func87, Tryd.ntmps87
  go_wp2
  go_ret2
  exact ⟨rfl, 0, rfl⟩
set_option maxRecDepth 100000 in
theorem quo_any (x y : Int) (hx : -2147483648 ≤ x ∧ x < 2147483648) (w : World) : Calls Tryd.prog 87 #[.int .i32 x, .int .i32 y] w fun e w' => e = .returned (.tuple #[.int .u32 (quoI x y), .int .u32 (remI x y)]) ∧ ∃ m, w' = w.drewN m := by
  by_cases h0 : y = 0
  · subst h0
    exact quo_zero x hx w
  by_cases h1 : x = -2147483648 ∧ y = -1
  · obtain ⟨rfl, rfl⟩ := h1
    exact quo_low w
  have H1 := Lib.hid (quoI_a y h0 x)
  have H2 := Lib.hid (remI_a y h0 x)
  have hy : (y == 0) = false := beq_eq_false_iff_ne.mpr h0
  rcases hxx : (x == -2147483648) with _ | _
  · go_enter Tryd.func87, Tryd.ntmps87
    go_wp2
    go_region
    go_wp2
    go_ret2
    refine ⟨?_, 1, rfl⟩
    show Ending.returned (.tuple #[.int .u32 (wrap32 (Int.tdiv x y) % 4294967296), .int .u32 (Int.tmod x y % 4294967296)]) = _
    rw [H1.out, H2.out]
  · have hyy : (y == -1) = false := beq_eq_false_iff_ne.mpr (fun e => h1 ⟨beq_iff_eq.mp hxx, e⟩)
    go_enter Tryd.func87, Tryd.ntmps87
    go_wp2
    go_region
    go_wp2
    go_ret2
    refine ⟨?_, 1, rfl⟩
    show Ending.returned (.tuple #[.int .u32 (wrap32 (Int.tdiv x y) % 4294967296), .int .u32 (Int.tmod x y % 4294967296)]) = _
    rw [H1.out, H2.out]
theorem s32_zero (b : Nat) (hb : b < 4294967296) : s32 b = 0 ↔ b = 0 := by
  unfold s32
  split <;> omega
theorem divF_q (a b : Nat) (hb : b < 4294967296) : quoI (s32 a) (s32 b) = ((divF 11 a b : Nat) : Int) := by
  by_cases h : b = 0
  · subst h
    rfl
  · have e : divF 11 a b = wr32 (Int.tdiv (s32 a) (s32 b)) := if_neg h
    rw [e, wr32_cast]
    exact if_neg (fun x => h ((s32_zero b hb).mp x))
theorem divF_r (a b : Nat) (ha : a < 4294967296) (hb : b < 4294967296) : remI (s32 a) (s32 b) = ((divF 13 a b : Nat) : Int) := by
  by_cases h : b = 0
  · subst h
    show s32 a % 4294967296 = (a : Int)
    unfold s32
    split <;> omega
  · have e : divF 13 a b = wr32 (Int.tmod (s32 a) (s32 b)) := if_neg h
    rw [e, wr32_cast]
    exact if_neg (fun x => h ((s32_zero b hb).mp x))
theorem s32_lim (a : Nat) (ha : a < 4294967296) : -2147483648 ≤ s32 a ∧ s32 a < 2147483648 := by
  unfold s32
  split <;> omega
/-- What an operation is over registers. -/
def opF (op : Nat) : Nat := if op ≤ 14 then op else plF op
set_option maxRecDepth 100000 in
set_option maxHeartbeats 4000000 in
theorem result_alu (op a b : Nat) (hop : op ≤ 10 ∨ 15 ≤ op ∧ op ≤ 23) (ha : a < 4294967296) (hb : b < 4294967296) (w : World) : Calls Tryd.prog 72 #[.int .i64 (op : Int), .int .u32 (a : Nat), .int .u32 (b : Nat)] w fun e w' => e = .returned (.int .u32 (aluF (opF op) a b : Nat)) ∧ w' = w := by
  obtain rfl | rfl | rfl | rfl | rfl | rfl | rfl | rfl | rfl | rfl | rfl | rfl | rfl | rfl | rfl | rfl | rfl | rfl | rfl | rfl : op = 0 ∨ op = 1 ∨ op = 2 ∨ op = 3 ∨ op = 4 ∨ op = 5 ∨ op = 6 ∨ op = 7 ∨ op = 8 ∨ op = 9 ∨ op = 10 ∨ op = 15 ∨ op = 16 ∨ op = 17 ∨ op = 18 ∨ op = 19 ∨ op = 20 ∨ op = 21 ∨ op = 22 ∨ op = 23 := by omega
  all_goals
    go_enter Tryd.func72, Tryd.ntmps72
    go_wp2_with (with_reducible refine (one_any _ _).mono ?_; rintro e w' ⟨rfl, rfl⟩)
    go_ret
    refine ⟨congrArg (fun z => Ending.returned (.int .u32 z)) (?_ : (_ : Int) = _), rfl⟩
    first
      | exact (wr32_cast _).symm
      | exact (u32_xor a b ha hb)
      | exact (u32_or a b ha hb)
      | exact (u32_and2 a b ha hb)
      | exact rfl
      | (rw [wrap32_nat a ha, wrap32_nat b hb]; exact rfl)
      | (rw [wrap32_nat a ha]; exact (wr32_cast _).symm)
      | exact (Int.natCast_ediv a (2 ^ (b % 32))).symm
end Go.Proofs.YthkaclmnbahieaaDoor

namespace Go.Proofs.YthkaclmnbahieaaDoor
open Go.RowKit

set_option maxRecDepth 100000 in
set_option maxHeartbeats 4000000 in
theorem result_div (op a b : Nat) (hop : 11 ≤ op ∧ op ≤ 14) (ha : a < 4294967296) (hb : b < 4294967296) (w : World) : Calls Tryd.prog 72 #[.int .i64 (op : Int), .int .u32 (a : Nat), .int .u32 (b : Nat)] w fun e w' => e = .returned (.int .u32 (divF op a b : Nat)) ∧ ∃ m, w' = w.drewN m := by
  by_cases hu : op = 12 ∨ op = 14
  · by_cases hb0 : b = 0
    · subst hb0
      obtain rfl | rfl := hu
      all_goals
        go_enter Tryd.func72, Tryd.ntmps72
        go_wp2
        go_ret
        exact ⟨rfl, 0, rfl⟩
    · obtain rfl | rfl := hu
      all_goals
        go_enter Tryd.func72, Tryd.ntmps72
        go_wp2
        go_ret
        refine ⟨congrArg (fun z => Ending.returned (.int .u32 z)) (?_ : (_ : Int) = _), 0, rfl⟩
        first
          | (have h := Nat.div_le_self a b
             have e : divF 12 a b = a / b := if_neg hb0
             have c : (a : Int) / (b : Int) = ((a / b : Nat) : Int) := (Int.natCast_ediv a b).symm
             refine (congrArg (· % 4294967296) c).trans ?_
             refine Eq.trans ?_ (congrArg Int.ofNat e).symm
             show ((a / b : Nat) : Int) % 4294967296 = ((a / b : Nat) : Int)
             omega)
          | (rw [show divF 14 a b = a % b from if_neg hb0, ← Int.natCast_emod])
  · obtain rfl | rfl : op = 11 ∨ op = 13 := by omega
    all_goals
      have e1 := wrap32_nat a ha
      have e2 := wrap32_nat b hb
      go_enter Tryd.func72, Tryd.ntmps72
      go_wp2_with fail
      refine (quo_any (s32 a) (s32 b) (s32_lim a ha) _).mono ?_
      rintro e w' ⟨rfl, m, rfl⟩
      go_wp2
      go_ret
      refine ⟨congrArg (fun z => Ending.returned (.int .u32 z)) (?_ : (_ : Int) = _), m, rfl⟩
      first
        | exact divF_q a b hb
        | exact divF_r a b ha hb
theorem aluF_div (op a b : Nat) (hop : 11 ≤ op) : aluF op a b = divF op a b := by
  unfold aluF
  rw [if_neg (by omega), if_neg (by omega), if_neg (by omega), if_neg (by omega), if_neg (by omega), if_neg (by omega), if_neg (by omega), if_neg (by omega), if_neg (by omega), if_neg (by omega), if_neg (by omega)]
theorem result_any (op a b : Nat) (hop : op ≤ 23) (ha : a < 4294967296) (hb : b < 4294967296) (w : World) : Calls Tryd.prog 72 #[.int .i64 (op : Int), .int .u32 (a : Nat), .int .u32 (b : Nat)] w fun e w' => e = .returned (.int .u32 (aluF (opF op) a b : Nat)) ∧ ∃ m, w' = w.drewN m := by
  by_cases h : 11 ≤ op ∧ op ≤ 14
  · refine (result_div op a b h ha hb w).mono ?_
    rintro e w' ⟨rfl, m, rfl⟩
    refine ⟨?_, m, rfl⟩
    rw [show opF op = op from if_pos (by omega), aluF_div op a b h.1]
  · refine (result_alu op a b (by omega) ha hb w).mono ?_
    rintro e w' ⟨rfl, rfl⟩
    exact ⟨rfl, 0, rfl⟩
set_option maxRecDepth 100000 in
set_option maxHeartbeats 4000000 in
theorem alu_div (op a b : Nat) (hop : 11 ≤ op ∧ op ≤ 14) (ha : a < 4294967296) (hb : b < 4294967296) (w : World) : Calls Tryd.prog 82 #[.int .i64 (op : Int), .int .u32 (a : Nat), .int .u32 (b : Nat)] w fun e w' => e = .returned (.int .u32 (divF op a b : Nat)) ∧ w' = w := by
  have HD := Lib.hid (fun w1 => div_any op a b hop ha hb w1)
  obtain rfl | rfl | rfl | rfl : op = 11 ∨ op = 12 ∨ op = 13 ∨ op = 14 := by omega
  all_goals
    go_enter Tryd.func82, Tryd.ntmps82
    go_wp2_with (refine (HD.out _).mono ?_; rintro e w' ⟨rfl, rfl⟩)
    go_ret
    exact ⟨rfl, rfl⟩
theorem alu_all (op a b : Nat) (hop : op ≤ 14) (ha : a < 4294967296) (hb : b < 4294967296) (w : World) : Calls Tryd.prog 82 #[.int .i64 (op : Int), .int .u32 (a : Nat), .int .u32 (b : Nat)] w fun e w' => e = .returned (.int .u32 (aluF op a b : Nat)) ∧ w' = w := by
  by_cases h : 11 ≤ op
  · rw [aluF_div op a b h]
    exact alu_div op a b ⟨h, hop⟩ ha hb w
  · exact alu_any op a b (by omega) ha hb w
theorem wr32_lt (x : Int) : wr32 x < 4294967296 := by
  unfold wr32
  omega
theorem divF_lt (op a b : Nat) (ha : a < 4294967296) : divF op a b < 4294967296 := by
  unfold divF
  have h1 := Nat.div_le_self a b
  have h2 := Nat.mod_le a b
  have h3 := wr32_lt (Int.tdiv (s32 a) (s32 b))
  have h4 := wr32_lt (Int.tmod (s32 a) (s32 b))
  split
  · split <;> omega
  · split
    · exact h3
    split
    · omega
    split
    · exact h4
    · omega
theorem bitF_lt (b : Bool) : bitF b < 4294967296 := by cases b <;> decide
theorem ite_lt {p : Prop} [Decidable p] {a b n : Nat} (h1 : a < n) (h2 : b < n) : (if p then a else b) < n := by
  split
  · exact h1
  · exact h2
theorem aluF_lt (op a b : Nat) (ha : a < 4294967296) (hb : b < 4294967296) : aluF op a b < 4294967296 := by
  unfold aluF
  refine ite_lt (wr32_lt _) (ite_lt (wr32_lt _) (ite_lt (wr32_lt _) (ite_lt (bitF_lt _) (ite_lt (bitF_lt _) (ite_lt ?_ (ite_lt ?_ (ite_lt (wr32_lt _) (ite_lt ?_ (ite_lt ?_ (ite_lt (wr32_lt _) (divF_lt op a b ha)))))))))))
  · exact Nat.xor_lt_two_pow (n := 32) ha hb
  · exact Nat.lt_of_le_of_lt (Nat.div_le_self a _) ha
  · exact Nat.or_lt_two_pow (n := 32) ha hb
  · exact Nat.and_lt_two_pow (n := 32) a hb
end Go.Proofs.YthkaclmnbahieaaDoor
