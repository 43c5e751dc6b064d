/-
  The contracts of the functions that TopWords shares: does, breaks, holds, signed.
-/
import Derived.Test.YtgnaohhopbhihaaDoorTopM
namespace Go.Proofs.YtgnaohhopbhihaaDoor
open Go.RowKit

section
variable (n a b : Nat) (w : World) (hM : Masks w) (h1 : 1 ≤ n) (h2 : n ≤ 32) (ha : a < pw n) (hb : b < pw n)
include hM h1 h2 ha hb
theorem does_some (op : Nat) (o1 : 1 ≤ op) (o2 : op ≤ 13) (hh : hasF op n a b = true) : Calls Tryd.prog 13 #[.int .i64 op, .int .i64 n, .int .u32 a, .int .u32 b] w fun e w' => e = .returned (.tuple #[.int .u32 (doF op n a b), .bool true]) ∧ Below w.heap.size w w' := by
  have HH := Lib.hid hh
  clear hh
  go_enter Tryd.func13, Tryd.ntmps13
  go_wp2_with fail
  refine (bitsDo_some n a b _ hM h1 h2 ha hb op o1 o2 HH.out).mono ?_
  rintro e w1 ⟨rfl, hb1⟩
  go_wp2
  go_ret2
  exact ⟨rfl, hb1⟩
theorem does_none (op : Nat) (o1 : 1 ≤ op) (o2 : op ≤ 13) (hh : hasF op n a b = false) : Calls Tryd.prog 13 #[.int .i64 op, .int .i64 n, .int .u32 a, .int .u32 b] w fun e w' => e = .returned (.tuple #[.int .u32 0, .bool false]) ∧ Below w.heap.size w w' := by
  have HH := Lib.hid hh
  clear hh
  go_enter Tryd.func13, Tryd.ntmps13
  go_wp2_with fail
  refine (bitsDo_none n a b _ hM h1 h2 ha hb op o1 o2 HH.out).mono ?_
  rintro e w1 ⟨rfl, hb1⟩
  go_wp2
  go_ret2
  exact ⟨rfl, hb1⟩
theorem breaks_some (op flags : Nat) (hf : flags < 8) (o1 : 1 ≤ op) (o2 : op ≤ 13) (hh : hasF op n a b = true) : Calls Tryd.prog 17 #[.int .i64 op, .int .i64 flags, .int .i64 n, .int .u32 a, .int .u32 b] w fun e w' => e = .returned (.bool (brF op flags n a b)) ∧ Below w.heap.size w w' := by
  have HH := Lib.hid hh
  clear hh
  obtain ⟨B, hB⟩ : ∃ B, B = brF op flags n a b := ⟨_, rfl⟩
  have RB := Lib.hid hB
  rw [← hB]
  clear hB
  go_enter Tryd.func17, Tryd.ntmps17
  go_wp2_with fail
  refine (bitsBreaks_some n a b _ hM h1 h2 ha hb op flags hf o1 o2 HH.out).mono ?_
  rw [← RB.out]
  rintro e w1 ⟨rfl, hb1⟩
  cases B
  · go_wp2
    go_ret
    exact ⟨rfl, hb1⟩
  · go_wp2
    go_ret
    exact ⟨rfl, hb1⟩
theorem holds_ok (p : Nat) (hp : p < 10) : Calls Tryd.prog 18 #[.int .i64 p, .int .i64 n, .int .u32 a, .int .u32 b] w fun e w' => e = .returned (.bool (cmpF p n a b)) ∧ w = w' := by
  obtain ⟨B, hB⟩ : ∃ B, B = cmpF p n a b := ⟨_, rfl⟩
  have RB := Lib.hid hB
  rw [← hB]
  clear hB
  go_enter Tryd.func18, Tryd.ntmps18
  go_wp2_with fail
  refine (cmp_ok p n a b _ hM hp h1 h2 ha hb).mono ?_
  rw [← RB.out]
  rintro e w1 ⟨rfl, rfl⟩
  cases B
  · go_wp2
    go_ret
    exact ⟨rfl, rfl⟩
  · go_wp2
    go_ret
    exact ⟨rfl, rfl⟩
end
theorem signed_ok (n a : Nat) (w : World) (hM : Masks w) (h1 : 1 ≤ n) (h2 : n ≤ 32) (ha : a < pw n) : Calls Tryd.prog 16 #[.int .i64 n, .int .u32 a] w fun e w' => e = .returned (.int .i64 (sgn n a)) ∧ w = w' := by
  go_enter Tryd.func16, Tryd.ntmps16
  go_wp2_with fail
  refine (sig_ok n a _ hM h1 h2 ha).mono ?_
  rintro e w1 ⟨rfl, rfl⟩
  go_wp2
  go_ret
  exact ⟨rfl, rfl⟩
end Go.Proofs.YtgnaohhopbhihaaDoor
