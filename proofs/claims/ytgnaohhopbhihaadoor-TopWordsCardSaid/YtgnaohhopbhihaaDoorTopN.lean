/-
  Plain lemmas for TopWords: comparisons told by differences, wider words, shifts, contracts at a given result.
-/
import Derived.Test.YtgnaohhopbhihaaDoorTopC
import Derived.Test.YtgnaohhopbhihaaDoorLoopTM
namespace Go.Proofs.YtgnaohhopbhihaaDoor
open Go.RowKit

theorem ult_sub (n a b : Nat) : brF 2 1 n a b = cmpF 2 n a b := by
  rw [br_1]
  rfl
theorem slt_sub {n a b : Nat} (h1 : 1 ≤ n) (h2 : n ≤ 32) (ha : a < pw n) (hb : b < pw n) : cmpF 6 n a b = (decide (sgn n (doF 2 n a b) < 0) != brF 2 2 n a b) := by
  have hh := pw_half h1
  obtain ⟨a1, a2, _⟩ := sgn_bounds h1 h2 ha
  obtain ⟨b1, b2, _⟩ := sgn_bounds h1 h2 hb
  rw [br_2]
  show decide (sgn n a < sgn n b) = (decide (sgn n (wr n ((a : Int) - b)) < 0) != outS n (sgn n a - sgn n b))
  rw [wr_ssub]
  generalize sgn n a = x at *
  generalize sgn n b = y at *
  unfold outS
  by_cases hlo : x - y < -(pw (n - 1) : Int)
  · rw [sgn_wr_lo h1 (by omega) hlo, decide_eq_true (by omega : x < y), decide_eq_false (by omega : ¬ x - y + (pw n : Int) < 0), decide_eq_true (by omega)]
    rfl
  · by_cases hhi : (pw (n - 1) : Int) ≤ x - y
    · rw [sgn_wr_hi h1 hhi (by omega), decide_eq_false (by omega : ¬ x < y), decide_eq_true (by omega : x - y - (pw n : Int) < 0), decide_eq_true (by omega)]
      rfl
    · rw [sgn_wr h1 (by omega) (by omega), decide_eq_false (by omega : ¬ (x - y < -(pw (n - 1) : Int) ∨ (pw (n - 1) : Int) - 1 < x - y))]
      by_cases hxy : x < y
      · rw [decide_eq_true hxy, decide_eq_true (by omega : x - y < 0)]
        rfl
      · rw [decide_eq_false hxy, decide_eq_false (by omega : ¬ x - y < 0)]
        rfl
theorem eq_xor (n a b : Nat) : cmpF 0 n a b = (((doF 10 n a b : Nat) : Int) == 0) := by
  show decide (a = b) = (((a ^^^ b : Nat) : Int) == 0)
  rw [Bool.eq_iff_iff, decide_eq_true_iff, beq_iff_eq, ← xor_zero_iff]
  omega
theorem wide_z {n a b : Nat} (h31 : n ≤ 31) (ha : a < pw n) (hb : b < pw n) : cmpF 6 32 a b = cmpF 2 n a b := by
  have hp : pw n ≤ pw 31 := pw_mono h31
  have e1 : sgn 32 a = a := sgn_lo (by show a < pw 31; omega)
  have e2 : sgn 32 b = b := sgn_lo (by show b < pw 31; omega)
  show decide (sgn 32 a < sgn 32 b) = decide (a < b)
  rw [e1, e2, Bool.eq_iff_iff, decide_eq_true_iff, decide_eq_true_iff]
  omega
theorem sgn_ext {n a : Nat} (h1 : 1 ≤ n) (h2 : n ≤ 32) (ha : a < pw n) : sgn 32 (wr 32 (sgn n a)) = sgn n a := by
  obtain ⟨a1, a2, a3⟩ := sgn_bounds h1 h2 ha
  have e : (pw (32 - 1) : Int) = 2147483648 := by decide
  exact sgn_wr (by omega) (by omega) (by omega)
theorem wide_s {n a b : Nat} (h1 : 1 ≤ n) (h2 : n ≤ 32) (ha : a < pw n) (hb : b < pw n) : cmpF 6 32 (wr 32 (sgn n a)) (wr 32 (sgn n b)) = cmpF 6 n a b := by
  show decide (sgn 32 (wr 32 (sgn n a)) < sgn 32 (wr 32 (sgn n b))) = decide (sgn n a < sgn n b)
  rw [sgn_ext h1 h2 ha, sgn_ext h1 h2 hb]
theorem exact_same (n a m : Nat) : brF 4 4 n a (pw m) = brF 12 4 n a m := by
  unfold brF
  rw [show fB 1 4 = false by decide, show fB 2 4 = false by decide, show fB 4 4 = true by decide]
  rfl
theorem pop_le : ∀ f x, pop f x ≤ f
  | 0, _ => by simp [pop]
  | f + 1, x => by
    have := pop_le f (x / 2)
    have := Nat.mod_lt x (show 0 < 2 by omega)
    simp only [pop]
    omega
section
variable {P : Program} {f : FuncId} {args : Array Value} {v : Value}
theorem quietM {w : World} {n : Nat} (hM : Masks w) (c : ∀ W, Masks W → Calls P f args W fun e w' => e = .returned v ∧ W = w') : Calls P f args (w.drewN n) fun e w2 => e = .returned v ∧ ∃ m, w2 = w.drewN m :=
  (c _ (hM.drewN n)).mono fun _ _ ⟨he, hm⟩ => ⟨he, n, hm.symm⟩
theorem quietM_add {w : World} {a n : Nat} (hM : Masks w) (c : ∀ W, Masks W → Calls P f args W fun e w' => e = .returned v ∧ W = w') : Calls P f args (w.drewN (a + n)) fun e w2 => e = .returned v ∧ ∃ m, w2 = w.drewN (a + m) :=
  (c _ (hM.drewN _)).mono fun _ _ ⟨he, hm⟩ => ⟨he, n, hm.symm⟩
end
theorem signed_at (n S : Nat) (z C : Int) (w : World) (hM : Masks w) (h1 : 1 ≤ n) (h2 : n ≤ 32) (hS : S < pw n) (hz : (S : Int) = z) (hC : sgn n S = C) : Calls Tryd.prog 16 #[.int .i64 n, .int .u32 z] w fun e w' => e = .returned (.int .i64 C) ∧ w = w' := by
  subst hz hC
  exact signed_ok n S w hM h1 h2 hS
section
variable (n a b : Nat) (w : World) (hM : Masks w) (h1 : 1 ≤ n) (h2 : n ≤ 32) (ha : a < pw n) (hb : b < pw n)
include hM h1 h2 ha hb
theorem does_at (op : Nat) (z : Int) (o1 : 1 ≤ op) (o2 : op ≤ 13) (hh : hasF op n a b = true) (hz : (doF op n a b : Int) = z) : Calls Tryd.prog 13 #[.int .i64 op, .int .i64 n, .int .u32 a, .int .u32 b] w fun e w' => e = .returned (.tuple #[.int .u32 z, .bool true]) ∧ Below w.heap.size w w' := by
  subst hz
  exact does_some n a b w hM h1 h2 ha hb op o1 o2 hh
theorem breaks_at (op flags : Nat) (B : Bool) (hf : flags < 8) (o1 : 1 ≤ op) (o2 : op ≤ 13) (hh : hasF op n a b = true) (hB : brF op flags n a b = B) : Calls Tryd.prog 17 #[.int .i64 op, .int .i64 flags, .int .i64 n, .int .u32 a, .int .u32 b] w fun e w' => e = .returned (.bool B) ∧ Below w.heap.size w w' := by
  subst hB
  exact breaks_some n a b w hM h1 h2 ha hb op flags hf o1 o2 hh
theorem holds_at (p : Nat) (B : Bool) (hp : p < 10) (hB : cmpF p n a b = B) : Calls Tryd.prog 18 #[.int .i64 p, .int .i64 n, .int .u32 a, .int .u32 b] w fun e w' => e = .returned (.bool B) ∧ w = w' := by
  subst hB
  exact holds_ok n a b w hM h1 h2 ha hb p hp
end
theorem ones_at (n x : Nat) (z : Int) (w : World) (hM : Masks w) (h1 : 1 ≤ n) (h2 : n ≤ 32) (hx : x < pw n) (hz : (pop 32 x : Int) = z) :
    Calls Tryd.prog 21 #[.int .i64 n, .int .u32 x] w fun e w' => e = .returned (.tuple #[.int .i64 z, .int .i64 0]) ∧ w = w' := by
  subst hz
  exact ones_ok n x w hM h1 h2 hx
theorem guard_yes {a b : Nat} (ha : 0 < a) (hab : a * b ≤ 4294967296) (ha2 : a ≤ 4294967296) : decide ((b : Int) < 4611686018427387904 / (a : Int)) = true := by
  have h : b + 1 ≤ 4611686018427387904 / a := (Nat.le_div_iff_mul_le ha).2 (by rw [Nat.add_mul, Nat.mul_comm b]; omega)
  have e : ((4611686018427387904 / a : Nat) : Int) = 4611686018427387904 / (a : Int) := Int.natCast_ediv _ _
  rw [← e]
  exact decide_eq_true (by omega)
theorem guard_mul {a b : Nat} (ha : 0 < a) (h : decide ((b : Int) < 4611686018427387904 / (a : Int)) = true) : 0 ≤ (a : Int) * (b : Int) ∧ (a : Int) * (b : Int) ≤ 4611686018427387904 := by
  have h' := of_decide_eq_true h
  have e : ((4611686018427387904 / a : Nat) : Int) = 4611686018427387904 / (a : Int) := Int.natCast_ediv _ _
  rw [← e] at h'
  have h2 : b ≤ 4611686018427387904 / a := by omega
  have h3 : b * a ≤ 4611686018427387904 := (Nat.le_div_iff_mul_le ha).1 h2
  rw [← Int.natCast_mul, Nat.mul_comm]
  omega
theorem zero_mul_br (n b : Nat) : brF 3 1 n 0 b = false := by
  rw [br_1]
  have hp := pw_pos n
  show outU n (((0 : Nat) : Int) * (b : Int)) = false
  exact decide_eq_false (by simp; omega)
theorem pow_word {m : Nat} (hm : m < 32) : (2 : Int) ^ m % 4294967296 = (pw m : Int) := by
  have e : (2 : Int) ^ m = (pw m : Int) := by simp [pw]
  have h : pw m < pw 32 := Nat.pow_lt_pow_right (by omega) hm
  have h2 : pw 32 = 4294967296 := by decide
  rw [e]
  omega
theorem pw_lt {m n : Nat} (h : m < n) : pw m < pw n := Nat.pow_lt_pow_right (by omega) h
def wrN (n : Nat) (y : Int) : Nat := wr n y
theorem lanes_split (n : Nat) (l : Int) (a b : Nat) (h : ¬ LanesBad 19 n l a b) : ∃ lane c : Nat, l = lane ∧ 1 ≤ lane ∧ lane < n ∧ n = lane * c := by
  unfold LanesBad at h
  have hl1 : 1 ≤ l := by omega
  obtain ⟨lane, rfl⟩ : ∃ k : Nat, l = k := ⟨l.toNat, by omega⟩
  have hm : n % lane = 0 := by omega
  exact ⟨lane, n / lane, rfl, by omega, by omega, by have := Nat.div_add_mod n lane; omega⟩
theorem lane_mask {n : Nat} (h : n ≤ 32) : IntKind.u64.wrap (IntKind.u64.wrap ((2 : Int) ^ n) - 1) % 4294967296 = ((pw n - 1 : Nat) : Int) := by
  have hp := pw_le h
  have e : (2 : Int) ^ n = (pw n : Int) := by simp [pw]
  rw [e, IntKind.wrap_u64, IntKind.wrap_u64]
  omega
theorem arr_cell (w : World) (T k : Nat) (v : Int) (h : (#[Value.int .i64 1, Value.int .i64 2, Value.int .i64 3] : Array Value)[k]? = some (.int .i64 v)) : (w.alloc (.cells #[.int .i64 1, .int .i64 2, .int .i64 3] T)).cell? ⟨w.heap.size, k, none⟩ = some (.int .i64 v) := by
  obtain rfl | rfl | rfl | hk : k = 0 ∨ k = 1 ∨ k = 2 ∨ 3 ≤ k := by omega
  · simp [go_sem]; simpa using h
  · simp [go_sem]; simpa using h
  · simp [go_sem]; simpa using h
  · rw [Array.getElem?_eq_none (by simpa using hk)] at h; cases h
end Go.Proofs.YtgnaohhopbhihaaDoor
