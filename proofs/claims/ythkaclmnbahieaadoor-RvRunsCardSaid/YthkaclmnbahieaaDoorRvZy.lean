/-
  The registers as one value; equality of registers.
-/
import Derived.Test.YthkaclmnbahieaaDoorRvT
import Derived.Deep.MidRow
namespace Go.Proofs.YthkaclmnbahieaaDoor
open Go.RowKit

/-- The registers as one value. -/
def regsA (R : Nat → Nat) : Array Value := ((List.range 32).map fun j => Value.int .u32 (R j : Nat)).toArray
theorem regsA_at (R : Nat → Nat) {j : Nat} (hj : j < 32) : (regsA R)[j]? = some (.int .u32 (R j : Nat)) := by
  unfold regsA
  simp [hj]
theorem regsA_size (R : Nat → Nat) : (regsA R).size = 32 := by simp [regsA]
theorem plainU : Tryd.prog.plainKey 24 = true := by kernel_rfl
theorem infoU : (Tryd.prog.info? 24).isSome = true := by kernel_rfl
theorem u32_part {xs : Array Value} {j : Nat} {x : Int} (h : xs[j]? = some (.int .u32 x)) (w : World) : (Go.part 24 xs j).run Tryd.prog w = .ok (.int .u32 x) w :=
  Go.run_part_plain w plainU h
theorem eq_items {R S : Nat → Nat} (w : World) (hq : ∀ j, j < 32 → R j = S j) : ∀ l : List Nat, (∀ j ∈ l, j < 32) → (Op.eqItems 9999 24 1 (regsA R) (regsA S) l).run Tryd.prog w = .ok true w
  | [], _ => by simp [Op.eqItems]
  | i :: l, h => by
    have hi := h i (by simp)
    have ih := eq_items w hq l (fun j hj => h j (by simp [hj]))
    have e : (Op.equalIn 9999 24 (.int .u32 (R i : Nat)) (.int .u32 (S i : Nat))).run Tryd.prog w = .ok ((R i : Int) == (S i : Int)) w := run_equalIn_int w 9998 24 .u32 .u32 _ _ Tryd.underlying24
    simp only [Op.eqItems, Nat.mul_one, Sem.run_bind, u32_part (regsA_at R hi), u32_part (regsA_at S hi), Result.andThen_ok, e]
    rw [hq i hi]
    simp [ih]
theorem eq_regs_yes {R S : Nat → Nat} (h : ∀ j, j < 32 → R j = S j) (w : World) : (Op.equalIn 10000 50 (.agg (regsA R)) (.agg (regsA S))).run Tryd.prog w = .ok true w := by
  obtain ⟨i, hi⟩ := Option.isSome_iff_exists.1 infoU
  rw [show (10000 : Nat) = 9999 + 1 from rfl, run_equalIn_array w 9999 _ _ Tryd.underlying50 hi, show Tryd.prog.cellsOf 24 = 1 by kernel_rfl, eq_items w h _ (fun j hj => by simpa using hj)]
/-- The registers of a machine in memory. -/
theorem regs_load {MC : Array Value} {R : Nat → Nat} {w : World} {G : Nat} {fr : Nat × Nat} {T : TypeId} (hr : ∀ j, j < 32 → MC[j]? = some (.int .u32 (R j : Nat))) (hG : w.heap[G]? = some (.cells MC T fr)) :
    (Instr.loadAt 50 (.pointer (some ⟨G, 0, none⟩))).run Tryd.prog w = .ok (.agg (regsA R)) w := by
  have q := run_loadAt_mid (P := Tryd.prog) w G 0 50 (regsA R).toList _ (fun j v hv => ?_) Tryd.underlying50 rfl (by rw [Array.length_toList, regsA_size]; kernel_rfl)
  · rw [q, Array.toArray_toList]
  · have hj : j < 32 := by
      have := (List.getElem?_eq_some_iff.1 hv).1
      rw [Array.length_toList, regsA_size] at this
      exact this
    rw [Array.getElem?_toList, regsA_at R hj] at hv
    obtain rfl := Option.some.inj hv
    rw [Nat.zero_add]
    simp [World.cell?, hG, hr j hj]
/-- The registers loaded under a guard that holds. -/
theorem wpList_regs_g {ops : Array Oper} {rest : List Oper} {o : Oper} {a : Act} {w : World} {Q : Exit → Act → World → Prop} (hw : Region.wanted o (yielded ops a.tmps) = true) (x : Operand) (ho : o.op = .load 50 x)
    (G : Nat) (hx : a.eval x = .pointer (some ⟨G, 0, none⟩)) {MC : Array Value} {R : Nat → Nat} {fr : Nat × Nat} {T : TypeId} (hr : ∀ j, j < 32 → MC[j]? = some (.int .u32 (R j : Nat))) (hG : w.heap[G]? = some (.cells MC T fr))
    (h : wpList Tryd.prog ops Q rest (a.put o.dst (.agg (regsA R))) w) : wpList Tryd.prog ops Q (o :: rest) a w :=
  wpList_step fun K hK => by
    rw [if_pos hw]
    unfold Oper.wp execOp
    simp only [ho, hx, Sem.run_bind, Sem.run_pure, Result.andThen_ok, regs_load hr hG]
    exact hK _ _ h
end Go.Proofs.YthkaclmnbahieaaDoor
