/-
  Regions with guarded operations, their guards left open: one way for both cases.
-/
import Derived.Test.YtpekegeohcnhcaaIaDn
import Derived.Deep.RegionHeld3
import Derived.Deep.Cut
import Derived.Deep.RegionWith
namespace Go.Proofs.Ytpekegeohcnhcaa
open Go.RowKit

/-- A value where the guard holds, nothing where it doesn't. -/
def gv (g : Bool) (v : Value) : Value := bif g then v else undef
theorem gv_true (v : Value) : gv true v = v := rfl
theorem gv_false (v : Value) : gv false v = undef := rfl
section
variable {P : Program} {ops : Array Oper} {Q : Exit → Act → World → Prop} {S : World → Prop} {o : Oper} {a : Act} {w : World}
theorem wanted_open {k : Nat} {g : Bool} (ho : o.guard = some (k, true)) (hy : yielded ops a.tmps k = some g) : Region.wanted o (yielded ops a.tmps) = g := by
  unfold Region.wanted
  rw [ho]
  show (yielded ops a.tmps k == some true) = g
  rw [hy]
  cases g <;> rfl
theorem wanted_shut {k : Nat} {g : Bool} (ho : o.guard = some (k, false)) (hy : yielded ops a.tmps k = some g) : Region.wanted o (yielded ops a.tmps) = !g := by
  unfold Region.wanted
  rw [ho]
  show (yielded ops a.tmps k == some false) = !g
  rw [hy]
  cases g <;> rfl
theorem yieldsIf_guard {g : Bool} {v : Value} (hw : Region.wanted o (yielded ops a.tmps) = g) (hv : g = true → ∀ w, S w → (execOp a.eval o).run P w = .ok (.value v) w) : YieldsIf P ops S o (gv g v) a := by
  cases g
  · exact Or.inr ⟨hw, rfl⟩
  · exact Or.inl ⟨hw, hv rfl⟩
theorem yieldsIf_and {c x y : Operand} {g h : Bool} (ho : o.op = .pick c x y) (hw : Region.wanted o (yielded ops a.tmps) = true) (hc : a.eval c = .bool g) (hx : a.eval x = gv g (.bool h)) (hy : a.eval y = .bool false) : YieldsIf P ops S o (.bool (g && h)) a := by
  refine Or.inl ⟨hw, fun w _ => ?_⟩
  unfold execOp
  rw [ho]
  cases g
  · simp [hc, hy, asBool]
  · rw [gv_true] at hx
    simp [hc, hx, asBool]
theorem yieldsIf_or {c x y : Operand} {g h : Bool} (ho : o.op = .pick c x y) (hw : Region.wanted o (yielded ops a.tmps) = true) (hc : a.eval c = .bool g) (hx : a.eval x = .bool true) (hy : a.eval y = gv (!g) (.bool h)) : YieldsIf P ops S o (.bool (g || h)) a := by
  refine Or.inl ⟨hw, fun w _ => ?_⟩
  unfold execOp
  rw [ho]
  cases g
  · rw [Bool.not_false, gv_true] at hy
    simp [hc, hy, asBool]
  · simp [hc, hx, asBool]
/-- A guarded operation that is carried out: it yields a value and leaves the world as it is. -/
theorem guard_event {g : Bool} {v : Value} {K' : Act → World → Prop} (hw : Region.wanted o (yielded ops a.tmps) = g) (hc : g = true → ∀ K : Act → World → Prop, K (a.put o.dst v) w → Oper.wp P o a w K Q)
    (hk : K' (a.put o.dst (gv g v)) w) : if Region.wanted o (yielded ops a.tmps) = true then Oper.wp P o a w K' Q else K' (a.put o.dst undef) w := by
  rw [hw]
  cases g
  · exact hk
  · exact hc rfl K' hk
end
end Go.Proofs.Ytpekegeohcnhcaa
