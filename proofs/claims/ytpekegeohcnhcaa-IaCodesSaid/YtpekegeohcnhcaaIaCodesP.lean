/-
  IaCodes returns true for every instruction and every slice of bytes, and leaves its arguments as they were. Conditions: none.
-/
import Derived.Test.YtpekegeohcnhcaaIaZc
import Derived.Test.YtpekegeohcnhcaaIaP
import Derived.Lib.SmallJoins
namespace Go.Proofs.Ytpekegeohcnhcaa
open Go.ChangeShapes Go.WideShapes Go.ChangeAt Go.WideMaps Go.WideElems Go.RowKit Go.Joins

theorem laidOut : laidOutB Try.prog = true := by kernel_rfl
theorem own : ownKnob Try.prog.godebug = none := by kernel_rfl
set_option maxRecDepth 100000 in
theorem iaCodes_lifted (os : Os) (started : os.Started) (H : Type) (enc : TypeId × Value → H) :
    ReturnsInHanded {} Try.checked os 3 .any (Rows.iaCodesSpec.pre6 enc Try.prog Try.f3 Rows.iaCodesRow.domain false)
      (Rows.iaCodesSpec.post enc Try.prog Try.f3 false true false false) := by
  refine returnsInHanded_of_change (C := Try.checked) own started (by kernel_rfl) Try.func3
    (ChangeSpec.witness6 (enc := enc) (C := Try.checked) false ⟨#[], #[.agg #[.int .i64 0, .int .i64 0, .int .i64 0, .int .i64 0, .int .i64 0], .slice none 0 0], []⟩ 8 (by kernel_rfl) (by kernel_rfl) (by kernel_rfl) (by kernel_rfl)) ?_
  intro W base args ds gs before hval0 hW hcnd _
  have hval : ∀ (j : Nat) t v, Try.f3.params[j]? = some t → args[j]? = some v → Value.okWide Try.prog W .any base t v := hval0
  have hW' := hW
  obtain ⟨p, q, hA0, hV, rfl, hfz, hnd⟩ := hW
  have hA : DataW.TrodAll enc Try.prog W 0 (fun _ => true) true Try.f3.params.toList args.toList ds p := hA0
  rw [Try.params3] at hA hval
  obtain ⟨v0, v1, d0, d1, p0, p1, rfl, rfl, rfl, h0, h1⟩ := trodAll_two hA
  obtain ⟨rfl, rfl⟩ := trodVars_none hV
  obtain ⟨a0, b0, x0, y0, z0, rfl, rfl, rfl, wa0, wb0, wx0, wy0, wz0⟩ := ia_open (hval 0 23 v0 rfl rfl) h0
  obtain ⟨A1, n1, c1, l1, rfl, hT1⟩ := open_byn (hval 1 24 v1 rfl rfl) h1
  clear hA0 hval0
  simp only [List.append_nil] at hW'
  have hlt1 : ∀ x ∈ p1, x.block < W.heap.size := fun x hx => by simpa using hW'.lt x (by simp [hx])
  refine (codes_walk (x := ⟨a0, b0, x0, y0, z0⟩) (wf_int wz0).1 (wf_int wz0).2 hT1).mono fun e W' ⟨he, hb⟩ => ?_
  subst he
  have e1 : (Rows.iaCodesSpec.fn H ([.agg [.lit (.int .i64 a0), .lit (.int .i64 b0), .lit (.int .i64 x0), .lit (.int .i64 y0), .lit (.int .i64 z0)], d1] ++ [])) = { results := [.lit (.bool true)], args := [.agg [.lit (.int .i64 a0), .lit (.int .i64 b0), .lit (.int .i64 x0), .lit (.int .i64 y0), .lit (.int .i64 z0)], d1] } := rfl
  refine ⟨_, rfl, _, _, _, [], [] ++ (p1), [], hW', ?_, ?_, ?_, hb.frame _, fun h => by cases h⟩
  · rw [e1]; exact trodAll_mk1 (shut_bool Try.underlying4 true)
  · rw [e1]; exact trodAll_mk2 (ia_shut wa0 wb0 wx0 wy0 wz0) (Below.trod laidOut (by kernel_rfl) (of_decide_eq_true (by kernel_rfl)) h1 hb hlt1)
  · rw [e1]; rfl

theorem iaCodes_holds : Rows.IaCodesSaid :=
  OpenClaim.holds_of_wide 3 Try.f3 rfl rfl rfl rfl rfl rfl rfl ⟨rfl, rfl, rfl, rfl, rfl⟩ rfl rfl rfl rfl rfl (by kernel_rfl) Try.func3 (by kernel_rfl)
    (of_decide_eq_true (by kernel_rfl)) (by unfold Func.isWrapper; rw [if_neg (of_decide_eq_false (by kernel_rfl))]; exact ⟨rfl, rfl⟩)
    (fun os started H enc _ => iaCodes_lifted os started H enc)
#print axioms iaCodes_holds
end Go.Proofs.Ytpekegeohcnhcaa
