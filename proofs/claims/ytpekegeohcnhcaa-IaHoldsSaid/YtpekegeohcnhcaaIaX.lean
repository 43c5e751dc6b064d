/-
  Which conditions hold: the reference.
-/
import Derived.Test.YtpekegeohcnhcaaIaW
namespace Go.Proofs.Ytpekegeohcnhcaa
open Go.RowKit

theorem flag_cases {f : Int} (h : 0 ≤ f ∧ f ≤ 15) : f = 0 ∨ f = 1 ∨ f = 2 ∨ f = 3 ∨ f = 4 ∨ f = 5 ∨ f = 6 ∨ f = 7 ∨ f = 8 ∨ f = 9 ∨ f = 10 ∨ f = 11 ∨ f = 12 ∨ f = 13 ∨ f = 14 ∨ f = 15 := by omega
set_option maxRecDepth 100000 in
set_option maxHeartbeats 8000000 in
theorem rholds_at (c f : Int) (hc : isC c = true) (hf : 0 ≤ f ∧ f ≤ 15) (w : World) : Calls Try.prog 36 #[.int .i64 c, .int .i64 f] w fun e w' => e = .returned (.bool (holdF c f)) ∧ w = w' := by
  rcases cond_cases hc with rfl | rfl | rfl | rfl | rfl | rfl | rfl | rfl | rfl | rfl | rfl | rfl | rfl | rfl
  all_goals rcases flag_cases hf with rfl | rfl | rfl | rfl | rfl | rfl | rfl | rfl | rfl | rfl | rfl | rfl | rfl | rfl | rfl | rfl
  all_goals clear hc hf
  all_goals go_enter Try.func36, Try.ntmps36
  all_goals go_wp2
  all_goals go_ret
  all_goals exact ⟨ret_b (by decide), rfl⟩
end Go.Proofs.Ytpekegeohcnhcaa
