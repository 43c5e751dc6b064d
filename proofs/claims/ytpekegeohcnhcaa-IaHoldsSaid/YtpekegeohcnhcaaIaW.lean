/-
  Which conditions hold, of both.
-/
import Derived.Test.YtpekegeohcnhcaaIaS
namespace Go.Proofs.Ytpekegeohcnhcaa
open Go.RowKit

def flagB (f k : Int) : Bool := decide (f / k % 2 = 1)
/-- Whether a condition holds of flags. -/
def holdF (c f : Int) : Bool :=
  (if c / 2 = 0 then flagB f 8 else if c / 2 = 1 then flagB f 1 else if c / 2 = 2 then flagB f 2 else if c / 2 = 3 then flagB f 1 || flagB f 2
   else if c / 2 = 4 then flagB f 4 else if c / 2 = 6 then flagB f 4 != flagB f 8 else if c / 2 = 7 then (flagB f 4 != flagB f 8) || flagB f 2 else false) != decide (c % 2 = 1)
theorem and_all : ∀ a : Fin 16, (bits .and .i64 (a.val : Int) 1 = if flagB a.val 1 then 1 else 0) ∧ (bits .and .i64 (a.val : Int) 2 = if flagB a.val 2 then 2 else 0) ∧ (bits .and .i64 (a.val : Int) 4 = if flagB a.val 4 then 4 else 0) ∧ (bits .and .i64 (a.val : Int) 8 = if flagB a.val 8 then 8 else 0) ∧ (bits .and .i64 (a.val : Int) 3 = (if flagB a.val 1 then 1 else 0) + (if flagB a.val 2 then 2 else 0)) := of_decide_eq_true (by kernel_rfl)
theorem and_at {f : Int} (h : 0 ≤ f ∧ f ≤ 15) : (bits .and .i64 f 1 = if flagB f 1 then 1 else 0) ∧ (bits .and .i64 f 2 = if flagB f 2 then 2 else 0) ∧ (bits .and .i64 f 4 = if flagB f 4 then 4 else 0) ∧ (bits .and .i64 f 8 = if flagB f 8 then 8 else 0) ∧ (bits .and .i64 f 3 = (if flagB f 1 then 1 else 0) + (if flagB f 2 then 2 else 0)) := by
  obtain ⟨a, rfl⟩ : ∃ a : Fin 16, f = (a.val : Int) := ⟨⟨f.toNat, by omega⟩, by simp; omega⟩
  exact and_all a
theorem cond_cases {c : Int} (h : isC c = true) : c = 0 ∨ c = 1 ∨ c = 2 ∨ c = 3 ∨ c = 4 ∨ c = 5 ∨ c = 6 ∨ c = 7 ∨ c = 8 ∨ c = 9 ∨ c = 12 ∨ c = 13 ∨ c = 14 ∨ c = 15 := by
  simp [isC] at h
  omega
set_option maxRecDepth 100000 in
set_option maxHeartbeats 8000000 in
theorem holds_at (c f : Int) (hc : isC c = true) (hf : 0 ≤ f ∧ f ≤ 15) (w : World) : Calls Try.prog 34 #[.int .i64 c, .int .i64 f] w fun e w' => e = .returned (.bool (holdF c f)) ∧ w = w' := by
  obtain ⟨a1, a2, a4, a8, a3⟩ := and_at hf
  obtain ⟨p, hp⟩ : ∃ p, flagB f 1 = p := ⟨_, rfl⟩
  obtain ⟨q, hq⟩ : ∃ q, flagB f 2 = q := ⟨_, rfl⟩
  obtain ⟨r, hr⟩ : ∃ r, flagB f 4 = r := ⟨_, rfl⟩
  obtain ⟨s, hs⟩ : ∃ s, flagB f 8 = s := ⟨_, rfl⟩
  rw [hp] at a1 a3
  rw [hq] at a2 a3
  rw [hr] at a4
  rw [hs] at a8
  have H := Lib.hid (And.intro hp (And.intro hq (And.intro hr hs)))
  clear hp hq hr hs hf
  rcases cond_cases hc with rfl | rfl | rfl | rfl | rfl | rfl | rfl | rfl | rfl | rfl | rfl | rfl | rfl | rfl
  all_goals clear hc
  all_goals (cases p <;> cases q <;> cases r <;> cases s)
  all_goals simp only [if_true, if_false, Bool.false_eq_true] at a1 a2 a3 a4 a8
  all_goals go_enter Try.func34, Try.ntmps34
  all_goals go_wp2
  all_goals go_ret
  all_goals exact ⟨ret_b (by unfold holdF; rw [H.out.1, H.out.2.1, H.out.2.2.1, H.out.2.2.2]; rfl), rfl⟩
end Go.Proofs.Ytpekegeohcnhcaa
