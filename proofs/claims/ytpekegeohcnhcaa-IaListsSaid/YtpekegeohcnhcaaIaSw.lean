/-
  The reference: counts.
-/
import Derived.Test.YtpekegeohcnhcaaIaGf
namespace Go.Proofs.Ytpekegeohcnhcaa
open Go.RowKit

theorem sw_7_13 (op : Int) (h : 7 ≤ op ∧ op ≤ 13) : ((op == 7) = true) ∨ ((op == 7) = false ∧ (op == 8) = true) ∨ ((op == 7) = false ∧ (op == 8) = false ∧ (op == 9) = true) ∨ ((op == 7) = false ∧ (op == 8) = false ∧ (op == 9) = false ∧ (op == 10) = true) ∨ ((op == 7) = false ∧ (op == 8) = false ∧ (op == 9) = false ∧ (op == 10) = false ∧ (op == 11) = true) ∨ ((op == 7) = false ∧ (op == 8) = false ∧ (op == 9) = false ∧ (op == 10) = false ∧ (op == 11) = false ∧ (op == 12) = true) ∨ ((op == 7) = false ∧ (op == 8) = false ∧ (op == 9) = false ∧ (op == 10) = false ∧ (op == 11) = false ∧ (op == 12) = false ∧ (op == 13) = true) := by
  obtain ⟨ha, hb⟩ := h
  rcases (show op = 7 ∨ op = 8 ∨ op = 9 ∨ op = 10 ∨ op = 11 ∨ op = 12 ∨ op = 13 by omega) with h | h | h | h | h | h | h
  all_goals (subst_vars; decide)
theorem sw_14_19 (op : Int) (h : 14 ≤ op ∧ op ≤ 19) : ((op == 14) = true) ∨ ((op == 14) = false ∧ (op == 15) = true) ∨ ((op == 14) = false ∧ (op == 15) = false ∧ (op == 16) = true) ∨ ((op == 14) = false ∧ (op == 15) = false ∧ (op == 16) = false ∧ (op == 17) = true) ∨ ((op == 14) = false ∧ (op == 15) = false ∧ (op == 16) = false ∧ (op == 17) = false ∧ (op == 18) = true) ∨ ((op == 14) = false ∧ (op == 15) = false ∧ (op == 16) = false ∧ (op == 17) = false ∧ (op == 18) = false ∧ (op == 19) = true) := by
  obtain ⟨ha, hb⟩ := h
  rcases (show op = 14 ∨ op = 15 ∨ op = 16 ∨ op = 17 ∨ op = 18 ∨ op = 19 by omega) with h | h | h | h | h | h
  all_goals (subst_vars; decide)
theorem sw_20_20 (op : Int) (h : 20 ≤ op ∧ op ≤ 20) : (op == 20) = true := by
  obtain ⟨ha, hb⟩ := h
  rcases (show op = 20 by omega) with h
  all_goals (subst_vars; decide)
theorem sw_21_23 (op : Int) (h : 21 ≤ op ∧ op ≤ 23) : ((op == 21) = true) ∨ ((op == 21) = false ∧ (op == 22) = true) ∨ ((op == 21) = false ∧ (op == 22) = false ∧ (op == 23) = true) := by
  obtain ⟨ha, hb⟩ := h
  rcases (show op = 21 ∨ op = 22 ∨ op = 23 by omega) with h | h | h
  all_goals (subst_vars; decide)
theorem sw_24_25 (op : Int) (h : 24 ≤ op ∧ op ≤ 25) : ((op == 24) = true) ∨ ((op == 24) = false ∧ (op == 25) = true) := by
  obtain ⟨ha, hb⟩ := h
  rcases (show op = 24 ∨ op = 25 by omega) with h | h
  all_goals (subst_vars; decide)
theorem sw_26_27 (op : Int) (h : 26 ≤ op ∧ op ≤ 27) : ((op == 26) = true) ∨ ((op == 26) = false ∧ (op == 27) = true) := by
  obtain ⟨ha, hb⟩ := h
  rcases (show op = 26 ∨ op = 27 by omega) with h | h
  all_goals (subst_vars; decide)
end Go.Proofs.Ytpekegeohcnhcaa
