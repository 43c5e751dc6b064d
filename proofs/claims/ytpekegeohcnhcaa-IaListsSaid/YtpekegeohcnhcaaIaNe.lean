/-
  The reference's guess.
-/
import Derived.Test.YtpekegeohcnhcaaIaNd
namespace Go.Proofs.Ytpekegeohcnhcaa
open Go.RowKit

/-- gueF with the numbers given. -/
def gueV (sz C M FR WD NA NB T E81 ED3 EF7 X8 S8 : Int) (sec : Ins) : Ins :=
  if C = 15 then sec
  else if C = 137 ∧ (128 ≤ M ∧ M < 192) then ⟨3, regL M, regR M, sz, FR⟩
  else if C = 139 then ⟨2, regR M, regL M, sz, FR⟩
  else if C = 136 then ⟨6, regL M, regR M, sz, FR⟩
  else if 0 ≤ T then ⟨T, regL M, regR M, sz, 0⟩
  else if 184 ≤ C ∧ C ≤ 191 then ⟨1, C - 184, 0, sz, NA⟩
  else if C = 131 then ⟨E81, regL M, 0, sz, X8⟩
  else if C = 129 then ⟨E81, regL M, 0, sz, NB⟩
  else if C = 211 then ⟨ED3, regL M, 0, sz, 0⟩
  else if C = 247 then ⟨EF7, regL M, 0, sz, 0⟩
  else if 112 ≤ C ∧ C ≤ 127 then ⟨32, 0, C - 112, 8, S8⟩
  else if C = 235 then ⟨33, 0, 0, 8, S8⟩
  else if C = 233 then ⟨33, 0, 0, 32, WD⟩
  else if C = 153 then ⟨28, 0, 0, sz, 0⟩
  else if C = 244 then ⟨34, 0, 0, sz, 0⟩
  else if C = 144 then ⟨36, 0, 0, sz, 0⟩
  else noIns
/-- Which of its ways guess goes. -/
def kindG (C T : Int) : Nat :=
  if C = 15 then 0 else if C = 137 then 1 else if C = 139 then 2 else if C = 136 then 3 else if 0 ≤ T then 4 else if 184 ≤ C ∧ C ≤ 191 then 5
  else if C = 131 then 6 else if C = 129 then 7 else if C = 211 then 8 else if C = 247 then 9 else if 112 ≤ C ∧ C ≤ 127 then 10
  else if C = 235 then 11 else if C = 233 then 12 else if C = 153 then 13 else if C = 244 then 14 else if C = 144 then 15 else 16
theorem ite_le {c : Prop} [Decidable c] {a b n : Nat} (ha : a ≤ n) (hb : b ≤ n) : (if c then a else b) ≤ n := by split <;> assumption
theorem kindG_le (C T : Int) : kindG C T ≤ 16 := by
  unfold kindG
  repeat' refine ite_le ?_ ?_
  all_goals omega
theorem gueV_eq (sz : Int) (l : List Int) (p : Nat) (h : p < l.length) : gueF sz l p = gueV sz (bt l p) (bt l (p + 1)) (sgnR 2147483648 (num4 l (p + 2))) (sgnR 2147483648 (num4 l (p + 1))) (nums sz l (p + 1)) (nums sz l (p + 2)) (byTwoF (bt l p)) (dig81 (regR (bt l (p + 1)))) (digd3 (regR (bt l (p + 1)))) (digf7 (regR (bt l (p + 1)))) (sgnR 128 (bt l (p + 2)) % (2 * half sz)) (sgnR 128 (bt l (p + 1))) (secF l p) := by
  unfold gueF gueV
  rw [if_neg (by omega)]
end Go.Proofs.Ytpekegeohcnhcaa
