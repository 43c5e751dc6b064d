/-
  Instructions of the second set as data; the small predicates of both packages.
-/
import Derived.Test.YtpekegeohcnhcaaRows
import Derived.Test.YtpekegeohcnhcaaIaM
import Derived.WalkKit
import Derived.IntWalk
import Derived.ProofKit
import Derived.Laws.Rows
import Derived.WalkLawsBesides
import Derived.WalkSpells
import Derived.Outline
import Derived.OwnWalk
import Derived.Lib.Hide
import Derived.Deep.QuietTactic
import Derived.BigQuiet
import Derived.StillTailTactics
import Derived.Below
import Derived.Lib.QuietBelow
import Derived.Deep.Cut
import Derived.Deep.RegionHeld3
import Derived.Laws.AppendOwn
import Derived.Lib.RowBridge
namespace Go.Proofs.Ytpekegeohcnhcaa
open Go.RowKit

abbrev aggI (x : Ins) : Value := .agg #[.int .i64 x.op, .int .i64 x.d, .int .i64 x.s, .int .i64 x.sz, .int .i64 x.imm]
theorem ret_b {a b : Bool} (h : a = b) : Ending.returned (.bool a) = .returned (.bool b) := by rw [h]
theorem ret_i {k : IntKind} {a b : Int} (h : a = b) : Ending.returned (.int k a) = .returned (.int k b) := by rw [h]
theorem isReg_at (x : Int) (B : Bool) (w : World) (h : isR x = B) : Calls Try.prog 88 #[.int .i64 x] w fun e w' => e = .returned (.bool B) ∧ w = w' := by
  have HB := Lib.hid h
  clear h
  by_cases h0 : 0 ≤ x
  · have d0 : decide (0 ≤ x) = true := decide_eq_true h0
    by_cases h1 : x < 8
    · have d1 : decide (x < 8) = true := decide_eq_true h1
      have HE := Lib.hid (show B = true by rw [← HB.out]; exact decide_eq_true (by omega))
      go_enter Try.func88, Try.ntmps88
      go_wp2
      all_goals go_ret
      all_goals exact ⟨ret_b (by first | (rw [HE.out]; done) | (rw [HE.out]; simp; omega)), rfl⟩
    · have HE := Lib.hid (show B = false by rw [← HB.out]; exact decide_eq_false (by omega))
      have d1 : decide (x < 8) = false := decide_eq_false h1
      go_enter Try.func88, Try.ntmps88
      go_wp2
      all_goals go_ret
      all_goals exact ⟨ret_b (by first | (rw [HE.out]; done) | (rw [HE.out]; simp; omega)), rfl⟩
  · have HE := Lib.hid (show B = false by rw [← HB.out]; exact decide_eq_false (by omega))
    have d0 : decide (0 ≤ x) = false := decide_eq_false h0
    go_enter Try.func88, Try.ntmps88
    go_wp2
    all_goals go_ret
    all_goals exact ⟨ret_b (by first | (rw [HE.out]; done) | (rw [HE.out]; simp; omega)), rfl⟩
theorem rIsReg_at (x : Int) (B : Bool) (w : World) (h : isR x = B) : Calls Try.prog 78 #[.int .i64 x] w fun e w' => e = .returned (.bool B) ∧ w = w' := by
  have HB := Lib.hid h
  clear h
  by_cases h0 : 0 ≤ x
  · have d0 : decide (0 ≤ x) = true := decide_eq_true h0
    by_cases h1 : x ≤ 7
    · have d1 : decide (x ≤ 7) = true := decide_eq_true h1
      have HE := Lib.hid (show B = true by rw [← HB.out]; exact decide_eq_true (by omega))
      go_enter Try.func78, Try.ntmps78
      go_wp2
      all_goals go_ret
      all_goals exact ⟨ret_b (by first | (rw [HE.out]; done) | (rw [HE.out]; simp; omega)), rfl⟩
    · have HE := Lib.hid (show B = false by rw [← HB.out]; exact decide_eq_false (by omega))
      have d1 : decide (x ≤ 7) = false := decide_eq_false h1
      go_enter Try.func78, Try.ntmps78
      go_wp2
      all_goals go_ret
      all_goals exact ⟨ret_b (by first | (rw [HE.out]; done) | (rw [HE.out]; simp; omega)), rfl⟩
  · have HE := Lib.hid (show B = false by rw [← HB.out]; exact decide_eq_false (by omega))
    have d0 : decide (0 ≤ x) = false := decide_eq_false h0
    go_enter Try.func78, Try.ntmps78
    go_wp2
    all_goals go_ret
    all_goals exact ⟨ret_b (by first | (rw [HE.out]; done) | (rw [HE.out]; simp; omega)), rfl⟩
theorem hasByte_at (x : Int) (B : Bool) (w : World) (h : isL x = B) : Calls Try.prog 93 #[.int .i64 x] w fun e w' => e = .returned (.bool B) ∧ w = w' := by
  have HB := Lib.hid h
  clear h
  by_cases h0 : 0 ≤ x
  · have d0 : decide (0 ≤ x) = true := decide_eq_true h0
    by_cases h1 : x < 4
    · have d1 : decide (x < 4) = true := decide_eq_true h1
      have HE := Lib.hid (show B = true by rw [← HB.out]; exact decide_eq_true (by omega))
      go_enter Try.func93, Try.ntmps93
      go_wp2
      all_goals go_ret
      all_goals exact ⟨ret_b (by first | (rw [HE.out]; done) | (rw [HE.out]; simp; omega)), rfl⟩
    · have HE := Lib.hid (show B = false by rw [← HB.out]; exact decide_eq_false (by omega))
      have d1 : decide (x < 4) = false := decide_eq_false h1
      go_enter Try.func93, Try.ntmps93
      go_wp2
      all_goals go_ret
      all_goals exact ⟨ret_b (by first | (rw [HE.out]; done) | (rw [HE.out]; simp; omega)), rfl⟩
  · have HE := Lib.hid (show B = false by rw [← HB.out]; exact decide_eq_false (by omega))
    have d0 : decide (0 ≤ x) = false := decide_eq_false h0
    go_enter Try.func93, Try.ntmps93
    go_wp2
    all_goals go_ret
    all_goals exact ⟨ret_b (by first | (rw [HE.out]; done) | (rw [HE.out]; simp; omega)), rfl⟩
theorem rLow_at (x : Int) (B : Bool) (w : World) (h : isL x = B) : Calls Try.prog 84 #[.int .i64 x] w fun e w' => e = .returned (.bool B) ∧ w = w' := by
  have HB := Lib.hid h
  clear h
  by_cases h0 : 0 ≤ x
  · have d0 : decide (0 ≤ x) = true := decide_eq_true h0
    by_cases h1 : x ≤ 3
    · have d1 : decide (x ≤ 3) = true := decide_eq_true h1
      have HE := Lib.hid (show B = true by rw [← HB.out]; exact decide_eq_true (by omega))
      go_enter Try.func84, Try.ntmps84
      go_wp2
      all_goals go_ret
      all_goals exact ⟨ret_b (by first | (rw [HE.out]; done) | (rw [HE.out]; simp; omega)), rfl⟩
    · have HE := Lib.hid (show B = false by rw [← HB.out]; exact decide_eq_false (by omega))
      have d1 : decide (x ≤ 3) = false := decide_eq_false h1
      go_enter Try.func84, Try.ntmps84
      go_wp2
      all_goals go_ret
      all_goals exact ⟨ret_b (by first | (rw [HE.out]; done) | (rw [HE.out]; simp; omega)), rfl⟩
  · have HE := Lib.hid (show B = false by rw [← HB.out]; exact decide_eq_false (by omega))
    have d0 : decide (0 ≤ x) = false := decide_eq_false h0
    go_enter Try.func84, Try.ntmps84
    go_wp2
    all_goals go_ret
    all_goals exact ⟨ret_b (by first | (rw [HE.out]; done) | (rw [HE.out]; simp; omega)), rfl⟩
theorem isCond_at (x : Int) (B : Bool) (w : World) (h : isC x = B) : Calls Try.prog 33 #[.int .i64 x] w fun e w' => e = .returned (.bool B) ∧ w = w' := by
  have HB := Lib.hid h
  clear h
  by_cases h0 : 0 ≤ x
  · have d0 : decide (0 ≤ x) = true := decide_eq_true h0
    by_cases h1 : x < 16
    · have d1 : decide (x < 16) = true := decide_eq_true h1
      by_cases h2 : x = 10
      · have HE := Lib.hid (show B = false by rw [← HB.out]; exact decide_eq_false (by omega))
        subst h2
        go_enter Try.func33, Try.ntmps33
        go_wp2
        all_goals go_ret
        all_goals exact ⟨ret_b (by first | (rw [HE.out]; done) | (rw [HE.out]; simp; omega)), rfl⟩
      · have d2 : (x == 10) = false := beq_false_of_ne h2
        by_cases h3 : x = 11
        · have HE := Lib.hid (show B = false by rw [← HB.out]; exact decide_eq_false (by omega))
          subst h3
          go_enter Try.func33, Try.ntmps33
          go_wp2
          all_goals go_ret
          all_goals exact ⟨ret_b (by first | (rw [HE.out]; done) | (rw [HE.out]; simp; omega)), rfl⟩
        · have d3 : (x == 11) = false := beq_false_of_ne h3
          have HE := Lib.hid (show B = true by rw [← HB.out]; exact decide_eq_true (by omega))
          go_enter Try.func33, Try.ntmps33
          go_wp2
          all_goals go_ret
          all_goals exact ⟨ret_b (by first | (rw [HE.out]; done) | (rw [HE.out]; simp; omega)), rfl⟩
    · have HE := Lib.hid (show B = false by rw [← HB.out]; exact decide_eq_false (by omega))
      have d1 : decide (x < 16) = false := decide_eq_false h1
      go_enter Try.func33, Try.ntmps33
      go_wp2
      all_goals go_ret
      all_goals exact ⟨ret_b (by first | (rw [HE.out]; done) | (rw [HE.out]; simp; omega)), rfl⟩
  · have HE := Lib.hid (show B = false by rw [← HB.out]; exact decide_eq_false (by omega))
    have d0 : decide (0 ≤ x) = false := decide_eq_false h0
    go_enter Try.func33, Try.ntmps33
    go_wp2
    all_goals go_ret
    all_goals exact ⟨ret_b (by first | (rw [HE.out]; done) | (rw [HE.out]; simp; omega)), rfl⟩
theorem rIsCond_at (x : Int) (B : Bool) (w : World) (h : isC x = B) : Calls Try.prog 35 #[.int .i64 x] w fun e w' => e = .returned (.bool B) ∧ w = w' := by
  have HB := Lib.hid h
  clear h
  by_cases h0 : 0 ≤ x
  · have d0 : decide (0 ≤ x) = true := decide_eq_true h0
    by_cases h1 : x ≤ 15
    · have d1 : decide (x ≤ 15) = true := decide_eq_true h1
      by_cases h2 : x = 10
      · have HE := Lib.hid (show B = false by rw [← HB.out]; exact decide_eq_false (by omega))
        subst h2
        go_enter Try.func35, Try.ntmps35
        go_wp2
        all_goals go_ret
        all_goals exact ⟨ret_b (by first | (rw [HE.out]; done) | (rw [HE.out]; simp; omega)), rfl⟩
      · have d2 : (x == 10) = false := beq_false_of_ne h2
        by_cases h3 : x = 11
        · have HE := Lib.hid (show B = false by rw [← HB.out]; exact decide_eq_false (by omega))
          subst h3
          go_enter Try.func35, Try.ntmps35
          go_wp2
          all_goals go_ret
          all_goals exact ⟨ret_b (by first | (rw [HE.out]; done) | (rw [HE.out]; simp; omega)), rfl⟩
        · have d3 : (x == 11) = false := beq_false_of_ne h3
          have HE := Lib.hid (show B = true by rw [← HB.out]; exact decide_eq_true (by omega))
          go_enter Try.func35, Try.ntmps35
          go_wp2
          all_goals go_ret
          all_goals exact ⟨ret_b (by first | (rw [HE.out]; done) | (rw [HE.out]; simp; omega)), rfl⟩
    · have HE := Lib.hid (show B = false by rw [← HB.out]; exact decide_eq_false (by omega))
      have d1 : decide (x ≤ 15) = false := decide_eq_false h1
      go_enter Try.func35, Try.ntmps35
      go_wp2
      all_goals go_ret
      all_goals exact ⟨ret_b (by first | (rw [HE.out]; done) | (rw [HE.out]; simp; omega)), rfl⟩
  · have HE := Lib.hid (show B = false by rw [← HB.out]; exact decide_eq_false (by omega))
    have d0 : decide (0 ≤ x) = false := decide_eq_false h0
    go_enter Try.func35, Try.ntmps35
    go_wp2
    all_goals go_ret
    all_goals exact ⟨ret_b (by first | (rw [HE.out]; done) | (rw [HE.out]; simp; omega)), rfl⟩
theorem isSigned8_at (x : Int) (B : Bool) (w : World) (h : isS x 128 = B) : Calls Try.prog 91 #[.int .i64 x, .int .i64 8] w fun e w' => e = .returned (.bool B) ∧ w = w' := by
  have HB := Lib.hid h
  clear h
  by_cases h0 : -128 ≤ x
  · have d0 : decide (-128 ≤ x) = true := decide_eq_true h0
    by_cases h1 : x < 128
    · have d1 : decide (x < 128) = true := decide_eq_true h1
      have HE := Lib.hid (show B = true by rw [← HB.out]; exact decide_eq_true (by omega))
      go_enter Try.func91, Try.ntmps91
      go_wp2
      all_goals go_ret
      all_goals exact ⟨ret_b (by first | (rw [HE.out]; done) | (rw [HE.out]; simp; omega)), rfl⟩
    · have HE := Lib.hid (show B = false by rw [← HB.out]; exact decide_eq_false (by omega))
      have d1 : decide (x < 128) = false := decide_eq_false h1
      go_enter Try.func91, Try.ntmps91
      go_wp2
      all_goals go_ret
      all_goals exact ⟨ret_b (by first | (rw [HE.out]; done) | (rw [HE.out]; simp; omega)), rfl⟩
  · have HE := Lib.hid (show B = false by rw [← HB.out]; exact decide_eq_false (by omega))
    have d0 : decide (-128 ≤ x) = false := decide_eq_false h0
    go_enter Try.func91, Try.ntmps91
    go_wp2
    all_goals go_ret
    all_goals exact ⟨ret_b (by first | (rw [HE.out]; done) | (rw [HE.out]; simp; omega)), rfl⟩
theorem rBetween8_at (x : Int) (B : Bool) (w : World) (h : isS x 128 = B) : Calls Try.prog 79 #[.int .i64 x, .int .i64 8] w fun e w' => e = .returned (.bool B) ∧ w = w' := by
  have HB := Lib.hid h
  clear h
  by_cases h0 : -128 ≤ x
  · have d0 : decide (-128 ≤ x) = true := decide_eq_true h0
    by_cases h1 : x < 128
    · have d1 : decide (x < 128) = true := decide_eq_true h1
      have HE := Lib.hid (show B = true by rw [← HB.out]; exact decide_eq_true (by omega))
      go_enter Try.func79, Try.ntmps79
      go_wp2
      all_goals go_ret
      all_goals exact ⟨ret_b (by first | (rw [HE.out]; done) | (rw [HE.out]; simp; omega)), rfl⟩
    · have HE := Lib.hid (show B = false by rw [← HB.out]; exact decide_eq_false (by omega))
      have d1 : decide (x < 128) = false := decide_eq_false h1
      go_enter Try.func79, Try.ntmps79
      go_wp2
      all_goals go_ret
      all_goals exact ⟨ret_b (by first | (rw [HE.out]; done) | (rw [HE.out]; simp; omega)), rfl⟩
  · have HE := Lib.hid (show B = false by rw [← HB.out]; exact decide_eq_false (by omega))
    have d0 : decide (-128 ≤ x) = false := decide_eq_false h0
    go_enter Try.func79, Try.ntmps79
    go_wp2
    all_goals go_ret
    all_goals exact ⟨ret_b (by first | (rw [HE.out]; done) | (rw [HE.out]; simp; omega)), rfl⟩
theorem rFits16_at (x : Int) (B : Bool) (w : World) (h : decide (0 ≤ x ∧ x < 65536) = B) : Calls Try.prog 82 #[.int .i64 x, .int .i64 16] w fun e w' => e = .returned (.bool B) ∧ w = w' := by
  have HB := Lib.hid h
  clear h
  by_cases h0 : 0 ≤ x
  · have d0 : decide (0 ≤ x) = true := decide_eq_true h0
    by_cases h1 : x < 65536
    · have d1 : decide (x < 65536) = true := decide_eq_true h1
      have HE := Lib.hid (show B = true by rw [← HB.out]; exact decide_eq_true (by omega))
      go_enter Try.func82, Try.ntmps82
      go_wp2
      all_goals go_ret
      all_goals exact ⟨ret_b (by first | (rw [HE.out]; done) | (rw [HE.out]; simp; omega)), rfl⟩
    · have HE := Lib.hid (show B = false by rw [← HB.out]; exact decide_eq_false (by omega))
      have d1 : decide (x < 65536) = false := decide_eq_false h1
      go_enter Try.func82, Try.ntmps82
      go_wp2
      all_goals go_ret
      all_goals exact ⟨ret_b (by first | (rw [HE.out]; done) | (rw [HE.out]; simp; omega)), rfl⟩
  · have HE := Lib.hid (show B = false by rw [← HB.out]; exact decide_eq_false (by omega))
    have d0 : decide (0 ≤ x) = false := decide_eq_false h0
    go_enter Try.func82, Try.ntmps82
    go_wp2
    all_goals go_ret
    all_goals exact ⟨ret_b (by first | (rw [HE.out]; done) | (rw [HE.out]; simp; omega)), rfl⟩
theorem isSigned32_at (x : Int) (B : Bool) (w : World) (h : isS x 2147483648 = B) : Calls Try.prog 91 #[.int .i64 x, .int .i64 32] w fun e w' => e = .returned (.bool B) ∧ w = w' := by
  have HB := Lib.hid h
  clear h
  by_cases h0 : -2147483648 ≤ x
  · have d0 : decide (-2147483648 ≤ x) = true := decide_eq_true h0
    by_cases h1 : x < 2147483648
    · have d1 : decide (x < 2147483648) = true := decide_eq_true h1
      have HE := Lib.hid (show B = true by rw [← HB.out]; exact decide_eq_true (by omega))
      go_enter Try.func91, Try.ntmps91
      go_wp2
      all_goals go_ret
      all_goals exact ⟨ret_b (by first | (rw [HE.out]; done) | (rw [HE.out]; simp; omega)), rfl⟩
    · have HE := Lib.hid (show B = false by rw [← HB.out]; exact decide_eq_false (by omega))
      have d1 : decide (x < 2147483648) = false := decide_eq_false h1
      go_enter Try.func91, Try.ntmps91
      go_wp2
      all_goals go_ret
      all_goals exact ⟨ret_b (by first | (rw [HE.out]; done) | (rw [HE.out]; simp; omega)), rfl⟩
  · have HE := Lib.hid (show B = false by rw [← HB.out]; exact decide_eq_false (by omega))
    have d0 : decide (-2147483648 ≤ x) = false := decide_eq_false h0
    go_enter Try.func91, Try.ntmps91
    go_wp2
    all_goals go_ret
    all_goals exact ⟨ret_b (by first | (rw [HE.out]; done) | (rw [HE.out]; simp; omega)), rfl⟩
theorem rBetween32_at (x : Int) (B : Bool) (w : World) (h : isS x 2147483648 = B) : Calls Try.prog 79 #[.int .i64 x, .int .i64 32] w fun e w' => e = .returned (.bool B) ∧ w = w' := by
  have HB := Lib.hid h
  clear h
  by_cases h0 : -2147483648 ≤ x
  · have d0 : decide (-2147483648 ≤ x) = true := decide_eq_true h0
    by_cases h1 : x < 2147483648
    · have d1 : decide (x < 2147483648) = true := decide_eq_true h1
      have HE := Lib.hid (show B = true by rw [← HB.out]; exact decide_eq_true (by omega))
      go_enter Try.func79, Try.ntmps79
      go_wp2
      all_goals go_ret
      all_goals exact ⟨ret_b (by first | (rw [HE.out]; done) | (rw [HE.out]; simp; omega)), rfl⟩
    · have HE := Lib.hid (show B = false by rw [← HB.out]; exact decide_eq_false (by omega))
      have d1 : decide (x < 2147483648) = false := decide_eq_false h1
      go_enter Try.func79, Try.ntmps79
      go_wp2
      all_goals go_ret
      all_goals exact ⟨ret_b (by first | (rw [HE.out]; done) | (rw [HE.out]; simp; omega)), rfl⟩
  · have HE := Lib.hid (show B = false by rw [← HB.out]; exact decide_eq_false (by omega))
    have d0 : decide (-2147483648 ≤ x) = false := decide_eq_false h0
    go_enter Try.func79, Try.ntmps79
    go_wp2
    all_goals go_ret
    all_goals exact ⟨ret_b (by first | (rw [HE.out]; done) | (rw [HE.out]; simp; omega)), rfl⟩
theorem rFits32_at (x : Int) (B : Bool) (w : World) (h : decide (0 ≤ x ∧ x < 4294967296) = B) : Calls Try.prog 82 #[.int .i64 x, .int .i64 32] w fun e w' => e = .returned (.bool B) ∧ w = w' := by
  have HB := Lib.hid h
  clear h
  by_cases h0 : 0 ≤ x
  · have d0 : decide (0 ≤ x) = true := decide_eq_true h0
    by_cases h1 : x < 4294967296
    · have d1 : decide (x < 4294967296) = true := decide_eq_true h1
      have HE := Lib.hid (show B = true by rw [← HB.out]; exact decide_eq_true (by omega))
      go_enter Try.func82, Try.ntmps82
      go_wp2
      all_goals go_ret
      all_goals exact ⟨ret_b (by first | (rw [HE.out]; done) | (rw [HE.out]; simp; omega)), rfl⟩
    · have HE := Lib.hid (show B = false by rw [← HB.out]; exact decide_eq_false (by omega))
      have d1 : decide (x < 4294967296) = false := decide_eq_false h1
      go_enter Try.func82, Try.ntmps82
      go_wp2
      all_goals go_ret
      all_goals exact ⟨ret_b (by first | (rw [HE.out]; done) | (rw [HE.out]; simp; omega)), rfl⟩
  · have HE := Lib.hid (show B = false by rw [← HB.out]; exact decide_eq_false (by omega))
    have d0 : decide (0 ≤ x) = false := decide_eq_false h0
    go_enter Try.func82, Try.ntmps82
    go_wp2
    all_goals go_ret
    all_goals exact ⟨ret_b (by first | (rw [HE.out]; done) | (rw [HE.out]; simp; omega)), rfl⟩
end Go.Proofs.Ytpekegeohcnhcaa
