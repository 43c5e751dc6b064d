/-
  Operations of terms, widths and words.
-/
import Derived.Test.YtbohigjfdnnomaaGreatDoorTeA
namespace Go.Proofs.YtbohigjfdnnomaaGreatDoor
open Go.RowKit

def arB (op : Int) : Bool := decide (1 ≤ op ∧ op ≤ 13)
def widB (n : Int) : Bool := decide (1 ≤ n ∧ n ≤ 32)
set_option maxRecDepth 100000 in
set_option maxHeartbeats 2000000 in
theorem termIsArithmetic_any (op : Int) (w : World) : Calls Tryz.prog 78 #[.int .i64 op] w fun e w' => e = .returned (.bool (arB op)) ∧ w = w' := by
  obtain ⟨B, hB⟩ : ∃ B, arB op = B := ⟨_, rfl⟩
  rw [hB]
  unfold arB at hB
  by_cases h1 : 1 ≤ op
  · have d1 : decide (1 ≤ op) = true := decide_eq_true h1
    by_cases h2 : op ≤ 13
    · have d2 : decide (op ≤ 13) = true := decide_eq_true h2
      rw [decide_eq_true ⟨h1, h2⟩] at hB
      clear h1 h2
      subst hB
      go_enter Tryz.func78, Tryz.ntmps78
      go_wp2
      go_ret
      exact ⟨rfl, rfl⟩
    · have d2 : decide (op ≤ 13) = false := decide_eq_false h2
      rw [decide_eq_false (fun h => h2 h.2)] at hB
      clear h1 h2
      subst hB
      go_enter Tryz.func78, Tryz.ntmps78
      go_wp2
      go_ret
      exact ⟨rfl, rfl⟩
  · have d1 : decide (1 ≤ op) = false := decide_eq_false h1
    rw [decide_eq_false (fun h => h1 h.1)] at hB
    clear h1
    subst hB
    go_enter Tryz.func78, Tryz.ntmps78
    go_wp2
    go_ret
    exact ⟨rfl, rfl⟩
set_option maxRecDepth 100000 in
set_option maxHeartbeats 2000000 in
theorem termIsWidth_any (n : Int) (w : World) : Calls Tryz.prog 66 #[.int .i64 n] w fun e w' => e = .returned (.bool (widB n)) ∧ w = w' := by
  obtain ⟨B, hB⟩ : ∃ B, widB n = B := ⟨_, rfl⟩
  rw [hB]
  unfold widB at hB
  by_cases h1 : 1 ≤ n
  · have d1 : decide (1 ≤ n) = true := decide_eq_true h1
    by_cases h2 : n ≤ 32
    · have d2 : decide (n ≤ 32) = true := decide_eq_true h2
      rw [decide_eq_true ⟨h1, h2⟩] at hB
      clear h1 h2
      subst hB
      go_enter Tryz.func66, Tryz.ntmps66
      go_wp2
      go_ret
      exact ⟨rfl, rfl⟩
    · have d2 : decide (n ≤ 32) = false := decide_eq_false h2
      rw [decide_eq_false (fun h => h2 h.2)] at hB
      clear h1 h2
      subst hB
      go_enter Tryz.func66, Tryz.ntmps66
      go_wp2
      go_ret
      exact ⟨rfl, rfl⟩
  · have d1 : decide (1 ≤ n) = false := decide_eq_false h1
    rw [decide_eq_false (fun h => h1 h.1)] at hB
    clear h1
    subst hB
    go_enter Tryz.func66, Tryz.ntmps66
    go_wp2
    go_ret
    exact ⟨rfl, rfl⟩
set_option maxRecDepth 100000 in
set_option maxHeartbeats 2000000 in
theorem isOp_any (op : Int) (w : World) : Calls Tryz.prog 76 #[.int .i64 op] w fun e w' => e = .returned (.bool (isOpB op)) ∧ w = w' := by
  by_cases h1 : 0 ≤ op
  · have d1 : decide (0 ≤ op) = true := decide_eq_true h1
    by_cases h2 : op ≤ 18
    · have d2 : decide (op ≤ 18) = true := decide_eq_true h2
      have hB : isOpB op = true := decide_eq_true (.inl ⟨h1, h2⟩)
      rw [hB]
      clear h1 h2 hB
      go_enter Tryz.func76, Tryz.ntmps76
      go_wp2
      go_ret
      exact ⟨rfl, rfl⟩
    · have d2 : decide (op ≤ 18) = false := decide_eq_false h2
      obtain ⟨B, hB⟩ : ∃ B, (op == 33) = B := ⟨_, rfl⟩
      have hE : isOpB op = B := by
        rw [← hB]
        unfold isOpB
        rw [Bool.eq_iff_iff, decide_eq_true_iff, beq_iff_eq]
        exact ⟨fun h => h.elim (fun h => absurd h.2 h2) id, .inr⟩
      rw [hE]
      clear h1 h2 hE
      go_enter Tryz.func76, Tryz.ntmps76
      go_wp2
      go_ret
      exact ⟨rfl, rfl⟩
  · have d1 : decide (0 ≤ op) = false := decide_eq_false h1
    have d2 : (op == 33) = false := beq_false_of_ne (by omega)
    have hB : isOpB op = false := decide_eq_false (by omega)
    rw [hB]
    clear h1 hB
    go_enter Tryz.func76, Tryz.ntmps76
    go_wp2
    go_ret
    exact ⟨rfl, rfl⟩
theorem argN_two {op : Int} (h : 1 ≤ op ∧ op ≤ 14) : argN op = 2 := if_pos h
set_option maxRecDepth 100000 in
set_option maxHeartbeats 2000000 in
theorem argsOf_any (op : Int) (w : World) : Calls Tryz.prog 77 #[.int .i64 op] w fun e w' => e = .returned (.int .i64 (argN op)) ∧ w = w' := by
  have HA := Lib.hid (fun w1 => termIsArithmetic_any op w1)
  obtain ⟨n, hn⟩ : ∃ n, argN op = n := ⟨_, rfl⟩
  rw [hn]
  unfold argN at hn
  cases hA : arB op
  · have hA' := of_decide_eq_false hA
    rw [hA] at HA
    by_cases e14 : op = 14
    · rw [if_pos (by omega)] at hn
      subst hn
      have e1 : (op == 14) = true := by simp [e14]
      clear hA hA' e14
      go_enter Tryz.func77, Tryz.ntmps77
      go_wp2_with fail
      refine (HA.out _).mono ?_
      rintro e w1 ⟨rfl, rfl⟩
      go_wp2
      go_ret
      exact ⟨rfl, rfl⟩
    · have e1 : (op == 14) = false := beq_false_of_ne e14
      rw [if_neg (by omega)] at hn
      by_cases e15 : op = 15
      · rw [if_pos e15] at hn
        subst hn
        have e2 : (op == 15) = true := by simp [e15]
        clear hA hA' e14 e15
        go_enter Tryz.func77, Tryz.ntmps77
        go_wp2_with fail
        refine (HA.out _).mono ?_
        rintro e w1 ⟨rfl, rfl⟩
        go_wp2
        go_ret
        exact ⟨rfl, rfl⟩
      · have e2 : (op == 15) = false := beq_false_of_ne e15
        rw [if_neg e15] at hn
        by_cases e0 : op = 0
        · rw [if_pos (.inl e0)] at hn
          subst hn
          have e3 : (op == 0) = true := by simp [e0]
          clear hA hA' e14 e15 e0
          go_enter Tryz.func77, Tryz.ntmps77
          go_wp2_with fail
          refine (HA.out _).mono ?_
          rintro e w1 ⟨rfl, rfl⟩
          go_wp2
          go_ret
          exact ⟨rfl, rfl⟩
        · have e3 : (op == 0) = false := beq_false_of_ne e0
          by_cases e33 : op = 33
          · rw [if_pos (.inr e33)] at hn
            subst hn
            have e4 : (op == 33) = true := by simp [e33]
            clear hA hA' e14 e15 e0 e33
            go_enter Tryz.func77, Tryz.ntmps77
            go_wp2_with fail
            refine (HA.out _).mono ?_
            rintro e w1 ⟨rfl, rfl⟩
            go_wp2
            go_ret
            exact ⟨rfl, rfl⟩
          · rw [if_neg (by omega)] at hn
            subst hn
            have e4 : (op == 33) = false := beq_false_of_ne e33
            clear hA hA' e14 e15 e0 e33
            go_enter Tryz.func77, Tryz.ntmps77
            go_wp2_with fail
            refine (HA.out _).mono ?_
            rintro e w1 ⟨rfl, rfl⟩
            go_wp2
            go_ret
            exact ⟨rfl, rfl⟩
  · have hA' := of_decide_eq_true hA
    rw [hA] at HA
    rw [if_pos (by omega)] at hn
    subst hn
    clear hA hA'
    go_enter Tryz.func77, Tryz.ntmps77
    go_wp2_with fail
    refine (HA.out _).mono ?_
    rintro e w1 ⟨rfl, rfl⟩
    go_wp2
    go_ret
    exact ⟨rfl, rfl⟩
/-- How many Args the reference says. -/
def arN (op : Int) : Int := if isOpB op then argN op else -1
set_option maxRecDepth 100000 in
set_option maxHeartbeats 2000000 in
theorem arity_any (op : Int) (w : World) : Calls Tryz.prog 65 #[.int .i64 op] w fun e w' => e = .returned (.int .i64 (arN op)) ∧ w = w' := by
  obtain ⟨n, hn⟩ : ∃ n, arN op = n := ⟨_, rfl⟩
  rw [hn]
  unfold arN isOpB argN at hn
  by_cases e0 : op = 0
  · have e3 : (op == 0) = true := by simp [e0]
    rw [if_pos (decide_eq_true (by omega)), if_neg (by omega), if_neg (by omega), if_pos (by omega)] at hn
    subst hn
    clear e0
    go_enter Tryz.func65, Tryz.ntmps65
    go_wp2
    go_ret
    exact ⟨rfl, rfl⟩
  · have e3 : (op == 0) = false := beq_false_of_ne e0
    by_cases e33 : op = 33
    · have e4 : (op == 33) = true := by simp [e33]
      rw [if_pos (decide_eq_true (by omega)), if_neg (by omega), if_neg (by omega), if_pos (by omega)] at hn
      subst hn
      clear e0 e33
      go_enter Tryz.func65, Tryz.ntmps65
      go_wp2
      go_ret
      exact ⟨rfl, rfl⟩
    · have e4 : (op == 33) = false := beq_false_of_ne e33
      by_cases h1 : 1 ≤ op
      · have d1 : decide (1 ≤ op) = true := decide_eq_true h1
        by_cases h14 : op ≤ 14
        · have d2 : decide (op ≤ 14) = true := decide_eq_true h14
          rw [if_pos (decide_eq_true (by omega)), if_pos (by omega)] at hn
          subst hn
          clear e0 e33 h1 h14
          go_enter Tryz.func65, Tryz.ntmps65
          go_wp2
          go_ret
          exact ⟨rfl, rfl⟩
        · have d2 : decide (op ≤ 14) = false := decide_eq_false h14
          by_cases e15 : op = 15
          · have d3 : (op == 15) = true := by simp [e15]
            rw [if_pos (decide_eq_true (by omega)), if_neg (by omega), if_pos (by omega)] at hn
            subst hn
            clear e0 e33 h1 h14 e15
            go_enter Tryz.func65, Tryz.ntmps65
            go_wp2
            go_ret
            exact ⟨rfl, rfl⟩
          · have d3 : (op == 15) = false := beq_false_of_ne e15
            have d4 : decide (16 ≤ op) = true := decide_eq_true (by omega)
            by_cases h18 : op ≤ 18
            · have d5 : decide (op ≤ 18) = true := decide_eq_true h18
              rw [if_pos (decide_eq_true (by omega)), if_neg (by omega), if_neg (by omega), if_neg (by omega)] at hn
              subst hn
              clear e0 e33 h1 h14 e15 h18
              go_enter Tryz.func65, Tryz.ntmps65
              go_wp2
              go_ret
              exact ⟨rfl, rfl⟩
            · have d5 : decide (op ≤ 18) = false := decide_eq_false h18
              rw [if_neg (by rw [decide_eq_true_iff]; omega)] at hn
              subst hn
              clear e0 e33 h1 h14 e15 h18
              go_enter Tryz.func65, Tryz.ntmps65
              go_wp2
              go_ret
              exact ⟨rfl, rfl⟩
      · have d1 : decide (1 ≤ op) = false := decide_eq_false h1
        have d3 : (op == 15) = false := beq_false_of_ne (by omega)
        have d4 : decide (16 ≤ op) = false := decide_eq_false (by omega)
        rw [if_neg (by rw [decide_eq_true_iff]; omega)] at hn
        subst hn
        clear e0 e33 h1
        go_enter Tryz.func65, Tryz.ntmps65
        go_wp2
        go_ret
        exact ⟨rfl, rfl⟩
end Go.Proofs.YtbohigjfdnnomaaGreatDoor
