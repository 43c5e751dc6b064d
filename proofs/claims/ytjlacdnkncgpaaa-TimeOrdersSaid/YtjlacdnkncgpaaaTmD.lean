/-
  Small functions of both packages: latencies, registers, which instructions are right.
-/
import Derived.Test.YtjlacdnkncgpaaaTmC
import Derived.Lib.QuietBelow
namespace Go.Proofs.Ytjlacdnkncgpaaa
open Go.RowKit

def inB (n lo hi : Int) : Bool := decide (lo ≤ n ∧ n ≤ hi)
theorem inB_iff {n lo hi : Int} : inB n lo hi = true ↔ lo ≤ n ∧ n ≤ hi := decide_eq_true_iff
def latF (op : Int) : Int := if op = 4 then 3 else if 5 ≤ op ∧ op ≤ 8 then 12 else if 18 ≤ op ∧ op ≤ 20 then 2 else 1
theorem latency_any (op : Int) (w : World) : Calls Try.prog 33 #[.int .i64 op] w fun e w' => e = .returned (.int .i64 (latF op)) ∧ w = w' := by
  by_cases h4 : op = 4
  · subst h4
    go_enter Try.func33, Try.ntmps33
    go_wp2
    go_ret
    exact ⟨rfl, rfl⟩
  by_cases h10 : op < 4
  · have E := Lib.hid (show latF op = 1 by unfold latF; repeat (first | rw [if_neg (by omega)] | rw [if_pos (by omega)]))
    go_enter Try.func33, Try.ntmps33
    go_wp2
    go_ret
    exact ⟨ret_i (by rw [E.out]), rfl⟩
  by_cases h11 : op ≤ 8
  · have hlo : 5 ≤ op := by omega
    have E := Lib.hid (show latF op = 12 by unfold latF; repeat (first | rw [if_neg (by omega)] | rw [if_pos (by omega)]))
    go_enter Try.func33, Try.ntmps33
    go_wp2
    go_ret
    exact ⟨ret_i (by rw [E.out]), rfl⟩
  by_cases h12 : op < 18
  · have hlo : 9 ≤ op := by omega
    have E := Lib.hid (show latF op = 1 by unfold latF; repeat (first | rw [if_neg (by omega)] | rw [if_pos (by omega)]))
    go_enter Try.func33, Try.ntmps33
    go_wp2
    go_ret
    exact ⟨ret_i (by rw [E.out]), rfl⟩
  by_cases h13 : op ≤ 20
  · have hlo : 18 ≤ op := by omega
    have E := Lib.hid (show latF op = 2 by unfold latF; repeat (first | rw [if_neg (by omega)] | rw [if_pos (by omega)]))
    go_enter Try.func33, Try.ntmps33
    go_wp2
    go_ret
    exact ⟨ret_i (by rw [E.out]), rfl⟩
  have hlo : 21 ≤ op := by omega
  have E := Lib.hid (show latF op = 1 by unfold latF; repeat (first | rw [if_neg (by omega)] | rw [if_pos (by omega)]))
  go_enter Try.func33, Try.ntmps33
  go_wp2
  go_ret
  exact ⟨ret_i (by rw [E.out]), rfl⟩
theorem refLatency_any (op : Int) (w : World) : Calls Try.prog 34 #[.int .i64 op] w fun e w' => e = .returned (.int .i64 (latF op)) ∧ w = w' := by
  by_cases h4 : op = 4
  · subst h4
    go_enter Try.func34, Try.ntmps34
    go_wp2
    go_ret
    exact ⟨rfl, rfl⟩
  by_cases h10 : op < 4
  · have E := Lib.hid (show latF op = 1 by unfold latF; repeat (first | rw [if_neg (by omega)] | rw [if_pos (by omega)]))
    go_enter Try.func34, Try.ntmps34
    go_wp2
    go_ret
    exact ⟨ret_i (by rw [E.out]), rfl⟩
  by_cases h11 : op ≤ 8
  · have hlo : 5 ≤ op := by omega
    have E := Lib.hid (show latF op = 12 by unfold latF; repeat (first | rw [if_neg (by omega)] | rw [if_pos (by omega)]))
    go_enter Try.func34, Try.ntmps34
    go_wp2
    go_ret
    exact ⟨ret_i (by rw [E.out]), rfl⟩
  by_cases h12 : op < 18
  · have hlo : 9 ≤ op := by omega
    have E := Lib.hid (show latF op = 1 by unfold latF; repeat (first | rw [if_neg (by omega)] | rw [if_pos (by omega)]))
    go_enter Try.func34, Try.ntmps34
    go_wp2
    go_ret
    exact ⟨ret_i (by rw [E.out]), rfl⟩
  by_cases h13 : op ≤ 20
  · have hlo : 18 ≤ op := by omega
    have E := Lib.hid (show latF op = 2 by unfold latF; repeat (first | rw [if_neg (by omega)] | rw [if_pos (by omega)]))
    go_enter Try.func34, Try.ntmps34
    go_wp2
    go_ret
    exact ⟨ret_i (by rw [E.out]), rfl⟩
  have hlo : 21 ≤ op := by omega
  have E := Lib.hid (show latF op = 1 by unfold latF; repeat (first | rw [if_neg (by omega)] | rw [if_pos (by omega)]))
  go_enter Try.func34, Try.ntmps34
  go_wp2
  go_ret
  exact ⟨ret_i (by rw [E.out]), rfl⟩
theorem isOp_at (op : Int) (B : Bool) (w : World) (h : inB op 0 23 = B) : Calls Try.prog 32 #[.int .i64 op] w fun e w' => e = .returned (.bool B) ∧ w = w' := by
  subst h
  by_cases h1 : 0 ≤ op
  · by_cases h2 : op ≤ 23
    · have E := Lib.hid (show inB op 0 23 = true from inB_iff.2 ⟨h1, h2⟩)
      go_enter Try.func32, Try.ntmps32
      go_wp2
      go_ret
      exact ⟨ret_b (by first | (rw [E.out]; done) | (rw [E.out]; simp; omega)), rfl⟩
    · have E := Lib.hid (show inB op 0 23 = false from decide_eq_false (by omega))
      have h3 : 23 < op := by omega
      go_enter Try.func32, Try.ntmps32
      go_wp2
      go_ret
      exact ⟨ret_b (by first | (rw [E.out]; done) | (rw [E.out]; simp; omega)), rfl⟩
  · have E := Lib.hid (show inB op 0 23 = false from decide_eq_false (by omega))
    have h3 : op < 0 := by omega
    go_enter Try.func32, Try.ntmps32
    go_wp2
    go_ret
    exact ⟨ret_b (by first | (rw [E.out]; done) | (rw [E.out]; simp; omega)), rfl⟩
theorem isLoad_at (op : Int) (B : Bool) (w : World) (h : inB op 18 20 = B) : Calls Try.prog 54 #[.int .i64 op] w fun e w' => e = .returned (.bool B) ∧ w = w' := by
  subst h
  by_cases h1 : 18 ≤ op
  · by_cases h2 : op ≤ 20
    · have E := Lib.hid (show inB op 18 20 = true from inB_iff.2 ⟨h1, h2⟩)
      go_enter Try.func54, Try.ntmps54
      go_wp2
      go_ret
      exact ⟨ret_b (by first | (rw [E.out]; done) | (rw [E.out]; simp; omega)), rfl⟩
    · have E := Lib.hid (show inB op 18 20 = false from decide_eq_false (by omega))
      have h3 : 20 < op := by omega
      go_enter Try.func54, Try.ntmps54
      go_wp2
      go_ret
      exact ⟨ret_b (by first | (rw [E.out]; done) | (rw [E.out]; simp; omega)), rfl⟩
  · have E := Lib.hid (show inB op 18 20 = false from decide_eq_false (by omega))
    have h3 : op < 18 := by omega
    go_enter Try.func54, Try.ntmps54
    go_wp2
    go_ret
    exact ⟨ret_b (by first | (rw [E.out]; done) | (rw [E.out]; simp; omega)), rfl⟩
theorem isStore_at (op : Int) (B : Bool) (w : World) (h : inB op 21 23 = B) : Calls Try.prog 53 #[.int .i64 op] w fun e w' => e = .returned (.bool B) ∧ w = w' := by
  subst h
  by_cases h1 : 21 ≤ op
  · by_cases h2 : op ≤ 23
    · have E := Lib.hid (show inB op 21 23 = true from inB_iff.2 ⟨h1, h2⟩)
      go_enter Try.func53, Try.ntmps53
      go_wp2
      go_ret
      exact ⟨ret_b (by first | (rw [E.out]; done) | (rw [E.out]; simp; omega)), rfl⟩
    · have E := Lib.hid (show inB op 21 23 = false from decide_eq_false (by omega))
      have h3 : 23 < op := by omega
      go_enter Try.func53, Try.ntmps53
      go_wp2
      go_ret
      exact ⟨ret_b (by first | (rw [E.out]; done) | (rw [E.out]; simp; omega)), rfl⟩
  · have E := Lib.hid (show inB op 21 23 = false from decide_eq_false (by omega))
    have h3 : op < 21 := by omega
    go_enter Try.func53, Try.ntmps53
    go_wp2
    go_ret
    exact ⟨ret_b (by first | (rw [E.out]; done) | (rw [E.out]; simp; omega)), rfl⟩
theorem refIsStore_at (op : Int) (B : Bool) (w : World) (h : inB op 21 23 = B) : Calls Try.prog 51 #[.int .i64 op] w fun e w' => e = .returned (.bool B) ∧ w = w' := by
  subst h
  by_cases h1 : 21 ≤ op
  · by_cases h2 : op ≤ 23
    · have E := Lib.hid (show inB op 21 23 = true from inB_iff.2 ⟨h1, h2⟩)
      go_enter Try.func51, Try.ntmps51
      go_wp2
      go_ret
      exact ⟨ret_b (by first | (rw [E.out]; done) | (rw [E.out]; simp; omega)), rfl⟩
    · have E := Lib.hid (show inB op 21 23 = false from decide_eq_false (by omega))
      have h3 : 23 < op := by omega
      go_enter Try.func51, Try.ntmps51
      go_wp2
      go_ret
      exact ⟨ret_b (by first | (rw [E.out]; done) | (rw [E.out]; simp; omega)), rfl⟩
  · have E := Lib.hid (show inB op 21 23 = false from decide_eq_false (by omega))
    have h3 : op < 21 := by omega
    go_enter Try.func51, Try.ntmps51
    go_wp2
    go_ret
    exact ⟨ret_b (by first | (rw [E.out]; done) | (rw [E.out]; simp; omega)), rfl⟩
theorem refIsMemory_at (op : Int) (B : Bool) (w : World) (h : inB op 18 23 = B) : Calls Try.prog 56 #[.int .i64 op] w fun e w' => e = .returned (.bool B) ∧ w = w' := by
  subst h
  by_cases h1 : 18 ≤ op
  · by_cases h2 : op ≤ 23
    · have E := Lib.hid (show inB op 18 23 = true from inB_iff.2 ⟨h1, h2⟩)
      go_enter Try.func56, Try.ntmps56
      go_wp2
      go_ret
      exact ⟨ret_b (by first | (rw [E.out]; done) | (rw [E.out]; simp; omega)), rfl⟩
    · have E := Lib.hid (show inB op 18 23 = false from decide_eq_false (by omega))
      have h3 : 23 < op := by omega
      go_enter Try.func56, Try.ntmps56
      go_wp2
      go_ret
      exact ⟨ret_b (by first | (rw [E.out]; done) | (rw [E.out]; simp; omega)), rfl⟩
  · have E := Lib.hid (show inB op 18 23 = false from decide_eq_false (by omega))
    have h3 : op < 18 := by omega
    go_enter Try.func56, Try.ntmps56
    go_wp2
    go_ret
    exact ⟨ret_b (by first | (rw [E.out]; done) | (rw [E.out]; simp; omega)), rfl⟩
theorem refIsRegister_at (op : Int) (B : Bool) (w : World) (h : inB op 0 199 = B) : Calls Try.prog 50 #[.int .i64 op] w fun e w' => e = .returned (.bool B) ∧ w = w' := by
  subst h
  by_cases h1 : 0 ≤ op
  · by_cases h2 : op ≤ 199
    · have E := Lib.hid (show inB op 0 199 = true from inB_iff.2 ⟨h1, h2⟩)
      go_enter Try.func50, Try.ntmps50
      go_wp2
      go_ret
      exact ⟨ret_b (by first | (rw [E.out]; done) | (rw [E.out]; simp; omega)), rfl⟩
    · have E := Lib.hid (show inB op 0 199 = false from decide_eq_false (by omega))
      have h3 : 199 < op := by omega
      go_enter Try.func50, Try.ntmps50
      go_wp2
      go_ret
      exact ⟨ret_b (by first | (rw [E.out]; done) | (rw [E.out]; simp; omega)), rfl⟩
  · have E := Lib.hid (show inB op 0 199 = false from decide_eq_false (by omega))
    have h3 : op < 0 := by omega
    go_enter Try.func50, Try.ntmps50
    go_wp2
    go_ret
    exact ⟨ret_b (by first | (rw [E.out]; done) | (rw [E.out]; simp; omega)), rfl⟩
theorem Latency_any (op : Int) (w : World) : Calls Try.prog 13 #[.int .i64 op] w fun e w' => e = .returned (.tuple #[.int .i64 (if inB op 0 23 then latF op else 0), .int .i64 (if inB op 0 23 then 0 else 1)]) ∧ w = w' := by
  have HL := Lib.hid (fun w1 => latency_any op w1)
  generalize latF op = L at HL ⊢
  by_cases h1 : 0 ≤ op
  · by_cases h2 : op ≤ 23
    · have HB := Lib.hid (show inB op 0 23 = true from inB_iff.2 ⟨h1, h2⟩)
      rw [HB.out]
      go_enter Try.func13, Try.ntmps13
      go_wp2_with (first | (go_at_call 32; ((with_reducible refine (isOp_at op true _ HB.out).mono ?_); rintro e w' ⟨rfl, rfl⟩)) | (go_at_call 33; ((with_reducible refine (HL.out _).mono ?_); rintro e w' ⟨rfl, rfl⟩)))
      refine bodyPost_ret (results_tmp2 rfl _ _ _) rfl ?_
      exact ⟨rfl, rfl⟩
    · have h3 : 23 < op := by omega
      have HB := Lib.hid (show inB op 0 23 = false from decide_eq_false (by omega))
      rw [HB.out]
      go_enter Try.func13, Try.ntmps13
      go_wp2_with (first | (go_at_call 32; ((with_reducible refine (isOp_at op false _ HB.out).mono ?_); rintro e w' ⟨rfl, rfl⟩)) | (go_at_call 33; ((with_reducible refine (HL.out _).mono ?_); rintro e w' ⟨rfl, rfl⟩)))
      refine bodyPost_ret (results_tmp2 rfl _ _ _) rfl ?_
      exact ⟨rfl, rfl⟩
  · have h3 : op < 0 := by omega
    have HB := Lib.hid (show inB op 0 23 = false from decide_eq_false (by omega))
    rw [HB.out]
    go_enter Try.func13, Try.ntmps13
    go_wp2_with (first | (go_at_call 32; ((with_reducible refine (isOp_at op false _ HB.out).mono ?_); rintro e w' ⟨rfl, rfl⟩)) | (go_at_call 33; ((with_reducible refine (HL.out _).mono ?_); rintro e w' ⟨rfl, rfl⟩)))
    refine bodyPost_ret (results_tmp2 rfl _ _ _) rfl ?_
    exact ⟨rfl, rfl⟩
theorem RefLatency_any (op : Int) (w : World) : Calls Try.prog 14 #[.int .i64 op] w fun e w' => e = .returned (.tuple #[.int .i64 (if inB op 0 23 then latF op else 0), .int .i64 (if inB op 0 23 then 0 else 1)]) ∧ w = w' := by
  have HL := Lib.hid (fun w1 => refLatency_any op w1)
  generalize latF op = L at HL ⊢
  by_cases h1 : 0 ≤ op
  · by_cases h2 : op ≤ 23
    · have HB := Lib.hid (show inB op 0 23 = true from inB_iff.2 ⟨h1, h2⟩)
      rw [HB.out]
      go_enter Try.func14, Try.ntmps14
      go_wp2_with (first | (go_at_call 34; ((with_reducible refine (HL.out _).mono ?_); rintro e w' ⟨rfl, rfl⟩)))
      refine bodyPost_ret (results_tmp2 rfl _ _ _) rfl ?_
      exact ⟨rfl, rfl⟩
    · have h3 : 23 < op := by omega
      have HB := Lib.hid (show inB op 0 23 = false from decide_eq_false (by omega))
      rw [HB.out]
      go_enter Try.func14, Try.ntmps14
      go_wp2_with (first | (go_at_call 34; ((with_reducible refine (HL.out _).mono ?_); rintro e w' ⟨rfl, rfl⟩)))
      refine bodyPost_ret (results_tmp2 rfl _ _ _) rfl ?_
      exact ⟨rfl, rfl⟩
  · have h3 : op < 0 := by omega
    have HB := Lib.hid (show inB op 0 23 = false from decide_eq_false (by omega))
    rw [HB.out]
    go_enter Try.func14, Try.ntmps14
    go_wp2_with (first | (go_at_call 34; ((with_reducible refine (HL.out _).mono ?_); rintro e w' ⟨rfl, rfl⟩)))
    refine bodyPost_ret (results_tmp2 rfl _ _ _) rfl ?_
    exact ⟨rfl, rfl⟩
end Go.Proofs.Ytjlacdnkncgpaaa
