/-
  Holds and Reads of both packages.
-/
import Derived.Test.YtpekegeohcnhcaaIaW
import Derived.Test.YtpekegeohcnhcaaIaX
import Derived.Test.YtpekegeohcnhcaaIaYc
namespace Go.Proofs.Ytpekegeohcnhcaa
open Go.RowKit

def hldB (c f : Int) : Bool := if isC c && decide (0 ≤ f ∧ f ≤ 15) then holdF c f else false
def hldE (c f : Int) : Int := if isC c && decide (0 ≤ f ∧ f ≤ 15) then 0 else 1
theorem hld_no {c f : Int} (h : (isC c && decide (0 ≤ f ∧ f ≤ 15)) = false) : hldB c f = false ∧ hldE c f = 1 := by
  unfold hldB hldE
  rw [h]
  exact ⟨rfl, rfl⟩
theorem hld_yes {c f : Int} (h : isC c = true) (h2 : 0 ≤ f ∧ f ≤ 15) : hldB c f = holdF c f ∧ hldE c f = 0 := by
  unfold hldB hldE
  rw [h, decide_eq_true h2]
  exact ⟨rfl, rfl⟩
set_option maxRecDepth 100000 in
theorem Holds_any (c f : Int) (w : World) : Calls Try.prog 18 #[.int .i64 c, .int .i64 f] w fun e w' => e = .returned (.tuple #[.bool (hldB c f), .int .i64 (hldE c f)]) ∧ w = w' := by
  cases hc : isC c
  · obtain ⟨e1, e2⟩ := hld_no (c := c) (f := f) (by rw [hc]; rfl)
    rw [e1, e2]
    have HC := Lib.hid (fun w1 => isCond_at c false w1 hc)
    clear hc e1 e2
    go_enter Try.func18, Try.ntmps18
    go_wp2_with fail
    refine (HC.out _).mono ?_
    rintro e w2 ⟨rfl, rfl⟩
    go_wp2
    exact bodyPost_ret (res2 rfl _ _) rfl ⟨rfl, rfl⟩
  · have HC := Lib.hid (fun w1 => isCond_at c true w1 hc)
    by_cases h0 : 0 ≤ f ∧ f ≤ 15
    · obtain ⟨e1, e2⟩ := hld_yes hc h0
      rw [e1, e2]
      have HH := Lib.hid (fun w1 => holds_at c f hc h0 w1)
      obtain ⟨h1, h2⟩ := h0
      generalize holdF c f = R at HH ⊢
      clear hc e1 e2
      have d1 : decide (f < 0) = false := decide_eq_false (by omega)
      have d2 : decide (15 < f) = false := decide_eq_false (by omega)
      go_enter Try.func18, Try.ntmps18
      go_wp2_with fail
      refine (HC.out _).mono ?_
      rintro e w2 ⟨rfl, rfl⟩
      go_wp2_with fail
      refine (HH.out _).mono ?_
      rintro e w2 ⟨rfl, rfl⟩
      go_wp2
      exact bodyPost_ret (res2 rfl _ _) rfl ⟨rfl, rfl⟩
    · obtain ⟨e1, e2⟩ := hld_no (c := c) (f := f) (by rw [decide_eq_false h0]; simp)
      rw [e1, e2]
      clear hc e1 e2
      by_cases hn : f < 0
      · have d1 : decide (f < 0) = true := decide_eq_true hn
        clear h0
        go_enter Try.func18, Try.ntmps18
        go_wp2_with fail
        refine (HC.out _).mono ?_
        rintro e w2 ⟨rfl, rfl⟩
        go_wp2
        exact bodyPost_ret (res2 rfl _ _) rfl ⟨rfl, rfl⟩
      · have d1 : decide (f < 0) = false := decide_eq_false hn
        have hm : 15 < f := by omega
        have d2 : decide (15 < f) = true := decide_eq_true hm
        clear h0
        go_enter Try.func18, Try.ntmps18
        go_wp2_with fail
        refine (HC.out _).mono ?_
        rintro e w2 ⟨rfl, rfl⟩
        go_wp2
        exact bodyPost_ret (res2 rfl _ _) rfl ⟨rfl, rfl⟩
set_option maxRecDepth 100000 in
theorem rHolds_any (c f : Int) (w : World) : Calls Try.prog 19 #[.int .i64 c, .int .i64 f] w fun e w' => e = .returned (.tuple #[.bool (hldB c f), .int .i64 (hldE c f)]) ∧ w = w' := by
  cases hc : isC c
  · obtain ⟨e1, e2⟩ := hld_no (c := c) (f := f) (by rw [hc]; rfl)
    rw [e1, e2]
    have HC := Lib.hid (fun w1 => rIsCond_at c false w1 hc)
    clear hc e1 e2
    go_enter Try.func19, Try.ntmps19
    go_wp2_with fail
    refine (HC.out _).mono ?_
    rintro e w2 ⟨rfl, rfl⟩
    go_wp2
    exact bodyPost_ret (res2 rfl _ _) rfl ⟨rfl, rfl⟩
  · have HC := Lib.hid (fun w1 => rIsCond_at c true w1 hc)
    by_cases h0 : 0 ≤ f ∧ f ≤ 15
    · obtain ⟨e1, e2⟩ := hld_yes hc h0
      rw [e1, e2]
      have HH := Lib.hid (fun w1 => rholds_at c f hc h0 w1)
      obtain ⟨h1, h2⟩ := h0
      generalize holdF c f = R at HH ⊢
      clear hc e1 e2
      have d1 : decide (f < 0) = false := decide_eq_false (by omega)
      have d2 : decide (15 < f) = false := decide_eq_false (by omega)
      go_enter Try.func19, Try.ntmps19
      go_wp2_with fail
      refine (HC.out _).mono ?_
      rintro e w2 ⟨rfl, rfl⟩
      go_wp2_with fail
      refine (HH.out _).mono ?_
      rintro e w2 ⟨rfl, rfl⟩
      go_wp2
      exact bodyPost_ret (res2 rfl _ _) rfl ⟨rfl, rfl⟩
    · obtain ⟨e1, e2⟩ := hld_no (c := c) (f := f) (by rw [decide_eq_false h0]; simp)
      rw [e1, e2]
      clear hc e1 e2
      by_cases hn : f < 0
      · have d1 : decide (f < 0) = true := decide_eq_true hn
        clear h0
        go_enter Try.func19, Try.ntmps19
        go_wp2_with fail
        refine (HC.out _).mono ?_
        rintro e w2 ⟨rfl, rfl⟩
        go_wp2
        exact bodyPost_ret (res2 rfl _ _) rfl ⟨rfl, rfl⟩
      · have d1 : decide (f < 0) = false := decide_eq_false hn
        have hm : 15 < f := by omega
        have d2 : decide (15 < f) = true := decide_eq_true hm
        clear h0
        go_enter Try.func19, Try.ntmps19
        go_wp2_with fail
        refine (HC.out _).mono ?_
        rintro e w2 ⟨rfl, rfl⟩
        go_wp2
        exact bodyPost_ret (res2 rfl _ _) rfl ⟨rfl, rfl⟩
def tblR (c : Int) : Int := [8, 1, 2, 3, 4, 0, 12, 14].getD (c / 2).toNat 0
/-- Which flags an instruction asks for. -/
def rdF (x : Ins) : Int := if valB x then (if x.op = 31 then tblR x.imm else if x.op = 29 ∨ x.op = 32 then tblR x.s else 0) else 0
theorem val_31 {d s sz imm : Int} (h : valB ⟨31, d, s, sz, imm⟩ = true) : isC imm = true := by
  rw [← vb_o31] at h
  revert h
  cases isC imm <;> simp
theorem val_29 {d s sz imm : Int} (h : valB ⟨29, d, s, sz, imm⟩ = true) : isC s = true := by
  rw [← vb_o29] at h
  revert h
  cases isC s <;> simp
theorem val_32 {d s sz imm : Int} (h : valB ⟨32, d, s, sz, imm⟩ = true) : isC s = true := by
  by_cases h8 : sz = 8
  · subst h8
    rw [← vb_o32_8] at h
    revert h
    cases isC s <;> simp
  · rw [← vb_o32 d s sz imm (beq_false_of_ne h8)] at h
    revert h
    cases isC s <;> simp
theorem ix_0 (w : World) : (Instr.index 71 (.agg #[.int .i64 8, .int .i64 1, .int .i64 2, .int .i64 3, .int .i64 4, .int .i64 0, .int .i64 12, .int .i64 14]) (.int .i64 0)).run Try.prog w = .ok (.int .i64 8) w := by kernel_rfl
theorem ix_1 (w : World) : (Instr.index 71 (.agg #[.int .i64 8, .int .i64 1, .int .i64 2, .int .i64 3, .int .i64 4, .int .i64 0, .int .i64 12, .int .i64 14]) (.int .i64 1)).run Try.prog w = .ok (.int .i64 1) w := by kernel_rfl
theorem ix_2 (w : World) : (Instr.index 71 (.agg #[.int .i64 8, .int .i64 1, .int .i64 2, .int .i64 3, .int .i64 4, .int .i64 0, .int .i64 12, .int .i64 14]) (.int .i64 2)).run Try.prog w = .ok (.int .i64 2) w := by kernel_rfl
theorem ix_3 (w : World) : (Instr.index 71 (.agg #[.int .i64 8, .int .i64 1, .int .i64 2, .int .i64 3, .int .i64 4, .int .i64 0, .int .i64 12, .int .i64 14]) (.int .i64 3)).run Try.prog w = .ok (.int .i64 3) w := by kernel_rfl
theorem ix_4 (w : World) : (Instr.index 71 (.agg #[.int .i64 8, .int .i64 1, .int .i64 2, .int .i64 3, .int .i64 4, .int .i64 0, .int .i64 12, .int .i64 14]) (.int .i64 4)).run Try.prog w = .ok (.int .i64 4) w := by kernel_rfl
theorem ix_5 (w : World) : (Instr.index 71 (.agg #[.int .i64 8, .int .i64 1, .int .i64 2, .int .i64 3, .int .i64 4, .int .i64 0, .int .i64 12, .int .i64 14]) (.int .i64 5)).run Try.prog w = .ok (.int .i64 0) w := by kernel_rfl
theorem ix_6 (w : World) : (Instr.index 71 (.agg #[.int .i64 8, .int .i64 1, .int .i64 2, .int .i64 3, .int .i64 4, .int .i64 0, .int .i64 12, .int .i64 14]) (.int .i64 6)).run Try.prog w = .ok (.int .i64 12) w := by kernel_rfl
theorem ix_7 (w : World) : (Instr.index 71 (.agg #[.int .i64 8, .int .i64 1, .int .i64 2, .int .i64 3, .int .i64 4, .int .i64 0, .int .i64 12, .int .i64 14]) (.int .i64 7)).run Try.prog w = .ok (.int .i64 14) w := by kernel_rfl
set_option maxRecDepth 100000 in
set_option maxHeartbeats 4000000 in
theorem reads_cond (op d s sz imm C : Int) (hv : valB ⟨op, d, s, sz, imm⟩ = true) (hC : isC C = true) (hcase : (op = 31 ∧ C = imm) ∨ (op = 29 ∧ C = s) ∨ (op = 32 ∧ C = s)) (w : World) :
    Calls Try.prog 20 #[aggI ⟨op, d, s, sz, imm⟩] w fun e w' => e = .returned (.tuple #[.int .i64 (tblR C), .int .i64 0]) ∧ Below w.heap.size w w' := by
  have HV := Lib.hid (fun w1 => validate_at ⟨op, d, s, sz, imm⟩ 0 (by unfold errI; rw [hv]; rfl) w1)
  clear hv
  have x0 := ix_0
  have x1 := ix_1
  have x2 := ix_2
  have x3 := ix_3
  have x4 := ix_4
  have x6 := ix_6
  have x7 := ix_7
  rcases hcase with ⟨h, h'⟩ | ⟨h, h'⟩ | ⟨h, h'⟩
  all_goals
    subst h h'
    rcases cond_cases hC with h | h | h | h | h | h | h | h | h | h | h | h | h | h
    all_goals
      subst h
      clear hC
      go_enter Try.func20, Try.ntmps20
      go_wp2_with fail
      generalize hA : World.alloc w _ = W
      have hb := below_new hA (Below.refl _ _)
      have hx := hA ▸ heap_alloc_new w _
      clear hA
      refine (HV.out _).mono ?_
      rintro e w2 ⟨rfl, hw⟩
      replace hx := (hw.block _ (lt_of_block hx)).trans hx
      replace hb := hb.trans (hw.mono hb.size)
      obtain ⟨y0, y1, y2, y3, y4⟩ := cells5 hx
      clear hx hw
      go_wp2
      exact bodyPost_ret (res2 rfl _ _) rfl ⟨rfl, hb⟩
set_option maxRecDepth 100000 in
set_option maxHeartbeats 4000000 in
theorem reads_none (op d s sz imm : Int) (hv : valB ⟨op, d, s, sz, imm⟩ = true) (h31 : op ≠ 31) (h29 : op ≠ 29) (h32 : op ≠ 32) (w : World) :
    Calls Try.prog 20 #[aggI ⟨op, d, s, sz, imm⟩] w fun e w' => e = .returned (.tuple #[.int .i64 0, .int .i64 0]) ∧ Below w.heap.size w w' := by
  have HV := Lib.hid (fun w1 => validate_at ⟨op, d, s, sz, imm⟩ 0 (by unfold errI; rw [hv]; rfl) w1)
  clear hv
  have f1 : (op == 31) = false := beq_false_of_ne h31
  have f2 : (op == 29) = false := beq_false_of_ne h29
  have f3 : (op == 32) = false := beq_false_of_ne h32
  clear h31 h29 h32
  go_enter Try.func20, Try.ntmps20
  go_wp2_with fail
  generalize hA : World.alloc w _ = W
  have hb := below_new hA (Below.refl _ _)
  have hx := hA ▸ heap_alloc_new w _
  clear hA
  refine (HV.out _).mono ?_
  rintro e w2 ⟨rfl, hw⟩
  replace hx := (hw.block _ (lt_of_block hx)).trans hx
  replace hb := hb.trans (hw.mono hb.size)
  obtain ⟨y0, y1, y2, y3, y4⟩ := cells5 hx
  clear hx hw
  go_wp2
  exact bodyPost_ret (res2 rfl _ _) rfl ⟨rfl, hb⟩
set_option maxRecDepth 100000 in
set_option maxHeartbeats 4000000 in
theorem reads_bad (op d s sz imm : Int) (hv : valB ⟨op, d, s, sz, imm⟩ = false) (w : World) :
    Calls Try.prog 20 #[aggI ⟨op, d, s, sz, imm⟩] w fun e w' => e = .returned (.tuple #[.int .i64 0, .int .i64 1]) ∧ Below w.heap.size w w' := by
  have HV := Lib.hid (fun w1 => validate_at ⟨op, d, s, sz, imm⟩ 1 (by unfold errI; rw [hv]; rfl) w1)
  clear hv
  go_enter Try.func20, Try.ntmps20
  go_wp2_with fail
  generalize hA : World.alloc w _ = W
  have hb := below_new hA (Below.refl _ _)
  clear hA
  refine (HV.out _).mono ?_
  rintro e w2 ⟨rfl, hw⟩
  replace hb := hb.trans (hw.mono hb.size)
  clear hw
  go_wp2
  exact bodyPost_ret (res2 rfl _ _) rfl ⟨rfl, hb⟩
theorem Reads_any (x : Ins) (w : World) : Calls Try.prog 20 #[aggI x] w fun e w' => e = .returned (.tuple #[.int .i64 (rdF x), .int .i64 (errI x)]) ∧ Below w.heap.size w w' := by
  obtain ⟨op, d, s, sz, imm⟩ := x
  unfold rdF errI
  cases hv : valB ⟨op, d, s, sz, imm⟩
  · exact reads_bad op d s sz imm hv w
  · by_cases h31 : op = 31
    · subst h31
      exact reads_cond 31 d s sz imm imm hv (val_31 hv) (.inl ⟨rfl, rfl⟩) w
    by_cases h29 : op = 29
    · subst h29
      exact reads_cond 29 d s sz imm s hv (val_29 hv) (.inr (.inl ⟨rfl, rfl⟩)) w
    by_cases h32 : op = 32
    · subst h32
      exact reads_cond 32 d s sz imm s hv (val_32 hv) (.inr (.inr ⟨rfl, rfl⟩)) w
    rw [if_pos rfl, if_pos rfl, if_neg h31, if_neg (by show ¬ (op = 29 ∨ op = 32); omega)]
    exact reads_none op d s sz imm hv h31 h29 h32 w
end Go.Proofs.Ytpekegeohcnhcaa
