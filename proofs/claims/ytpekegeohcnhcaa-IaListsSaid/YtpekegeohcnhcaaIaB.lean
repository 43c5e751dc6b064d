/-
  Which instructions there are: the predicates of the table.
-/
import Derived.Test.YtpekegeohcnhcaaIaA
namespace Go.Proofs.Ytpekegeohcnhcaa
open Go.RowKit

theorem quietC {P : Program} {f : FuncId} {args : Array Value} {w : World} {d : Nat} {os : Array Obj} {v : Value} (h : Calls P f args (Sort.grow (redrawn w d) os) fun e w' => e = .returned v ∧ Sort.grow (redrawn w d) os = w') :
    Calls P f args (Sort.grow (redrawn w d) os) fun e w'' => e = .returned v ∧ ∃ p : Regrown, w'' = Sort.grow (redrawn w p.d) p.os := Calls.regrown_of (h.mono fun _ _ ⟨h1, h2⟩ => ⟨h1, h2 ▸ Below.refl _ _⟩)
theorem cells5 {W : World} {P : Nat} {a b c d e : Value} {t : TypeId} {fr : Nat × Nat} (h : W.heap[P]? = some (.cells #[a, b, c, d, e] t fr)) :
    W.cell? ⟨P, 0, none⟩ = some a ∧ W.cell? ⟨P, 1, none⟩ = some b ∧ W.cell? ⟨P, 2, none⟩ = some c ∧ W.cell? ⟨P, 3, none⟩ = some d ∧ W.cell? ⟨P, 4, none⟩ = some e := by
  refine ⟨?_, ?_, ?_, ?_, ?_⟩ <;> simp [World.cell?, h]
set_option maxRecDepth 100000 in
set_option maxHeartbeats 2000000 in
theorem fit0_at (op d s sz imm : Int) (B : Bool) (w : World) (h : fitB 0 ⟨op, d, s, sz, imm⟩ = B) : Calls Try.prog 57 #[aggI ⟨op, d, s, sz, imm⟩] w fun e w' => e = .returned (.bool B) ∧ Below w.heap.size w w' := by
  have HB := Lib.hid h
  clear h
  by_cases h0 : d = 0
  · subst h0
    by_cases h1 : s = 0
    · subst h1
      by_cases h2 : imm = 0
      · subst h2
        have HE := Lib.hid (show B = true by rw [← HB.out]; simp [fitB])
        go_enter Try.func57, Try.ntmps57
        go_wp2_with (first | fail)
        all_goals go_ret
        all_goals exact ⟨ret_b HE.out.symm, (Below.refl _ _).alloc (Nat.le_refl _) _⟩
      · have d2 : (imm == 0) = false := beq_false_of_ne h2
        have HE := Lib.hid (show B = false by rw [← HB.out]; simp [fitB, h2])
        go_enter Try.func57, Try.ntmps57
        go_wp2_with (first | fail)
        all_goals go_ret
        all_goals exact ⟨ret_b HE.out.symm, (Below.refl _ _).alloc (Nat.le_refl _) _⟩
    · have d1 : (s == 0) = false := beq_false_of_ne h1
      have HE := Lib.hid (show B = false by rw [← HB.out]; simp [fitB, h1])
      go_enter Try.func57, Try.ntmps57
      go_wp2_with (first | fail)
      all_goals go_ret
      all_goals exact ⟨ret_b HE.out.symm, (Below.refl _ _).alloc (Nat.le_refl _) _⟩
  · have d0 : (d == 0) = false := beq_false_of_ne h0
    have HE := Lib.hid (show B = false by rw [← HB.out]; simp [fitB, h0])
    go_enter Try.func57, Try.ntmps57
    go_wp2_with (first | fail)
    all_goals go_ret
    all_goals exact ⟨ret_b HE.out.symm, (Below.refl _ _).alloc (Nat.le_refl _) _⟩
set_option maxRecDepth 100000 in
set_option maxHeartbeats 2000000 in
theorem fit1_at (op d s sz imm : Int) (B : Bool) (w : World) (h : fitB 1 ⟨op, d, s, sz, imm⟩ = B) : Calls Try.prog 55 #[aggI ⟨op, d, s, sz, imm⟩] w fun e w' => e = .returned (.bool B) ∧ Below w.heap.size w w' := by
  have HB := Lib.hid h
  clear h
  cases e0 : isR d
  · have H0 := Lib.hid e0
    clear e0
    have HE := Lib.hid (show B = false by rw [← HB.out]; simp [fitB, H0.out])
    go_enter Try.func55, Try.ntmps55
    go_wp2_with (first | fail | (go_at_call 88; ((with_reducible refine (isReg_at d _ _ H0.out).mono ?_); rintro e w' ⟨rfl, rfl⟩)))
    all_goals go_ret
    all_goals exact ⟨ret_b HE.out.symm, (Below.refl _ _).alloc (Nat.le_refl _) _⟩
  · have H0 := Lib.hid e0
    clear e0
    by_cases h1 : s = 0
    · subst h1
      by_cases h2 : imm = 0
      · subst h2
        have HE := Lib.hid (show B = true by rw [← HB.out]; simp [fitB, H0.out])
        go_enter Try.func55, Try.ntmps55
        go_wp2_with (first | fail | (go_at_call 88; ((with_reducible refine (isReg_at d _ _ H0.out).mono ?_); rintro e w' ⟨rfl, rfl⟩)))
        all_goals go_ret
        all_goals exact ⟨ret_b HE.out.symm, (Below.refl _ _).alloc (Nat.le_refl _) _⟩
      · have d2 : (imm == 0) = false := beq_false_of_ne h2
        have HE := Lib.hid (show B = false by rw [← HB.out]; simp [fitB, H0.out, h2])
        go_enter Try.func55, Try.ntmps55
        go_wp2_with (first | fail | (go_at_call 88; ((with_reducible refine (isReg_at d _ _ H0.out).mono ?_); rintro e w' ⟨rfl, rfl⟩)))
        all_goals go_ret
        all_goals exact ⟨ret_b HE.out.symm, (Below.refl _ _).alloc (Nat.le_refl _) _⟩
    · have d1 : (s == 0) = false := beq_false_of_ne h1
      have HE := Lib.hid (show B = false by rw [← HB.out]; simp [fitB, H0.out, h1])
      go_enter Try.func55, Try.ntmps55
      go_wp2_with (first | fail | (go_at_call 88; ((with_reducible refine (isReg_at d _ _ H0.out).mono ?_); rintro e w' ⟨rfl, rfl⟩)))
      all_goals go_ret
      all_goals exact ⟨ret_b HE.out.symm, (Below.refl _ _).alloc (Nat.le_refl _) _⟩
set_option maxRecDepth 100000 in
set_option maxHeartbeats 2000000 in
theorem fit2_at (op d s sz imm : Int) (B : Bool) (w : World) (h : fitB 2 ⟨op, d, s, sz, imm⟩ = B) : Calls Try.prog 43 #[aggI ⟨op, d, s, sz, imm⟩] w fun e w' => e = .returned (.bool B) ∧ Below w.heap.size w w' := by
  have HB := Lib.hid h
  clear h
  cases e0 : isR d
  · have H0 := Lib.hid e0
    clear e0
    have HE := Lib.hid (show B = false by rw [← HB.out]; simp [fitB, H0.out])
    go_enter Try.func43, Try.ntmps43
    go_wp2_with (first | fail | (go_at_call 88; ((with_reducible refine (isReg_at d _ _ H0.out).mono ?_); rintro e w' ⟨rfl, rfl⟩)))
    all_goals go_ret
    all_goals exact ⟨ret_b HE.out.symm, (Below.refl _ _).alloc (Nat.le_refl _) _⟩
  · have H0 := Lib.hid e0
    clear e0
    cases e1 : isR s
    · have H1 := Lib.hid e1
      clear e1
      have HE := Lib.hid (show B = false by rw [← HB.out]; simp [fitB, H0.out, H1.out])
      go_enter Try.func43, Try.ntmps43
      go_wp2_with (first | fail | (go_at_call 88; ((with_reducible refine (isReg_at d _ _ H0.out).mono ?_); rintro e w' ⟨rfl, rfl⟩)) | (go_at_call 88; ((with_reducible refine (isReg_at s _ _ H1.out).mono ?_); rintro e w' ⟨rfl, rfl⟩)))
      all_goals go_ret
      all_goals exact ⟨ret_b HE.out.symm, (Below.refl _ _).alloc (Nat.le_refl _) _⟩
    · have H1 := Lib.hid e1
      clear e1
      by_cases h2 : imm = 0
      · subst h2
        have HE := Lib.hid (show B = true by rw [← HB.out]; simp [fitB, H0.out, H1.out])
        go_enter Try.func43, Try.ntmps43
        go_wp2_with (first | fail | (go_at_call 88; ((with_reducible refine (isReg_at d _ _ H0.out).mono ?_); rintro e w' ⟨rfl, rfl⟩)) | (go_at_call 88; ((with_reducible refine (isReg_at s _ _ H1.out).mono ?_); rintro e w' ⟨rfl, rfl⟩)))
        all_goals go_ret
        all_goals exact ⟨ret_b HE.out.symm, (Below.refl _ _).alloc (Nat.le_refl _) _⟩
      · have d2 : (imm == 0) = false := beq_false_of_ne h2
        have HE := Lib.hid (show B = false by rw [← HB.out]; simp [fitB, H0.out, H1.out, h2])
        go_enter Try.func43, Try.ntmps43
        go_wp2_with (first | fail | (go_at_call 88; ((with_reducible refine (isReg_at d _ _ H0.out).mono ?_); rintro e w' ⟨rfl, rfl⟩)) | (go_at_call 88; ((with_reducible refine (isReg_at s _ _ H1.out).mono ?_); rintro e w' ⟨rfl, rfl⟩)))
        all_goals go_ret
        all_goals exact ⟨ret_b HE.out.symm, (Below.refl _ _).alloc (Nat.le_refl _) _⟩
set_option maxRecDepth 100000 in
set_option maxHeartbeats 2000000 in
theorem fit3_16_at (op d s imm : Int) (B : Bool) (w : World) (h : fitB 3 ⟨op, d, s, 16, imm⟩ = B) : Calls Try.prog 45 #[aggI ⟨op, d, s, 16, imm⟩] w fun e w' => e = .returned (.bool B) ∧ Below w.heap.size w w' := by
  have HB := Lib.hid h
  clear h
  cases e0 : isR d
  · have H0 := Lib.hid e0
    clear e0
    have HE := Lib.hid (show B = false by rw [← HB.out]; simp [fitB, half, H0.out])
    go_enter Try.func45, Try.ntmps45
    go_wp2
    have hb : Below w.heap.size w (w.alloc (.cells #[.int .i64 op, .int .i64 d, .int .i64 s, .int .i64 16, .int .i64 imm] 23)) := (Below.refl _ _).alloc (Nat.le_refl _) _
    have hx := heap_alloc_new w (.cells #[.int .i64 op, .int .i64 d, .int .i64 s, .int .i64 16, .int .i64 imm] 23)
    obtain ⟨x0, x1, x2, x3, x4⟩ := cells5 hx
    have T0 := cell_regrown x0
    have T1 := cell_regrown x1
    have T2 := cell_regrown x2
    have T3 := cell_regrown x3
    have T4 := cell_regrown x4
    clear x0 x1 x2 x3 x4
    refine wp_region_quiet_below (by kernel_rfl) (by kernel_rfl) ?_
    iterate 22 (go_big_quiet_step ((first | fail | (go_at_call 88; exact quietC (isReg_at d _ _ H0.out)))))
    refine wpQuiet_nil ?_
    intro _ hw'
    obtain ⟨⟨dq, osq⟩, hw''⟩ := hw'
    subst hw''
    replace hb := hb.trans ((below_regrown _ dq osq).mono hb.size)
    go_wp2
    all_goals go_ret
    all_goals exact ⟨ret_b HE.out.symm, hb⟩
  · have H0 := Lib.hid e0
    clear e0
    by_cases h1 : s = 0
    · subst h1
      by_cases h2 : 0 ≤ imm
      · have d2 : decide (0 ≤ imm) = true := decide_eq_true h2
        by_cases h3 : imm < 65536
        · have d3 : decide (imm < 65536) = true := decide_eq_true h3
          have HE := Lib.hid (show B = true by rw [← HB.out]; simp [fitB, half, H0.out, h2, h3])
          go_enter Try.func45, Try.ntmps45
          go_wp2
          have hb : Below w.heap.size w (w.alloc (.cells #[.int .i64 op, .int .i64 d, .int .i64 0, .int .i64 16, .int .i64 imm] 23)) := (Below.refl _ _).alloc (Nat.le_refl _) _
          have hx := heap_alloc_new w (.cells #[.int .i64 op, .int .i64 d, .int .i64 0, .int .i64 16, .int .i64 imm] 23)
          obtain ⟨x0, x1, x2, x3, x4⟩ := cells5 hx
          have T0 := cell_regrown x0
          have T1 := cell_regrown x1
          have T2 := cell_regrown x2
          have T3 := cell_regrown x3
          have T4 := cell_regrown x4
          clear x0 x1 x2 x3 x4
          refine wp_region_quiet_below (by kernel_rfl) (by kernel_rfl) ?_
          iterate 22 (go_big_quiet_step ((first | fail | (go_at_call 88; exact quietC (isReg_at d _ _ H0.out)))))
          refine wpQuiet_nil ?_
          intro _ hw'
          obtain ⟨⟨dq, osq⟩, hw''⟩ := hw'
          subst hw''
          replace hb := hb.trans ((below_regrown _ dq osq).mono hb.size)
          go_wp2
          all_goals go_ret
          all_goals exact ⟨ret_b HE.out.symm, hb⟩
        · have d3 : decide (imm < 65536) = false := decide_eq_false h3
          have HE := Lib.hid (show B = false by rw [← HB.out]; simp [fitB, half, H0.out, h2, h3])
          go_enter Try.func45, Try.ntmps45
          go_wp2
          have hb : Below w.heap.size w (w.alloc (.cells #[.int .i64 op, .int .i64 d, .int .i64 0, .int .i64 16, .int .i64 imm] 23)) := (Below.refl _ _).alloc (Nat.le_refl _) _
          have hx := heap_alloc_new w (.cells #[.int .i64 op, .int .i64 d, .int .i64 0, .int .i64 16, .int .i64 imm] 23)
          obtain ⟨x0, x1, x2, x3, x4⟩ := cells5 hx
          have T0 := cell_regrown x0
          have T1 := cell_regrown x1
          have T2 := cell_regrown x2
          have T3 := cell_regrown x3
          have T4 := cell_regrown x4
          clear x0 x1 x2 x3 x4
          refine wp_region_quiet_below (by kernel_rfl) (by kernel_rfl) ?_
          iterate 22 (go_big_quiet_step ((first | fail | (go_at_call 88; exact quietC (isReg_at d _ _ H0.out)))))
          refine wpQuiet_nil ?_
          intro _ hw'
          obtain ⟨⟨dq, osq⟩, hw''⟩ := hw'
          subst hw''
          replace hb := hb.trans ((below_regrown _ dq osq).mono hb.size)
          go_wp2
          all_goals go_ret
          all_goals exact ⟨ret_b HE.out.symm, hb⟩
      · have d2 : decide (0 ≤ imm) = false := decide_eq_false h2
        have HE := Lib.hid (show B = false by rw [← HB.out]; simp [fitB, half, H0.out, h2])
        go_enter Try.func45, Try.ntmps45
        go_wp2
        have hb : Below w.heap.size w (w.alloc (.cells #[.int .i64 op, .int .i64 d, .int .i64 0, .int .i64 16, .int .i64 imm] 23)) := (Below.refl _ _).alloc (Nat.le_refl _) _
        have hx := heap_alloc_new w (.cells #[.int .i64 op, .int .i64 d, .int .i64 0, .int .i64 16, .int .i64 imm] 23)
        obtain ⟨x0, x1, x2, x3, x4⟩ := cells5 hx
        have T0 := cell_regrown x0
        have T1 := cell_regrown x1
        have T2 := cell_regrown x2
        have T3 := cell_regrown x3
        have T4 := cell_regrown x4
        clear x0 x1 x2 x3 x4
        refine wp_region_quiet_below (by kernel_rfl) (by kernel_rfl) ?_
        iterate 22 (go_big_quiet_step ((first | fail | (go_at_call 88; exact quietC (isReg_at d _ _ H0.out)))))
        refine wpQuiet_nil ?_
        intro _ hw'
        obtain ⟨⟨dq, osq⟩, hw''⟩ := hw'
        subst hw''
        replace hb := hb.trans ((below_regrown _ dq osq).mono hb.size)
        go_wp2
        all_goals go_ret
        all_goals exact ⟨ret_b HE.out.symm, hb⟩
    · have d1 : (s == 0) = false := beq_false_of_ne h1
      have HE := Lib.hid (show B = false by rw [← HB.out]; simp [fitB, half, H0.out, h1])
      go_enter Try.func45, Try.ntmps45
      go_wp2
      have hb : Below w.heap.size w (w.alloc (.cells #[.int .i64 op, .int .i64 d, .int .i64 s, .int .i64 16, .int .i64 imm] 23)) := (Below.refl _ _).alloc (Nat.le_refl _) _
      have hx := heap_alloc_new w (.cells #[.int .i64 op, .int .i64 d, .int .i64 s, .int .i64 16, .int .i64 imm] 23)
      obtain ⟨x0, x1, x2, x3, x4⟩ := cells5 hx
      have T0 := cell_regrown x0
      have T1 := cell_regrown x1
      have T2 := cell_regrown x2
      have T3 := cell_regrown x3
      have T4 := cell_regrown x4
      clear x0 x1 x2 x3 x4
      refine wp_region_quiet_below (by kernel_rfl) (by kernel_rfl) ?_
      iterate 22 (go_big_quiet_step ((first | fail | (go_at_call 88; exact quietC (isReg_at d _ _ H0.out)))))
      refine wpQuiet_nil ?_
      intro _ hw'
      obtain ⟨⟨dq, osq⟩, hw''⟩ := hw'
      subst hw''
      replace hb := hb.trans ((below_regrown _ dq osq).mono hb.size)
      go_wp2
      all_goals go_ret
      all_goals exact ⟨ret_b HE.out.symm, hb⟩
set_option maxRecDepth 100000 in
set_option maxHeartbeats 2000000 in
theorem fit3_32_at (op d s imm : Int) (B : Bool) (w : World) (h : fitB 3 ⟨op, d, s, 32, imm⟩ = B) : Calls Try.prog 45 #[aggI ⟨op, d, s, 32, imm⟩] w fun e w' => e = .returned (.bool B) ∧ Below w.heap.size w w' := by
  have HB := Lib.hid h
  clear h
  cases e0 : isR d
  · have H0 := Lib.hid e0
    clear e0
    have HE := Lib.hid (show B = false by rw [← HB.out]; simp [fitB, half, H0.out])
    go_enter Try.func45, Try.ntmps45
    go_wp2
    have hb : Below w.heap.size w (w.alloc (.cells #[.int .i64 op, .int .i64 d, .int .i64 s, .int .i64 32, .int .i64 imm] 23)) := (Below.refl _ _).alloc (Nat.le_refl _) _
    have hx := heap_alloc_new w (.cells #[.int .i64 op, .int .i64 d, .int .i64 s, .int .i64 32, .int .i64 imm] 23)
    obtain ⟨x0, x1, x2, x3, x4⟩ := cells5 hx
    have T0 := cell_regrown x0
    have T1 := cell_regrown x1
    have T2 := cell_regrown x2
    have T3 := cell_regrown x3
    have T4 := cell_regrown x4
    clear x0 x1 x2 x3 x4
    refine wp_region_quiet_below (by kernel_rfl) (by kernel_rfl) ?_
    iterate 22 (go_big_quiet_step ((first | fail | (go_at_call 88; exact quietC (isReg_at d _ _ H0.out)))))
    refine wpQuiet_nil ?_
    intro _ hw'
    obtain ⟨⟨dq, osq⟩, hw''⟩ := hw'
    subst hw''
    replace hb := hb.trans ((below_regrown _ dq osq).mono hb.size)
    go_wp2
    all_goals go_ret
    all_goals exact ⟨ret_b HE.out.symm, hb⟩
  · have H0 := Lib.hid e0
    clear e0
    by_cases h1 : s = 0
    · subst h1
      by_cases h2 : 0 ≤ imm
      · have d2 : decide (0 ≤ imm) = true := decide_eq_true h2
        by_cases h3 : imm < 4294967296
        · have d3 : decide (imm < 4294967296) = true := decide_eq_true h3
          have HE := Lib.hid (show B = true by rw [← HB.out]; simp [fitB, half, H0.out, h2, h3])
          go_enter Try.func45, Try.ntmps45
          go_wp2
          have hb : Below w.heap.size w (w.alloc (.cells #[.int .i64 op, .int .i64 d, .int .i64 0, .int .i64 32, .int .i64 imm] 23)) := (Below.refl _ _).alloc (Nat.le_refl _) _
          have hx := heap_alloc_new w (.cells #[.int .i64 op, .int .i64 d, .int .i64 0, .int .i64 32, .int .i64 imm] 23)
          obtain ⟨x0, x1, x2, x3, x4⟩ := cells5 hx
          have T0 := cell_regrown x0
          have T1 := cell_regrown x1
          have T2 := cell_regrown x2
          have T3 := cell_regrown x3
          have T4 := cell_regrown x4
          clear x0 x1 x2 x3 x4
          refine wp_region_quiet_below (by kernel_rfl) (by kernel_rfl) ?_
          iterate 22 (go_big_quiet_step ((first | fail | (go_at_call 88; exact quietC (isReg_at d _ _ H0.out)))))
          refine wpQuiet_nil ?_
          intro _ hw'
          obtain ⟨⟨dq, osq⟩, hw''⟩ := hw'
          subst hw''
          replace hb := hb.trans ((below_regrown _ dq osq).mono hb.size)
          go_wp2
          all_goals go_ret
          all_goals exact ⟨ret_b HE.out.symm, hb⟩
        · have d3 : decide (imm < 4294967296) = false := decide_eq_false h3
          have HE := Lib.hid (show B = false by rw [← HB.out]; simp [fitB, half, H0.out, h2, h3])
          go_enter Try.func45, Try.ntmps45
          go_wp2
          have hb : Below w.heap.size w (w.alloc (.cells #[.int .i64 op, .int .i64 d, .int .i64 0, .int .i64 32, .int .i64 imm] 23)) := (Below.refl _ _).alloc (Nat.le_refl _) _
          have hx := heap_alloc_new w (.cells #[.int .i64 op, .int .i64 d, .int .i64 0, .int .i64 32, .int .i64 imm] 23)
          obtain ⟨x0, x1, x2, x3, x4⟩ := cells5 hx
          have T0 := cell_regrown x0
          have T1 := cell_regrown x1
          have T2 := cell_regrown x2
          have T3 := cell_regrown x3
          have T4 := cell_regrown x4
          clear x0 x1 x2 x3 x4
          refine wp_region_quiet_below (by kernel_rfl) (by kernel_rfl) ?_
          iterate 22 (go_big_quiet_step ((first | fail | (go_at_call 88; exact quietC (isReg_at d _ _ H0.out)))))
          refine wpQuiet_nil ?_
          intro _ hw'
          obtain ⟨⟨dq, osq⟩, hw''⟩ := hw'
          subst hw''
          replace hb := hb.trans ((below_regrown _ dq osq).mono hb.size)
          go_wp2
          all_goals go_ret
          all_goals exact ⟨ret_b HE.out.symm, hb⟩
      · have d2 : decide (0 ≤ imm) = false := decide_eq_false h2
        have HE := Lib.hid (show B = false by rw [← HB.out]; simp [fitB, half, H0.out, h2])
        go_enter Try.func45, Try.ntmps45
        go_wp2
        have hb : Below w.heap.size w (w.alloc (.cells #[.int .i64 op, .int .i64 d, .int .i64 0, .int .i64 32, .int .i64 imm] 23)) := (Below.refl _ _).alloc (Nat.le_refl _) _
        have hx := heap_alloc_new w (.cells #[.int .i64 op, .int .i64 d, .int .i64 0, .int .i64 32, .int .i64 imm] 23)
        obtain ⟨x0, x1, x2, x3, x4⟩ := cells5 hx
        have T0 := cell_regrown x0
        have T1 := cell_regrown x1
        have T2 := cell_regrown x2
        have T3 := cell_regrown x3
        have T4 := cell_regrown x4
        clear x0 x1 x2 x3 x4
        refine wp_region_quiet_below (by kernel_rfl) (by kernel_rfl) ?_
        iterate 22 (go_big_quiet_step ((first | fail | (go_at_call 88; exact quietC (isReg_at d _ _ H0.out)))))
        refine wpQuiet_nil ?_
        intro _ hw'
        obtain ⟨⟨dq, osq⟩, hw''⟩ := hw'
        subst hw''
        replace hb := hb.trans ((below_regrown _ dq osq).mono hb.size)
        go_wp2
        all_goals go_ret
        all_goals exact ⟨ret_b HE.out.symm, hb⟩
    · have d1 : (s == 0) = false := beq_false_of_ne h1
      have HE := Lib.hid (show B = false by rw [← HB.out]; simp [fitB, half, H0.out, h1])
      go_enter Try.func45, Try.ntmps45
      go_wp2
      have hb : Below w.heap.size w (w.alloc (.cells #[.int .i64 op, .int .i64 d, .int .i64 s, .int .i64 32, .int .i64 imm] 23)) := (Below.refl _ _).alloc (Nat.le_refl _) _
      have hx := heap_alloc_new w (.cells #[.int .i64 op, .int .i64 d, .int .i64 s, .int .i64 32, .int .i64 imm] 23)
      obtain ⟨x0, x1, x2, x3, x4⟩ := cells5 hx
      have T0 := cell_regrown x0
      have T1 := cell_regrown x1
      have T2 := cell_regrown x2
      have T3 := cell_regrown x3
      have T4 := cell_regrown x4
      clear x0 x1 x2 x3 x4
      refine wp_region_quiet_below (by kernel_rfl) (by kernel_rfl) ?_
      iterate 22 (go_big_quiet_step ((first | fail | (go_at_call 88; exact quietC (isReg_at d _ _ H0.out)))))
      refine wpQuiet_nil ?_
      intro _ hw'
      obtain ⟨⟨dq, osq⟩, hw''⟩ := hw'
      subst hw''
      replace hb := hb.trans ((below_regrown _ dq osq).mono hb.size)
      go_wp2
      all_goals go_ret
      all_goals exact ⟨ret_b HE.out.symm, hb⟩
set_option maxRecDepth 100000 in
set_option maxHeartbeats 2000000 in
theorem fit4_at (op d s sz imm : Int) (B : Bool) (w : World) (h : fitB 4 ⟨op, d, s, sz, imm⟩ = B) : Calls Try.prog 47 #[aggI ⟨op, d, s, sz, imm⟩] w fun e w' => e = .returned (.bool B) ∧ Below w.heap.size w w' := by
  have HB := Lib.hid h
  clear h
  cases e0 : isR d
  · have H0 := Lib.hid e0
    clear e0
    have HE := Lib.hid (show B = false by rw [← HB.out]; simp [fitB, H0.out])
    go_enter Try.func47, Try.ntmps47
    go_wp2_with (first | fail | (go_at_call 88; ((with_reducible refine (isReg_at d _ _ H0.out).mono ?_); rintro e w' ⟨rfl, rfl⟩)))
    all_goals go_ret
    all_goals exact ⟨ret_b HE.out.symm, (Below.refl _ _).alloc (Nat.le_refl _) _⟩
  · have H0 := Lib.hid e0
    clear e0
    cases e1 : isR s
    · have H1 := Lib.hid e1
      clear e1
      have HE := Lib.hid (show B = false by rw [← HB.out]; simp [fitB, H0.out, H1.out])
      go_enter Try.func47, Try.ntmps47
      go_wp2_with (first | fail | (go_at_call 88; ((with_reducible refine (isReg_at d _ _ H0.out).mono ?_); rintro e w' ⟨rfl, rfl⟩)) | (go_at_call 88; ((with_reducible refine (isReg_at s _ _ H1.out).mono ?_); rintro e w' ⟨rfl, rfl⟩)))
      all_goals go_ret
      all_goals exact ⟨ret_b HE.out.symm, (Below.refl _ _).alloc (Nat.le_refl _) _⟩
    · have H1 := Lib.hid e1
      clear e1
      by_cases h2 : s = 4
      · have d2 : (s == 4) = true := by rw [h2]; rfl
        have K2 := Lib.hid h2
        have HE := Lib.hid (show B = false by rw [← HB.out]; simp [fitB, H0.out, K2.out])
        clear h2
        go_enter Try.func47, Try.ntmps47
        go_wp2_with (first | fail | (go_at_call 88; ((with_reducible refine (isReg_at d _ _ H0.out).mono ?_); rintro e w' ⟨rfl, rfl⟩)) | (go_at_call 88; ((with_reducible refine (isReg_at s _ _ H1.out).mono ?_); rintro e w' ⟨rfl, rfl⟩)))
        all_goals go_ret
        all_goals exact ⟨ret_b HE.out.symm, (Below.refl _ _).alloc (Nat.le_refl _) _⟩
      · have d2 : (s == 4) = false := beq_false_of_ne h2
        have n2 : (s != 4) = true := by simp [h2]
        cases e3 : isS imm 2147483648
        · have H3 := Lib.hid e3
          clear e3
          have HE := Lib.hid (show B = false by rw [← HB.out]; simp [fitB, H0.out, H1.out, h2, H3.out])
          go_enter Try.func47, Try.ntmps47
          go_wp2_with (first | fail | (go_at_call 88; ((with_reducible refine (isReg_at d _ _ H0.out).mono ?_); rintro e w' ⟨rfl, rfl⟩)) | (go_at_call 88; ((with_reducible refine (isReg_at s _ _ H1.out).mono ?_); rintro e w' ⟨rfl, rfl⟩)) | (go_at_call 91; ((with_reducible refine (isSigned32_at imm _ _ H3.out).mono ?_); rintro e w' ⟨rfl, rfl⟩)))
          all_goals go_ret
          all_goals exact ⟨ret_b HE.out.symm, (Below.refl _ _).alloc (Nat.le_refl _) _⟩
        · have H3 := Lib.hid e3
          clear e3
          have HE := Lib.hid (show B = true by rw [← HB.out]; simp [fitB, H0.out, H1.out, h2, H3.out])
          go_enter Try.func47, Try.ntmps47
          go_wp2_with (first | fail | (go_at_call 88; ((with_reducible refine (isReg_at d _ _ H0.out).mono ?_); rintro e w' ⟨rfl, rfl⟩)) | (go_at_call 88; ((with_reducible refine (isReg_at s _ _ H1.out).mono ?_); rintro e w' ⟨rfl, rfl⟩)) | (go_at_call 91; ((with_reducible refine (isSigned32_at imm _ _ H3.out).mono ?_); rintro e w' ⟨rfl, rfl⟩)))
          all_goals go_ret
          all_goals exact ⟨ret_b HE.out.symm, (Below.refl _ _).alloc (Nat.le_refl _) _⟩
set_option maxRecDepth 100000 in
set_option maxHeartbeats 2000000 in
theorem fit5_at (op d s sz imm : Int) (B : Bool) (w : World) (h : fitB 5 ⟨op, d, s, sz, imm⟩ = B) : Calls Try.prog 49 #[aggI ⟨op, d, s, sz, imm⟩] w fun e w' => e = .returned (.bool B) ∧ Below w.heap.size w w' := by
  have HB := Lib.hid h
  clear h
  cases e0 : isR d
  · have H0 := Lib.hid e0
    clear e0
    have HE := Lib.hid (show B = false by rw [← HB.out]; simp [fitB, H0.out])
    go_enter Try.func49, Try.ntmps49
    go_wp2_with (first | fail | (go_at_call 88; ((with_reducible refine (isReg_at d _ _ H0.out).mono ?_); rintro e w' ⟨rfl, rfl⟩)))
    all_goals go_ret
    all_goals exact ⟨ret_b HE.out.symm, (Below.refl _ _).alloc (Nat.le_refl _) _⟩
  · have H0 := Lib.hid e0
    clear e0
    cases e1 : isR s
    · have H1 := Lib.hid e1
      clear e1
      have HE := Lib.hid (show B = false by rw [← HB.out]; simp [fitB, H0.out, H1.out])
      go_enter Try.func49, Try.ntmps49
      go_wp2_with (first | fail | (go_at_call 88; ((with_reducible refine (isReg_at d _ _ H0.out).mono ?_); rintro e w' ⟨rfl, rfl⟩)) | (go_at_call 88; ((with_reducible refine (isReg_at s _ _ H1.out).mono ?_); rintro e w' ⟨rfl, rfl⟩)))
      all_goals go_ret
      all_goals exact ⟨ret_b HE.out.symm, (Below.refl _ _).alloc (Nat.le_refl _) _⟩
    · have H1 := Lib.hid e1
      clear e1
      by_cases h2 : d = 4
      · have d2 : (d == 4) = true := by rw [h2]; rfl
        have K2 := Lib.hid h2
        have HE := Lib.hid (show B = false by rw [← HB.out]; simp [fitB, H1.out, K2.out])
        clear h2
        go_enter Try.func49, Try.ntmps49
        go_wp2_with (first | fail | (go_at_call 88; ((with_reducible refine (isReg_at d _ _ H0.out).mono ?_); rintro e w' ⟨rfl, rfl⟩)) | (go_at_call 88; ((with_reducible refine (isReg_at s _ _ H1.out).mono ?_); rintro e w' ⟨rfl, rfl⟩)))
        all_goals go_ret
        all_goals exact ⟨ret_b HE.out.symm, (Below.refl _ _).alloc (Nat.le_refl _) _⟩
      · have d2 : (d == 4) = false := beq_false_of_ne h2
        have n2 : (d != 4) = true := by simp [h2]
        cases e3 : isS imm 2147483648
        · have H3 := Lib.hid e3
          clear e3
          have HE := Lib.hid (show B = false by rw [← HB.out]; simp [fitB, H0.out, H1.out, h2, H3.out])
          go_enter Try.func49, Try.ntmps49
          go_wp2_with (first | fail | (go_at_call 88; ((with_reducible refine (isReg_at d _ _ H0.out).mono ?_); rintro e w' ⟨rfl, rfl⟩)) | (go_at_call 88; ((with_reducible refine (isReg_at s _ _ H1.out).mono ?_); rintro e w' ⟨rfl, rfl⟩)) | (go_at_call 91; ((with_reducible refine (isSigned32_at imm _ _ H3.out).mono ?_); rintro e w' ⟨rfl, rfl⟩)))
          all_goals go_ret
          all_goals exact ⟨ret_b HE.out.symm, (Below.refl _ _).alloc (Nat.le_refl _) _⟩
        · have H3 := Lib.hid e3
          clear e3
          have HE := Lib.hid (show B = true by rw [← HB.out]; simp [fitB, H0.out, H1.out, h2, H3.out])
          go_enter Try.func49, Try.ntmps49
          go_wp2_with (first | fail | (go_at_call 88; ((with_reducible refine (isReg_at d _ _ H0.out).mono ?_); rintro e w' ⟨rfl, rfl⟩)) | (go_at_call 88; ((with_reducible refine (isReg_at s _ _ H1.out).mono ?_); rintro e w' ⟨rfl, rfl⟩)) | (go_at_call 91; ((with_reducible refine (isSigned32_at imm _ _ H3.out).mono ?_); rintro e w' ⟨rfl, rfl⟩)))
          all_goals go_ret
          all_goals exact ⟨ret_b HE.out.symm, (Below.refl _ _).alloc (Nat.le_refl _) _⟩
set_option maxRecDepth 100000 in
set_option maxHeartbeats 2000000 in
theorem fit7_at (op d s sz imm : Int) (B : Bool) (w : World) (h : fitB 7 ⟨op, d, s, sz, imm⟩ = B) : Calls Try.prog 59 #[aggI ⟨op, d, s, sz, imm⟩] w fun e w' => e = .returned (.bool B) ∧ Below w.heap.size w w' := by
  have HB := Lib.hid h
  clear h
  cases e0 : isL d
  · have H0 := Lib.hid e0
    clear e0
    have HE := Lib.hid (show B = false by rw [← HB.out]; simp [fitB, H0.out])
    go_enter Try.func59, Try.ntmps59
    go_wp2_with (first | fail | (go_at_call 93; ((with_reducible refine (hasByte_at d _ _ H0.out).mono ?_); rintro e w' ⟨rfl, rfl⟩)))
    all_goals go_ret
    all_goals exact ⟨ret_b HE.out.symm, (Below.refl _ _).alloc (Nat.le_refl _) _⟩
  · have H0 := Lib.hid e0
    clear e0
    cases e1 : isC s
    · have H1 := Lib.hid e1
      clear e1
      have HE := Lib.hid (show B = false by rw [← HB.out]; simp [fitB, H0.out, H1.out])
      go_enter Try.func59, Try.ntmps59
      go_wp2_with (first | fail | (go_at_call 93; ((with_reducible refine (hasByte_at d _ _ H0.out).mono ?_); rintro e w' ⟨rfl, rfl⟩)) | (go_at_call 33; ((with_reducible refine (isCond_at s _ _ H1.out).mono ?_); rintro e w' ⟨rfl, rfl⟩)))
      all_goals go_ret
      all_goals exact ⟨ret_b HE.out.symm, (Below.refl _ _).alloc (Nat.le_refl _) _⟩
    · have H1 := Lib.hid e1
      clear e1
      by_cases h2 : imm = 0
      · subst h2
        have HE := Lib.hid (show B = true by rw [← HB.out]; simp [fitB, H0.out, H1.out])
        go_enter Try.func59, Try.ntmps59
        go_wp2_with (first | fail | (go_at_call 93; ((with_reducible refine (hasByte_at d _ _ H0.out).mono ?_); rintro e w' ⟨rfl, rfl⟩)) | (go_at_call 33; ((with_reducible refine (isCond_at s _ _ H1.out).mono ?_); rintro e w' ⟨rfl, rfl⟩)))
        all_goals go_ret
        all_goals exact ⟨ret_b HE.out.symm, (Below.refl _ _).alloc (Nat.le_refl _) _⟩
      · have d2 : (imm == 0) = false := beq_false_of_ne h2
        have HE := Lib.hid (show B = false by rw [← HB.out]; simp [fitB, H0.out, H1.out, h2])
        go_enter Try.func59, Try.ntmps59
        go_wp2_with (first | fail | (go_at_call 93; ((with_reducible refine (hasByte_at d _ _ H0.out).mono ?_); rintro e w' ⟨rfl, rfl⟩)) | (go_at_call 33; ((with_reducible refine (isCond_at s _ _ H1.out).mono ?_); rintro e w' ⟨rfl, rfl⟩)))
        all_goals go_ret
        all_goals exact ⟨ret_b HE.out.symm, (Below.refl _ _).alloc (Nat.le_refl _) _⟩
set_option maxRecDepth 100000 in
set_option maxHeartbeats 2000000 in
theorem fit8_at (op d s sz imm : Int) (B : Bool) (w : World) (h : fitB 8 ⟨op, d, s, sz, imm⟩ = B) : Calls Try.prog 61 #[aggI ⟨op, d, s, sz, imm⟩] w fun e w' => e = .returned (.bool B) ∧ Below w.heap.size w w' := by
  have HB := Lib.hid h
  clear h
  cases e0 : isR d
  · have H0 := Lib.hid e0
    clear e0
    have HE := Lib.hid (show B = false by rw [← HB.out]; simp [fitB, H0.out])
    go_enter Try.func61, Try.ntmps61
    go_wp2_with (first | fail | (go_at_call 88; ((with_reducible refine (isReg_at d _ _ H0.out).mono ?_); rintro e w' ⟨rfl, rfl⟩)))
    all_goals go_ret
    all_goals exact ⟨ret_b HE.out.symm, (Below.refl _ _).alloc (Nat.le_refl _) _⟩
  · have H0 := Lib.hid e0
    clear e0
    cases e1 : isL s
    · have H1 := Lib.hid e1
      clear e1
      have HE := Lib.hid (show B = false by rw [← HB.out]; simp [fitB, H0.out, H1.out])
      go_enter Try.func61, Try.ntmps61
      go_wp2_with (first | fail | (go_at_call 88; ((with_reducible refine (isReg_at d _ _ H0.out).mono ?_); rintro e w' ⟨rfl, rfl⟩)) | (go_at_call 93; ((with_reducible refine (hasByte_at s _ _ H1.out).mono ?_); rintro e w' ⟨rfl, rfl⟩)))
      all_goals go_ret
      all_goals exact ⟨ret_b HE.out.symm, (Below.refl _ _).alloc (Nat.le_refl _) _⟩
    · have H1 := Lib.hid e1
      clear e1
      by_cases h2 : imm = 0
      · subst h2
        have HE := Lib.hid (show B = true by rw [← HB.out]; simp [fitB, H0.out, H1.out])
        go_enter Try.func61, Try.ntmps61
        go_wp2_with (first | fail | (go_at_call 88; ((with_reducible refine (isReg_at d _ _ H0.out).mono ?_); rintro e w' ⟨rfl, rfl⟩)) | (go_at_call 93; ((with_reducible refine (hasByte_at s _ _ H1.out).mono ?_); rintro e w' ⟨rfl, rfl⟩)))
        all_goals go_ret
        all_goals exact ⟨ret_b HE.out.symm, (Below.refl _ _).alloc (Nat.le_refl _) _⟩
      · have d2 : (imm == 0) = false := beq_false_of_ne h2
        have HE := Lib.hid (show B = false by rw [← HB.out]; simp [fitB, H0.out, H1.out, h2])
        go_enter Try.func61, Try.ntmps61
        go_wp2_with (first | fail | (go_at_call 88; ((with_reducible refine (isReg_at d _ _ H0.out).mono ?_); rintro e w' ⟨rfl, rfl⟩)) | (go_at_call 93; ((with_reducible refine (hasByte_at s _ _ H1.out).mono ?_); rintro e w' ⟨rfl, rfl⟩)))
        all_goals go_ret
        all_goals exact ⟨ret_b HE.out.symm, (Below.refl _ _).alloc (Nat.le_refl _) _⟩
set_option maxRecDepth 100000 in
set_option maxHeartbeats 2000000 in
theorem fit9_at (op d s sz imm : Int) (B : Bool) (w : World) (h : fitB 9 ⟨op, d, s, sz, imm⟩ = B) : Calls Try.prog 62 #[aggI ⟨op, d, s, sz, imm⟩] w fun e w' => e = .returned (.bool B) ∧ Below w.heap.size w w' := by
  have HB := Lib.hid h
  clear h
  cases e0 : isR d
  · have H0 := Lib.hid e0
    clear e0
    have HE := Lib.hid (show B = false by rw [← HB.out]; simp [fitB, H0.out])
    go_enter Try.func62, Try.ntmps62
    go_wp2_with (first | fail | (go_at_call 88; ((with_reducible refine (isReg_at d _ _ H0.out).mono ?_); rintro e w' ⟨rfl, rfl⟩)))
    all_goals go_ret
    all_goals exact ⟨ret_b HE.out.symm, (Below.refl _ _).alloc (Nat.le_refl _) _⟩
  · have H0 := Lib.hid e0
    clear e0
    cases e1 : isR s
    · have H1 := Lib.hid e1
      clear e1
      have HE := Lib.hid (show B = false by rw [← HB.out]; simp [fitB, H0.out, H1.out])
      go_enter Try.func62, Try.ntmps62
      go_wp2_with (first | fail | (go_at_call 88; ((with_reducible refine (isReg_at d _ _ H0.out).mono ?_); rintro e w' ⟨rfl, rfl⟩)) | (go_at_call 88; ((with_reducible refine (isReg_at s _ _ H1.out).mono ?_); rintro e w' ⟨rfl, rfl⟩)))
      all_goals go_ret
      all_goals exact ⟨ret_b HE.out.symm, (Below.refl _ _).alloc (Nat.le_refl _) _⟩
    · have H1 := Lib.hid e1
      clear e1
      cases e2 : isC imm
      · have H2 := Lib.hid e2
        clear e2
        have HE := Lib.hid (show B = false by rw [← HB.out]; simp [fitB, H0.out, H1.out, H2.out])
        go_enter Try.func62, Try.ntmps62
        go_wp2_with (first | fail | (go_at_call 88; ((with_reducible refine (isReg_at d _ _ H0.out).mono ?_); rintro e w' ⟨rfl, rfl⟩)) | (go_at_call 88; ((with_reducible refine (isReg_at s _ _ H1.out).mono ?_); rintro e w' ⟨rfl, rfl⟩)) | (go_at_call 33; ((with_reducible refine (isCond_at imm _ _ H2.out).mono ?_); rintro e w' ⟨rfl, rfl⟩)))
        all_goals go_ret
        all_goals exact ⟨ret_b HE.out.symm, (Below.refl _ _).alloc (Nat.le_refl _) _⟩
      · have H2 := Lib.hid e2
        clear e2
        have HE := Lib.hid (show B = true by rw [← HB.out]; simp [fitB, H0.out, H1.out, H2.out])
        go_enter Try.func62, Try.ntmps62
        go_wp2_with (first | fail | (go_at_call 88; ((with_reducible refine (isReg_at d _ _ H0.out).mono ?_); rintro e w' ⟨rfl, rfl⟩)) | (go_at_call 88; ((with_reducible refine (isReg_at s _ _ H1.out).mono ?_); rintro e w' ⟨rfl, rfl⟩)) | (go_at_call 33; ((with_reducible refine (isCond_at imm _ _ H2.out).mono ?_); rintro e w' ⟨rfl, rfl⟩)))
        all_goals go_ret
        all_goals exact ⟨ret_b HE.out.symm, (Below.refl _ _).alloc (Nat.le_refl _) _⟩
set_option maxRecDepth 100000 in
set_option maxHeartbeats 2000000 in
theorem fit10_8_at (op d s imm : Int) (B : Bool) (w : World) (h : fitB 10 ⟨op, d, s, 8, imm⟩ = B) : Calls Try.prog 64 #[aggI ⟨op, d, s, 8, imm⟩] w fun e w' => e = .returned (.bool B) ∧ Below w.heap.size w w' := by
  have HB := Lib.hid h
  clear h
  by_cases h0 : d = 0
  · subst h0
    cases e1 : isC s
    · have H1 := Lib.hid e1
      clear e1
      have HE := Lib.hid (show B = false by rw [← HB.out]; simp [fitB, half, H1.out])
      go_enter Try.func64, Try.ntmps64
      go_wp2_with (first | fail | (go_at_call 33; ((with_reducible refine (isCond_at s _ _ H1.out).mono ?_); rintro e w' ⟨rfl, rfl⟩)))
      all_goals go_ret
      all_goals exact ⟨ret_b HE.out.symm, (Below.refl _ _).alloc (Nat.le_refl _) _⟩
    · have H1 := Lib.hid e1
      clear e1
      cases e2 : isS imm 128
      · have H2 := Lib.hid e2
        clear e2
        have HE := Lib.hid (show B = false by rw [← HB.out]; simp [fitB, half, H1.out, H2.out])
        go_enter Try.func64, Try.ntmps64
        go_wp2_with (first | fail | (go_at_call 33; ((with_reducible refine (isCond_at s _ _ H1.out).mono ?_); rintro e w' ⟨rfl, rfl⟩)) | (go_at_call 91; ((with_reducible refine (isSigned8_at imm _ _ H2.out).mono ?_); rintro e w' ⟨rfl, rfl⟩)))
        all_goals go_ret
        all_goals exact ⟨ret_b HE.out.symm, (Below.refl _ _).alloc (Nat.le_refl _) _⟩
      · have H2 := Lib.hid e2
        clear e2
        have HE := Lib.hid (show B = true by rw [← HB.out]; simp [fitB, half, H1.out, H2.out])
        go_enter Try.func64, Try.ntmps64
        go_wp2_with (first | fail | (go_at_call 33; ((with_reducible refine (isCond_at s _ _ H1.out).mono ?_); rintro e w' ⟨rfl, rfl⟩)) | (go_at_call 91; ((with_reducible refine (isSigned8_at imm _ _ H2.out).mono ?_); rintro e w' ⟨rfl, rfl⟩)))
        all_goals go_ret
        all_goals exact ⟨ret_b HE.out.symm, (Below.refl _ _).alloc (Nat.le_refl _) _⟩
  · have d0 : (d == 0) = false := beq_false_of_ne h0
    have HE := Lib.hid (show B = false by rw [← HB.out]; simp [fitB, half, h0])
    go_enter Try.func64, Try.ntmps64
    go_wp2_with (first | fail)
    all_goals go_ret
    all_goals exact ⟨ret_b HE.out.symm, (Below.refl _ _).alloc (Nat.le_refl _) _⟩
set_option maxRecDepth 100000 in
set_option maxHeartbeats 2000000 in
theorem fit11_8_at (op d s imm : Int) (B : Bool) (w : World) (h : fitB 11 ⟨op, d, s, 8, imm⟩ = B) : Calls Try.prog 66 #[aggI ⟨op, d, s, 8, imm⟩] w fun e w' => e = .returned (.bool B) ∧ Below w.heap.size w w' := by
  have HB := Lib.hid h
  clear h
  by_cases h0 : d = 0
  · subst h0
    by_cases h1 : s = 0
    · subst h1
      cases e2 : isS imm 128
      · have H2 := Lib.hid e2
        clear e2
        have HE := Lib.hid (show B = false by rw [← HB.out]; simp [fitB, half, H2.out])
        go_enter Try.func66, Try.ntmps66
        go_wp2_with (first | fail | (go_at_call 91; ((with_reducible refine (isSigned8_at imm _ _ H2.out).mono ?_); rintro e w' ⟨rfl, rfl⟩)))
        all_goals go_ret
        all_goals exact ⟨ret_b HE.out.symm, (Below.refl _ _).alloc (Nat.le_refl _) _⟩
      · have H2 := Lib.hid e2
        clear e2
        have HE := Lib.hid (show B = true by rw [← HB.out]; simp [fitB, half, H2.out])
        go_enter Try.func66, Try.ntmps66
        go_wp2_with (first | fail | (go_at_call 91; ((with_reducible refine (isSigned8_at imm _ _ H2.out).mono ?_); rintro e w' ⟨rfl, rfl⟩)))
        all_goals go_ret
        all_goals exact ⟨ret_b HE.out.symm, (Below.refl _ _).alloc (Nat.le_refl _) _⟩
    · have d1 : (s == 0) = false := beq_false_of_ne h1
      have HE := Lib.hid (show B = false by rw [← HB.out]; simp [fitB, half, h1])
      go_enter Try.func66, Try.ntmps66
      go_wp2_with (first | fail)
      all_goals go_ret
      all_goals exact ⟨ret_b HE.out.symm, (Below.refl _ _).alloc (Nat.le_refl _) _⟩
  · have d0 : (d == 0) = false := beq_false_of_ne h0
    have HE := Lib.hid (show B = false by rw [← HB.out]; simp [fitB, half, h0])
    go_enter Try.func66, Try.ntmps66
    go_wp2_with (first | fail)
    all_goals go_ret
    all_goals exact ⟨ret_b HE.out.symm, (Below.refl _ _).alloc (Nat.le_refl _) _⟩
set_option maxRecDepth 100000 in
set_option maxHeartbeats 2000000 in
theorem fit10_32_at (op d s imm : Int) (B : Bool) (w : World) (h : fitB 10 ⟨op, d, s, 32, imm⟩ = B) : Calls Try.prog 64 #[aggI ⟨op, d, s, 32, imm⟩] w fun e w' => e = .returned (.bool B) ∧ Below w.heap.size w w' := by
  have HB := Lib.hid h
  clear h
  by_cases h0 : d = 0
  · subst h0
    cases e1 : isC s
    · have H1 := Lib.hid e1
      clear e1
      have HE := Lib.hid (show B = false by rw [← HB.out]; simp [fitB, half, H1.out])
      go_enter Try.func64, Try.ntmps64
      go_wp2_with (first | fail | (go_at_call 33; ((with_reducible refine (isCond_at s _ _ H1.out).mono ?_); rintro e w' ⟨rfl, rfl⟩)))
      all_goals go_ret
      all_goals exact ⟨ret_b HE.out.symm, (Below.refl _ _).alloc (Nat.le_refl _) _⟩
    · have H1 := Lib.hid e1
      clear e1
      cases e2 : isS imm 2147483648
      · have H2 := Lib.hid e2
        clear e2
        have HE := Lib.hid (show B = false by rw [← HB.out]; simp [fitB, half, H1.out, H2.out])
        go_enter Try.func64, Try.ntmps64
        go_wp2_with (first | fail | (go_at_call 33; ((with_reducible refine (isCond_at s _ _ H1.out).mono ?_); rintro e w' ⟨rfl, rfl⟩)) | (go_at_call 91; ((with_reducible refine (isSigned32_at imm _ _ H2.out).mono ?_); rintro e w' ⟨rfl, rfl⟩)))
        all_goals go_ret
        all_goals exact ⟨ret_b HE.out.symm, (Below.refl _ _).alloc (Nat.le_refl _) _⟩
      · have H2 := Lib.hid e2
        clear e2
        have HE := Lib.hid (show B = true by rw [← HB.out]; simp [fitB, half, H1.out, H2.out])
        go_enter Try.func64, Try.ntmps64
        go_wp2_with (first | fail | (go_at_call 33; ((with_reducible refine (isCond_at s _ _ H1.out).mono ?_); rintro e w' ⟨rfl, rfl⟩)) | (go_at_call 91; ((with_reducible refine (isSigned32_at imm _ _ H2.out).mono ?_); rintro e w' ⟨rfl, rfl⟩)))
        all_goals go_ret
        all_goals exact ⟨ret_b HE.out.symm, (Below.refl _ _).alloc (Nat.le_refl _) _⟩
  · have d0 : (d == 0) = false := beq_false_of_ne h0
    have HE := Lib.hid (show B = false by rw [← HB.out]; simp [fitB, half, h0])
    go_enter Try.func64, Try.ntmps64
    go_wp2_with (first | fail)
    all_goals go_ret
    all_goals exact ⟨ret_b HE.out.symm, (Below.refl _ _).alloc (Nat.le_refl _) _⟩
set_option maxRecDepth 100000 in
set_option maxHeartbeats 2000000 in
theorem fit11_32_at (op d s imm : Int) (B : Bool) (w : World) (h : fitB 11 ⟨op, d, s, 32, imm⟩ = B) : Calls Try.prog 66 #[aggI ⟨op, d, s, 32, imm⟩] w fun e w' => e = .returned (.bool B) ∧ Below w.heap.size w w' := by
  have HB := Lib.hid h
  clear h
  by_cases h0 : d = 0
  · subst h0
    by_cases h1 : s = 0
    · subst h1
      cases e2 : isS imm 2147483648
      · have H2 := Lib.hid e2
        clear e2
        have HE := Lib.hid (show B = false by rw [← HB.out]; simp [fitB, half, H2.out])
        go_enter Try.func66, Try.ntmps66
        go_wp2_with (first | fail | (go_at_call 91; ((with_reducible refine (isSigned32_at imm _ _ H2.out).mono ?_); rintro e w' ⟨rfl, rfl⟩)))
        all_goals go_ret
        all_goals exact ⟨ret_b HE.out.symm, (Below.refl _ _).alloc (Nat.le_refl _) _⟩
      · have H2 := Lib.hid e2
        clear e2
        have HE := Lib.hid (show B = true by rw [← HB.out]; simp [fitB, half, H2.out])
        go_enter Try.func66, Try.ntmps66
        go_wp2_with (first | fail | (go_at_call 91; ((with_reducible refine (isSigned32_at imm _ _ H2.out).mono ?_); rintro e w' ⟨rfl, rfl⟩)))
        all_goals go_ret
        all_goals exact ⟨ret_b HE.out.symm, (Below.refl _ _).alloc (Nat.le_refl _) _⟩
    · have d1 : (s == 0) = false := beq_false_of_ne h1
      have HE := Lib.hid (show B = false by rw [← HB.out]; simp [fitB, half, h1])
      go_enter Try.func66, Try.ntmps66
      go_wp2_with (first | fail)
      all_goals go_ret
      all_goals exact ⟨ret_b HE.out.symm, (Below.refl _ _).alloc (Nat.le_refl _) _⟩
  · have d0 : (d == 0) = false := beq_false_of_ne h0
    have HE := Lib.hid (show B = false by rw [← HB.out]; simp [fitB, half, h0])
    go_enter Try.func66, Try.ntmps66
    go_wp2_with (first | fail)
    all_goals go_ret
    all_goals exact ⟨ret_b HE.out.symm, (Below.refl _ _).alloc (Nat.le_refl _) _⟩
end Go.Proofs.Ytpekegeohcnhcaa
