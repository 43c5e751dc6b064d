/-
  isNode of the program.
-/
import Derived.Test.YtbohigjfdnnomaaGreatDoorTeB
namespace Go.Proofs.YtbohigjfdnnomaaGreatDoor
open Go.RowKit

theorem drewD {B : Nat} {a w : World} (h : Below B a w) : Below B a w.drew := ⟨h.os, h.tape, h.output, h.size, h.block⟩
theorem drewR {B k : Nat} {a w : World} (h : Below B a w) : Below B a (w.drewN k) := ⟨h.os, h.tape, h.output, h.size, h.block⟩
set_option maxRecDepth 100000 in
set_option maxHeartbeats 2000000 in
theorem isWord_in (n : Nat) (h1 : 1 ≤ n) (h2 : n ≤ 32) (x : Int) (hx0 : 0 ≤ x) (hx1 : x < 4294967296) (w : World) : Calls Tryz.prog 67 #[.int .i64 (n : Int), .int .u32 x] w fun e w' => e = .returned (.bool (decide (x < (pw n : Nat)))) ∧ w = w' := by
  have HA := Lib.hid (fun w1 => refIsWidth_yes (n : Int) w1 (by omega) (by omega))
  have HB := Lib.hid (fun w1 => size_any n w1 h2)
  generalize pw n = p at HB ⊢
  go_enter Tryz.func67, Tryz.ntmps67
  go_wp2_with fail
  refine (HA.out _).mono ?_
  rintro e w1 ⟨rfl, rfl⟩
  go_wp2_with fail
  refine (HB.out _).mono ?_
  rintro e w1 ⟨rfl, rfl⟩
  go_wp2
  go_ret
  exact ⟨rfl, rfl⟩
theorem wrap_u64 (W : Nat) (h : W ≤ 32) : IntKind.u64.wrap ((2 : Int) ^ W) = (pw W : Nat) := by
  have hp := pw_le h
  have e : ((2 : Int) ^ W) = (pw W : Int) := by simp [pw]
  rw [e]
  have e1 : IntKind.u64.bits = 64 := rfl
  have e2 : IntKind.u64.signed = false := rfl
  unfold IntKind.wrap
  simp only [e1, e2]
  simp
  omega
theorem nod_no {x : Nd} {k : Nat} (h : headB x = false) : nodB x k = false := by
  unfold nodB
  rw [h]
  rfl
theorem head_iff {x : Nd} : headB x = true ↔ isOpB x.op = true ∧ x.flags = 0 ∧ (1 ≤ x.width ∧ x.width ≤ 32) ∧ (x.args.length : Int) = argN x.op := by
  unfold headB
  rw [Bool.and_eq_true, Bool.and_eq_true, Bool.and_eq_true, decide_eq_true_iff, decide_eq_true_iff, decide_eq_true_iff]
theorem args_no {x : Nd} {k i : Nat} (hi : i < x.args.length) (h : ¬ (0 ≤ x.args[i]! ∧ x.args[i]! < (k : Int))) : nodB x k = false := by
  unfold nodB argsB
  have : ((List.range x.args.length).all fun i => decide (0 ≤ x.args[i]! ∧ x.args[i]! < (k : Int))) = false := Bool.eq_false_iff.2 fun hh => by
    have := List.all_eq_true.1 hh i (List.mem_range.2 hi)
    exact h (of_decide_eq_true this)
  rw [this]
  simp
theorem args_yes {x : Nd} {k : Nat} (hh : headB x = true) (h : ∀ i, i < x.args.length → 0 ≤ x.args[i]! ∧ x.args[i]! < (k : Int)) : nodB x k = immB x := by
  unfold nodB argsB
  rw [hh, List.all_eq_true.2 (fun i hi => decide_eq_true (h i (List.mem_range.1 hi)))]
  rfl
set_option maxRecDepth 100000 in
set_option maxHeartbeats 4000000 in
theorem isNode_any (x : Nd) (A : Option Addr) (n c : Nat) (k : Nat) (w : World) (hI : Ints w A n c x.args) (h0 : 0 ≤ x.imm) (h1 : x.imm < 4294967296) : Calls Tryz.prog 51 #[.agg #[.int .i64 x.op, .int .i64 x.width, .int .i64 x.flags, .slice A n c, .int .u32 x.imm], .int .i64 (k : Int)] w fun e w' => e = .returned (.bool (nodB x k)) ∧ Below w.heap.size w w' := by
  have HNO := Lib.hid (fun (h : ¬ (isOpB x.op = true ∧ x.flags = 0 ∧ (1 ≤ x.width ∧ x.width ≤ 32) ∧ (n : Int) = argN x.op)) => nod_no (x := x) (k := k) (Bool.eq_false_iff.2 fun hh => h (by rw [hI.1]; exact head_iff.1 hh)))
  have HYES := Lib.hid (fun (h : isOpB x.op = true ∧ x.flags = 0 ∧ (1 ≤ x.width ∧ x.width ≤ 32) ∧ (n : Int) = argN x.op) => args_yes (x := x) (k := k) (head_iff.2 (by rw [← hI.1]; exact h)))
  have HARG := Lib.hid (fun i (hi : i < n) => args_no (x := x) (k := k) (i := i) (by rw [← hI.1]; exact hi))
  have HIM := Lib.hid (show immB x = if x.op = 0 then decide (x.imm < (pw x.width.toNat : Nat)) else if x.op = 33 then decide (x.imm < 4) else if x.op = 14 then decide (x.width = 1) && decide (x.imm ≤ 9) else decide (x.imm = 0) from rfl)
  have HII := Lib.hid hI
  have HLN := Lib.hid hI.1
  have hcap := hI.2.1
  have hmax := hI.2.2.1
  clear hI
  generalize nodB x k = N at HNO HYES HARG ⊢
  generalize immB x = IM at HYES HIM
  obtain ⟨op, wid, fl, args, imm⟩ := x
  simp only at h0 h1 HNO HYES HARG HII HIM HLN ⊢
  have HOP := Lib.hid (fun w1 => isOp_any op w1)
  have HAR := Lib.hid (fun w1 => argsOf_any op w1)
  generalize argN op = an at HAR HNO HYES
  generalize isOpB op = ob at HOP HNO HYES
  go_enter Tryz.func51, Tryz.ntmps51
  go_wp2_with fail
  have hx := heap_alloc_new w (.cells #[.int .i64 op, .int .i64 wid, .int .i64 fl, .slice A n c, .int .u32 imm] 38)
  have hb : Below w.heap.size w (w.alloc (.cells #[.int .i64 op, .int .i64 wid, .int .i64 fl, .slice A n c, .int .u32 imm] 38)) := (Below.refl _ _).alloc (Nat.le_refl _) _
  replace HII := Lib.hid (HII.out.below hb)
  generalize World.alloc w _ = W1 at hx hb HII ⊢
  obtain ⟨B, hBE⟩ : ∃ B, w.heap.size = B := ⟨_, rfl⟩
  rw [hBE] at hx
  have HB := Lib.hid hb
  have HS := Lib.hid (show ∀ W, Below W1.heap.size W1 W → W.cell? ⟨B, 0, none⟩ = some (.int .i64 op) ∧ W.cell? ⟨B, 1, none⟩ = some (.int .i64 wid) ∧ W.cell? ⟨B, 2, none⟩ = some (.int .i64 fl) ∧ W.cell? ⟨B, 3, none⟩ = some (.slice A n c) from fun W hW => by
    obtain ⟨a1, a2, a3, a4, -⟩ := cells5 (x := ⟨op, wid, fl, args, imm⟩) ((hW.block _ (lt_of_block hx)).trans hx)
    exact ⟨a1, a2, a3, a4⟩)
  clear hb
  rw [hBE]
  clear hBE
  cases ob
  · have HN := Lib.hid (HNO.out (fun h => by cases h.1))
    clear HNO HYES HARG
    refine wp_region_held_drew (S := (fun W => W.cell? ⟨B, 0, none⟩ = some (.int .i64 op) ∧ W.cell? ⟨B, 1, none⟩ = some (.int .i64 wid) ∧ W.cell? ⟨B, 2, none⟩ = some (.int .i64 fl) ∧ W.cell? ⟨B, 3, none⟩ = some (.slice A n c))) (by kernel_rfl) ?_ (fun hHeld => ?_)
    · exact HS.out _ (drewR (Below.refl _ _))
    refine wpAnyH_take (i := 0) (oi := ({ dst := some 7, op := Op.fieldAddr 38 (Operand.tmp 2) 0, type := 0, pos := "validate.go:56", after := #[], guard := none } : Oper)) (v := ?a1_v0) rfl (by kernel_rfl) (by kernel_rfl) (by kernel_rfl) (fun _ _ _ h => h) (Or.inl ⟨by rfl, ?a1_y0⟩) (by assumption) ?a1_r0
    case a1_y0 =>
      intro w hSw
      (try dsimp only at hSw)
      go_simp
      (try with_reducible rfl)
    try simp only [Act.put, List.setIfInBounds_toArray, List.set_cons_zero, List.set_cons_succ]
    refine wpAnyH_take (i := 1) (oi := ({ dst := some 8, op := Op.load 3 (Operand.tmp 7), type := 3, pos := "validate.go:56", after := #[{ on := 0, ground := Ground.data }], guard := none } : Oper)) (v := ?a2_v1) rfl (by kernel_rfl) (by kernel_rfl) (by kernel_rfl) (fun _ _ _ h => h) (Or.inl ⟨by rfl, ?a2_y1⟩) (by assumption) ?a2_r1
    case a2_y1 =>
      intro w hSw
      (try dsimp only at hSw)
      go_simp
      (try with_reducible rfl)
    try simp only [Act.put, List.setIfInBounds_toArray, List.set_cons_zero, List.set_cons_succ]
    refine wpAnyH_ready (rs := [2]) (by kernel_rfl) (by simp) ?_
    refine AllReadyH.cons (o := ({ dst := some 9, op := Op.call { callee := Callee.value (Operand.func 76), args := #[Operand.tmp 8], argTypes := #[3] }, type := 4, pos := "validate.go:56", after := #[{ on := 1, ground := Ground.data }], guard := none } : Oper)) rfl (fun K hKK => ?_) AllReadyH.nil
    go_simp
    refine (HOP.out _).mono ?_
    rintro e w3 ⟨rfl, rfl⟩
    refine hKK.out _ _ (HS.out _ (by first | exact Below.refl _ _ | exact drewD (Below.refl _ _) | exact drewR (Below.refl _ _))) (fun hS2_2 => ?_)
    try simp only [Act.put, List.setIfInBounds_toArray, List.set_cons_zero, List.set_cons_succ]
    refine wpAnyH_take (i := 3) (oi := ({ dst := some 10, op := Op.unOp UnOp.not 4 (Operand.tmp 9), type := 4, pos := "validate.go:56", after := #[{ on := 2, ground := Ground.data }], guard := none } : Oper)) (v := ?a3_v3) rfl (by kernel_rfl) (by kernel_rfl) (by kernel_rfl) (fun _ _ _ h => h) (Or.inl ⟨by rfl, ?a3_y3⟩) (by assumption) ?a3_r3
    case a3_y3 =>
      intro w hSw
      (try dsimp only at hSw)
      go_simp
      (try with_reducible rfl)
    try simp only [Act.put, List.setIfInBounds_toArray, List.set_cons_zero, List.set_cons_succ]
    refine wpAnyH_take (i := 4) (oi := ({ dst := some 11, op := Op.move (Operand.tmp 10), type := 4, pos := "validate.go:56", after := #[{ on := 3, ground := Ground.data }, { on := 2, ground := Ground.chain }], guard := none } : Oper)) (v := ?a4_v4) rfl (by kernel_rfl) (by kernel_rfl) (by kernel_rfl) (fun _ _ _ h => h) (Or.inl ⟨by rfl, ?a4_y4⟩) (by assumption) ?a4_r4
    case a4_y4 =>
      intro w hSw
      (try dsimp only at hSw)
      go_simp
      (try with_reducible rfl)
    try simp only [Act.put, List.setIfInBounds_toArray, List.set_cons_zero, List.set_cons_succ]
    refine wpAnyH_take (i := 5) (oi := ({ dst := some 12, op := Op.fieldAddr 38 (Operand.tmp 2) 2, type := 0, pos := "validate.go:56", after := #[{ on := 4, ground := Ground.guard }], guard := some (4, false) } : Oper)) rfl (by kernel_rfl) (by kernel_rfl) (by kernel_rfl) (fun _ _ _ h => h) (Or.inr ⟨by rfl, rfl⟩) (by assumption) ?a5_r5
    try simp only [Act.put, List.setIfInBounds_toArray, List.set_cons_zero, List.set_cons_succ]
    refine wpAnyH_take (i := 6) (oi := ({ dst := some 13, op := Op.load 3 (Operand.tmp 12), type := 3, pos := "validate.go:56", after := #[{ on := 5, ground := Ground.data }, { on := 4, ground := Ground.guard }], guard := some (4, false) } : Oper)) rfl (by kernel_rfl) (by kernel_rfl) (by kernel_rfl) (fun _ _ _ h => h) (Or.inr ⟨by rfl, rfl⟩) (by assumption) ?a6_r6
    try simp only [Act.put, List.setIfInBounds_toArray, List.set_cons_zero, List.set_cons_succ]
    refine wpAnyH_take (i := 7) (oi := ({ dst := some 14, op := Op.binOp BinOp.neq 3 (Operand.tmp 13) (Operand.const (Value.int IntKind.i64 0)) 3, type := 4, pos := "validate.go:56", after := #[{ on := 6, ground := Ground.data }, { on := 4, ground := Ground.guard }], guard := some (4, false) } : Oper)) rfl (by kernel_rfl) (by kernel_rfl) (by kernel_rfl) (fun _ _ _ h => h) (Or.inr ⟨by rfl, rfl⟩) (by assumption) ?a7_r7
    try simp only [Act.put, List.setIfInBounds_toArray, List.set_cons_zero, List.set_cons_succ]
    refine wpAnyH_take (i := 8) (oi := ({ dst := some 15, op := Op.pick (Operand.tmp 11) (Operand.const (Value.bool true)) (Operand.tmp 14), type := 4, pos := "validate.go:56", after := #[{ on := 4, ground := Ground.data }, { on := 7, ground := Ground.data }], guard := none } : Oper)) (v := ?a8_v8) rfl (by kernel_rfl) (by kernel_rfl) (by kernel_rfl) (fun _ _ _ h => h) (Or.inl ⟨by rfl, ?a8_y8⟩) (by assumption) ?a8_r8
    case a8_y8 =>
      intro w hSw
      (try dsimp only at hSw)
      go_simp
      (try with_reducible rfl)
    try simp only [Act.put, List.setIfInBounds_toArray, List.set_cons_zero, List.set_cons_succ]
    refine wpAnyH_take (i := 9) (oi := ({ dst := some 16, op := Op.move (Operand.tmp 15), type := 4, pos := "validate.go:56", after := #[{ on := 8, ground := Ground.data }, { on := 4, ground := Ground.chain }], guard := none } : Oper)) (v := ?a9_v9) rfl (by kernel_rfl) (by kernel_rfl) (by kernel_rfl) (fun _ _ _ h => h) (Or.inl ⟨by rfl, ?a9_y9⟩) (by assumption) ?a9_r9
    case a9_y9 =>
      intro w hSw
      (try dsimp only at hSw)
      go_simp
      (try with_reducible rfl)
    try simp only [Act.put, List.setIfInBounds_toArray, List.set_cons_zero, List.set_cons_succ]
    refine wpAnyH_take (i := 10) (oi := ({ dst := some 17, op := Op.fieldAddr 38 (Operand.tmp 2) 1, type := 0, pos := "validate.go:56", after := #[{ on := 9, ground := Ground.guard }], guard := some (9, false) } : Oper)) rfl (by kernel_rfl) (by kernel_rfl) (by kernel_rfl) (fun _ _ _ h => h) (Or.inr ⟨by rfl, rfl⟩) (by assumption) ?a10_r10
    try simp only [Act.put, List.setIfInBounds_toArray, List.set_cons_zero, List.set_cons_succ]
    refine wpAnyH_take (i := 11) (oi := ({ dst := some 18, op := Op.load 3 (Operand.tmp 17), type := 3, pos := "validate.go:56", after := #[{ on := 10, ground := Ground.data }, { on := 9, ground := Ground.guard }], guard := some (9, false) } : Oper)) rfl (by kernel_rfl) (by kernel_rfl) (by kernel_rfl) (fun _ _ _ h => h) (Or.inr ⟨by rfl, rfl⟩) (by assumption) ?a11_r11
    try simp only [Act.put, List.setIfInBounds_toArray, List.set_cons_zero, List.set_cons_succ]
    refine wpAnyH_take (i := 12) (oi := ({ dst := some 19, op := Op.binOp BinOp.lss 3 (Operand.tmp 18) (Operand.const (Value.int IntKind.i64 1)) 3, type := 4, pos := "validate.go:56", after := #[{ on := 11, ground := Ground.data }, { on := 9, ground := Ground.guard }], guard := some (9, false) } : Oper)) rfl (by kernel_rfl) (by kernel_rfl) (by kernel_rfl) (fun _ _ _ h => h) (Or.inr ⟨by rfl, rfl⟩) (by assumption) ?a12_r12
    try simp only [Act.put, List.setIfInBounds_toArray, List.set_cons_zero, List.set_cons_succ]
    refine wpAnyH_take (i := 13) (oi := ({ dst := some 20, op := Op.pick (Operand.tmp 16) (Operand.const (Value.bool true)) (Operand.tmp 19), type := 4, pos := "validate.go:56", after := #[{ on := 9, ground := Ground.data }, { on := 12, ground := Ground.data }], guard := none } : Oper)) (v := ?a13_v13) rfl (by kernel_rfl) (by kernel_rfl) (by kernel_rfl) (fun _ _ _ h => h) (Or.inl ⟨by rfl, ?a13_y13⟩) (by assumption) ?a13_r13
    case a13_y13 =>
      intro w hSw
      (try dsimp only at hSw)
      go_simp
      (try with_reducible rfl)
    try simp only [Act.put, List.setIfInBounds_toArray, List.set_cons_zero, List.set_cons_succ]
    refine wpAnyH_take (i := 14) (oi := ({ dst := some 21, op := Op.move (Operand.tmp 20), type := 4, pos := "validate.go:56", after := #[{ on := 13, ground := Ground.data }, { on := 9, ground := Ground.chain }], guard := none } : Oper)) (v := ?a14_v14) rfl (by kernel_rfl) (by kernel_rfl) (by kernel_rfl) (fun _ _ _ h => h) (Or.inl ⟨by rfl, ?a14_y14⟩) (by assumption) ?a14_r14
    case a14_y14 =>
      intro w hSw
      (try dsimp only at hSw)
      go_simp
      (try with_reducible rfl)
    try simp only [Act.put, List.setIfInBounds_toArray, List.set_cons_zero, List.set_cons_succ]
    refine wpAnyH_take (i := 15) (oi := ({ dst := some 22, op := Op.fieldAddr 38 (Operand.tmp 2) 1, type := 0, pos := "validate.go:56", after := #[{ on := 14, ground := Ground.guard }], guard := some (14, false) } : Oper)) rfl (by kernel_rfl) (by kernel_rfl) (by kernel_rfl) (fun _ _ _ h => h) (Or.inr ⟨by rfl, rfl⟩) (by assumption) ?a15_r15
    try simp only [Act.put, List.setIfInBounds_toArray, List.set_cons_zero, List.set_cons_succ]
    refine wpAnyH_take (i := 16) (oi := ({ dst := some 23, op := Op.load 3 (Operand.tmp 22), type := 3, pos := "validate.go:56", after := #[{ on := 15, ground := Ground.data }, { on := 14, ground := Ground.guard }], guard := some (14, false) } : Oper)) rfl (by kernel_rfl) (by kernel_rfl) (by kernel_rfl) (fun _ _ _ h => h) (Or.inr ⟨by rfl, rfl⟩) (by assumption) ?a16_r16
    try simp only [Act.put, List.setIfInBounds_toArray, List.set_cons_zero, List.set_cons_succ]
    refine wpAnyH_take (i := 17) (oi := ({ dst := some 24, op := Op.binOp BinOp.gtr 3 (Operand.tmp 23) (Operand.const (Value.int IntKind.i64 32)) 3, type := 4, pos := "validate.go:56", after := #[{ on := 16, ground := Ground.data }, { on := 14, ground := Ground.guard }], guard := some (14, false) } : Oper)) rfl (by kernel_rfl) (by kernel_rfl) (by kernel_rfl) (fun _ _ _ h => h) (Or.inr ⟨by rfl, rfl⟩) (by assumption) ?a17_r17
    try simp only [Act.put, List.setIfInBounds_toArray, List.set_cons_zero, List.set_cons_succ]
    refine wpAnyH_take (i := 18) (oi := ({ dst := some 25, op := Op.pick (Operand.tmp 21) (Operand.const (Value.bool true)) (Operand.tmp 24), type := 4, pos := "validate.go:56", after := #[{ on := 14, ground := Ground.data }, { on := 17, ground := Ground.data }], guard := none } : Oper)) (v := ?a18_v18) rfl (by kernel_rfl) (by kernel_rfl) (by kernel_rfl) (fun _ _ _ h => h) (Or.inl ⟨by rfl, ?a18_y18⟩) (by assumption) ?a18_r18
    case a18_y18 =>
      intro w hSw
      (try dsimp only at hSw)
      go_simp
      (try with_reducible rfl)
    try simp only [Act.put, List.setIfInBounds_toArray, List.set_cons_zero, List.set_cons_succ]
    refine wpAnyH_take (i := 19) (oi := ({ dst := some 26, op := Op.move (Operand.tmp 25), type := 4, pos := "validate.go:56", after := #[{ on := 18, ground := Ground.data }, { on := 14, ground := Ground.chain }], guard := none } : Oper)) (v := ?a19_v19) rfl (by kernel_rfl) (by kernel_rfl) (by kernel_rfl) (fun _ _ _ h => h) (Or.inl ⟨by rfl, ?a19_y19⟩) (by assumption) ?a19_r19
    case a19_y19 =>
      intro w hSw
      (try dsimp only at hSw)
      go_simp
      (try with_reducible rfl)
    try simp only [Act.put, List.setIfInBounds_toArray, List.set_cons_zero, List.set_cons_succ]
    refine wpAnyH_take (i := 20) (oi := ({ dst := some 27, op := Op.fieldAddr 38 (Operand.tmp 2) 3, type := 0, pos := "validate.go:56", after := #[{ on := 19, ground := Ground.guard }], guard := some (19, false) } : Oper)) rfl (by kernel_rfl) (by kernel_rfl) (by kernel_rfl) (fun _ _ _ h => h) (Or.inr ⟨by rfl, rfl⟩) (by assumption) ?a20_r20
    try simp only [Act.put, List.setIfInBounds_toArray, List.set_cons_zero, List.set_cons_succ]
    refine wpAnyH_take (i := 21) (oi := ({ dst := some 28, op := Op.load 35 (Operand.tmp 27), type := 35, pos := "validate.go:56", after := #[{ on := 20, ground := Ground.data }, { on := 19, ground := Ground.guard }], guard := some (19, false) } : Oper)) rfl (by kernel_rfl) (by kernel_rfl) (by kernel_rfl) (fun _ _ _ h => h) (Or.inr ⟨by rfl, rfl⟩) (by assumption) ?a21_r21
    try simp only [Act.put, List.setIfInBounds_toArray, List.set_cons_zero, List.set_cons_succ]
    refine wpAnyH_take (i := 22) (oi := ({ dst := some 29, op := Op.call { callee := Callee.builtin Builtin.len, args := #[Operand.tmp 28], argTypes := #[35] }, type := 3, pos := "validate.go:56", after := #[{ on := 21, ground := Ground.data }, { on := 19, ground := Ground.guard }], guard := some (19, false) } : Oper)) rfl (by kernel_rfl) (by kernel_rfl) (by kernel_rfl) (fun _ _ _ h => h) (Or.inr ⟨by rfl, rfl⟩) (by assumption) ?a22_r22
    try simp only [Act.put, List.setIfInBounds_toArray, List.set_cons_zero, List.set_cons_succ]
    refine wpAnyH_take (i := 23) (oi := ({ dst := some 30, op := Op.fieldAddr 38 (Operand.tmp 2) 0, type := 0, pos := "validate.go:56", after := #[{ on := 19, ground := Ground.guard }], guard := some (19, false) } : Oper)) rfl (by kernel_rfl) (by kernel_rfl) (by kernel_rfl) (fun _ _ _ h => h) (Or.inr ⟨by rfl, rfl⟩) (by assumption) ?a23_r23
    try simp only [Act.put, List.setIfInBounds_toArray, List.set_cons_zero, List.set_cons_succ]
    refine wpAnyH_take (i := 24) (oi := ({ dst := some 31, op := Op.load 3 (Operand.tmp 30), type := 3, pos := "validate.go:56", after := #[{ on := 23, ground := Ground.data }, { on := 19, ground := Ground.guard }], guard := some (19, false) } : Oper)) rfl (by kernel_rfl) (by kernel_rfl) (by kernel_rfl) (fun _ _ _ h => h) (Or.inr ⟨by rfl, rfl⟩) (by assumption) ?a24_r24
    try simp only [Act.put, List.setIfInBounds_toArray, List.set_cons_zero, List.set_cons_succ]
    refine wpAnyH_take (i := 25) (oi := ({ dst := some 32, op := Op.call { callee := Callee.value (Operand.func 77), args := #[Operand.tmp 31], argTypes := #[3] }, type := 3, pos := "validate.go:56", after := #[{ on := 24, ground := Ground.data }, { on := 19, ground := Ground.chain }, { on := 19, ground := Ground.guard }], guard := some (19, false) } : Oper)) rfl (by kernel_rfl) (by kernel_rfl) (by kernel_rfl) (fun _ _ _ h => h) (Or.inr ⟨by rfl, rfl⟩) (by assumption) ?a25_r25
    try simp only [Act.put, List.setIfInBounds_toArray, List.set_cons_zero, List.set_cons_succ]
    refine wpAnyH_take (i := 26) (oi := ({ dst := some 33, op := Op.binOp BinOp.neq 3 (Operand.tmp 29) (Operand.tmp 32) 3, type := 4, pos := "validate.go:56", after := #[{ on := 22, ground := Ground.data }, { on := 25, ground := Ground.data }, { on := 19, ground := Ground.guard }], guard := some (19, false) } : Oper)) rfl (by kernel_rfl) (by kernel_rfl) (by kernel_rfl) (fun _ _ _ h => h) (Or.inr ⟨by rfl, rfl⟩) (by assumption) ?a26_r26
    try simp only [Act.put, List.setIfInBounds_toArray, List.set_cons_zero, List.set_cons_succ]
    refine wpAnyH_take (i := 27) (oi := ({ dst := some 34, op := Op.pick (Operand.tmp 26) (Operand.const (Value.bool true)) (Operand.tmp 33), type := 4, pos := "validate.go:56", after := #[{ on := 19, ground := Ground.data }, { on := 26, ground := Ground.data }], guard := none } : Oper)) (v := ?a27_v27) rfl (by kernel_rfl) (by kernel_rfl) (by kernel_rfl) (fun _ _ _ h => h) (Or.inl ⟨by rfl, ?a27_y27⟩) (by assumption) ?a27_r27
    case a27_y27 =>
      intro w hSw
      (try dsimp only at hSw)
      go_simp
      (try with_reducible rfl)
    try simp only [Act.put, List.setIfInBounds_toArray, List.set_cons_zero, List.set_cons_succ]
    refine wpAnyH_done (by kernel_rfl) ?_ _
    go_wp2
    go_ret
    exact ⟨ret_b HN.out.symm, by first | exact drewD HB.out | exact drewR HB.out | exact HB.out⟩
  · by_cases hfl : fl = 0
    · have d1 : (fl != 0) = false := by simp [hfl]
      by_cases hw1 : wid < 1
      · have d2 : decide (wid < 1) = true := decide_eq_true hw1
        have HN := Lib.hid (HNO.out (fun h => by have := h.2.2.1; omega))
        clear HNO HYES HARG
        refine wp_region_held_drew (S := (fun W => W.cell? ⟨B, 0, none⟩ = some (.int .i64 op) ∧ W.cell? ⟨B, 1, none⟩ = some (.int .i64 wid) ∧ W.cell? ⟨B, 2, none⟩ = some (.int .i64 fl) ∧ W.cell? ⟨B, 3, none⟩ = some (.slice A n c))) (by kernel_rfl) ?_ (fun hHeld => ?_)
        · exact HS.out _ (drewR (Below.refl _ _))
        refine wpAnyH_take (i := 0) (oi := ({ dst := some 7, op := Op.fieldAddr 38 (Operand.tmp 2) 0, type := 0, pos := "validate.go:56", after := #[], guard := none } : Oper)) (v := ?c1_v0) rfl (by kernel_rfl) (by kernel_rfl) (by kernel_rfl) (fun _ _ _ h => h) (Or.inl ⟨by rfl, ?c1_y0⟩) (by assumption) ?c1_r0
        case c1_y0 =>
          intro w hSw
          (try dsimp only at hSw)
          go_simp
          (try with_reducible rfl)
        try simp only [Act.put, List.setIfInBounds_toArray, List.set_cons_zero, List.set_cons_succ]
        refine wpAnyH_take (i := 1) (oi := ({ dst := some 8, op := Op.load 3 (Operand.tmp 7), type := 3, pos := "validate.go:56", after := #[{ on := 0, ground := Ground.data }], guard := none } : Oper)) (v := ?c2_v1) rfl (by kernel_rfl) (by kernel_rfl) (by kernel_rfl) (fun _ _ _ h => h) (Or.inl ⟨by rfl, ?c2_y1⟩) (by assumption) ?c2_r1
        case c2_y1 =>
          intro w hSw
          (try dsimp only at hSw)
          go_simp
          (try with_reducible rfl)
        try simp only [Act.put, List.setIfInBounds_toArray, List.set_cons_zero, List.set_cons_succ]
        refine wpAnyH_ready (rs := [2]) (by kernel_rfl) (by simp) ?_
        refine AllReadyH.cons (o := ({ dst := some 9, op := Op.call { callee := Callee.value (Operand.func 76), args := #[Operand.tmp 8], argTypes := #[3] }, type := 4, pos := "validate.go:56", after := #[{ on := 1, ground := Ground.data }], guard := none } : Oper)) rfl (fun K hKK => ?_) AllReadyH.nil
        go_simp
        refine (HOP.out _).mono ?_
        rintro e w3 ⟨rfl, rfl⟩
        refine hKK.out _ _ (HS.out _ (by first | exact Below.refl _ _ | exact drewD (Below.refl _ _) | exact drewR (Below.refl _ _))) (fun hS2_2 => ?_)
        try simp only [Act.put, List.setIfInBounds_toArray, List.set_cons_zero, List.set_cons_succ]
        refine wpAnyH_take (i := 3) (oi := ({ dst := some 10, op := Op.unOp UnOp.not 4 (Operand.tmp 9), type := 4, pos := "validate.go:56", after := #[{ on := 2, ground := Ground.data }], guard := none } : Oper)) (v := ?c3_v3) rfl (by kernel_rfl) (by kernel_rfl) (by kernel_rfl) (fun _ _ _ h => h) (Or.inl ⟨by rfl, ?c3_y3⟩) (by assumption) ?c3_r3
        case c3_y3 =>
          intro w hSw
          (try dsimp only at hSw)
          go_simp
          (try with_reducible rfl)
        try simp only [Act.put, List.setIfInBounds_toArray, List.set_cons_zero, List.set_cons_succ]
        refine wpAnyH_take (i := 4) (oi := ({ dst := some 11, op := Op.move (Operand.tmp 10), type := 4, pos := "validate.go:56", after := #[{ on := 3, ground := Ground.data }, { on := 2, ground := Ground.chain }], guard := none } : Oper)) (v := ?c4_v4) rfl (by kernel_rfl) (by kernel_rfl) (by kernel_rfl) (fun _ _ _ h => h) (Or.inl ⟨by rfl, ?c4_y4⟩) (by assumption) ?c4_r4
        case c4_y4 =>
          intro w hSw
          (try dsimp only at hSw)
          go_simp
          (try with_reducible rfl)
        try simp only [Act.put, List.setIfInBounds_toArray, List.set_cons_zero, List.set_cons_succ]
        refine wpAnyH_take (i := 5) (oi := ({ dst := some 12, op := Op.fieldAddr 38 (Operand.tmp 2) 2, type := 0, pos := "validate.go:56", after := #[{ on := 4, ground := Ground.guard }], guard := some (4, false) } : Oper)) (v := ?c5_v5) rfl (by kernel_rfl) (by kernel_rfl) (by kernel_rfl) (fun _ _ _ h => h) (Or.inl ⟨by rfl, ?c5_y5⟩) (by assumption) ?c5_r5
        case c5_y5 =>
          intro w hSw
          (try dsimp only at hSw)
          go_simp
          (try with_reducible rfl)
        try simp only [Act.put, List.setIfInBounds_toArray, List.set_cons_zero, List.set_cons_succ]
        refine wpAnyH_take (i := 6) (oi := ({ dst := some 13, op := Op.load 3 (Operand.tmp 12), type := 3, pos := "validate.go:56", after := #[{ on := 5, ground := Ground.data }, { on := 4, ground := Ground.guard }], guard := some (4, false) } : Oper)) (v := ?c6_v6) rfl (by kernel_rfl) (by kernel_rfl) (by kernel_rfl) (fun _ _ _ h => h) (Or.inl ⟨by rfl, ?c6_y6⟩) (by assumption) ?c6_r6
        case c6_y6 =>
          intro w hSw
          (try dsimp only at hSw)
          go_simp
          (try with_reducible rfl)
        try simp only [Act.put, List.setIfInBounds_toArray, List.set_cons_zero, List.set_cons_succ]
        refine wpAnyH_take (i := 7) (oi := ({ dst := some 14, op := Op.binOp BinOp.neq 3 (Operand.tmp 13) (Operand.const (Value.int IntKind.i64 0)) 3, type := 4, pos := "validate.go:56", after := #[{ on := 6, ground := Ground.data }, { on := 4, ground := Ground.guard }], guard := some (4, false) } : Oper)) (v := ?c7_v7) rfl (by kernel_rfl) (by kernel_rfl) (by kernel_rfl) (fun _ _ _ h => h) (Or.inl ⟨by rfl, ?c7_y7⟩) (by assumption) ?c7_r7
        case c7_y7 =>
          intro w hSw
          (try dsimp only at hSw)
          go_simp
          (try with_reducible rfl)
        try simp only [Act.put, List.setIfInBounds_toArray, List.set_cons_zero, List.set_cons_succ]
        refine wpAnyH_take (i := 8) (oi := ({ dst := some 15, op := Op.pick (Operand.tmp 11) (Operand.const (Value.bool true)) (Operand.tmp 14), type := 4, pos := "validate.go:56", after := #[{ on := 4, ground := Ground.data }, { on := 7, ground := Ground.data }], guard := none } : Oper)) (v := ?c8_v8) rfl (by kernel_rfl) (by kernel_rfl) (by kernel_rfl) (fun _ _ _ h => h) (Or.inl ⟨by rfl, ?c8_y8⟩) (by assumption) ?c8_r8
        case c8_y8 =>
          intro w hSw
          (try dsimp only at hSw)
          go_simp
          (try with_reducible rfl)
        try simp only [Act.put, List.setIfInBounds_toArray, List.set_cons_zero, List.set_cons_succ]
        refine wpAnyH_take (i := 9) (oi := ({ dst := some 16, op := Op.move (Operand.tmp 15), type := 4, pos := "validate.go:56", after := #[{ on := 8, ground := Ground.data }, { on := 4, ground := Ground.chain }], guard := none } : Oper)) (v := ?c9_v9) rfl (by kernel_rfl) (by kernel_rfl) (by kernel_rfl) (fun _ _ _ h => h) (Or.inl ⟨by rfl, ?c9_y9⟩) (by assumption) ?c9_r9
        case c9_y9 =>
          intro w hSw
          (try dsimp only at hSw)
          go_simp
          (try with_reducible rfl)
        try simp only [Act.put, List.setIfInBounds_toArray, List.set_cons_zero, List.set_cons_succ]
        refine wpAnyH_take (i := 10) (oi := ({ dst := some 17, op := Op.fieldAddr 38 (Operand.tmp 2) 1, type := 0, pos := "validate.go:56", after := #[{ on := 9, ground := Ground.guard }], guard := some (9, false) } : Oper)) (v := ?c10_v10) rfl (by kernel_rfl) (by kernel_rfl) (by kernel_rfl) (fun _ _ _ h => h) (Or.inl ⟨by rfl, ?c10_y10⟩) (by assumption) ?c10_r10
        case c10_y10 =>
          intro w hSw
          (try dsimp only at hSw)
          go_simp
          (try with_reducible rfl)
        try simp only [Act.put, List.setIfInBounds_toArray, List.set_cons_zero, List.set_cons_succ]
        refine wpAnyH_take (i := 11) (oi := ({ dst := some 18, op := Op.load 3 (Operand.tmp 17), type := 3, pos := "validate.go:56", after := #[{ on := 10, ground := Ground.data }, { on := 9, ground := Ground.guard }], guard := some (9, false) } : Oper)) (v := ?c11_v11) rfl (by kernel_rfl) (by kernel_rfl) (by kernel_rfl) (fun _ _ _ h => h) (Or.inl ⟨by rfl, ?c11_y11⟩) (by assumption) ?c11_r11
        case c11_y11 =>
          intro w hSw
          (try dsimp only at hSw)
          go_simp
          (try with_reducible rfl)
        try simp only [Act.put, List.setIfInBounds_toArray, List.set_cons_zero, List.set_cons_succ]
        refine wpAnyH_take (i := 12) (oi := ({ dst := some 19, op := Op.binOp BinOp.lss 3 (Operand.tmp 18) (Operand.const (Value.int IntKind.i64 1)) 3, type := 4, pos := "validate.go:56", after := #[{ on := 11, ground := Ground.data }, { on := 9, ground := Ground.guard }], guard := some (9, false) } : Oper)) (v := ?c12_v12) rfl (by kernel_rfl) (by kernel_rfl) (by kernel_rfl) (fun _ _ _ h => h) (Or.inl ⟨by rfl, ?c12_y12⟩) (by assumption) ?c12_r12
        case c12_y12 =>
          intro w hSw
          (try dsimp only at hSw)
          go_simp
          (try with_reducible rfl)
        try simp only [Act.put, List.setIfInBounds_toArray, List.set_cons_zero, List.set_cons_succ]
        refine wpAnyH_take (i := 13) (oi := ({ dst := some 20, op := Op.pick (Operand.tmp 16) (Operand.const (Value.bool true)) (Operand.tmp 19), type := 4, pos := "validate.go:56", after := #[{ on := 9, ground := Ground.data }, { on := 12, ground := Ground.data }], guard := none } : Oper)) (v := ?c13_v13) rfl (by kernel_rfl) (by kernel_rfl) (by kernel_rfl) (fun _ _ _ h => h) (Or.inl ⟨by rfl, ?c13_y13⟩) (by assumption) ?c13_r13
        case c13_y13 =>
          intro w hSw
          (try dsimp only at hSw)
          go_simp
          (try with_reducible rfl)
        try simp only [Act.put, List.setIfInBounds_toArray, List.set_cons_zero, List.set_cons_succ]
        refine wpAnyH_take (i := 14) (oi := ({ dst := some 21, op := Op.move (Operand.tmp 20), type := 4, pos := "validate.go:56", after := #[{ on := 13, ground := Ground.data }, { on := 9, ground := Ground.chain }], guard := none } : Oper)) (v := ?c14_v14) rfl (by kernel_rfl) (by kernel_rfl) (by kernel_rfl) (fun _ _ _ h => h) (Or.inl ⟨by rfl, ?c14_y14⟩) (by assumption) ?c14_r14
        case c14_y14 =>
          intro w hSw
          (try dsimp only at hSw)
          go_simp
          (try with_reducible rfl)
        try simp only [Act.put, List.setIfInBounds_toArray, List.set_cons_zero, List.set_cons_succ]
        refine wpAnyH_take (i := 15) (oi := ({ dst := some 22, op := Op.fieldAddr 38 (Operand.tmp 2) 1, type := 0, pos := "validate.go:56", after := #[{ on := 14, ground := Ground.guard }], guard := some (14, false) } : Oper)) rfl (by kernel_rfl) (by kernel_rfl) (by kernel_rfl) (fun _ _ _ h => h) (Or.inr ⟨by rfl, rfl⟩) (by assumption) ?c15_r15
        try simp only [Act.put, List.setIfInBounds_toArray, List.set_cons_zero, List.set_cons_succ]
        refine wpAnyH_take (i := 16) (oi := ({ dst := some 23, op := Op.load 3 (Operand.tmp 22), type := 3, pos := "validate.go:56", after := #[{ on := 15, ground := Ground.data }, { on := 14, ground := Ground.guard }], guard := some (14, false) } : Oper)) rfl (by kernel_rfl) (by kernel_rfl) (by kernel_rfl) (fun _ _ _ h => h) (Or.inr ⟨by rfl, rfl⟩) (by assumption) ?c16_r16
        try simp only [Act.put, List.setIfInBounds_toArray, List.set_cons_zero, List.set_cons_succ]
        refine wpAnyH_take (i := 17) (oi := ({ dst := some 24, op := Op.binOp BinOp.gtr 3 (Operand.tmp 23) (Operand.const (Value.int IntKind.i64 32)) 3, type := 4, pos := "validate.go:56", after := #[{ on := 16, ground := Ground.data }, { on := 14, ground := Ground.guard }], guard := some (14, false) } : Oper)) rfl (by kernel_rfl) (by kernel_rfl) (by kernel_rfl) (fun _ _ _ h => h) (Or.inr ⟨by rfl, rfl⟩) (by assumption) ?c17_r17
        try simp only [Act.put, List.setIfInBounds_toArray, List.set_cons_zero, List.set_cons_succ]
        refine wpAnyH_take (i := 18) (oi := ({ dst := some 25, op := Op.pick (Operand.tmp 21) (Operand.const (Value.bool true)) (Operand.tmp 24), type := 4, pos := "validate.go:56", after := #[{ on := 14, ground := Ground.data }, { on := 17, ground := Ground.data }], guard := none } : Oper)) (v := ?c18_v18) rfl (by kernel_rfl) (by kernel_rfl) (by kernel_rfl) (fun _ _ _ h => h) (Or.inl ⟨by rfl, ?c18_y18⟩) (by assumption) ?c18_r18
        case c18_y18 =>
          intro w hSw
          (try dsimp only at hSw)
          go_simp
          (try with_reducible rfl)
        try simp only [Act.put, List.setIfInBounds_toArray, List.set_cons_zero, List.set_cons_succ]
        refine wpAnyH_take (i := 19) (oi := ({ dst := some 26, op := Op.move (Operand.tmp 25), type := 4, pos := "validate.go:56", after := #[{ on := 18, ground := Ground.data }, { on := 14, ground := Ground.chain }], guard := none } : Oper)) (v := ?c19_v19) rfl (by kernel_rfl) (by kernel_rfl) (by kernel_rfl) (fun _ _ _ h => h) (Or.inl ⟨by rfl, ?c19_y19⟩) (by assumption) ?c19_r19
        case c19_y19 =>
          intro w hSw
          (try dsimp only at hSw)
          go_simp
          (try with_reducible rfl)
        try simp only [Act.put, List.setIfInBounds_toArray, List.set_cons_zero, List.set_cons_succ]
        refine wpAnyH_take (i := 20) (oi := ({ dst := some 27, op := Op.fieldAddr 38 (Operand.tmp 2) 3, type := 0, pos := "validate.go:56", after := #[{ on := 19, ground := Ground.guard }], guard := some (19, false) } : Oper)) rfl (by kernel_rfl) (by kernel_rfl) (by kernel_rfl) (fun _ _ _ h => h) (Or.inr ⟨by rfl, rfl⟩) (by assumption) ?c20_r20
        try simp only [Act.put, List.setIfInBounds_toArray, List.set_cons_zero, List.set_cons_succ]
        refine wpAnyH_take (i := 21) (oi := ({ dst := some 28, op := Op.load 35 (Operand.tmp 27), type := 35, pos := "validate.go:56", after := #[{ on := 20, ground := Ground.data }, { on := 19, ground := Ground.guard }], guard := some (19, false) } : Oper)) rfl (by kernel_rfl) (by kernel_rfl) (by kernel_rfl) (fun _ _ _ h => h) (Or.inr ⟨by rfl, rfl⟩) (by assumption) ?c21_r21
        try simp only [Act.put, List.setIfInBounds_toArray, List.set_cons_zero, List.set_cons_succ]
        refine wpAnyH_take (i := 22) (oi := ({ dst := some 29, op := Op.call { callee := Callee.builtin Builtin.len, args := #[Operand.tmp 28], argTypes := #[35] }, type := 3, pos := "validate.go:56", after := #[{ on := 21, ground := Ground.data }, { on := 19, ground := Ground.guard }], guard := some (19, false) } : Oper)) rfl (by kernel_rfl) (by kernel_rfl) (by kernel_rfl) (fun _ _ _ h => h) (Or.inr ⟨by rfl, rfl⟩) (by assumption) ?c22_r22
        try simp only [Act.put, List.setIfInBounds_toArray, List.set_cons_zero, List.set_cons_succ]
        refine wpAnyH_take (i := 23) (oi := ({ dst := some 30, op := Op.fieldAddr 38 (Operand.tmp 2) 0, type := 0, pos := "validate.go:56", after := #[{ on := 19, ground := Ground.guard }], guard := some (19, false) } : Oper)) rfl (by kernel_rfl) (by kernel_rfl) (by kernel_rfl) (fun _ _ _ h => h) (Or.inr ⟨by rfl, rfl⟩) (by assumption) ?c23_r23
        try simp only [Act.put, List.setIfInBounds_toArray, List.set_cons_zero, List.set_cons_succ]
        refine wpAnyH_take (i := 24) (oi := ({ dst := some 31, op := Op.load 3 (Operand.tmp 30), type := 3, pos := "validate.go:56", after := #[{ on := 23, ground := Ground.data }, { on := 19, ground := Ground.guard }], guard := some (19, false) } : Oper)) rfl (by kernel_rfl) (by kernel_rfl) (by kernel_rfl) (fun _ _ _ h => h) (Or.inr ⟨by rfl, rfl⟩) (by assumption) ?c24_r24
        try simp only [Act.put, List.setIfInBounds_toArray, List.set_cons_zero, List.set_cons_succ]
        refine wpAnyH_take (i := 25) (oi := ({ dst := some 32, op := Op.call { callee := Callee.value (Operand.func 77), args := #[Operand.tmp 31], argTypes := #[3] }, type := 3, pos := "validate.go:56", after := #[{ on := 24, ground := Ground.data }, { on := 19, ground := Ground.chain }, { on := 19, ground := Ground.guard }], guard := some (19, false) } : Oper)) rfl (by kernel_rfl) (by kernel_rfl) (by kernel_rfl) (fun _ _ _ h => h) (Or.inr ⟨by rfl, rfl⟩) (by assumption) ?c25_r25
        try simp only [Act.put, List.setIfInBounds_toArray, List.set_cons_zero, List.set_cons_succ]
        refine wpAnyH_take (i := 26) (oi := ({ dst := some 33, op := Op.binOp BinOp.neq 3 (Operand.tmp 29) (Operand.tmp 32) 3, type := 4, pos := "validate.go:56", after := #[{ on := 22, ground := Ground.data }, { on := 25, ground := Ground.data }, { on := 19, ground := Ground.guard }], guard := some (19, false) } : Oper)) rfl (by kernel_rfl) (by kernel_rfl) (by kernel_rfl) (fun _ _ _ h => h) (Or.inr ⟨by rfl, rfl⟩) (by assumption) ?c26_r26
        try simp only [Act.put, List.setIfInBounds_toArray, List.set_cons_zero, List.set_cons_succ]
        refine wpAnyH_take (i := 27) (oi := ({ dst := some 34, op := Op.pick (Operand.tmp 26) (Operand.const (Value.bool true)) (Operand.tmp 33), type := 4, pos := "validate.go:56", after := #[{ on := 19, ground := Ground.data }, { on := 26, ground := Ground.data }], guard := none } : Oper)) (v := ?c27_v27) rfl (by kernel_rfl) (by kernel_rfl) (by kernel_rfl) (fun _ _ _ h => h) (Or.inl ⟨by rfl, ?c27_y27⟩) (by assumption) ?c27_r27
        case c27_y27 =>
          intro w hSw
          (try dsimp only at hSw)
          go_simp
          (try with_reducible rfl)
        try simp only [Act.put, List.setIfInBounds_toArray, List.set_cons_zero, List.set_cons_succ]
        refine wpAnyH_done (by kernel_rfl) ?_ _
        go_wp2
        go_ret
        exact ⟨ret_b HN.out.symm, by first | exact drewD HB.out | exact drewR HB.out | exact HB.out⟩
      · have d2 : decide (wid < 1) = false := decide_eq_false hw1
        by_cases hw2 : 32 < wid
        · have d3 : decide (32 < wid) = true := decide_eq_true hw2
          have HN := Lib.hid (HNO.out (fun h => by have := h.2.2.1; omega))
          clear HNO HYES HARG
          refine wp_region_held_drew (S := (fun W => W.cell? ⟨B, 0, none⟩ = some (.int .i64 op) ∧ W.cell? ⟨B, 1, none⟩ = some (.int .i64 wid) ∧ W.cell? ⟨B, 2, none⟩ = some (.int .i64 fl) ∧ W.cell? ⟨B, 3, none⟩ = some (.slice A n c))) (by kernel_rfl) ?_ (fun hHeld => ?_)
          · exact HS.out _ (drewR (Below.refl _ _))
          refine wpAnyH_take (i := 0) (oi := ({ dst := some 7, op := Op.fieldAddr 38 (Operand.tmp 2) 0, type := 0, pos := "validate.go:56", after := #[], guard := none } : Oper)) (v := ?d1_v0) rfl (by kernel_rfl) (by kernel_rfl) (by kernel_rfl) (fun _ _ _ h => h) (Or.inl ⟨by rfl, ?d1_y0⟩) (by assumption) ?d1_r0
          case d1_y0 =>
            intro w hSw
            (try dsimp only at hSw)
            go_simp
            (try with_reducible rfl)
          try simp only [Act.put, List.setIfInBounds_toArray, List.set_cons_zero, List.set_cons_succ]
          refine wpAnyH_take (i := 1) (oi := ({ dst := some 8, op := Op.load 3 (Operand.tmp 7), type := 3, pos := "validate.go:56", after := #[{ on := 0, ground := Ground.data }], guard := none } : Oper)) (v := ?d2_v1) rfl (by kernel_rfl) (by kernel_rfl) (by kernel_rfl) (fun _ _ _ h => h) (Or.inl ⟨by rfl, ?d2_y1⟩) (by assumption) ?d2_r1
          case d2_y1 =>
            intro w hSw
            (try dsimp only at hSw)
            go_simp
            (try with_reducible rfl)
          try simp only [Act.put, List.setIfInBounds_toArray, List.set_cons_zero, List.set_cons_succ]
          refine wpAnyH_ready (rs := [2]) (by kernel_rfl) (by simp) ?_
          refine AllReadyH.cons (o := ({ dst := some 9, op := Op.call { callee := Callee.value (Operand.func 76), args := #[Operand.tmp 8], argTypes := #[3] }, type := 4, pos := "validate.go:56", after := #[{ on := 1, ground := Ground.data }], guard := none } : Oper)) rfl (fun K hKK => ?_) AllReadyH.nil
          go_simp
          refine (HOP.out _).mono ?_
          rintro e w3 ⟨rfl, rfl⟩
          refine hKK.out _ _ (HS.out _ (by first | exact Below.refl _ _ | exact drewD (Below.refl _ _) | exact drewR (Below.refl _ _))) (fun hS2_2 => ?_)
          try simp only [Act.put, List.setIfInBounds_toArray, List.set_cons_zero, List.set_cons_succ]
          refine wpAnyH_take (i := 3) (oi := ({ dst := some 10, op := Op.unOp UnOp.not 4 (Operand.tmp 9), type := 4, pos := "validate.go:56", after := #[{ on := 2, ground := Ground.data }], guard := none } : Oper)) (v := ?d3_v3) rfl (by kernel_rfl) (by kernel_rfl) (by kernel_rfl) (fun _ _ _ h => h) (Or.inl ⟨by rfl, ?d3_y3⟩) (by assumption) ?d3_r3
          case d3_y3 =>
            intro w hSw
            (try dsimp only at hSw)
            go_simp
            (try with_reducible rfl)
          try simp only [Act.put, List.setIfInBounds_toArray, List.set_cons_zero, List.set_cons_succ]
          refine wpAnyH_take (i := 4) (oi := ({ dst := some 11, op := Op.move (Operand.tmp 10), type := 4, pos := "validate.go:56", after := #[{ on := 3, ground := Ground.data }, { on := 2, ground := Ground.chain }], guard := none } : Oper)) (v := ?d4_v4) rfl (by kernel_rfl) (by kernel_rfl) (by kernel_rfl) (fun _ _ _ h => h) (Or.inl ⟨by rfl, ?d4_y4⟩) (by assumption) ?d4_r4
          case d4_y4 =>
            intro w hSw
            (try dsimp only at hSw)
            go_simp
            (try with_reducible rfl)
          try simp only [Act.put, List.setIfInBounds_toArray, List.set_cons_zero, List.set_cons_succ]
          refine wpAnyH_take (i := 5) (oi := ({ dst := some 12, op := Op.fieldAddr 38 (Operand.tmp 2) 2, type := 0, pos := "validate.go:56", after := #[{ on := 4, ground := Ground.guard }], guard := some (4, false) } : Oper)) (v := ?d5_v5) rfl (by kernel_rfl) (by kernel_rfl) (by kernel_rfl) (fun _ _ _ h => h) (Or.inl ⟨by rfl, ?d5_y5⟩) (by assumption) ?d5_r5
          case d5_y5 =>
            intro w hSw
            (try dsimp only at hSw)
            go_simp
            (try with_reducible rfl)
          try simp only [Act.put, List.setIfInBounds_toArray, List.set_cons_zero, List.set_cons_succ]
          refine wpAnyH_take (i := 6) (oi := ({ dst := some 13, op := Op.load 3 (Operand.tmp 12), type := 3, pos := "validate.go:56", after := #[{ on := 5, ground := Ground.data }, { on := 4, ground := Ground.guard }], guard := some (4, false) } : Oper)) (v := ?d6_v6) rfl (by kernel_rfl) (by kernel_rfl) (by kernel_rfl) (fun _ _ _ h => h) (Or.inl ⟨by rfl, ?d6_y6⟩) (by assumption) ?d6_r6
          case d6_y6 =>
            intro w hSw
            (try dsimp only at hSw)
            go_simp
            (try with_reducible rfl)
          try simp only [Act.put, List.setIfInBounds_toArray, List.set_cons_zero, List.set_cons_succ]
          refine wpAnyH_take (i := 7) (oi := ({ dst := some 14, op := Op.binOp BinOp.neq 3 (Operand.tmp 13) (Operand.const (Value.int IntKind.i64 0)) 3, type := 4, pos := "validate.go:56", after := #[{ on := 6, ground := Ground.data }, { on := 4, ground := Ground.guard }], guard := some (4, false) } : Oper)) (v := ?d7_v7) rfl (by kernel_rfl) (by kernel_rfl) (by kernel_rfl) (fun _ _ _ h => h) (Or.inl ⟨by rfl, ?d7_y7⟩) (by assumption) ?d7_r7
          case d7_y7 =>
            intro w hSw
            (try dsimp only at hSw)
            go_simp
            (try with_reducible rfl)
          try simp only [Act.put, List.setIfInBounds_toArray, List.set_cons_zero, List.set_cons_succ]
          refine wpAnyH_take (i := 8) (oi := ({ dst := some 15, op := Op.pick (Operand.tmp 11) (Operand.const (Value.bool true)) (Operand.tmp 14), type := 4, pos := "validate.go:56", after := #[{ on := 4, ground := Ground.data }, { on := 7, ground := Ground.data }], guard := none } : Oper)) (v := ?d8_v8) rfl (by kernel_rfl) (by kernel_rfl) (by kernel_rfl) (fun _ _ _ h => h) (Or.inl ⟨by rfl, ?d8_y8⟩) (by assumption) ?d8_r8
          case d8_y8 =>
            intro w hSw
            (try dsimp only at hSw)
            go_simp
            (try with_reducible rfl)
          try simp only [Act.put, List.setIfInBounds_toArray, List.set_cons_zero, List.set_cons_succ]
          refine wpAnyH_take (i := 9) (oi := ({ dst := some 16, op := Op.move (Operand.tmp 15), type := 4, pos := "validate.go:56", after := #[{ on := 8, ground := Ground.data }, { on := 4, ground := Ground.chain }], guard := none } : Oper)) (v := ?d9_v9) rfl (by kernel_rfl) (by kernel_rfl) (by kernel_rfl) (fun _ _ _ h => h) (Or.inl ⟨by rfl, ?d9_y9⟩) (by assumption) ?d9_r9
          case d9_y9 =>
            intro w hSw
            (try dsimp only at hSw)
            go_simp
            (try with_reducible rfl)
          try simp only [Act.put, List.setIfInBounds_toArray, List.set_cons_zero, List.set_cons_succ]
          refine wpAnyH_take (i := 10) (oi := ({ dst := some 17, op := Op.fieldAddr 38 (Operand.tmp 2) 1, type := 0, pos := "validate.go:56", after := #[{ on := 9, ground := Ground.guard }], guard := some (9, false) } : Oper)) (v := ?d10_v10) rfl (by kernel_rfl) (by kernel_rfl) (by kernel_rfl) (fun _ _ _ h => h) (Or.inl ⟨by rfl, ?d10_y10⟩) (by assumption) ?d10_r10
          case d10_y10 =>
            intro w hSw
            (try dsimp only at hSw)
            go_simp
            (try with_reducible rfl)
          try simp only [Act.put, List.setIfInBounds_toArray, List.set_cons_zero, List.set_cons_succ]
          refine wpAnyH_take (i := 11) (oi := ({ dst := some 18, op := Op.load 3 (Operand.tmp 17), type := 3, pos := "validate.go:56", after := #[{ on := 10, ground := Ground.data }, { on := 9, ground := Ground.guard }], guard := some (9, false) } : Oper)) (v := ?d11_v11) rfl (by kernel_rfl) (by kernel_rfl) (by kernel_rfl) (fun _ _ _ h => h) (Or.inl ⟨by rfl, ?d11_y11⟩) (by assumption) ?d11_r11
          case d11_y11 =>
            intro w hSw
            (try dsimp only at hSw)
            go_simp
            (try with_reducible rfl)
          try simp only [Act.put, List.setIfInBounds_toArray, List.set_cons_zero, List.set_cons_succ]
          refine wpAnyH_take (i := 12) (oi := ({ dst := some 19, op := Op.binOp BinOp.lss 3 (Operand.tmp 18) (Operand.const (Value.int IntKind.i64 1)) 3, type := 4, pos := "validate.go:56", after := #[{ on := 11, ground := Ground.data }, { on := 9, ground := Ground.guard }], guard := some (9, false) } : Oper)) (v := ?d12_v12) rfl (by kernel_rfl) (by kernel_rfl) (by kernel_rfl) (fun _ _ _ h => h) (Or.inl ⟨by rfl, ?d12_y12⟩) (by assumption) ?d12_r12
          case d12_y12 =>
            intro w hSw
            (try dsimp only at hSw)
            go_simp
            (try with_reducible rfl)
          try simp only [Act.put, List.setIfInBounds_toArray, List.set_cons_zero, List.set_cons_succ]
          refine wpAnyH_take (i := 13) (oi := ({ dst := some 20, op := Op.pick (Operand.tmp 16) (Operand.const (Value.bool true)) (Operand.tmp 19), type := 4, pos := "validate.go:56", after := #[{ on := 9, ground := Ground.data }, { on := 12, ground := Ground.data }], guard := none } : Oper)) (v := ?d13_v13) rfl (by kernel_rfl) (by kernel_rfl) (by kernel_rfl) (fun _ _ _ h => h) (Or.inl ⟨by rfl, ?d13_y13⟩) (by assumption) ?d13_r13
          case d13_y13 =>
            intro w hSw
            (try dsimp only at hSw)
            go_simp
            (try with_reducible rfl)
          try simp only [Act.put, List.setIfInBounds_toArray, List.set_cons_zero, List.set_cons_succ]
          refine wpAnyH_take (i := 14) (oi := ({ dst := some 21, op := Op.move (Operand.tmp 20), type := 4, pos := "validate.go:56", after := #[{ on := 13, ground := Ground.data }, { on := 9, ground := Ground.chain }], guard := none } : Oper)) (v := ?d14_v14) rfl (by kernel_rfl) (by kernel_rfl) (by kernel_rfl) (fun _ _ _ h => h) (Or.inl ⟨by rfl, ?d14_y14⟩) (by assumption) ?d14_r14
          case d14_y14 =>
            intro w hSw
            (try dsimp only at hSw)
            go_simp
            (try with_reducible rfl)
          try simp only [Act.put, List.setIfInBounds_toArray, List.set_cons_zero, List.set_cons_succ]
          refine wpAnyH_take (i := 15) (oi := ({ dst := some 22, op := Op.fieldAddr 38 (Operand.tmp 2) 1, type := 0, pos := "validate.go:56", after := #[{ on := 14, ground := Ground.guard }], guard := some (14, false) } : Oper)) (v := ?d15_v15) rfl (by kernel_rfl) (by kernel_rfl) (by kernel_rfl) (fun _ _ _ h => h) (Or.inl ⟨by rfl, ?d15_y15⟩) (by assumption) ?d15_r15
          case d15_y15 =>
            intro w hSw
            (try dsimp only at hSw)
            go_simp
            (try with_reducible rfl)
          try simp only [Act.put, List.setIfInBounds_toArray, List.set_cons_zero, List.set_cons_succ]
          refine wpAnyH_take (i := 16) (oi := ({ dst := some 23, op := Op.load 3 (Operand.tmp 22), type := 3, pos := "validate.go:56", after := #[{ on := 15, ground := Ground.data }, { on := 14, ground := Ground.guard }], guard := some (14, false) } : Oper)) (v := ?d16_v16) rfl (by kernel_rfl) (by kernel_rfl) (by kernel_rfl) (fun _ _ _ h => h) (Or.inl ⟨by rfl, ?d16_y16⟩) (by assumption) ?d16_r16
          case d16_y16 =>
            intro w hSw
            (try dsimp only at hSw)
            go_simp
            (try with_reducible rfl)
          try simp only [Act.put, List.setIfInBounds_toArray, List.set_cons_zero, List.set_cons_succ]
          refine wpAnyH_take (i := 17) (oi := ({ dst := some 24, op := Op.binOp BinOp.gtr 3 (Operand.tmp 23) (Operand.const (Value.int IntKind.i64 32)) 3, type := 4, pos := "validate.go:56", after := #[{ on := 16, ground := Ground.data }, { on := 14, ground := Ground.guard }], guard := some (14, false) } : Oper)) (v := ?d17_v17) rfl (by kernel_rfl) (by kernel_rfl) (by kernel_rfl) (fun _ _ _ h => h) (Or.inl ⟨by rfl, ?d17_y17⟩) (by assumption) ?d17_r17
          case d17_y17 =>
            intro w hSw
            (try dsimp only at hSw)
            go_simp
            (try with_reducible rfl)
          try simp only [Act.put, List.setIfInBounds_toArray, List.set_cons_zero, List.set_cons_succ]
          refine wpAnyH_take (i := 18) (oi := ({ dst := some 25, op := Op.pick (Operand.tmp 21) (Operand.const (Value.bool true)) (Operand.tmp 24), type := 4, pos := "validate.go:56", after := #[{ on := 14, ground := Ground.data }, { on := 17, ground := Ground.data }], guard := none } : Oper)) (v := ?d18_v18) rfl (by kernel_rfl) (by kernel_rfl) (by kernel_rfl) (fun _ _ _ h => h) (Or.inl ⟨by rfl, ?d18_y18⟩) (by assumption) ?d18_r18
          case d18_y18 =>
            intro w hSw
            (try dsimp only at hSw)
            go_simp
            (try with_reducible rfl)
          try simp only [Act.put, List.setIfInBounds_toArray, List.set_cons_zero, List.set_cons_succ]
          refine wpAnyH_take (i := 19) (oi := ({ dst := some 26, op := Op.move (Operand.tmp 25), type := 4, pos := "validate.go:56", after := #[{ on := 18, ground := Ground.data }, { on := 14, ground := Ground.chain }], guard := none } : Oper)) (v := ?d19_v19) rfl (by kernel_rfl) (by kernel_rfl) (by kernel_rfl) (fun _ _ _ h => h) (Or.inl ⟨by rfl, ?d19_y19⟩) (by assumption) ?d19_r19
          case d19_y19 =>
            intro w hSw
            (try dsimp only at hSw)
            go_simp
            (try with_reducible rfl)
          try simp only [Act.put, List.setIfInBounds_toArray, List.set_cons_zero, List.set_cons_succ]
          refine wpAnyH_take (i := 20) (oi := ({ dst := some 27, op := Op.fieldAddr 38 (Operand.tmp 2) 3, type := 0, pos := "validate.go:56", after := #[{ on := 19, ground := Ground.guard }], guard := some (19, false) } : Oper)) rfl (by kernel_rfl) (by kernel_rfl) (by kernel_rfl) (fun _ _ _ h => h) (Or.inr ⟨by rfl, rfl⟩) (by assumption) ?d20_r20
          try simp only [Act.put, List.setIfInBounds_toArray, List.set_cons_zero, List.set_cons_succ]
          refine wpAnyH_take (i := 21) (oi := ({ dst := some 28, op := Op.load 35 (Operand.tmp 27), type := 35, pos := "validate.go:56", after := #[{ on := 20, ground := Ground.data }, { on := 19, ground := Ground.guard }], guard := some (19, false) } : Oper)) rfl (by kernel_rfl) (by kernel_rfl) (by kernel_rfl) (fun _ _ _ h => h) (Or.inr ⟨by rfl, rfl⟩) (by assumption) ?d21_r21
          try simp only [Act.put, List.setIfInBounds_toArray, List.set_cons_zero, List.set_cons_succ]
          refine wpAnyH_take (i := 22) (oi := ({ dst := some 29, op := Op.call { callee := Callee.builtin Builtin.len, args := #[Operand.tmp 28], argTypes := #[35] }, type := 3, pos := "validate.go:56", after := #[{ on := 21, ground := Ground.data }, { on := 19, ground := Ground.guard }], guard := some (19, false) } : Oper)) rfl (by kernel_rfl) (by kernel_rfl) (by kernel_rfl) (fun _ _ _ h => h) (Or.inr ⟨by rfl, rfl⟩) (by assumption) ?d22_r22
          try simp only [Act.put, List.setIfInBounds_toArray, List.set_cons_zero, List.set_cons_succ]
          refine wpAnyH_take (i := 23) (oi := ({ dst := some 30, op := Op.fieldAddr 38 (Operand.tmp 2) 0, type := 0, pos := "validate.go:56", after := #[{ on := 19, ground := Ground.guard }], guard := some (19, false) } : Oper)) rfl (by kernel_rfl) (by kernel_rfl) (by kernel_rfl) (fun _ _ _ h => h) (Or.inr ⟨by rfl, rfl⟩) (by assumption) ?d23_r23
          try simp only [Act.put, List.setIfInBounds_toArray, List.set_cons_zero, List.set_cons_succ]
          refine wpAnyH_take (i := 24) (oi := ({ dst := some 31, op := Op.load 3 (Operand.tmp 30), type := 3, pos := "validate.go:56", after := #[{ on := 23, ground := Ground.data }, { on := 19, ground := Ground.guard }], guard := some (19, false) } : Oper)) rfl (by kernel_rfl) (by kernel_rfl) (by kernel_rfl) (fun _ _ _ h => h) (Or.inr ⟨by rfl, rfl⟩) (by assumption) ?d24_r24
          try simp only [Act.put, List.setIfInBounds_toArray, List.set_cons_zero, List.set_cons_succ]
          refine wpAnyH_take (i := 25) (oi := ({ dst := some 32, op := Op.call { callee := Callee.value (Operand.func 77), args := #[Operand.tmp 31], argTypes := #[3] }, type := 3, pos := "validate.go:56", after := #[{ on := 24, ground := Ground.data }, { on := 19, ground := Ground.chain }, { on := 19, ground := Ground.guard }], guard := some (19, false) } : Oper)) rfl (by kernel_rfl) (by kernel_rfl) (by kernel_rfl) (fun _ _ _ h => h) (Or.inr ⟨by rfl, rfl⟩) (by assumption) ?d25_r25
          try simp only [Act.put, List.setIfInBounds_toArray, List.set_cons_zero, List.set_cons_succ]
          refine wpAnyH_take (i := 26) (oi := ({ dst := some 33, op := Op.binOp BinOp.neq 3 (Operand.tmp 29) (Operand.tmp 32) 3, type := 4, pos := "validate.go:56", after := #[{ on := 22, ground := Ground.data }, { on := 25, ground := Ground.data }, { on := 19, ground := Ground.guard }], guard := some (19, false) } : Oper)) rfl (by kernel_rfl) (by kernel_rfl) (by kernel_rfl) (fun _ _ _ h => h) (Or.inr ⟨by rfl, rfl⟩) (by assumption) ?d26_r26
          try simp only [Act.put, List.setIfInBounds_toArray, List.set_cons_zero, List.set_cons_succ]
          refine wpAnyH_take (i := 27) (oi := ({ dst := some 34, op := Op.pick (Operand.tmp 26) (Operand.const (Value.bool true)) (Operand.tmp 33), type := 4, pos := "validate.go:56", after := #[{ on := 19, ground := Ground.data }, { on := 26, ground := Ground.data }], guard := none } : Oper)) (v := ?d27_v27) rfl (by kernel_rfl) (by kernel_rfl) (by kernel_rfl) (fun _ _ _ h => h) (Or.inl ⟨by rfl, ?d27_y27⟩) (by assumption) ?d27_r27
          case d27_y27 =>
            intro w hSw
            (try dsimp only at hSw)
            go_simp
            (try with_reducible rfl)
          try simp only [Act.put, List.setIfInBounds_toArray, List.set_cons_zero, List.set_cons_succ]
          refine wpAnyH_done (by kernel_rfl) ?_ _
          go_wp2
          go_ret
          exact ⟨ret_b HN.out.symm, by first | exact drewD HB.out | exact drewR HB.out | exact HB.out⟩
        · have d3 : decide (32 < wid) = false := decide_eq_false hw2
          by_cases hln : (n : Int) = an
          · have d4 : ((n : Int) != an) = false := by simp [hln]
            have HY := Lib.hid (HYES.out ⟨rfl, hfl, ⟨by omega, by omega⟩, hln⟩)
            clear HNO HYES
            refine wp_region_held_drew (S := (fun W => W.cell? ⟨B, 0, none⟩ = some (.int .i64 op) ∧ W.cell? ⟨B, 1, none⟩ = some (.int .i64 wid) ∧ W.cell? ⟨B, 2, none⟩ = some (.int .i64 fl) ∧ W.cell? ⟨B, 3, none⟩ = some (.slice A n c))) (by kernel_rfl) ?_ (fun hHeld => ?_)
            · exact HS.out _ (drewR (Below.refl _ _))
            refine wpAnyH_take (i := 0) (oi := ({ dst := some 7, op := Op.fieldAddr 38 (Operand.tmp 2) 0, type := 0, pos := "validate.go:56", after := #[], guard := none } : Oper)) (v := ?f1_v0) rfl (by kernel_rfl) (by kernel_rfl) (by kernel_rfl) (fun _ _ _ h => h) (Or.inl ⟨by rfl, ?f1_y0⟩) (by assumption) ?f1_r0
            case f1_y0 =>
              intro w hSw
              (try dsimp only at hSw)
              go_simp
              (try with_reducible rfl)
            try simp only [Act.put, List.setIfInBounds_toArray, List.set_cons_zero, List.set_cons_succ]
            refine wpAnyH_take (i := 1) (oi := ({ dst := some 8, op := Op.load 3 (Operand.tmp 7), type := 3, pos := "validate.go:56", after := #[{ on := 0, ground := Ground.data }], guard := none } : Oper)) (v := ?f2_v1) rfl (by kernel_rfl) (by kernel_rfl) (by kernel_rfl) (fun _ _ _ h => h) (Or.inl ⟨by rfl, ?f2_y1⟩) (by assumption) ?f2_r1
            case f2_y1 =>
              intro w hSw
              (try dsimp only at hSw)
              go_simp
              (try with_reducible rfl)
            try simp only [Act.put, List.setIfInBounds_toArray, List.set_cons_zero, List.set_cons_succ]
            refine wpAnyH_ready (rs := [2]) (by kernel_rfl) (by simp) ?_
            refine AllReadyH.cons (o := ({ dst := some 9, op := Op.call { callee := Callee.value (Operand.func 76), args := #[Operand.tmp 8], argTypes := #[3] }, type := 4, pos := "validate.go:56", after := #[{ on := 1, ground := Ground.data }], guard := none } : Oper)) rfl (fun K hKK => ?_) AllReadyH.nil
            go_simp
            refine (HOP.out _).mono ?_
            rintro e w3 ⟨rfl, rfl⟩
            refine hKK.out _ _ (HS.out _ (by first | exact Below.refl _ _ | exact drewD (Below.refl _ _) | exact drewR (Below.refl _ _))) (fun hS2_2 => ?_)
            try simp only [Act.put, List.setIfInBounds_toArray, List.set_cons_zero, List.set_cons_succ]
            refine wpAnyH_take (i := 3) (oi := ({ dst := some 10, op := Op.unOp UnOp.not 4 (Operand.tmp 9), type := 4, pos := "validate.go:56", after := #[{ on := 2, ground := Ground.data }], guard := none } : Oper)) (v := ?f3_v3) rfl (by kernel_rfl) (by kernel_rfl) (by kernel_rfl) (fun _ _ _ h => h) (Or.inl ⟨by rfl, ?f3_y3⟩) (by assumption) ?f3_r3
            case f3_y3 =>
              intro w hSw
              (try dsimp only at hSw)
              go_simp
              (try with_reducible rfl)
            try simp only [Act.put, List.setIfInBounds_toArray, List.set_cons_zero, List.set_cons_succ]
            refine wpAnyH_take (i := 4) (oi := ({ dst := some 11, op := Op.move (Operand.tmp 10), type := 4, pos := "validate.go:56", after := #[{ on := 3, ground := Ground.data }, { on := 2, ground := Ground.chain }], guard := none } : Oper)) (v := ?f4_v4) rfl (by kernel_rfl) (by kernel_rfl) (by kernel_rfl) (fun _ _ _ h => h) (Or.inl ⟨by rfl, ?f4_y4⟩) (by assumption) ?f4_r4
            case f4_y4 =>
              intro w hSw
              (try dsimp only at hSw)
              go_simp
              (try with_reducible rfl)
            try simp only [Act.put, List.setIfInBounds_toArray, List.set_cons_zero, List.set_cons_succ]
            refine wpAnyH_take (i := 5) (oi := ({ dst := some 12, op := Op.fieldAddr 38 (Operand.tmp 2) 2, type := 0, pos := "validate.go:56", after := #[{ on := 4, ground := Ground.guard }], guard := some (4, false) } : Oper)) (v := ?f5_v5) rfl (by kernel_rfl) (by kernel_rfl) (by kernel_rfl) (fun _ _ _ h => h) (Or.inl ⟨by rfl, ?f5_y5⟩) (by assumption) ?f5_r5
            case f5_y5 =>
              intro w hSw
              (try dsimp only at hSw)
              go_simp
              (try with_reducible rfl)
            try simp only [Act.put, List.setIfInBounds_toArray, List.set_cons_zero, List.set_cons_succ]
            refine wpAnyH_take (i := 6) (oi := ({ dst := some 13, op := Op.load 3 (Operand.tmp 12), type := 3, pos := "validate.go:56", after := #[{ on := 5, ground := Ground.data }, { on := 4, ground := Ground.guard }], guard := some (4, false) } : Oper)) (v := ?f6_v6) rfl (by kernel_rfl) (by kernel_rfl) (by kernel_rfl) (fun _ _ _ h => h) (Or.inl ⟨by rfl, ?f6_y6⟩) (by assumption) ?f6_r6
            case f6_y6 =>
              intro w hSw
              (try dsimp only at hSw)
              go_simp
              (try with_reducible rfl)
            try simp only [Act.put, List.setIfInBounds_toArray, List.set_cons_zero, List.set_cons_succ]
            refine wpAnyH_take (i := 7) (oi := ({ dst := some 14, op := Op.binOp BinOp.neq 3 (Operand.tmp 13) (Operand.const (Value.int IntKind.i64 0)) 3, type := 4, pos := "validate.go:56", after := #[{ on := 6, ground := Ground.data }, { on := 4, ground := Ground.guard }], guard := some (4, false) } : Oper)) (v := ?f7_v7) rfl (by kernel_rfl) (by kernel_rfl) (by kernel_rfl) (fun _ _ _ h => h) (Or.inl ⟨by rfl, ?f7_y7⟩) (by assumption) ?f7_r7
            case f7_y7 =>
              intro w hSw
              (try dsimp only at hSw)
              go_simp
              (try with_reducible rfl)
            try simp only [Act.put, List.setIfInBounds_toArray, List.set_cons_zero, List.set_cons_succ]
            refine wpAnyH_take (i := 8) (oi := ({ dst := some 15, op := Op.pick (Operand.tmp 11) (Operand.const (Value.bool true)) (Operand.tmp 14), type := 4, pos := "validate.go:56", after := #[{ on := 4, ground := Ground.data }, { on := 7, ground := Ground.data }], guard := none } : Oper)) (v := ?f8_v8) rfl (by kernel_rfl) (by kernel_rfl) (by kernel_rfl) (fun _ _ _ h => h) (Or.inl ⟨by rfl, ?f8_y8⟩) (by assumption) ?f8_r8
            case f8_y8 =>
              intro w hSw
              (try dsimp only at hSw)
              go_simp
              (try with_reducible rfl)
            try simp only [Act.put, List.setIfInBounds_toArray, List.set_cons_zero, List.set_cons_succ]
            refine wpAnyH_take (i := 9) (oi := ({ dst := some 16, op := Op.move (Operand.tmp 15), type := 4, pos := "validate.go:56", after := #[{ on := 8, ground := Ground.data }, { on := 4, ground := Ground.chain }], guard := none } : Oper)) (v := ?f9_v9) rfl (by kernel_rfl) (by kernel_rfl) (by kernel_rfl) (fun _ _ _ h => h) (Or.inl ⟨by rfl, ?f9_y9⟩) (by assumption) ?f9_r9
            case f9_y9 =>
              intro w hSw
              (try dsimp only at hSw)
              go_simp
              (try with_reducible rfl)
            try simp only [Act.put, List.setIfInBounds_toArray, List.set_cons_zero, List.set_cons_succ]
            refine wpAnyH_take (i := 10) (oi := ({ dst := some 17, op := Op.fieldAddr 38 (Operand.tmp 2) 1, type := 0, pos := "validate.go:56", after := #[{ on := 9, ground := Ground.guard }], guard := some (9, false) } : Oper)) (v := ?f10_v10) rfl (by kernel_rfl) (by kernel_rfl) (by kernel_rfl) (fun _ _ _ h => h) (Or.inl ⟨by rfl, ?f10_y10⟩) (by assumption) ?f10_r10
            case f10_y10 =>
              intro w hSw
              (try dsimp only at hSw)
              go_simp
              (try with_reducible rfl)
            try simp only [Act.put, List.setIfInBounds_toArray, List.set_cons_zero, List.set_cons_succ]
            refine wpAnyH_take (i := 11) (oi := ({ dst := some 18, op := Op.load 3 (Operand.tmp 17), type := 3, pos := "validate.go:56", after := #[{ on := 10, ground := Ground.data }, { on := 9, ground := Ground.guard }], guard := some (9, false) } : Oper)) (v := ?f11_v11) rfl (by kernel_rfl) (by kernel_rfl) (by kernel_rfl) (fun _ _ _ h => h) (Or.inl ⟨by rfl, ?f11_y11⟩) (by assumption) ?f11_r11
            case f11_y11 =>
              intro w hSw
              (try dsimp only at hSw)
              go_simp
              (try with_reducible rfl)
            try simp only [Act.put, List.setIfInBounds_toArray, List.set_cons_zero, List.set_cons_succ]
            refine wpAnyH_take (i := 12) (oi := ({ dst := some 19, op := Op.binOp BinOp.lss 3 (Operand.tmp 18) (Operand.const (Value.int IntKind.i64 1)) 3, type := 4, pos := "validate.go:56", after := #[{ on := 11, ground := Ground.data }, { on := 9, ground := Ground.guard }], guard := some (9, false) } : Oper)) (v := ?f12_v12) rfl (by kernel_rfl) (by kernel_rfl) (by kernel_rfl) (fun _ _ _ h => h) (Or.inl ⟨by rfl, ?f12_y12⟩) (by assumption) ?f12_r12
            case f12_y12 =>
              intro w hSw
              (try dsimp only at hSw)
              go_simp
              (try with_reducible rfl)
            try simp only [Act.put, List.setIfInBounds_toArray, List.set_cons_zero, List.set_cons_succ]
            refine wpAnyH_take (i := 13) (oi := ({ dst := some 20, op := Op.pick (Operand.tmp 16) (Operand.const (Value.bool true)) (Operand.tmp 19), type := 4, pos := "validate.go:56", after := #[{ on := 9, ground := Ground.data }, { on := 12, ground := Ground.data }], guard := none } : Oper)) (v := ?f13_v13) rfl (by kernel_rfl) (by kernel_rfl) (by kernel_rfl) (fun _ _ _ h => h) (Or.inl ⟨by rfl, ?f13_y13⟩) (by assumption) ?f13_r13
            case f13_y13 =>
              intro w hSw
              (try dsimp only at hSw)
              go_simp
              (try with_reducible rfl)
            try simp only [Act.put, List.setIfInBounds_toArray, List.set_cons_zero, List.set_cons_succ]
            refine wpAnyH_take (i := 14) (oi := ({ dst := some 21, op := Op.move (Operand.tmp 20), type := 4, pos := "validate.go:56", after := #[{ on := 13, ground := Ground.data }, { on := 9, ground := Ground.chain }], guard := none } : Oper)) (v := ?f14_v14) rfl (by kernel_rfl) (by kernel_rfl) (by kernel_rfl) (fun _ _ _ h => h) (Or.inl ⟨by rfl, ?f14_y14⟩) (by assumption) ?f14_r14
            case f14_y14 =>
              intro w hSw
              (try dsimp only at hSw)
              go_simp
              (try with_reducible rfl)
            try simp only [Act.put, List.setIfInBounds_toArray, List.set_cons_zero, List.set_cons_succ]
            refine wpAnyH_take (i := 15) (oi := ({ dst := some 22, op := Op.fieldAddr 38 (Operand.tmp 2) 1, type := 0, pos := "validate.go:56", after := #[{ on := 14, ground := Ground.guard }], guard := some (14, false) } : Oper)) (v := ?f15_v15) rfl (by kernel_rfl) (by kernel_rfl) (by kernel_rfl) (fun _ _ _ h => h) (Or.inl ⟨by rfl, ?f15_y15⟩) (by assumption) ?f15_r15
            case f15_y15 =>
              intro w hSw
              (try dsimp only at hSw)
              go_simp
              (try with_reducible rfl)
            try simp only [Act.put, List.setIfInBounds_toArray, List.set_cons_zero, List.set_cons_succ]
            refine wpAnyH_take (i := 16) (oi := ({ dst := some 23, op := Op.load 3 (Operand.tmp 22), type := 3, pos := "validate.go:56", after := #[{ on := 15, ground := Ground.data }, { on := 14, ground := Ground.guard }], guard := some (14, false) } : Oper)) (v := ?f16_v16) rfl (by kernel_rfl) (by kernel_rfl) (by kernel_rfl) (fun _ _ _ h => h) (Or.inl ⟨by rfl, ?f16_y16⟩) (by assumption) ?f16_r16
            case f16_y16 =>
              intro w hSw
              (try dsimp only at hSw)
              go_simp
              (try with_reducible rfl)
            try simp only [Act.put, List.setIfInBounds_toArray, List.set_cons_zero, List.set_cons_succ]
            refine wpAnyH_take (i := 17) (oi := ({ dst := some 24, op := Op.binOp BinOp.gtr 3 (Operand.tmp 23) (Operand.const (Value.int IntKind.i64 32)) 3, type := 4, pos := "validate.go:56", after := #[{ on := 16, ground := Ground.data }, { on := 14, ground := Ground.guard }], guard := some (14, false) } : Oper)) (v := ?f17_v17) rfl (by kernel_rfl) (by kernel_rfl) (by kernel_rfl) (fun _ _ _ h => h) (Or.inl ⟨by rfl, ?f17_y17⟩) (by assumption) ?f17_r17
            case f17_y17 =>
              intro w hSw
              (try dsimp only at hSw)
              go_simp
              (try with_reducible rfl)
            try simp only [Act.put, List.setIfInBounds_toArray, List.set_cons_zero, List.set_cons_succ]
            refine wpAnyH_take (i := 18) (oi := ({ dst := some 25, op := Op.pick (Operand.tmp 21) (Operand.const (Value.bool true)) (Operand.tmp 24), type := 4, pos := "validate.go:56", after := #[{ on := 14, ground := Ground.data }, { on := 17, ground := Ground.data }], guard := none } : Oper)) (v := ?f18_v18) rfl (by kernel_rfl) (by kernel_rfl) (by kernel_rfl) (fun _ _ _ h => h) (Or.inl ⟨by rfl, ?f18_y18⟩) (by assumption) ?f18_r18
            case f18_y18 =>
              intro w hSw
              (try dsimp only at hSw)
              go_simp
              (try with_reducible rfl)
            try simp only [Act.put, List.setIfInBounds_toArray, List.set_cons_zero, List.set_cons_succ]
            refine wpAnyH_take (i := 19) (oi := ({ dst := some 26, op := Op.move (Operand.tmp 25), type := 4, pos := "validate.go:56", after := #[{ on := 18, ground := Ground.data }, { on := 14, ground := Ground.chain }], guard := none } : Oper)) (v := ?f19_v19) rfl (by kernel_rfl) (by kernel_rfl) (by kernel_rfl) (fun _ _ _ h => h) (Or.inl ⟨by rfl, ?f19_y19⟩) (by assumption) ?f19_r19
            case f19_y19 =>
              intro w hSw
              (try dsimp only at hSw)
              go_simp
              (try with_reducible rfl)
            try simp only [Act.put, List.setIfInBounds_toArray, List.set_cons_zero, List.set_cons_succ]
            refine wpAnyH_take (i := 20) (oi := ({ dst := some 27, op := Op.fieldAddr 38 (Operand.tmp 2) 3, type := 0, pos := "validate.go:56", after := #[{ on := 19, ground := Ground.guard }], guard := some (19, false) } : Oper)) (v := ?f20_v20) rfl (by kernel_rfl) (by kernel_rfl) (by kernel_rfl) (fun _ _ _ h => h) (Or.inl ⟨by rfl, ?f20_y20⟩) (by assumption) ?f20_r20
            case f20_y20 =>
              intro w hSw
              (try dsimp only at hSw)
              go_simp
              (try with_reducible rfl)
            try simp only [Act.put, List.setIfInBounds_toArray, List.set_cons_zero, List.set_cons_succ]
            refine wpAnyH_take (i := 21) (oi := ({ dst := some 28, op := Op.load 35 (Operand.tmp 27), type := 35, pos := "validate.go:56", after := #[{ on := 20, ground := Ground.data }, { on := 19, ground := Ground.guard }], guard := some (19, false) } : Oper)) (v := ?f21_v21) rfl (by kernel_rfl) (by kernel_rfl) (by kernel_rfl) (fun _ _ _ h => h) (Or.inl ⟨by rfl, ?f21_y21⟩) (by assumption) ?f21_r21
            case f21_y21 =>
              intro w hSw
              (try dsimp only at hSw)
              go_simp
              (try with_reducible rfl)
            try simp only [Act.put, List.setIfInBounds_toArray, List.set_cons_zero, List.set_cons_succ]
            refine wpAnyH_take (i := 22) (oi := ({ dst := some 29, op := Op.call { callee := Callee.builtin Builtin.len, args := #[Operand.tmp 28], argTypes := #[35] }, type := 3, pos := "validate.go:56", after := #[{ on := 21, ground := Ground.data }, { on := 19, ground := Ground.guard }], guard := some (19, false) } : Oper)) (v := ?f22_v22) rfl (by kernel_rfl) (by kernel_rfl) (by kernel_rfl) (fun _ _ _ h => h) (Or.inl ⟨by rfl, ?f22_y22⟩) (by assumption) ?f22_r22
            case f22_y22 =>
              intro w hSw
              (try dsimp only at hSw)
              go_simp
              (try with_reducible rfl)
            try simp only [Act.put, List.setIfInBounds_toArray, List.set_cons_zero, List.set_cons_succ]
            refine wpAnyH_take (i := 23) (oi := ({ dst := some 30, op := Op.fieldAddr 38 (Operand.tmp 2) 0, type := 0, pos := "validate.go:56", after := #[{ on := 19, ground := Ground.guard }], guard := some (19, false) } : Oper)) (v := ?f23_v23) rfl (by kernel_rfl) (by kernel_rfl) (by kernel_rfl) (fun _ _ _ h => h) (Or.inl ⟨by rfl, ?f23_y23⟩) (by assumption) ?f23_r23
            case f23_y23 =>
              intro w hSw
              (try dsimp only at hSw)
              go_simp
              (try with_reducible rfl)
            try simp only [Act.put, List.setIfInBounds_toArray, List.set_cons_zero, List.set_cons_succ]
            refine wpAnyH_take (i := 24) (oi := ({ dst := some 31, op := Op.load 3 (Operand.tmp 30), type := 3, pos := "validate.go:56", after := #[{ on := 23, ground := Ground.data }, { on := 19, ground := Ground.guard }], guard := some (19, false) } : Oper)) (v := ?f24_v24) rfl (by kernel_rfl) (by kernel_rfl) (by kernel_rfl) (fun _ _ _ h => h) (Or.inl ⟨by rfl, ?f24_y24⟩) (by assumption) ?f24_r24
            case f24_y24 =>
              intro w hSw
              (try dsimp only at hSw)
              go_simp
              (try with_reducible rfl)
            try simp only [Act.put, List.setIfInBounds_toArray, List.set_cons_zero, List.set_cons_succ]
            refine wpAnyH_ready (rs := [25]) (by kernel_rfl) (by simp) ?_
            refine AllReadyH.cons (o := ({ dst := some 32, op := Op.call { callee := Callee.value (Operand.func 77), args := #[Operand.tmp 31], argTypes := #[3] }, type := 3, pos := "validate.go:56", after := #[{ on := 24, ground := Ground.data }, { on := 19, ground := Ground.chain }, { on := 19, ground := Ground.guard }], guard := some (19, false) } : Oper)) rfl (fun K hKK => ?_) AllReadyH.nil
            go_simp
            refine (HAR.out _).mono ?_
            rintro e w3 ⟨rfl, rfl⟩
            refine hKK.out _ _ (HS.out _ (by first | exact Below.refl _ _ | exact drewD (Below.refl _ _) | exact drewR (Below.refl _ _))) (fun hS25_24 => ?_)
            try simp only [Act.put, List.setIfInBounds_toArray, List.set_cons_zero, List.set_cons_succ]
            refine wpAnyH_take (i := 26) (oi := ({ dst := some 33, op := Op.binOp BinOp.neq 3 (Operand.tmp 29) (Operand.tmp 32) 3, type := 4, pos := "validate.go:56", after := #[{ on := 22, ground := Ground.data }, { on := 25, ground := Ground.data }, { on := 19, ground := Ground.guard }], guard := some (19, false) } : Oper)) (v := ?f25_v26) rfl (by kernel_rfl) (by kernel_rfl) (by kernel_rfl) (fun _ _ _ h => h) (Or.inl ⟨by rfl, ?f25_y26⟩) (by assumption) ?f25_r26
            case f25_y26 =>
              intro w hSw
              (try dsimp only at hSw)
              go_simp
              (try with_reducible rfl)
            try simp only [Act.put, List.setIfInBounds_toArray, List.set_cons_zero, List.set_cons_succ]
            refine wpAnyH_take (i := 27) (oi := ({ dst := some 34, op := Op.pick (Operand.tmp 26) (Operand.const (Value.bool true)) (Operand.tmp 33), type := 4, pos := "validate.go:56", after := #[{ on := 19, ground := Ground.data }, { on := 26, ground := Ground.data }], guard := none } : Oper)) (v := ?f26_v27) rfl (by kernel_rfl) (by kernel_rfl) (by kernel_rfl) (fun _ _ _ h => h) (Or.inl ⟨by rfl, ?f26_y27⟩) (by assumption) ?f26_r27
            case f26_y27 =>
              intro w hSw
              (try dsimp only at hSw)
              go_simp
              (try with_reducible rfl)
            try simp only [Act.put, List.setIfInBounds_toArray, List.set_cons_zero, List.set_cons_succ]
            refine wpAnyH_done (by kernel_rfl) ?_ _
            have hx2 : W1.drew.heap[B]? = some (.cells #[.int .i64 op, .int .i64 wid, .int .i64 fl, .slice A n c, .int .u32 imm] 38 (0, 0)) := hx
            have HB2 := Lib.hid (drewD HB.out)
            replace HII := Lib.hid (show Ints W1.drew A n c args from HII.out)
            clear HS hx
            generalize W1.drew = W2 at hx2 HB2 HII ⊢
            obtain ⟨c0, c1, -, c3, c4⟩ := cells5 (x := ⟨op, wid, fl, args, imm⟩) hx2
            simp only at c0 c1 c3 c4
            have hBl := lt_of_block hx2
            clear hx2 d1 d2 d3 d4
            go_wp2
            go_loop [38] (fun zi => ∃ i : Nat, i ≤ n ∧ zi = .int .i64 (i : Int) ∧ Hid (∀ j, j < i → 0 ≤ args[j]! ∧ args[j]! < (k : Int))) (fun zi => n - (intOf zi).toNat)
            case atStart => exact ⟨0, by omega, rfl, Lib.hid fun j hj => absurd hj (by omega)⟩
            case round =>
              obtain ⟨i, hi, rfl, HJ⟩ := hrel
              by_cases hlt : i < n
              · obtain ⟨b', off', rfl, hbs', hc'⟩ := HII.out.at_ hlt
                have HA1 := Lib.hid (HARG.out i hlt)
                have HJ2 := Lib.hid (show 0 ≤ args[i]! ∧ args[i]! < (k : Int) → ∀ j, j < i + 1 → 0 ≤ args[j]! ∧ args[j]! < (k : Int) from fun h j hj => by
                  by_cases hji : j = i
                  · rw [hji]; exact h
                  · exact HJ.out j (by omega))
                generalize args[i]! = a at hc' HA1 HJ2
                by_cases ha0 : a < 0
                · have HN := Lib.hid (HA1.out (by omega))
                  have e1 : decide (a < 0) = true := decide_eq_true ha0
                  clear HA1 HJ2
                  go_wp2
                  go_ret
                  exact ⟨ret_b HN.out.symm, HB2.out⟩
                · have e1 : decide (a < 0) = false := decide_eq_false ha0
                  by_cases hak : (k : Int) ≤ a
                  · have HN := Lib.hid (HA1.out (by omega))
                    have e2 : decide ((k : Int) ≤ a) = true := decide_eq_true hak
                    clear HA1 HJ2
                    go_wp2
                    go_ret
                    exact ⟨ret_b HN.out.symm, HB2.out⟩
                  · have e2 : decide ((k : Int) ≤ a) = false := decide_eq_false hak
                    have HJ3 := Lib.hid (HJ2.out (by omega))
                    clear HA1 HJ2
                    go_wp2
                    go_roundw
                    case rel => exact ⟨i + 1, by omega, by go_num, HJ3⟩
                    case measure => simp [intOf]; omega
              · obtain rfl : i = n := by omega
                have HN := Lib.hid ((HY.out (fun j hj => HJ.out j (by rw [HLN.out]; exact hj))).trans HIM.out)
                clear HY HJ HARG HIM
                by_cases o0 : op = 0
                · have HN2 := Lib.hid (show N = decide (imm < (pw wid.toNat : Nat)) by rw [HN.out, if_pos o0])
                  have e1 : (op == 0) = true := by simp [o0]
                  obtain ⟨W, rfl⟩ : ∃ W : Nat, wid = (W : Int) := ⟨wid.toNat, by omega⟩
                  have hp := pw_le (n := W) (by omega)
                  rw [Int.toNat_natCast] at HN2
                  clear HN o0
                  go_wp2
                  go_region
                  go_wp2
                  go_ret
                  refine ⟨ret_b ?_, drewR HB2.out⟩
                  rw [HN2.out, wrap_u64 W (by omega)]
                · have e1 : (op == 0) = false := beq_false_of_ne o0
                  by_cases o33 : op = 33
                  · have HN2 := Lib.hid (show N = decide (imm < 4) by rw [HN.out, if_neg o0, if_pos o33])
                    have e2 : (op == 33) = true := by simp [o33]
                    clear HN o0 o33
                    go_wp2
                    go_ret
                    exact ⟨ret_b HN2.out.symm, HB2.out⟩
                  · have e2 : (op == 33) = false := beq_false_of_ne o33
                    by_cases o14 : op = 14
                    · have HN2 := Lib.hid (show N = (decide (wid = 1) && decide (imm ≤ 9)) by rw [HN.out, if_neg o0, if_neg o33, if_pos o14])
                      have e3 : (op == 14) = true := by simp [o14]
                      by_cases w1 : wid = 1
                      · have e4 : (wid == 1) = true := by simp [w1]
                        have HN3 := Lib.hid (show N = decide (imm ≤ 9) by rw [HN2.out, decide_eq_true w1, Bool.true_and])
                        clear HN o0 o33 o14 w1
                        go_wp2
                        go_ret
                        exact ⟨ret_b HN3.out.symm, HB2.out⟩
                      · have e4 : (wid == 1) = false := beq_false_of_ne w1
                        have HN3 := Lib.hid (show N = false by rw [HN2.out, decide_eq_false w1, Bool.false_and])
                        clear HN o0 o33 o14 w1
                        go_wp2
                        go_ret
                        exact ⟨ret_b HN3.out.symm, HB2.out⟩
                    · have e3 : (op == 14) = false := beq_false_of_ne o14
                      have HN2 := Lib.hid (show N = (imm == 0) by rw [HN.out, if_neg o0, if_neg o33, if_neg o14]; rw [Bool.eq_iff_iff, decide_eq_true_iff, beq_iff_eq])
                      clear HN o0 o33 o14
                      go_wp2
                      go_ret
                      exact ⟨ret_b HN2.out.symm, HB2.out⟩
          · have d4 : ((n : Int) != an) = true := by simp [hln]
            have HN := Lib.hid (HNO.out (fun h => hln h.2.2.2))
            clear HNO HYES HARG
            refine wp_region_held_drew (S := (fun W => W.cell? ⟨B, 0, none⟩ = some (.int .i64 op) ∧ W.cell? ⟨B, 1, none⟩ = some (.int .i64 wid) ∧ W.cell? ⟨B, 2, none⟩ = some (.int .i64 fl) ∧ W.cell? ⟨B, 3, none⟩ = some (.slice A n c))) (by kernel_rfl) ?_ (fun hHeld => ?_)
            · exact HS.out _ (drewR (Below.refl _ _))
            refine wpAnyH_take (i := 0) (oi := ({ dst := some 7, op := Op.fieldAddr 38 (Operand.tmp 2) 0, type := 0, pos := "validate.go:56", after := #[], guard := none } : Oper)) (v := ?e1_v0) rfl (by kernel_rfl) (by kernel_rfl) (by kernel_rfl) (fun _ _ _ h => h) (Or.inl ⟨by rfl, ?e1_y0⟩) (by assumption) ?e1_r0
            case e1_y0 =>
              intro w hSw
              (try dsimp only at hSw)
              go_simp
              (try with_reducible rfl)
            try simp only [Act.put, List.setIfInBounds_toArray, List.set_cons_zero, List.set_cons_succ]
            refine wpAnyH_take (i := 1) (oi := ({ dst := some 8, op := Op.load 3 (Operand.tmp 7), type := 3, pos := "validate.go:56", after := #[{ on := 0, ground := Ground.data }], guard := none } : Oper)) (v := ?e2_v1) rfl (by kernel_rfl) (by kernel_rfl) (by kernel_rfl) (fun _ _ _ h => h) (Or.inl ⟨by rfl, ?e2_y1⟩) (by assumption) ?e2_r1
            case e2_y1 =>
              intro w hSw
              (try dsimp only at hSw)
              go_simp
              (try with_reducible rfl)
            try simp only [Act.put, List.setIfInBounds_toArray, List.set_cons_zero, List.set_cons_succ]
            refine wpAnyH_ready (rs := [2]) (by kernel_rfl) (by simp) ?_
            refine AllReadyH.cons (o := ({ dst := some 9, op := Op.call { callee := Callee.value (Operand.func 76), args := #[Operand.tmp 8], argTypes := #[3] }, type := 4, pos := "validate.go:56", after := #[{ on := 1, ground := Ground.data }], guard := none } : Oper)) rfl (fun K hKK => ?_) AllReadyH.nil
            go_simp
            refine (HOP.out _).mono ?_
            rintro e w3 ⟨rfl, rfl⟩
            refine hKK.out _ _ (HS.out _ (by first | exact Below.refl _ _ | exact drewD (Below.refl _ _) | exact drewR (Below.refl _ _))) (fun hS2_2 => ?_)
            try simp only [Act.put, List.setIfInBounds_toArray, List.set_cons_zero, List.set_cons_succ]
            refine wpAnyH_take (i := 3) (oi := ({ dst := some 10, op := Op.unOp UnOp.not 4 (Operand.tmp 9), type := 4, pos := "validate.go:56", after := #[{ on := 2, ground := Ground.data }], guard := none } : Oper)) (v := ?e3_v3) rfl (by kernel_rfl) (by kernel_rfl) (by kernel_rfl) (fun _ _ _ h => h) (Or.inl ⟨by rfl, ?e3_y3⟩) (by assumption) ?e3_r3
            case e3_y3 =>
              intro w hSw
              (try dsimp only at hSw)
              go_simp
              (try with_reducible rfl)
            try simp only [Act.put, List.setIfInBounds_toArray, List.set_cons_zero, List.set_cons_succ]
            refine wpAnyH_take (i := 4) (oi := ({ dst := some 11, op := Op.move (Operand.tmp 10), type := 4, pos := "validate.go:56", after := #[{ on := 3, ground := Ground.data }, { on := 2, ground := Ground.chain }], guard := none } : Oper)) (v := ?e4_v4) rfl (by kernel_rfl) (by kernel_rfl) (by kernel_rfl) (fun _ _ _ h => h) (Or.inl ⟨by rfl, ?e4_y4⟩) (by assumption) ?e4_r4
            case e4_y4 =>
              intro w hSw
              (try dsimp only at hSw)
              go_simp
              (try with_reducible rfl)
            try simp only [Act.put, List.setIfInBounds_toArray, List.set_cons_zero, List.set_cons_succ]
            refine wpAnyH_take (i := 5) (oi := ({ dst := some 12, op := Op.fieldAddr 38 (Operand.tmp 2) 2, type := 0, pos := "validate.go:56", after := #[{ on := 4, ground := Ground.guard }], guard := some (4, false) } : Oper)) (v := ?e5_v5) rfl (by kernel_rfl) (by kernel_rfl) (by kernel_rfl) (fun _ _ _ h => h) (Or.inl ⟨by rfl, ?e5_y5⟩) (by assumption) ?e5_r5
            case e5_y5 =>
              intro w hSw
              (try dsimp only at hSw)
              go_simp
              (try with_reducible rfl)
            try simp only [Act.put, List.setIfInBounds_toArray, List.set_cons_zero, List.set_cons_succ]
            refine wpAnyH_take (i := 6) (oi := ({ dst := some 13, op := Op.load 3 (Operand.tmp 12), type := 3, pos := "validate.go:56", after := #[{ on := 5, ground := Ground.data }, { on := 4, ground := Ground.guard }], guard := some (4, false) } : Oper)) (v := ?e6_v6) rfl (by kernel_rfl) (by kernel_rfl) (by kernel_rfl) (fun _ _ _ h => h) (Or.inl ⟨by rfl, ?e6_y6⟩) (by assumption) ?e6_r6
            case e6_y6 =>
              intro w hSw
              (try dsimp only at hSw)
              go_simp
              (try with_reducible rfl)
            try simp only [Act.put, List.setIfInBounds_toArray, List.set_cons_zero, List.set_cons_succ]
            refine wpAnyH_take (i := 7) (oi := ({ dst := some 14, op := Op.binOp BinOp.neq 3 (Operand.tmp 13) (Operand.const (Value.int IntKind.i64 0)) 3, type := 4, pos := "validate.go:56", after := #[{ on := 6, ground := Ground.data }, { on := 4, ground := Ground.guard }], guard := some (4, false) } : Oper)) (v := ?e7_v7) rfl (by kernel_rfl) (by kernel_rfl) (by kernel_rfl) (fun _ _ _ h => h) (Or.inl ⟨by rfl, ?e7_y7⟩) (by assumption) ?e7_r7
            case e7_y7 =>
              intro w hSw
              (try dsimp only at hSw)
              go_simp
              (try with_reducible rfl)
            try simp only [Act.put, List.setIfInBounds_toArray, List.set_cons_zero, List.set_cons_succ]
            refine wpAnyH_take (i := 8) (oi := ({ dst := some 15, op := Op.pick (Operand.tmp 11) (Operand.const (Value.bool true)) (Operand.tmp 14), type := 4, pos := "validate.go:56", after := #[{ on := 4, ground := Ground.data }, { on := 7, ground := Ground.data }], guard := none } : Oper)) (v := ?e8_v8) rfl (by kernel_rfl) (by kernel_rfl) (by kernel_rfl) (fun _ _ _ h => h) (Or.inl ⟨by rfl, ?e8_y8⟩) (by assumption) ?e8_r8
            case e8_y8 =>
              intro w hSw
              (try dsimp only at hSw)
              go_simp
              (try with_reducible rfl)
            try simp only [Act.put, List.setIfInBounds_toArray, List.set_cons_zero, List.set_cons_succ]
            refine wpAnyH_take (i := 9) (oi := ({ dst := some 16, op := Op.move (Operand.tmp 15), type := 4, pos := "validate.go:56", after := #[{ on := 8, ground := Ground.data }, { on := 4, ground := Ground.chain }], guard := none } : Oper)) (v := ?e9_v9) rfl (by kernel_rfl) (by kernel_rfl) (by kernel_rfl) (fun _ _ _ h => h) (Or.inl ⟨by rfl, ?e9_y9⟩) (by assumption) ?e9_r9
            case e9_y9 =>
              intro w hSw
              (try dsimp only at hSw)
              go_simp
              (try with_reducible rfl)
            try simp only [Act.put, List.setIfInBounds_toArray, List.set_cons_zero, List.set_cons_succ]
            refine wpAnyH_take (i := 10) (oi := ({ dst := some 17, op := Op.fieldAddr 38 (Operand.tmp 2) 1, type := 0, pos := "validate.go:56", after := #[{ on := 9, ground := Ground.guard }], guard := some (9, false) } : Oper)) (v := ?e10_v10) rfl (by kernel_rfl) (by kernel_rfl) (by kernel_rfl) (fun _ _ _ h => h) (Or.inl ⟨by rfl, ?e10_y10⟩) (by assumption) ?e10_r10
            case e10_y10 =>
              intro w hSw
              (try dsimp only at hSw)
              go_simp
              (try with_reducible rfl)
            try simp only [Act.put, List.setIfInBounds_toArray, List.set_cons_zero, List.set_cons_succ]
            refine wpAnyH_take (i := 11) (oi := ({ dst := some 18, op := Op.load 3 (Operand.tmp 17), type := 3, pos := "validate.go:56", after := #[{ on := 10, ground := Ground.data }, { on := 9, ground := Ground.guard }], guard := some (9, false) } : Oper)) (v := ?e11_v11) rfl (by kernel_rfl) (by kernel_rfl) (by kernel_rfl) (fun _ _ _ h => h) (Or.inl ⟨by rfl, ?e11_y11⟩) (by assumption) ?e11_r11
            case e11_y11 =>
              intro w hSw
              (try dsimp only at hSw)
              go_simp
              (try with_reducible rfl)
            try simp only [Act.put, List.setIfInBounds_toArray, List.set_cons_zero, List.set_cons_succ]
            refine wpAnyH_take (i := 12) (oi := ({ dst := some 19, op := Op.binOp BinOp.lss 3 (Operand.tmp 18) (Operand.const (Value.int IntKind.i64 1)) 3, type := 4, pos := "validate.go:56", after := #[{ on := 11, ground := Ground.data }, { on := 9, ground := Ground.guard }], guard := some (9, false) } : Oper)) (v := ?e12_v12) rfl (by kernel_rfl) (by kernel_rfl) (by kernel_rfl) (fun _ _ _ h => h) (Or.inl ⟨by rfl, ?e12_y12⟩) (by assumption) ?e12_r12
            case e12_y12 =>
              intro w hSw
              (try dsimp only at hSw)
              go_simp
              (try with_reducible rfl)
            try simp only [Act.put, List.setIfInBounds_toArray, List.set_cons_zero, List.set_cons_succ]
            refine wpAnyH_take (i := 13) (oi := ({ dst := some 20, op := Op.pick (Operand.tmp 16) (Operand.const (Value.bool true)) (Operand.tmp 19), type := 4, pos := "validate.go:56", after := #[{ on := 9, ground := Ground.data }, { on := 12, ground := Ground.data }], guard := none } : Oper)) (v := ?e13_v13) rfl (by kernel_rfl) (by kernel_rfl) (by kernel_rfl) (fun _ _ _ h => h) (Or.inl ⟨by rfl, ?e13_y13⟩) (by assumption) ?e13_r13
            case e13_y13 =>
              intro w hSw
              (try dsimp only at hSw)
              go_simp
              (try with_reducible rfl)
            try simp only [Act.put, List.setIfInBounds_toArray, List.set_cons_zero, List.set_cons_succ]
            refine wpAnyH_take (i := 14) (oi := ({ dst := some 21, op := Op.move (Operand.tmp 20), type := 4, pos := "validate.go:56", after := #[{ on := 13, ground := Ground.data }, { on := 9, ground := Ground.chain }], guard := none } : Oper)) (v := ?e14_v14) rfl (by kernel_rfl) (by kernel_rfl) (by kernel_rfl) (fun _ _ _ h => h) (Or.inl ⟨by rfl, ?e14_y14⟩) (by assumption) ?e14_r14
            case e14_y14 =>
              intro w hSw
              (try dsimp only at hSw)
              go_simp
              (try with_reducible rfl)
            try simp only [Act.put, List.setIfInBounds_toArray, List.set_cons_zero, List.set_cons_succ]
            refine wpAnyH_take (i := 15) (oi := ({ dst := some 22, op := Op.fieldAddr 38 (Operand.tmp 2) 1, type := 0, pos := "validate.go:56", after := #[{ on := 14, ground := Ground.guard }], guard := some (14, false) } : Oper)) (v := ?e15_v15) rfl (by kernel_rfl) (by kernel_rfl) (by kernel_rfl) (fun _ _ _ h => h) (Or.inl ⟨by rfl, ?e15_y15⟩) (by assumption) ?e15_r15
            case e15_y15 =>
              intro w hSw
              (try dsimp only at hSw)
              go_simp
              (try with_reducible rfl)
            try simp only [Act.put, List.setIfInBounds_toArray, List.set_cons_zero, List.set_cons_succ]
            refine wpAnyH_take (i := 16) (oi := ({ dst := some 23, op := Op.load 3 (Operand.tmp 22), type := 3, pos := "validate.go:56", after := #[{ on := 15, ground := Ground.data }, { on := 14, ground := Ground.guard }], guard := some (14, false) } : Oper)) (v := ?e16_v16) rfl (by kernel_rfl) (by kernel_rfl) (by kernel_rfl) (fun _ _ _ h => h) (Or.inl ⟨by rfl, ?e16_y16⟩) (by assumption) ?e16_r16
            case e16_y16 =>
              intro w hSw
              (try dsimp only at hSw)
              go_simp
              (try with_reducible rfl)
            try simp only [Act.put, List.setIfInBounds_toArray, List.set_cons_zero, List.set_cons_succ]
            refine wpAnyH_take (i := 17) (oi := ({ dst := some 24, op := Op.binOp BinOp.gtr 3 (Operand.tmp 23) (Operand.const (Value.int IntKind.i64 32)) 3, type := 4, pos := "validate.go:56", after := #[{ on := 16, ground := Ground.data }, { on := 14, ground := Ground.guard }], guard := some (14, false) } : Oper)) (v := ?e17_v17) rfl (by kernel_rfl) (by kernel_rfl) (by kernel_rfl) (fun _ _ _ h => h) (Or.inl ⟨by rfl, ?e17_y17⟩) (by assumption) ?e17_r17
            case e17_y17 =>
              intro w hSw
              (try dsimp only at hSw)
              go_simp
              (try with_reducible rfl)
            try simp only [Act.put, List.setIfInBounds_toArray, List.set_cons_zero, List.set_cons_succ]
            refine wpAnyH_take (i := 18) (oi := ({ dst := some 25, op := Op.pick (Operand.tmp 21) (Operand.const (Value.bool true)) (Operand.tmp 24), type := 4, pos := "validate.go:56", after := #[{ on := 14, ground := Ground.data }, { on := 17, ground := Ground.data }], guard := none } : Oper)) (v := ?e18_v18) rfl (by kernel_rfl) (by kernel_rfl) (by kernel_rfl) (fun _ _ _ h => h) (Or.inl ⟨by rfl, ?e18_y18⟩) (by assumption) ?e18_r18
            case e18_y18 =>
              intro w hSw
              (try dsimp only at hSw)
              go_simp
              (try with_reducible rfl)
            try simp only [Act.put, List.setIfInBounds_toArray, List.set_cons_zero, List.set_cons_succ]
            refine wpAnyH_take (i := 19) (oi := ({ dst := some 26, op := Op.move (Operand.tmp 25), type := 4, pos := "validate.go:56", after := #[{ on := 18, ground := Ground.data }, { on := 14, ground := Ground.chain }], guard := none } : Oper)) (v := ?e19_v19) rfl (by kernel_rfl) (by kernel_rfl) (by kernel_rfl) (fun _ _ _ h => h) (Or.inl ⟨by rfl, ?e19_y19⟩) (by assumption) ?e19_r19
            case e19_y19 =>
              intro w hSw
              (try dsimp only at hSw)
              go_simp
              (try with_reducible rfl)
            try simp only [Act.put, List.setIfInBounds_toArray, List.set_cons_zero, List.set_cons_succ]
            refine wpAnyH_take (i := 20) (oi := ({ dst := some 27, op := Op.fieldAddr 38 (Operand.tmp 2) 3, type := 0, pos := "validate.go:56", after := #[{ on := 19, ground := Ground.guard }], guard := some (19, false) } : Oper)) (v := ?e20_v20) rfl (by kernel_rfl) (by kernel_rfl) (by kernel_rfl) (fun _ _ _ h => h) (Or.inl ⟨by rfl, ?e20_y20⟩) (by assumption) ?e20_r20
            case e20_y20 =>
              intro w hSw
              (try dsimp only at hSw)
              go_simp
              (try with_reducible rfl)
            try simp only [Act.put, List.setIfInBounds_toArray, List.set_cons_zero, List.set_cons_succ]
            refine wpAnyH_take (i := 21) (oi := ({ dst := some 28, op := Op.load 35 (Operand.tmp 27), type := 35, pos := "validate.go:56", after := #[{ on := 20, ground := Ground.data }, { on := 19, ground := Ground.guard }], guard := some (19, false) } : Oper)) (v := ?e21_v21) rfl (by kernel_rfl) (by kernel_rfl) (by kernel_rfl) (fun _ _ _ h => h) (Or.inl ⟨by rfl, ?e21_y21⟩) (by assumption) ?e21_r21
            case e21_y21 =>
              intro w hSw
              (try dsimp only at hSw)
              go_simp
              (try with_reducible rfl)
            try simp only [Act.put, List.setIfInBounds_toArray, List.set_cons_zero, List.set_cons_succ]
            refine wpAnyH_take (i := 22) (oi := ({ dst := some 29, op := Op.call { callee := Callee.builtin Builtin.len, args := #[Operand.tmp 28], argTypes := #[35] }, type := 3, pos := "validate.go:56", after := #[{ on := 21, ground := Ground.data }, { on := 19, ground := Ground.guard }], guard := some (19, false) } : Oper)) (v := ?e22_v22) rfl (by kernel_rfl) (by kernel_rfl) (by kernel_rfl) (fun _ _ _ h => h) (Or.inl ⟨by rfl, ?e22_y22⟩) (by assumption) ?e22_r22
            case e22_y22 =>
              intro w hSw
              (try dsimp only at hSw)
              go_simp
              (try with_reducible rfl)
            try simp only [Act.put, List.setIfInBounds_toArray, List.set_cons_zero, List.set_cons_succ]
            refine wpAnyH_take (i := 23) (oi := ({ dst := some 30, op := Op.fieldAddr 38 (Operand.tmp 2) 0, type := 0, pos := "validate.go:56", after := #[{ on := 19, ground := Ground.guard }], guard := some (19, false) } : Oper)) (v := ?e23_v23) rfl (by kernel_rfl) (by kernel_rfl) (by kernel_rfl) (fun _ _ _ h => h) (Or.inl ⟨by rfl, ?e23_y23⟩) (by assumption) ?e23_r23
            case e23_y23 =>
              intro w hSw
              (try dsimp only at hSw)
              go_simp
              (try with_reducible rfl)
            try simp only [Act.put, List.setIfInBounds_toArray, List.set_cons_zero, List.set_cons_succ]
            refine wpAnyH_take (i := 24) (oi := ({ dst := some 31, op := Op.load 3 (Operand.tmp 30), type := 3, pos := "validate.go:56", after := #[{ on := 23, ground := Ground.data }, { on := 19, ground := Ground.guard }], guard := some (19, false) } : Oper)) (v := ?e24_v24) rfl (by kernel_rfl) (by kernel_rfl) (by kernel_rfl) (fun _ _ _ h => h) (Or.inl ⟨by rfl, ?e24_y24⟩) (by assumption) ?e24_r24
            case e24_y24 =>
              intro w hSw
              (try dsimp only at hSw)
              go_simp
              (try with_reducible rfl)
            try simp only [Act.put, List.setIfInBounds_toArray, List.set_cons_zero, List.set_cons_succ]
            refine wpAnyH_ready (rs := [25]) (by kernel_rfl) (by simp) ?_
            refine AllReadyH.cons (o := ({ dst := some 32, op := Op.call { callee := Callee.value (Operand.func 77), args := #[Operand.tmp 31], argTypes := #[3] }, type := 3, pos := "validate.go:56", after := #[{ on := 24, ground := Ground.data }, { on := 19, ground := Ground.chain }, { on := 19, ground := Ground.guard }], guard := some (19, false) } : Oper)) rfl (fun K hKK => ?_) AllReadyH.nil
            go_simp
            refine (HAR.out _).mono ?_
            rintro e w3 ⟨rfl, rfl⟩
            refine hKK.out _ _ (HS.out _ (by first | exact Below.refl _ _ | exact drewD (Below.refl _ _) | exact drewR (Below.refl _ _))) (fun hS25_24 => ?_)
            try simp only [Act.put, List.setIfInBounds_toArray, List.set_cons_zero, List.set_cons_succ]
            refine wpAnyH_take (i := 26) (oi := ({ dst := some 33, op := Op.binOp BinOp.neq 3 (Operand.tmp 29) (Operand.tmp 32) 3, type := 4, pos := "validate.go:56", after := #[{ on := 22, ground := Ground.data }, { on := 25, ground := Ground.data }, { on := 19, ground := Ground.guard }], guard := some (19, false) } : Oper)) (v := ?e25_v26) rfl (by kernel_rfl) (by kernel_rfl) (by kernel_rfl) (fun _ _ _ h => h) (Or.inl ⟨by rfl, ?e25_y26⟩) (by assumption) ?e25_r26
            case e25_y26 =>
              intro w hSw
              (try dsimp only at hSw)
              go_simp
              (try with_reducible rfl)
            try simp only [Act.put, List.setIfInBounds_toArray, List.set_cons_zero, List.set_cons_succ]
            refine wpAnyH_take (i := 27) (oi := ({ dst := some 34, op := Op.pick (Operand.tmp 26) (Operand.const (Value.bool true)) (Operand.tmp 33), type := 4, pos := "validate.go:56", after := #[{ on := 19, ground := Ground.data }, { on := 26, ground := Ground.data }], guard := none } : Oper)) (v := ?e26_v27) rfl (by kernel_rfl) (by kernel_rfl) (by kernel_rfl) (fun _ _ _ h => h) (Or.inl ⟨by rfl, ?e26_y27⟩) (by assumption) ?e26_r27
            case e26_y27 =>
              intro w hSw
              (try dsimp only at hSw)
              go_simp
              (try with_reducible rfl)
            try simp only [Act.put, List.setIfInBounds_toArray, List.set_cons_zero, List.set_cons_succ]
            refine wpAnyH_done (by kernel_rfl) ?_ _
            go_wp2
            go_ret
            exact ⟨ret_b HN.out.symm, by first | exact drewD HB.out | exact drewR HB.out | exact HB.out⟩
    · have d1 : (fl != 0) = true := by simp [hfl]
      have HN := Lib.hid (HNO.out (fun h => hfl h.2.1))
      clear HNO HYES HARG
      refine wp_region_held_drew (S := (fun W => W.cell? ⟨B, 0, none⟩ = some (.int .i64 op) ∧ W.cell? ⟨B, 1, none⟩ = some (.int .i64 wid) ∧ W.cell? ⟨B, 2, none⟩ = some (.int .i64 fl) ∧ W.cell? ⟨B, 3, none⟩ = some (.slice A n c))) (by kernel_rfl) ?_ (fun hHeld => ?_)
      · exact HS.out _ (drewR (Below.refl _ _))
      refine wpAnyH_take (i := 0) (oi := ({ dst := some 7, op := Op.fieldAddr 38 (Operand.tmp 2) 0, type := 0, pos := "validate.go:56", after := #[], guard := none } : Oper)) (v := ?b1_v0) rfl (by kernel_rfl) (by kernel_rfl) (by kernel_rfl) (fun _ _ _ h => h) (Or.inl ⟨by rfl, ?b1_y0⟩) (by assumption) ?b1_r0
      case b1_y0 =>
        intro w hSw
        (try dsimp only at hSw)
        go_simp
        (try with_reducible rfl)
      try simp only [Act.put, List.setIfInBounds_toArray, List.set_cons_zero, List.set_cons_succ]
      refine wpAnyH_take (i := 1) (oi := ({ dst := some 8, op := Op.load 3 (Operand.tmp 7), type := 3, pos := "validate.go:56", after := #[{ on := 0, ground := Ground.data }], guard := none } : Oper)) (v := ?b2_v1) rfl (by kernel_rfl) (by kernel_rfl) (by kernel_rfl) (fun _ _ _ h => h) (Or.inl ⟨by rfl, ?b2_y1⟩) (by assumption) ?b2_r1
      case b2_y1 =>
        intro w hSw
        (try dsimp only at hSw)
        go_simp
        (try with_reducible rfl)
      try simp only [Act.put, List.setIfInBounds_toArray, List.set_cons_zero, List.set_cons_succ]
      refine wpAnyH_ready (rs := [2]) (by kernel_rfl) (by simp) ?_
      refine AllReadyH.cons (o := ({ dst := some 9, op := Op.call { callee := Callee.value (Operand.func 76), args := #[Operand.tmp 8], argTypes := #[3] }, type := 4, pos := "validate.go:56", after := #[{ on := 1, ground := Ground.data }], guard := none } : Oper)) rfl (fun K hKK => ?_) AllReadyH.nil
      go_simp
      refine (HOP.out _).mono ?_
      rintro e w3 ⟨rfl, rfl⟩
      refine hKK.out _ _ (HS.out _ (by first | exact Below.refl _ _ | exact drewD (Below.refl _ _) | exact drewR (Below.refl _ _))) (fun hS2_2 => ?_)
      try simp only [Act.put, List.setIfInBounds_toArray, List.set_cons_zero, List.set_cons_succ]
      refine wpAnyH_take (i := 3) (oi := ({ dst := some 10, op := Op.unOp UnOp.not 4 (Operand.tmp 9), type := 4, pos := "validate.go:56", after := #[{ on := 2, ground := Ground.data }], guard := none } : Oper)) (v := ?b3_v3) rfl (by kernel_rfl) (by kernel_rfl) (by kernel_rfl) (fun _ _ _ h => h) (Or.inl ⟨by rfl, ?b3_y3⟩) (by assumption) ?b3_r3
      case b3_y3 =>
        intro w hSw
        (try dsimp only at hSw)
        go_simp
        (try with_reducible rfl)
      try simp only [Act.put, List.setIfInBounds_toArray, List.set_cons_zero, List.set_cons_succ]
      refine wpAnyH_take (i := 4) (oi := ({ dst := some 11, op := Op.move (Operand.tmp 10), type := 4, pos := "validate.go:56", after := #[{ on := 3, ground := Ground.data }, { on := 2, ground := Ground.chain }], guard := none } : Oper)) (v := ?b4_v4) rfl (by kernel_rfl) (by kernel_rfl) (by kernel_rfl) (fun _ _ _ h => h) (Or.inl ⟨by rfl, ?b4_y4⟩) (by assumption) ?b4_r4
      case b4_y4 =>
        intro w hSw
        (try dsimp only at hSw)
        go_simp
        (try with_reducible rfl)
      try simp only [Act.put, List.setIfInBounds_toArray, List.set_cons_zero, List.set_cons_succ]
      refine wpAnyH_take (i := 5) (oi := ({ dst := some 12, op := Op.fieldAddr 38 (Operand.tmp 2) 2, type := 0, pos := "validate.go:56", after := #[{ on := 4, ground := Ground.guard }], guard := some (4, false) } : Oper)) (v := ?b5_v5) rfl (by kernel_rfl) (by kernel_rfl) (by kernel_rfl) (fun _ _ _ h => h) (Or.inl ⟨by rfl, ?b5_y5⟩) (by assumption) ?b5_r5
      case b5_y5 =>
        intro w hSw
        (try dsimp only at hSw)
        go_simp
        (try with_reducible rfl)
      try simp only [Act.put, List.setIfInBounds_toArray, List.set_cons_zero, List.set_cons_succ]
      refine wpAnyH_take (i := 6) (oi := ({ dst := some 13, op := Op.load 3 (Operand.tmp 12), type := 3, pos := "validate.go:56", after := #[{ on := 5, ground := Ground.data }, { on := 4, ground := Ground.guard }], guard := some (4, false) } : Oper)) (v := ?b6_v6) rfl (by kernel_rfl) (by kernel_rfl) (by kernel_rfl) (fun _ _ _ h => h) (Or.inl ⟨by rfl, ?b6_y6⟩) (by assumption) ?b6_r6
      case b6_y6 =>
        intro w hSw
        (try dsimp only at hSw)
        go_simp
        (try with_reducible rfl)
      try simp only [Act.put, List.setIfInBounds_toArray, List.set_cons_zero, List.set_cons_succ]
      refine wpAnyH_take (i := 7) (oi := ({ dst := some 14, op := Op.binOp BinOp.neq 3 (Operand.tmp 13) (Operand.const (Value.int IntKind.i64 0)) 3, type := 4, pos := "validate.go:56", after := #[{ on := 6, ground := Ground.data }, { on := 4, ground := Ground.guard }], guard := some (4, false) } : Oper)) (v := ?b7_v7) rfl (by kernel_rfl) (by kernel_rfl) (by kernel_rfl) (fun _ _ _ h => h) (Or.inl ⟨by rfl, ?b7_y7⟩) (by assumption) ?b7_r7
      case b7_y7 =>
        intro w hSw
        (try dsimp only at hSw)
        go_simp
        (try with_reducible rfl)
      try simp only [Act.put, List.setIfInBounds_toArray, List.set_cons_zero, List.set_cons_succ]
      refine wpAnyH_take (i := 8) (oi := ({ dst := some 15, op := Op.pick (Operand.tmp 11) (Operand.const (Value.bool true)) (Operand.tmp 14), type := 4, pos := "validate.go:56", after := #[{ on := 4, ground := Ground.data }, { on := 7, ground := Ground.data }], guard := none } : Oper)) (v := ?b8_v8) rfl (by kernel_rfl) (by kernel_rfl) (by kernel_rfl) (fun _ _ _ h => h) (Or.inl ⟨by rfl, ?b8_y8⟩) (by assumption) ?b8_r8
      case b8_y8 =>
        intro w hSw
        (try dsimp only at hSw)
        go_simp
        (try with_reducible rfl)
      try simp only [Act.put, List.setIfInBounds_toArray, List.set_cons_zero, List.set_cons_succ]
      refine wpAnyH_take (i := 9) (oi := ({ dst := some 16, op := Op.move (Operand.tmp 15), type := 4, pos := "validate.go:56", after := #[{ on := 8, ground := Ground.data }, { on := 4, ground := Ground.chain }], guard := none } : Oper)) (v := ?b9_v9) rfl (by kernel_rfl) (by kernel_rfl) (by kernel_rfl) (fun _ _ _ h => h) (Or.inl ⟨by rfl, ?b9_y9⟩) (by assumption) ?b9_r9
      case b9_y9 =>
        intro w hSw
        (try dsimp only at hSw)
        go_simp
        (try with_reducible rfl)
      try simp only [Act.put, List.setIfInBounds_toArray, List.set_cons_zero, List.set_cons_succ]
      refine wpAnyH_take (i := 10) (oi := ({ dst := some 17, op := Op.fieldAddr 38 (Operand.tmp 2) 1, type := 0, pos := "validate.go:56", after := #[{ on := 9, ground := Ground.guard }], guard := some (9, false) } : Oper)) rfl (by kernel_rfl) (by kernel_rfl) (by kernel_rfl) (fun _ _ _ h => h) (Or.inr ⟨by rfl, rfl⟩) (by assumption) ?b10_r10
      try simp only [Act.put, List.setIfInBounds_toArray, List.set_cons_zero, List.set_cons_succ]
      refine wpAnyH_take (i := 11) (oi := ({ dst := some 18, op := Op.load 3 (Operand.tmp 17), type := 3, pos := "validate.go:56", after := #[{ on := 10, ground := Ground.data }, { on := 9, ground := Ground.guard }], guard := some (9, false) } : Oper)) rfl (by kernel_rfl) (by kernel_rfl) (by kernel_rfl) (fun _ _ _ h => h) (Or.inr ⟨by rfl, rfl⟩) (by assumption) ?b11_r11
      try simp only [Act.put, List.setIfInBounds_toArray, List.set_cons_zero, List.set_cons_succ]
      refine wpAnyH_take (i := 12) (oi := ({ dst := some 19, op := Op.binOp BinOp.lss 3 (Operand.tmp 18) (Operand.const (Value.int IntKind.i64 1)) 3, type := 4, pos := "validate.go:56", after := #[{ on := 11, ground := Ground.data }, { on := 9, ground := Ground.guard }], guard := some (9, false) } : Oper)) rfl (by kernel_rfl) (by kernel_rfl) (by kernel_rfl) (fun _ _ _ h => h) (Or.inr ⟨by rfl, rfl⟩) (by assumption) ?b12_r12
      try simp only [Act.put, List.setIfInBounds_toArray, List.set_cons_zero, List.set_cons_succ]
      refine wpAnyH_take (i := 13) (oi := ({ dst := some 20, op := Op.pick (Operand.tmp 16) (Operand.const (Value.bool true)) (Operand.tmp 19), type := 4, pos := "validate.go:56", after := #[{ on := 9, ground := Ground.data }, { on := 12, ground := Ground.data }], guard := none } : Oper)) (v := ?b13_v13) rfl (by kernel_rfl) (by kernel_rfl) (by kernel_rfl) (fun _ _ _ h => h) (Or.inl ⟨by rfl, ?b13_y13⟩) (by assumption) ?b13_r13
      case b13_y13 =>
        intro w hSw
        (try dsimp only at hSw)
        go_simp
        (try with_reducible rfl)
      try simp only [Act.put, List.setIfInBounds_toArray, List.set_cons_zero, List.set_cons_succ]
      refine wpAnyH_take (i := 14) (oi := ({ dst := some 21, op := Op.move (Operand.tmp 20), type := 4, pos := "validate.go:56", after := #[{ on := 13, ground := Ground.data }, { on := 9, ground := Ground.chain }], guard := none } : Oper)) (v := ?b14_v14) rfl (by kernel_rfl) (by kernel_rfl) (by kernel_rfl) (fun _ _ _ h => h) (Or.inl ⟨by rfl, ?b14_y14⟩) (by assumption) ?b14_r14
      case b14_y14 =>
        intro w hSw
        (try dsimp only at hSw)
        go_simp
        (try with_reducible rfl)
      try simp only [Act.put, List.setIfInBounds_toArray, List.set_cons_zero, List.set_cons_succ]
      refine wpAnyH_take (i := 15) (oi := ({ dst := some 22, op := Op.fieldAddr 38 (Operand.tmp 2) 1, type := 0, pos := "validate.go:56", after := #[{ on := 14, ground := Ground.guard }], guard := some (14, false) } : Oper)) rfl (by kernel_rfl) (by kernel_rfl) (by kernel_rfl) (fun _ _ _ h => h) (Or.inr ⟨by rfl, rfl⟩) (by assumption) ?b15_r15
      try simp only [Act.put, List.setIfInBounds_toArray, List.set_cons_zero, List.set_cons_succ]
      refine wpAnyH_take (i := 16) (oi := ({ dst := some 23, op := Op.load 3 (Operand.tmp 22), type := 3, pos := "validate.go:56", after := #[{ on := 15, ground := Ground.data }, { on := 14, ground := Ground.guard }], guard := some (14, false) } : Oper)) rfl (by kernel_rfl) (by kernel_rfl) (by kernel_rfl) (fun _ _ _ h => h) (Or.inr ⟨by rfl, rfl⟩) (by assumption) ?b16_r16
      try simp only [Act.put, List.setIfInBounds_toArray, List.set_cons_zero, List.set_cons_succ]
      refine wpAnyH_take (i := 17) (oi := ({ dst := some 24, op := Op.binOp BinOp.gtr 3 (Operand.tmp 23) (Operand.const (Value.int IntKind.i64 32)) 3, type := 4, pos := "validate.go:56", after := #[{ on := 16, ground := Ground.data }, { on := 14, ground := Ground.guard }], guard := some (14, false) } : Oper)) rfl (by kernel_rfl) (by kernel_rfl) (by kernel_rfl) (fun _ _ _ h => h) (Or.inr ⟨by rfl, rfl⟩) (by assumption) ?b17_r17
      try simp only [Act.put, List.setIfInBounds_toArray, List.set_cons_zero, List.set_cons_succ]
      refine wpAnyH_take (i := 18) (oi := ({ dst := some 25, op := Op.pick (Operand.tmp 21) (Operand.const (Value.bool true)) (Operand.tmp 24), type := 4, pos := "validate.go:56", after := #[{ on := 14, ground := Ground.data }, { on := 17, ground := Ground.data }], guard := none } : Oper)) (v := ?b18_v18) rfl (by kernel_rfl) (by kernel_rfl) (by kernel_rfl) (fun _ _ _ h => h) (Or.inl ⟨by rfl, ?b18_y18⟩) (by assumption) ?b18_r18
      case b18_y18 =>
        intro w hSw
        (try dsimp only at hSw)
        go_simp
        (try with_reducible rfl)
      try simp only [Act.put, List.setIfInBounds_toArray, List.set_cons_zero, List.set_cons_succ]
      refine wpAnyH_take (i := 19) (oi := ({ dst := some 26, op := Op.move (Operand.tmp 25), type := 4, pos := "validate.go:56", after := #[{ on := 18, ground := Ground.data }, { on := 14, ground := Ground.chain }], guard := none } : Oper)) (v := ?b19_v19) rfl (by kernel_rfl) (by kernel_rfl) (by kernel_rfl) (fun _ _ _ h => h) (Or.inl ⟨by rfl, ?b19_y19⟩) (by assumption) ?b19_r19
      case b19_y19 =>
        intro w hSw
        (try dsimp only at hSw)
        go_simp
        (try with_reducible rfl)
      try simp only [Act.put, List.setIfInBounds_toArray, List.set_cons_zero, List.set_cons_succ]
      refine wpAnyH_take (i := 20) (oi := ({ dst := some 27, op := Op.fieldAddr 38 (Operand.tmp 2) 3, type := 0, pos := "validate.go:56", after := #[{ on := 19, ground := Ground.guard }], guard := some (19, false) } : Oper)) rfl (by kernel_rfl) (by kernel_rfl) (by kernel_rfl) (fun _ _ _ h => h) (Or.inr ⟨by rfl, rfl⟩) (by assumption) ?b20_r20
      try simp only [Act.put, List.setIfInBounds_toArray, List.set_cons_zero, List.set_cons_succ]
      refine wpAnyH_take (i := 21) (oi := ({ dst := some 28, op := Op.load 35 (Operand.tmp 27), type := 35, pos := "validate.go:56", after := #[{ on := 20, ground := Ground.data }, { on := 19, ground := Ground.guard }], guard := some (19, false) } : Oper)) rfl (by kernel_rfl) (by kernel_rfl) (by kernel_rfl) (fun _ _ _ h => h) (Or.inr ⟨by rfl, rfl⟩) (by assumption) ?b21_r21
      try simp only [Act.put, List.setIfInBounds_toArray, List.set_cons_zero, List.set_cons_succ]
      refine wpAnyH_take (i := 22) (oi := ({ dst := some 29, op := Op.call { callee := Callee.builtin Builtin.len, args := #[Operand.tmp 28], argTypes := #[35] }, type := 3, pos := "validate.go:56", after := #[{ on := 21, ground := Ground.data }, { on := 19, ground := Ground.guard }], guard := some (19, false) } : Oper)) rfl (by kernel_rfl) (by kernel_rfl) (by kernel_rfl) (fun _ _ _ h => h) (Or.inr ⟨by rfl, rfl⟩) (by assumption) ?b22_r22
      try simp only [Act.put, List.setIfInBounds_toArray, List.set_cons_zero, List.set_cons_succ]
      refine wpAnyH_take (i := 23) (oi := ({ dst := some 30, op := Op.fieldAddr 38 (Operand.tmp 2) 0, type := 0, pos := "validate.go:56", after := #[{ on := 19, ground := Ground.guard }], guard := some (19, false) } : Oper)) rfl (by kernel_rfl) (by kernel_rfl) (by kernel_rfl) (fun _ _ _ h => h) (Or.inr ⟨by rfl, rfl⟩) (by assumption) ?b23_r23
      try simp only [Act.put, List.setIfInBounds_toArray, List.set_cons_zero, List.set_cons_succ]
      refine wpAnyH_take (i := 24) (oi := ({ dst := some 31, op := Op.load 3 (Operand.tmp 30), type := 3, pos := "validate.go:56", after := #[{ on := 23, ground := Ground.data }, { on := 19, ground := Ground.guard }], guard := some (19, false) } : Oper)) rfl (by kernel_rfl) (by kernel_rfl) (by kernel_rfl) (fun _ _ _ h => h) (Or.inr ⟨by rfl, rfl⟩) (by assumption) ?b24_r24
      try simp only [Act.put, List.setIfInBounds_toArray, List.set_cons_zero, List.set_cons_succ]
      refine wpAnyH_take (i := 25) (oi := ({ dst := some 32, op := Op.call { callee := Callee.value (Operand.func 77), args := #[Operand.tmp 31], argTypes := #[3] }, type := 3, pos := "validate.go:56", after := #[{ on := 24, ground := Ground.data }, { on := 19, ground := Ground.chain }, { on := 19, ground := Ground.guard }], guard := some (19, false) } : Oper)) rfl (by kernel_rfl) (by kernel_rfl) (by kernel_rfl) (fun _ _ _ h => h) (Or.inr ⟨by rfl, rfl⟩) (by assumption) ?b25_r25
      try simp only [Act.put, List.setIfInBounds_toArray, List.set_cons_zero, List.set_cons_succ]
      refine wpAnyH_take (i := 26) (oi := ({ dst := some 33, op := Op.binOp BinOp.neq 3 (Operand.tmp 29) (Operand.tmp 32) 3, type := 4, pos := "validate.go:56", after := #[{ on := 22, ground := Ground.data }, { on := 25, ground := Ground.data }, { on := 19, ground := Ground.guard }], guard := some (19, false) } : Oper)) rfl (by kernel_rfl) (by kernel_rfl) (by kernel_rfl) (fun _ _ _ h => h) (Or.inr ⟨by rfl, rfl⟩) (by assumption) ?b26_r26
      try simp only [Act.put, List.setIfInBounds_toArray, List.set_cons_zero, List.set_cons_succ]
      refine wpAnyH_take (i := 27) (oi := ({ dst := some 34, op := Op.pick (Operand.tmp 26) (Operand.const (Value.bool true)) (Operand.tmp 33), type := 4, pos := "validate.go:56", after := #[{ on := 19, ground := Ground.data }, { on := 26, ground := Ground.data }], guard := none } : Oper)) (v := ?b27_v27) rfl (by kernel_rfl) (by kernel_rfl) (by kernel_rfl) (fun _ _ _ h => h) (Or.inl ⟨by rfl, ?b27_y27⟩) (by assumption) ?b27_r27
      case b27_y27 =>
        intro w hSw
        (try dsimp only at hSw)
        go_simp
        (try with_reducible rfl)
      try simp only [Act.put, List.setIfInBounds_toArray, List.set_cons_zero, List.set_cons_succ]
      refine wpAnyH_done (by kernel_rfl) ?_ _
      go_wp2
      go_ret
      exact ⟨ret_b HN.out.symm, by first | exact drewD HB.out | exact drewR HB.out | exact HB.out⟩
end Go.Proofs.YtbohigjfdnnomaaGreatDoor
