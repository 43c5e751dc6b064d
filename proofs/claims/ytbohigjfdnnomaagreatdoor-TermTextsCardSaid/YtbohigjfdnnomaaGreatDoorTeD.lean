/-
  argument of the reference.
-/
import Derived.Test.YtbohigjfdnnomaaGreatDoorTeC
namespace Go.Proofs.YtbohigjfdnnomaaGreatDoor
open Go.RowKit

set_option maxRecDepth 100000 in
set_option maxHeartbeats 4000000 in
theorem argument_any {w : World} {A : Option Addr} {n c : Nat} {T : List Nd} (h : Term w A n c T) (k : Nat) (hk : k < n) : Calls Tryz.prog 45 #[.slice A n c, .int .i64 (k : Int), .bool true] w fun e w' => e = .returned (.bool (nodB T[k]! k)) ∧ Below w.heap.size w w' := by
  obtain ⟨b, off, A', n', c', rfl, hbs, ht, hI, h0, h1⟩ := h.at_ hk
  have hcapT := h.2.1
  have hmaxT := h.2.2.1
  clear h
  generalize T[k]! = x at ht hI h0 h1 ⊢
  have HNO := Lib.hid (fun (h : ¬ (isOpB x.op = true ∧ x.flags = 0 ∧ (1 ≤ x.width ∧ x.width ≤ 32) ∧ (n' : Int) = argN x.op)) => nod_no (x := x) (k := k) (Bool.eq_false_iff.2 fun hh => h (by rw [hI.1]; exact head_iff.1 hh)))
  have HYES := Lib.hid (fun (h : isOpB x.op = true ∧ x.flags = 0 ∧ (1 ≤ x.width ∧ x.width ≤ 32) ∧ (n' : Int) = argN x.op) => args_yes (x := x) (k := k) (head_iff.2 (by rw [← hI.1]; exact h)))
  have HARG := Lib.hid (fun i (hi : i < n') => args_no (x := x) (k := k) (i := i) (by rw [← hI.1]; exact hi))
  have HIM := Lib.hid (show immB x = if x.op = 0 then decide (x.imm < (pw x.width.toNat : Nat)) else if x.op = 33 then decide (x.imm < 4) else if x.op = 14 then decide (x.width = 1) && decide (x.imm ≤ 9) else decide (x.imm = 0) from rfl)
  have HII := Lib.hid hI
  have HLN := Lib.hid hI.1
  have hcap := hI.2.1
  have hmax := hI.2.2.1
  clear hI
  generalize nodB x k = N at HNO HYES HARG ⊢
  generalize immB x = IM at HYES HIM
  obtain ⟨op, wid, fl, args, imm⟩ := x
  obtain ⟨c0, c1, c2, c3, c4⟩ := ht
  simp only at h0 h1 HNO HYES HARG HII HIM HLN c0 c1 c2 c3 c4 ⊢
  have HAR := Lib.hid (fun w1 => arity_any op w1)
  have HWI := Lib.hid (fun w1 => termIsWidth_any wid w1)
  have HAN := Lib.hid (show arN op = if isOpB op then argN op else -1 from rfl)
  have HWB := Lib.hid (show widB wid = decide (1 ≤ wid ∧ wid ≤ 32) from rfl)
  have HPOS := Lib.hid (show 0 ≤ argN op by unfold argN; split <;> (try split) <;> (try split) <;> omega)
  generalize arN op = arn at HAR HAN
  generalize widB wid = wb at HWI HWB
  generalize argN op = an at HNO HYES HAN HPOS
  generalize isOpB op = ob at HNO HYES HAN
  go_enter Tryz.func45, Tryz.ntmps45
  go_upto_region 2 with fail
  have hx := heap_alloc_new w (.cells #[.int .i64 op, .int .i64 wid, .int .i64 fl, .slice A' n' c', .int .u32 imm] 38)
  have hb : Below w.heap.size w (w.alloc (.cells #[.int .i64 op, .int .i64 wid, .int .i64 fl, .slice A' n' c', .int .u32 imm] 38)) := (Below.refl _ _).alloc (Nat.le_refl _) _
  replace HII := Lib.hid (HII.out.below hb)
  generalize World.alloc w _ = W1 at hx hb HII ⊢
  obtain ⟨B, hBE⟩ : ∃ B, w.heap.size = B := ⟨_, rfl⟩
  rw [hBE] at hx
  have HB := Lib.hid hb
  have HS := Lib.hid (show ∀ W, Below W1.heap.size W1 W → W.cell? ⟨B, 0, none⟩ = some (.int .i64 op) ∧ W.cell? ⟨B, 1, none⟩ = some (.int .i64 wid) ∧ W.cell? ⟨B, 2, none⟩ = some (.int .i64 fl) ∧ W.cell? ⟨B, 3, none⟩ = some (.slice A' n' c') from fun W hW => by
    obtain ⟨a1, a2, a3, a4, -⟩ := cells5 (x := ⟨op, wid, fl, args, imm⟩) ((hW.block _ (lt_of_block hx)).trans hx)
    exact ⟨a1, a2, a3, a4⟩)
  clear hb c0 c1 c2 c3 c4 hbs
  rw [hBE]
  clear hBE
  by_cases hln : arn = (n' : Int)
  · have d1 : (arn != (n' : Int)) = false := by simp [hln]
    cases ob
    · exfalso
      have := HAN.out
      simp at this
      omega
    · have han : arn = an := HAN.out
      have d2 : decide (arn < 0) = false := decide_eq_false (by have := HPOS.out; omega)
      cases wb
      · have HN := Lib.hid (HNO.out (fun h => by have := of_decide_eq_false HWB.out.symm; exact this h.2.2.1))
        clear HNO HYES HARG
        refine wp_region_held_drew (S := (fun W => W.cell? ⟨B, 0, none⟩ = some (.int .i64 op) ∧ W.cell? ⟨B, 1, none⟩ = some (.int .i64 wid) ∧ W.cell? ⟨B, 2, none⟩ = some (.int .i64 fl) ∧ W.cell? ⟨B, 3, none⟩ = some (.slice A' n' c'))) (by kernel_rfl) ?_ (fun hHeld => ?_)
        · exact HS.out _ (drewR (Below.refl _ _))
        refine wpAnyH_take (i := 0) (oi := ({ dst := some 13, op := Op.fieldAddr 38 (Operand.tmp 7) 0, type := 0, pos := "ref.go:31", after := #[], guard := none } : Oper)) (v := ?c1_v0) rfl (by kernel_rfl) (by kernel_rfl) (by kernel_rfl) (fun _ _ _ h => h) (Or.inl ⟨by rfl, ?c1_y0⟩) (by assumption) ?c1_r0
        case c1_y0 =>
          intro w hSw
          (try dsimp only at hSw)
          go_simp
          (try with_reducible rfl)
        try simp only [Act.put, List.setIfInBounds_toArray, List.set_cons_zero, List.set_cons_succ]
        refine wpAnyH_take (i := 1) (oi := ({ dst := some 14, op := Op.load 3 (Operand.tmp 13), type := 3, pos := "ref.go:31", after := #[{ on := 0, ground := Ground.data }], guard := none } : Oper)) (v := ?c2_v1) rfl (by kernel_rfl) (by kernel_rfl) (by kernel_rfl) (fun _ _ _ h => h) (Or.inl ⟨by rfl, ?c2_y1⟩) (by assumption) ?c2_r1
        case c2_y1 =>
          intro w hSw
          (try dsimp only at hSw)
          go_simp
          (try with_reducible rfl)
        try simp only [Act.put, List.setIfInBounds_toArray, List.set_cons_zero, List.set_cons_succ]
        refine wpAnyH_take (i := 3) (oi := ({ dst := some 16, op := Op.fieldAddr 38 (Operand.tmp 7) 3, type := 0, pos := "ref.go:31", after := #[], guard := none } : Oper)) (v := ?c3_v3) rfl (by kernel_rfl) (by kernel_rfl) (by kernel_rfl) (fun _ _ _ h => h) (Or.inl ⟨by rfl, ?c3_y3⟩) (by assumption) ?c3_r3
        case c3_y3 =>
          intro w hSw
          (try dsimp only at hSw)
          go_simp
          (try with_reducible rfl)
        try simp only [Act.put, List.setIfInBounds_toArray, List.set_cons_zero, List.set_cons_succ]
        refine wpAnyH_take (i := 4) (oi := ({ dst := some 17, op := Op.load 35 (Operand.tmp 16), type := 35, pos := "ref.go:31", after := #[{ on := 3, ground := Ground.data }], guard := none } : Oper)) (v := ?c4_v4) rfl (by kernel_rfl) (by kernel_rfl) (by kernel_rfl) (fun _ _ _ h => h) (Or.inl ⟨by rfl, ?c4_y4⟩) (by assumption) ?c4_r4
        case c4_y4 =>
          intro w hSw
          (try dsimp only at hSw)
          go_simp
          (try with_reducible rfl)
        try simp only [Act.put, List.setIfInBounds_toArray, List.set_cons_zero, List.set_cons_succ]
        refine wpAnyH_take (i := 5) (oi := ({ dst := some 18, op := Op.call { callee := Callee.builtin Builtin.len, args := #[Operand.tmp 17], argTypes := #[35] }, type := 3, pos := "ref.go:31", after := #[{ on := 4, ground := Ground.data }], guard := none } : Oper)) (v := ?c5_v5) rfl (by kernel_rfl) (by kernel_rfl) (by kernel_rfl) (fun _ _ _ h => h) (Or.inl ⟨by rfl, ?c5_y5⟩) (by assumption) ?c5_r5
        case c5_y5 =>
          intro w hSw
          (try dsimp only at hSw)
          go_simp
          (try with_reducible rfl)
        try simp only [Act.put, List.setIfInBounds_toArray, List.set_cons_zero, List.set_cons_succ]
        refine wpAnyH_ready (rs := [2]) (by kernel_rfl) (by simp) ?_
        refine AllReadyH.cons (o := ({ dst := some 15, op := Op.call { callee := Callee.value (Operand.func 65), args := #[Operand.tmp 14], argTypes := #[3] }, type := 3, pos := "ref.go:31", after := #[{ on := 1, ground := Ground.data }], guard := none } : Oper)) rfl (fun K hKK => ?_) AllReadyH.nil
        go_simp
        refine (HAR.out _).mono ?_
        rintro e w3 ⟨rfl, rfl⟩
        refine hKK.out _ _ (HS.out _ (by first | exact Below.refl _ _ | exact drewD (Below.refl _ _) | exact drewR (Below.refl _ _))) (fun hS2_5 => ?_)
        try simp only [Act.put, List.setIfInBounds_toArray, List.set_cons_zero, List.set_cons_succ]
        refine wpAnyH_take (i := 6) (oi := ({ dst := some 19, op := Op.binOp BinOp.neq 3 (Operand.tmp 15) (Operand.tmp 18) 3, type := 4, pos := "ref.go:31", after := #[{ on := 2, ground := Ground.data }, { on := 5, ground := Ground.data }], guard := none } : Oper)) (v := ?c6_v6) rfl (by kernel_rfl) (by kernel_rfl) (by kernel_rfl) (fun _ _ _ h => h) (Or.inl ⟨by rfl, ?c6_y6⟩) (by assumption) ?c6_r6
        case c6_y6 =>
          intro w hSw
          (try dsimp only at hSw)
          go_simp
          (try with_reducible rfl)
        try simp only [Act.put, List.setIfInBounds_toArray, List.set_cons_zero, List.set_cons_succ]
        refine wpAnyH_take (i := 7) (oi := ({ dst := some 20, op := Op.move (Operand.tmp 19), type := 4, pos := "ref.go:31", after := #[{ on := 6, ground := Ground.data }, { on := 2, ground := Ground.chain }], guard := none } : Oper)) (v := ?c7_v7) rfl (by kernel_rfl) (by kernel_rfl) (by kernel_rfl) (fun _ _ _ h => h) (Or.inl ⟨by rfl, ?c7_y7⟩) (by assumption) ?c7_r7
        case c7_y7 =>
          intro w hSw
          (try dsimp only at hSw)
          go_simp
          (try with_reducible rfl)
        try simp only [Act.put, List.setIfInBounds_toArray, List.set_cons_zero, List.set_cons_succ]
        refine wpAnyH_take (i := 8) (oi := ({ dst := some 21, op := Op.fieldAddr 38 (Operand.tmp 7) 0, type := 0, pos := "ref.go:31", after := #[{ on := 7, ground := Ground.guard }], guard := some (7, false) } : Oper)) (v := ?c8_v8) rfl (by kernel_rfl) (by kernel_rfl) (by kernel_rfl) (fun _ _ _ h => h) (Or.inl ⟨by rfl, ?c8_y8⟩) (by assumption) ?c8_r8
        case c8_y8 =>
          intro w hSw
          (try dsimp only at hSw)
          go_simp
          (try with_reducible rfl)
        try simp only [Act.put, List.setIfInBounds_toArray, List.set_cons_zero, List.set_cons_succ]
        refine wpAnyH_take (i := 9) (oi := ({ dst := some 22, op := Op.load 3 (Operand.tmp 21), type := 3, pos := "ref.go:31", after := #[{ on := 8, ground := Ground.data }, { on := 7, ground := Ground.guard }], guard := some (7, false) } : Oper)) (v := ?c9_v9) rfl (by kernel_rfl) (by kernel_rfl) (by kernel_rfl) (fun _ _ _ h => h) (Or.inl ⟨by rfl, ?c9_y9⟩) (by assumption) ?c9_r9
        case c9_y9 =>
          intro w hSw
          (try dsimp only at hSw)
          go_simp
          (try with_reducible rfl)
        try simp only [Act.put, List.setIfInBounds_toArray, List.set_cons_zero, List.set_cons_succ]
        refine wpAnyH_ready (rs := [10]) (by kernel_rfl) (by simp) ?_
        refine AllReadyH.cons (o := ({ dst := some 23, op := Op.call { callee := Callee.value (Operand.func 65), args := #[Operand.tmp 22], argTypes := #[3] }, type := 3, pos := "ref.go:31", after := #[{ on := 9, ground := Ground.data }, { on := 7, ground := Ground.chain }, { on := 7, ground := Ground.guard }], guard := some (7, false) } : Oper)) rfl (fun K hKK => ?_) AllReadyH.nil
        go_simp
        refine (HAR.out _).mono ?_
        rintro e w3 ⟨rfl, rfl⟩
        refine hKK.out _ _ (HS.out _ (by first | exact Below.refl _ _ | exact drewD (Below.refl _ _) | exact drewR (Below.refl _ _))) (fun hS10_9 => ?_)
        try simp only [Act.put, List.setIfInBounds_toArray, List.set_cons_zero, List.set_cons_succ]
        refine wpAnyH_take (i := 11) (oi := ({ dst := some 24, op := Op.binOp BinOp.lss 3 (Operand.tmp 23) (Operand.const (Value.int IntKind.i64 0)) 3, type := 4, pos := "ref.go:31", after := #[{ on := 10, ground := Ground.data }, { on := 7, ground := Ground.guard }], guard := some (7, false) } : Oper)) (v := ?c10_v11) rfl (by kernel_rfl) (by kernel_rfl) (by kernel_rfl) (fun _ _ _ h => h) (Or.inl ⟨by rfl, ?c10_y11⟩) (by assumption) ?c10_r11
        case c10_y11 =>
          intro w hSw
          (try dsimp only at hSw)
          go_simp
          (try with_reducible rfl)
        try simp only [Act.put, List.setIfInBounds_toArray, List.set_cons_zero, List.set_cons_succ]
        refine wpAnyH_take (i := 12) (oi := ({ dst := some 25, op := Op.pick (Operand.tmp 20) (Operand.const (Value.bool true)) (Operand.tmp 24), type := 4, pos := "ref.go:31", after := #[{ on := 7, ground := Ground.data }, { on := 11, ground := Ground.data }], guard := none } : Oper)) (v := ?c11_v12) rfl (by kernel_rfl) (by kernel_rfl) (by kernel_rfl) (fun _ _ _ h => h) (Or.inl ⟨by rfl, ?c11_y12⟩) (by assumption) ?c11_r12
        case c11_y12 =>
          intro w hSw
          (try dsimp only at hSw)
          go_simp
          (try with_reducible rfl)
        try simp only [Act.put, List.setIfInBounds_toArray, List.set_cons_zero, List.set_cons_succ]
        refine wpAnyH_take (i := 13) (oi := ({ dst := some 26, op := Op.move (Operand.tmp 25), type := 4, pos := "ref.go:31", after := #[{ on := 12, ground := Ground.data }, { on := 10, ground := Ground.chain }], guard := none } : Oper)) (v := ?c12_v13) rfl (by kernel_rfl) (by kernel_rfl) (by kernel_rfl) (fun _ _ _ h => h) (Or.inl ⟨by rfl, ?c12_y13⟩) (by assumption) ?c12_r13
        case c12_y13 =>
          intro w hSw
          (try dsimp only at hSw)
          go_simp
          (try with_reducible rfl)
        try simp only [Act.put, List.setIfInBounds_toArray, List.set_cons_zero, List.set_cons_succ]
        refine wpAnyH_take (i := 14) (oi := ({ dst := some 27, op := Op.fieldAddr 38 (Operand.tmp 7) 1, type := 0, pos := "ref.go:31", after := #[{ on := 13, ground := Ground.guard }], guard := some (13, false) } : Oper)) (v := ?c13_v14) rfl (by kernel_rfl) (by kernel_rfl) (by kernel_rfl) (fun _ _ _ h => h) (Or.inl ⟨by rfl, ?c13_y14⟩) (by assumption) ?c13_r14
        case c13_y14 =>
          intro w hSw
          (try dsimp only at hSw)
          go_simp
          (try with_reducible rfl)
        try simp only [Act.put, List.setIfInBounds_toArray, List.set_cons_zero, List.set_cons_succ]
        refine wpAnyH_take (i := 15) (oi := ({ dst := some 28, op := Op.load 3 (Operand.tmp 27), type := 3, pos := "ref.go:31", after := #[{ on := 14, ground := Ground.data }, { on := 13, ground := Ground.guard }], guard := some (13, false) } : Oper)) (v := ?c14_v15) rfl (by kernel_rfl) (by kernel_rfl) (by kernel_rfl) (fun _ _ _ h => h) (Or.inl ⟨by rfl, ?c14_y15⟩) (by assumption) ?c14_r15
        case c14_y15 =>
          intro w hSw
          (try dsimp only at hSw)
          go_simp
          (try with_reducible rfl)
        try simp only [Act.put, List.setIfInBounds_toArray, List.set_cons_zero, List.set_cons_succ]
        refine wpAnyH_ready (rs := [16]) (by kernel_rfl) (by simp) ?_
        refine AllReadyH.cons (o := ({ dst := some 29, op := Op.call { callee := Callee.value (Operand.func 66), args := #[Operand.tmp 28], argTypes := #[3] }, type := 4, pos := "ref.go:31", after := #[{ on := 15, ground := Ground.data }, { on := 13, ground := Ground.chain }, { on := 13, ground := Ground.guard }], guard := some (13, false) } : Oper)) rfl (fun K hKK => ?_) AllReadyH.nil
        go_simp
        refine (HWI.out _).mono ?_
        rintro e w3 ⟨rfl, rfl⟩
        refine hKK.out _ _ (HS.out _ (by first | exact Below.refl _ _ | exact drewD (Below.refl _ _) | exact drewR (Below.refl _ _))) (fun hS16_14 => ?_)
        try simp only [Act.put, List.setIfInBounds_toArray, List.set_cons_zero, List.set_cons_succ]
        refine wpAnyH_take (i := 17) (oi := ({ dst := some 30, op := Op.unOp UnOp.not 4 (Operand.tmp 29), type := 4, pos := "ref.go:31", after := #[{ on := 16, ground := Ground.data }, { on := 13, ground := Ground.guard }], guard := some (13, false) } : Oper)) (v := ?c15_v17) rfl (by kernel_rfl) (by kernel_rfl) (by kernel_rfl) (fun _ _ _ h => h) (Or.inl ⟨by rfl, ?c15_y17⟩) (by assumption) ?c15_r17
        case c15_y17 =>
          intro w hSw
          (try dsimp only at hSw)
          go_simp
          (try with_reducible rfl)
        try simp only [Act.put, List.setIfInBounds_toArray, List.set_cons_zero, List.set_cons_succ]
        refine wpAnyH_take (i := 18) (oi := ({ dst := some 31, op := Op.pick (Operand.tmp 26) (Operand.const (Value.bool true)) (Operand.tmp 30), type := 4, pos := "ref.go:31", after := #[{ on := 13, ground := Ground.data }, { on := 17, ground := Ground.data }], guard := none } : Oper)) (v := ?c16_v18) rfl (by kernel_rfl) (by kernel_rfl) (by kernel_rfl) (fun _ _ _ h => h) (Or.inl ⟨by rfl, ?c16_y18⟩) (by assumption) ?c16_r18
        case c16_y18 =>
          intro w hSw
          (try dsimp only at hSw)
          go_simp
          (try with_reducible rfl)
        try simp only [Act.put, List.setIfInBounds_toArray, List.set_cons_zero, List.set_cons_succ]
        refine wpAnyH_take (i := 19) (oi := ({ dst := some 32, op := Op.move (Operand.tmp 31), type := 4, pos := "ref.go:31", after := #[{ on := 18, ground := Ground.data }, { on := 16, ground := Ground.chain }], guard := none } : Oper)) (v := ?c17_v19) rfl (by kernel_rfl) (by kernel_rfl) (by kernel_rfl) (fun _ _ _ h => h) (Or.inl ⟨by rfl, ?c17_y19⟩) (by assumption) ?c17_r19
        case c17_y19 =>
          intro w hSw
          (try dsimp only at hSw)
          go_simp
          (try with_reducible rfl)
        try simp only [Act.put, List.setIfInBounds_toArray, List.set_cons_zero, List.set_cons_succ]
        refine wpAnyH_take (i := 20) (oi := ({ dst := some 33, op := Op.move (Operand.tmp 2), type := 4, pos := "ref.go:31", after := #[{ on := 19, ground := Ground.guard }], guard := some (19, false) } : Oper)) rfl (by kernel_rfl) (by kernel_rfl) (by kernel_rfl) (fun _ _ _ h => h) (Or.inr ⟨by rfl, rfl⟩) (by assumption) ?c18_r20
        try simp only [Act.put, List.setIfInBounds_toArray, List.set_cons_zero, List.set_cons_succ]
        refine wpAnyH_take (i := 21) (oi := ({ dst := some 34, op := Op.move (Operand.tmp 33), type := 4, pos := "ref.go:31", after := #[{ on := 20, ground := Ground.data }, { on := 19, ground := Ground.chain }, { on := 19, ground := Ground.guard }], guard := some (19, false) } : Oper)) rfl (by kernel_rfl) (by kernel_rfl) (by kernel_rfl) (fun _ _ _ h => h) (Or.inr ⟨by rfl, rfl⟩) (by assumption) ?c19_r21
        try simp only [Act.put, List.setIfInBounds_toArray, List.set_cons_zero, List.set_cons_succ]
        refine wpAnyH_take (i := 22) (oi := ({ dst := some 35, op := Op.fieldAddr 38 (Operand.tmp 7) 2, type := 0, pos := "ref.go:31", after := #[{ on := 21, ground := Ground.guard }], guard := some (21, true) } : Oper)) rfl (by kernel_rfl) (by kernel_rfl) (by kernel_rfl) (fun _ _ _ h => h) (Or.inr ⟨by rfl, rfl⟩) (by assumption) ?c20_r22
        try simp only [Act.put, List.setIfInBounds_toArray, List.set_cons_zero, List.set_cons_succ]
        refine wpAnyH_take (i := 23) (oi := ({ dst := some 36, op := Op.load 3 (Operand.tmp 35), type := 3, pos := "ref.go:31", after := #[{ on := 22, ground := Ground.data }, { on := 21, ground := Ground.guard }], guard := some (21, true) } : Oper)) rfl (by kernel_rfl) (by kernel_rfl) (by kernel_rfl) (fun _ _ _ h => h) (Or.inr ⟨by rfl, rfl⟩) (by assumption) ?c21_r23
        try simp only [Act.put, List.setIfInBounds_toArray, List.set_cons_zero, List.set_cons_succ]
        refine wpAnyH_take (i := 24) (oi := ({ dst := some 37, op := Op.binOp BinOp.neq 3 (Operand.tmp 36) (Operand.const (Value.int IntKind.i64 0)) 3, type := 4, pos := "ref.go:31", after := #[{ on := 23, ground := Ground.data }, { on := 21, ground := Ground.guard }], guard := some (21, true) } : Oper)) rfl (by kernel_rfl) (by kernel_rfl) (by kernel_rfl) (fun _ _ _ h => h) (Or.inr ⟨by rfl, rfl⟩) (by assumption) ?c22_r24
        try simp only [Act.put, List.setIfInBounds_toArray, List.set_cons_zero, List.set_cons_succ]
        refine wpAnyH_take (i := 25) (oi := ({ dst := some 38, op := Op.pick (Operand.tmp 34) (Operand.tmp 37) (Operand.const (Value.bool false)), type := 4, pos := "ref.go:31", after := #[{ on := 21, ground := Ground.data }, { on := 24, ground := Ground.data }, { on := 19, ground := Ground.guard }], guard := some (19, false) } : Oper)) rfl (by kernel_rfl) (by kernel_rfl) (by kernel_rfl) (fun _ _ _ h => h) (Or.inr ⟨by rfl, rfl⟩) (by assumption) ?c23_r25
        try simp only [Act.put, List.setIfInBounds_toArray, List.set_cons_zero, List.set_cons_succ]
        refine wpAnyH_take (i := 26) (oi := ({ dst := some 39, op := Op.pick (Operand.tmp 32) (Operand.const (Value.bool true)) (Operand.tmp 38), type := 4, pos := "ref.go:31", after := #[{ on := 19, ground := Ground.data }, { on := 25, ground := Ground.data }], guard := none } : Oper)) (v := ?c24_v26) rfl (by kernel_rfl) (by kernel_rfl) (by kernel_rfl) (fun _ _ _ h => h) (Or.inl ⟨by rfl, ?c24_y26⟩) (by assumption) ?c24_r26
        case c24_y26 =>
          intro w hSw
          (try dsimp only at hSw)
          go_simp
          (try with_reducible rfl)
        try simp only [Act.put, List.setIfInBounds_toArray, List.set_cons_zero, List.set_cons_succ]
        refine wpAnyH_done (by kernel_rfl) ?_ _
        go_wp2
        go_ret
        exact ⟨ret_b HN.out.symm, by first | exact drewD HB.out | exact drewR HB.out | exact HB.out⟩
      · have hwd := of_decide_eq_true HWB.out.symm
        by_cases hfl : fl = 0
        · have d3 : (fl != 0) = false := by simp [hfl]
          have HY := Lib.hid (HYES.out ⟨rfl, hfl, hwd, by omega⟩)
          clear HNO HYES
          refine wp_region_held_drew (S := (fun W => W.cell? ⟨B, 0, none⟩ = some (.int .i64 op) ∧ W.cell? ⟨B, 1, none⟩ = some (.int .i64 wid) ∧ W.cell? ⟨B, 2, none⟩ = some (.int .i64 fl) ∧ W.cell? ⟨B, 3, none⟩ = some (.slice A' n' c'))) (by kernel_rfl) ?_ (fun hHeld => ?_)
          · exact HS.out _ (drewR (Below.refl _ _))
          refine wpAnyH_take (i := 0) (oi := ({ dst := some 13, op := Op.fieldAddr 38 (Operand.tmp 7) 0, type := 0, pos := "ref.go:31", after := #[], guard := none } : Oper)) (v := ?f1_v0) rfl (by kernel_rfl) (by kernel_rfl) (by kernel_rfl) (fun _ _ _ h => h) (Or.inl ⟨by rfl, ?f1_y0⟩) (by assumption) ?f1_r0
          case f1_y0 =>
            intro w hSw
            (try dsimp only at hSw)
            go_simp
            (try with_reducible rfl)
          try simp only [Act.put, List.setIfInBounds_toArray, List.set_cons_zero, List.set_cons_succ]
          refine wpAnyH_take (i := 1) (oi := ({ dst := some 14, op := Op.load 3 (Operand.tmp 13), type := 3, pos := "ref.go:31", after := #[{ on := 0, ground := Ground.data }], guard := none } : Oper)) (v := ?f2_v1) rfl (by kernel_rfl) (by kernel_rfl) (by kernel_rfl) (fun _ _ _ h => h) (Or.inl ⟨by rfl, ?f2_y1⟩) (by assumption) ?f2_r1
          case f2_y1 =>
            intro w hSw
            (try dsimp only at hSw)
            go_simp
            (try with_reducible rfl)
          try simp only [Act.put, List.setIfInBounds_toArray, List.set_cons_zero, List.set_cons_succ]
          refine wpAnyH_take (i := 3) (oi := ({ dst := some 16, op := Op.fieldAddr 38 (Operand.tmp 7) 3, type := 0, pos := "ref.go:31", after := #[], guard := none } : Oper)) (v := ?f3_v3) rfl (by kernel_rfl) (by kernel_rfl) (by kernel_rfl) (fun _ _ _ h => h) (Or.inl ⟨by rfl, ?f3_y3⟩) (by assumption) ?f3_r3
          case f3_y3 =>
            intro w hSw
            (try dsimp only at hSw)
            go_simp
            (try with_reducible rfl)
          try simp only [Act.put, List.setIfInBounds_toArray, List.set_cons_zero, List.set_cons_succ]
          refine wpAnyH_take (i := 4) (oi := ({ dst := some 17, op := Op.load 35 (Operand.tmp 16), type := 35, pos := "ref.go:31", after := #[{ on := 3, ground := Ground.data }], guard := none } : Oper)) (v := ?f4_v4) rfl (by kernel_rfl) (by kernel_rfl) (by kernel_rfl) (fun _ _ _ h => h) (Or.inl ⟨by rfl, ?f4_y4⟩) (by assumption) ?f4_r4
          case f4_y4 =>
            intro w hSw
            (try dsimp only at hSw)
            go_simp
            (try with_reducible rfl)
          try simp only [Act.put, List.setIfInBounds_toArray, List.set_cons_zero, List.set_cons_succ]
          refine wpAnyH_take (i := 5) (oi := ({ dst := some 18, op := Op.call { callee := Callee.builtin Builtin.len, args := #[Operand.tmp 17], argTypes := #[35] }, type := 3, pos := "ref.go:31", after := #[{ on := 4, ground := Ground.data }], guard := none } : Oper)) (v := ?f5_v5) rfl (by kernel_rfl) (by kernel_rfl) (by kernel_rfl) (fun _ _ _ h => h) (Or.inl ⟨by rfl, ?f5_y5⟩) (by assumption) ?f5_r5
          case f5_y5 =>
            intro w hSw
            (try dsimp only at hSw)
            go_simp
            (try with_reducible rfl)
          try simp only [Act.put, List.setIfInBounds_toArray, List.set_cons_zero, List.set_cons_succ]
          refine wpAnyH_ready (rs := [2]) (by kernel_rfl) (by simp) ?_
          refine AllReadyH.cons (o := ({ dst := some 15, op := Op.call { callee := Callee.value (Operand.func 65), args := #[Operand.tmp 14], argTypes := #[3] }, type := 3, pos := "ref.go:31", after := #[{ on := 1, ground := Ground.data }], guard := none } : Oper)) rfl (fun K hKK => ?_) AllReadyH.nil
          go_simp
          refine (HAR.out _).mono ?_
          rintro e w3 ⟨rfl, rfl⟩
          refine hKK.out _ _ (HS.out _ (by first | exact Below.refl _ _ | exact drewD (Below.refl _ _) | exact drewR (Below.refl _ _))) (fun hS2_5 => ?_)
          try simp only [Act.put, List.setIfInBounds_toArray, List.set_cons_zero, List.set_cons_succ]
          refine wpAnyH_take (i := 6) (oi := ({ dst := some 19, op := Op.binOp BinOp.neq 3 (Operand.tmp 15) (Operand.tmp 18) 3, type := 4, pos := "ref.go:31", after := #[{ on := 2, ground := Ground.data }, { on := 5, ground := Ground.data }], guard := none } : Oper)) (v := ?f6_v6) rfl (by kernel_rfl) (by kernel_rfl) (by kernel_rfl) (fun _ _ _ h => h) (Or.inl ⟨by rfl, ?f6_y6⟩) (by assumption) ?f6_r6
          case f6_y6 =>
            intro w hSw
            (try dsimp only at hSw)
            go_simp
            (try with_reducible rfl)
          try simp only [Act.put, List.setIfInBounds_toArray, List.set_cons_zero, List.set_cons_succ]
          refine wpAnyH_take (i := 7) (oi := ({ dst := some 20, op := Op.move (Operand.tmp 19), type := 4, pos := "ref.go:31", after := #[{ on := 6, ground := Ground.data }, { on := 2, ground := Ground.chain }], guard := none } : Oper)) (v := ?f7_v7) rfl (by kernel_rfl) (by kernel_rfl) (by kernel_rfl) (fun _ _ _ h => h) (Or.inl ⟨by rfl, ?f7_y7⟩) (by assumption) ?f7_r7
          case f7_y7 =>
            intro w hSw
            (try dsimp only at hSw)
            go_simp
            (try with_reducible rfl)
          try simp only [Act.put, List.setIfInBounds_toArray, List.set_cons_zero, List.set_cons_succ]
          refine wpAnyH_take (i := 8) (oi := ({ dst := some 21, op := Op.fieldAddr 38 (Operand.tmp 7) 0, type := 0, pos := "ref.go:31", after := #[{ on := 7, ground := Ground.guard }], guard := some (7, false) } : Oper)) (v := ?f8_v8) rfl (by kernel_rfl) (by kernel_rfl) (by kernel_rfl) (fun _ _ _ h => h) (Or.inl ⟨by rfl, ?f8_y8⟩) (by assumption) ?f8_r8
          case f8_y8 =>
            intro w hSw
            (try dsimp only at hSw)
            go_simp
            (try with_reducible rfl)
          try simp only [Act.put, List.setIfInBounds_toArray, List.set_cons_zero, List.set_cons_succ]
          refine wpAnyH_take (i := 9) (oi := ({ dst := some 22, op := Op.load 3 (Operand.tmp 21), type := 3, pos := "ref.go:31", after := #[{ on := 8, ground := Ground.data }, { on := 7, ground := Ground.guard }], guard := some (7, false) } : Oper)) (v := ?f9_v9) rfl (by kernel_rfl) (by kernel_rfl) (by kernel_rfl) (fun _ _ _ h => h) (Or.inl ⟨by rfl, ?f9_y9⟩) (by assumption) ?f9_r9
          case f9_y9 =>
            intro w hSw
            (try dsimp only at hSw)
            go_simp
            (try with_reducible rfl)
          try simp only [Act.put, List.setIfInBounds_toArray, List.set_cons_zero, List.set_cons_succ]
          refine wpAnyH_ready (rs := [10]) (by kernel_rfl) (by simp) ?_
          refine AllReadyH.cons (o := ({ dst := some 23, op := Op.call { callee := Callee.value (Operand.func 65), args := #[Operand.tmp 22], argTypes := #[3] }, type := 3, pos := "ref.go:31", after := #[{ on := 9, ground := Ground.data }, { on := 7, ground := Ground.chain }, { on := 7, ground := Ground.guard }], guard := some (7, false) } : Oper)) rfl (fun K hKK => ?_) AllReadyH.nil
          go_simp
          refine (HAR.out _).mono ?_
          rintro e w3 ⟨rfl, rfl⟩
          refine hKK.out _ _ (HS.out _ (by first | exact Below.refl _ _ | exact drewD (Below.refl _ _) | exact drewR (Below.refl _ _))) (fun hS10_9 => ?_)
          try simp only [Act.put, List.setIfInBounds_toArray, List.set_cons_zero, List.set_cons_succ]
          refine wpAnyH_take (i := 11) (oi := ({ dst := some 24, op := Op.binOp BinOp.lss 3 (Operand.tmp 23) (Operand.const (Value.int IntKind.i64 0)) 3, type := 4, pos := "ref.go:31", after := #[{ on := 10, ground := Ground.data }, { on := 7, ground := Ground.guard }], guard := some (7, false) } : Oper)) (v := ?f10_v11) rfl (by kernel_rfl) (by kernel_rfl) (by kernel_rfl) (fun _ _ _ h => h) (Or.inl ⟨by rfl, ?f10_y11⟩) (by assumption) ?f10_r11
          case f10_y11 =>
            intro w hSw
            (try dsimp only at hSw)
            go_simp
            (try with_reducible rfl)
          try simp only [Act.put, List.setIfInBounds_toArray, List.set_cons_zero, List.set_cons_succ]
          refine wpAnyH_take (i := 12) (oi := ({ dst := some 25, op := Op.pick (Operand.tmp 20) (Operand.const (Value.bool true)) (Operand.tmp 24), type := 4, pos := "ref.go:31", after := #[{ on := 7, ground := Ground.data }, { on := 11, ground := Ground.data }], guard := none } : Oper)) (v := ?f11_v12) rfl (by kernel_rfl) (by kernel_rfl) (by kernel_rfl) (fun _ _ _ h => h) (Or.inl ⟨by rfl, ?f11_y12⟩) (by assumption) ?f11_r12
          case f11_y12 =>
            intro w hSw
            (try dsimp only at hSw)
            go_simp
            (try with_reducible rfl)
          try simp only [Act.put, List.setIfInBounds_toArray, List.set_cons_zero, List.set_cons_succ]
          refine wpAnyH_take (i := 13) (oi := ({ dst := some 26, op := Op.move (Operand.tmp 25), type := 4, pos := "ref.go:31", after := #[{ on := 12, ground := Ground.data }, { on := 10, ground := Ground.chain }], guard := none } : Oper)) (v := ?f12_v13) rfl (by kernel_rfl) (by kernel_rfl) (by kernel_rfl) (fun _ _ _ h => h) (Or.inl ⟨by rfl, ?f12_y13⟩) (by assumption) ?f12_r13
          case f12_y13 =>
            intro w hSw
            (try dsimp only at hSw)
            go_simp
            (try with_reducible rfl)
          try simp only [Act.put, List.setIfInBounds_toArray, List.set_cons_zero, List.set_cons_succ]
          refine wpAnyH_take (i := 14) (oi := ({ dst := some 27, op := Op.fieldAddr 38 (Operand.tmp 7) 1, type := 0, pos := "ref.go:31", after := #[{ on := 13, ground := Ground.guard }], guard := some (13, false) } : Oper)) (v := ?f13_v14) rfl (by kernel_rfl) (by kernel_rfl) (by kernel_rfl) (fun _ _ _ h => h) (Or.inl ⟨by rfl, ?f13_y14⟩) (by assumption) ?f13_r14
          case f13_y14 =>
            intro w hSw
            (try dsimp only at hSw)
            go_simp
            (try with_reducible rfl)
          try simp only [Act.put, List.setIfInBounds_toArray, List.set_cons_zero, List.set_cons_succ]
          refine wpAnyH_take (i := 15) (oi := ({ dst := some 28, op := Op.load 3 (Operand.tmp 27), type := 3, pos := "ref.go:31", after := #[{ on := 14, ground := Ground.data }, { on := 13, ground := Ground.guard }], guard := some (13, false) } : Oper)) (v := ?f14_v15) rfl (by kernel_rfl) (by kernel_rfl) (by kernel_rfl) (fun _ _ _ h => h) (Or.inl ⟨by rfl, ?f14_y15⟩) (by assumption) ?f14_r15
          case f14_y15 =>
            intro w hSw
            (try dsimp only at hSw)
            go_simp
            (try with_reducible rfl)
          try simp only [Act.put, List.setIfInBounds_toArray, List.set_cons_zero, List.set_cons_succ]
          refine wpAnyH_ready (rs := [16]) (by kernel_rfl) (by simp) ?_
          refine AllReadyH.cons (o := ({ dst := some 29, op := Op.call { callee := Callee.value (Operand.func 66), args := #[Operand.tmp 28], argTypes := #[3] }, type := 4, pos := "ref.go:31", after := #[{ on := 15, ground := Ground.data }, { on := 13, ground := Ground.chain }, { on := 13, ground := Ground.guard }], guard := some (13, false) } : Oper)) rfl (fun K hKK => ?_) AllReadyH.nil
          go_simp
          refine (HWI.out _).mono ?_
          rintro e w3 ⟨rfl, rfl⟩
          refine hKK.out _ _ (HS.out _ (by first | exact Below.refl _ _ | exact drewD (Below.refl _ _) | exact drewR (Below.refl _ _))) (fun hS16_14 => ?_)
          try simp only [Act.put, List.setIfInBounds_toArray, List.set_cons_zero, List.set_cons_succ]
          refine wpAnyH_take (i := 17) (oi := ({ dst := some 30, op := Op.unOp UnOp.not 4 (Operand.tmp 29), type := 4, pos := "ref.go:31", after := #[{ on := 16, ground := Ground.data }, { on := 13, ground := Ground.guard }], guard := some (13, false) } : Oper)) (v := ?f15_v17) rfl (by kernel_rfl) (by kernel_rfl) (by kernel_rfl) (fun _ _ _ h => h) (Or.inl ⟨by rfl, ?f15_y17⟩) (by assumption) ?f15_r17
          case f15_y17 =>
            intro w hSw
            (try dsimp only at hSw)
            go_simp
            (try with_reducible rfl)
          try simp only [Act.put, List.setIfInBounds_toArray, List.set_cons_zero, List.set_cons_succ]
          refine wpAnyH_take (i := 18) (oi := ({ dst := some 31, op := Op.pick (Operand.tmp 26) (Operand.const (Value.bool true)) (Operand.tmp 30), type := 4, pos := "ref.go:31", after := #[{ on := 13, ground := Ground.data }, { on := 17, ground := Ground.data }], guard := none } : Oper)) (v := ?f16_v18) rfl (by kernel_rfl) (by kernel_rfl) (by kernel_rfl) (fun _ _ _ h => h) (Or.inl ⟨by rfl, ?f16_y18⟩) (by assumption) ?f16_r18
          case f16_y18 =>
            intro w hSw
            (try dsimp only at hSw)
            go_simp
            (try with_reducible rfl)
          try simp only [Act.put, List.setIfInBounds_toArray, List.set_cons_zero, List.set_cons_succ]
          refine wpAnyH_take (i := 19) (oi := ({ dst := some 32, op := Op.move (Operand.tmp 31), type := 4, pos := "ref.go:31", after := #[{ on := 18, ground := Ground.data }, { on := 16, ground := Ground.chain }], guard := none } : Oper)) (v := ?f17_v19) rfl (by kernel_rfl) (by kernel_rfl) (by kernel_rfl) (fun _ _ _ h => h) (Or.inl ⟨by rfl, ?f17_y19⟩) (by assumption) ?f17_r19
          case f17_y19 =>
            intro w hSw
            (try dsimp only at hSw)
            go_simp
            (try with_reducible rfl)
          try simp only [Act.put, List.setIfInBounds_toArray, List.set_cons_zero, List.set_cons_succ]
          refine wpAnyH_take (i := 20) (oi := ({ dst := some 33, op := Op.move (Operand.tmp 2), type := 4, pos := "ref.go:31", after := #[{ on := 19, ground := Ground.guard }], guard := some (19, false) } : Oper)) (v := ?f18_v20) rfl (by kernel_rfl) (by kernel_rfl) (by kernel_rfl) (fun _ _ _ h => h) (Or.inl ⟨by rfl, ?f18_y20⟩) (by assumption) ?f18_r20
          case f18_y20 =>
            intro w hSw
            (try dsimp only at hSw)
            go_simp
            (try with_reducible rfl)
          try simp only [Act.put, List.setIfInBounds_toArray, List.set_cons_zero, List.set_cons_succ]
          refine wpAnyH_take (i := 21) (oi := ({ dst := some 34, op := Op.move (Operand.tmp 33), type := 4, pos := "ref.go:31", after := #[{ on := 20, ground := Ground.data }, { on := 19, ground := Ground.chain }, { on := 19, ground := Ground.guard }], guard := some (19, false) } : Oper)) (v := ?f19_v21) rfl (by kernel_rfl) (by kernel_rfl) (by kernel_rfl) (fun _ _ _ h => h) (Or.inl ⟨by rfl, ?f19_y21⟩) (by assumption) ?f19_r21
          case f19_y21 =>
            intro w hSw
            (try dsimp only at hSw)
            go_simp
            (try with_reducible rfl)
          try simp only [Act.put, List.setIfInBounds_toArray, List.set_cons_zero, List.set_cons_succ]
          refine wpAnyH_take (i := 22) (oi := ({ dst := some 35, op := Op.fieldAddr 38 (Operand.tmp 7) 2, type := 0, pos := "ref.go:31", after := #[{ on := 21, ground := Ground.guard }], guard := some (21, true) } : Oper)) (v := ?f20_v22) rfl (by kernel_rfl) (by kernel_rfl) (by kernel_rfl) (fun _ _ _ h => h) (Or.inl ⟨by rfl, ?f20_y22⟩) (by assumption) ?f20_r22
          case f20_y22 =>
            intro w hSw
            (try dsimp only at hSw)
            go_simp
            (try with_reducible rfl)
          try simp only [Act.put, List.setIfInBounds_toArray, List.set_cons_zero, List.set_cons_succ]
          refine wpAnyH_take (i := 23) (oi := ({ dst := some 36, op := Op.load 3 (Operand.tmp 35), type := 3, pos := "ref.go:31", after := #[{ on := 22, ground := Ground.data }, { on := 21, ground := Ground.guard }], guard := some (21, true) } : Oper)) (v := ?f21_v23) rfl (by kernel_rfl) (by kernel_rfl) (by kernel_rfl) (fun _ _ _ h => h) (Or.inl ⟨by rfl, ?f21_y23⟩) (by assumption) ?f21_r23
          case f21_y23 =>
            intro w hSw
            (try dsimp only at hSw)
            go_simp
            (try with_reducible rfl)
          try simp only [Act.put, List.setIfInBounds_toArray, List.set_cons_zero, List.set_cons_succ]
          refine wpAnyH_take (i := 24) (oi := ({ dst := some 37, op := Op.binOp BinOp.neq 3 (Operand.tmp 36) (Operand.const (Value.int IntKind.i64 0)) 3, type := 4, pos := "ref.go:31", after := #[{ on := 23, ground := Ground.data }, { on := 21, ground := Ground.guard }], guard := some (21, true) } : Oper)) (v := ?f22_v24) rfl (by kernel_rfl) (by kernel_rfl) (by kernel_rfl) (fun _ _ _ h => h) (Or.inl ⟨by rfl, ?f22_y24⟩) (by assumption) ?f22_r24
          case f22_y24 =>
            intro w hSw
            (try dsimp only at hSw)
            go_simp
            (try with_reducible rfl)
          try simp only [Act.put, List.setIfInBounds_toArray, List.set_cons_zero, List.set_cons_succ]
          refine wpAnyH_take (i := 25) (oi := ({ dst := some 38, op := Op.pick (Operand.tmp 34) (Operand.tmp 37) (Operand.const (Value.bool false)), type := 4, pos := "ref.go:31", after := #[{ on := 21, ground := Ground.data }, { on := 24, ground := Ground.data }, { on := 19, ground := Ground.guard }], guard := some (19, false) } : Oper)) (v := ?f23_v25) rfl (by kernel_rfl) (by kernel_rfl) (by kernel_rfl) (fun _ _ _ h => h) (Or.inl ⟨by rfl, ?f23_y25⟩) (by assumption) ?f23_r25
          case f23_y25 =>
            intro w hSw
            (try dsimp only at hSw)
            go_simp
            (try with_reducible rfl)
          try simp only [Act.put, List.setIfInBounds_toArray, List.set_cons_zero, List.set_cons_succ]
          refine wpAnyH_take (i := 26) (oi := ({ dst := some 39, op := Op.pick (Operand.tmp 32) (Operand.const (Value.bool true)) (Operand.tmp 38), type := 4, pos := "ref.go:31", after := #[{ on := 19, ground := Ground.data }, { on := 25, ground := Ground.data }], guard := none } : Oper)) (v := ?f24_v26) rfl (by kernel_rfl) (by kernel_rfl) (by kernel_rfl) (fun _ _ _ h => h) (Or.inl ⟨by rfl, ?f24_y26⟩) (by assumption) ?f24_r26
          case f24_y26 =>
            intro w hSw
            (try dsimp only at hSw)
            go_simp
            (try with_reducible rfl)
          try simp only [Act.put, List.setIfInBounds_toArray, List.set_cons_zero, List.set_cons_succ]
          refine wpAnyH_done (by kernel_rfl) ?_ _
          have hx2 : W1.drew.heap[B]? = some (.cells #[.int .i64 op, .int .i64 wid, .int .i64 fl, .slice A' n' c', .int .u32 imm] 38 (0, 0)) := hx
          have HB2 := Lib.hid (drewD HB.out)
          replace HII := Lib.hid (show Ints W1.drew A' n' c' args from HII.out)
          clear HS hx
          generalize W1.drew = W2 at hx2 HB2 HII ⊢
          obtain ⟨c0, c1, -, c3, c4⟩ := cells5 (x := ⟨op, wid, fl, args, imm⟩) hx2
          simp only at c0 c1 c3 c4
          have hBl := lt_of_block hx2
          clear hx2 d1 d2 d3 hln han
          go_wp2
          go_loop [8] (fun zi => ∃ i : Nat, i ≤ n' ∧ zi = .int .i64 (i : Int) ∧ Hid (∀ j, j < i → 0 ≤ args[j]! ∧ args[j]! < (k : Int))) (fun zi => n' - (intOf zi).toNat)
          case atStart => exact ⟨0, by omega, rfl, Lib.hid fun j hj => absurd hj (by omega)⟩
          case round =>
            obtain ⟨i, hi, rfl, HJ⟩ := hrel
            by_cases hlt : i < n'
            · obtain ⟨b'', off'', rfl, hbs', hc'⟩ := HII.out.at_ hlt
              have HA1 := Lib.hid (HARG.out i hlt)
              have HJ2 := Lib.hid (show 0 ≤ args[i]! ∧ args[i]! < (k : Int) → ∀ j, j < i + 1 → 0 ≤ args[j]! ∧ args[j]! < (k : Int) from fun h j hj => by
                by_cases hji : j = i
                · rw [hji]; exact h
                · exact HJ.out j (by omega))
              generalize args[i]! = a at hc' HA1 HJ2
              by_cases ha0 : a < 0
              · have HN := Lib.hid (HA1.out (by omega))
                have e1 : decide (a < 0) = true := decide_eq_true ha0
                clear HA1 HJ2
                go_wp2
                go_ret
                exact ⟨ret_b HN.out.symm, HB2.out⟩
              · have e1 : decide (a < 0) = false := decide_eq_false ha0
                by_cases hak : (k : Int) ≤ a
                · have HN := Lib.hid (HA1.out (by omega))
                  have e2 : decide ((k : Int) ≤ a) = true := decide_eq_true hak
                  clear HA1 HJ2
                  go_wp2
                  go_ret
                  exact ⟨ret_b HN.out.symm, HB2.out⟩
                · have e2 : decide ((k : Int) ≤ a) = false := decide_eq_false hak
                  have HJ3 := Lib.hid (HJ2.out (by omega))
                  clear HA1 HJ2
                  go_wp2
                  go_roundw
                  case rel => exact ⟨i + 1, by omega, by go_num, HJ3⟩
                  case measure => simp [intOf]; omega
            · obtain rfl : i = n' := by omega
              have HN := Lib.hid ((HY.out (fun j hj => HJ.out j (by rw [HLN.out]; exact hj))).trans HIM.out)
              clear HY HJ HARG HIM
              by_cases o0 : op = 0
              · have HN2 := Lib.hid (show N = decide (imm < (pw wid.toNat : Nat)) by rw [HN.out, if_pos o0])
                have e1 : (op == 0) = true := by simp [o0]
                obtain ⟨W, rfl⟩ : ∃ W : Nat, wid = (W : Int) := ⟨wid.toNat, by omega⟩
                have hp := pw_le (n := W) (by omega)
                rw [Int.toNat_natCast] at HN2
                clear HN o0
                have HW := Lib.hid (isWord_in W (by omega) (by omega) imm h0 h1 W2)
                generalize pw W = p at HW HN2 hp
                go_wp2_with fail
                refine HW.out.mono ?_
                rintro e w3 ⟨rfl, rfl⟩
                go_wp2
                go_ret
                exact ⟨ret_b HN2.out.symm, HB2.out⟩
              · have e1 : (op == 0) = false := beq_false_of_ne o0
                by_cases o33 : op = 33
                · have HN2 := Lib.hid (show N = decide (imm < 4) by rw [HN.out, if_neg o0, if_pos o33])
                  have e2 : (op == 33) = true := by simp [o33]
                  clear HN o0 o33
                  go_wp2
                  go_ret
                  exact ⟨ret_b HN2.out.symm, HB2.out⟩
                · have e2 : (op == 33) = false := beq_false_of_ne o33
                  by_cases o14 : op = 14
                  · have HN2 := Lib.hid (show N = (decide (wid = 1) && decide (imm ≤ 9)) by rw [HN.out, if_neg o0, if_neg o33, if_pos o14])
                    have e3 : (op == 14) = true := by simp [o14]
                    by_cases w1 : wid = 1
                    · have e4 : (wid == 1) = true := by simp [w1]
                      have HN3 := Lib.hid (show N = decide (imm ≤ 9) by rw [HN2.out, decide_eq_true w1, Bool.true_and])
                      clear HN o0 o33 o14 w1
                      go_wp2
                      go_ret
                      exact ⟨ret_b HN3.out.symm, HB2.out⟩
                    · have e4 : (wid == 1) = false := beq_false_of_ne w1
                      have HN3 := Lib.hid (show N = false by rw [HN2.out, decide_eq_false w1, Bool.false_and])
                      clear HN o0 o33 o14 w1
                      go_wp2
                      go_ret
                      exact ⟨ret_b HN3.out.symm, HB2.out⟩
                  · have e3 : (op == 14) = false := beq_false_of_ne o14
                    have HN2 := Lib.hid (show N = (imm == 0) by rw [HN.out, if_neg o0, if_neg o33, if_neg o14]; rw [Bool.eq_iff_iff, decide_eq_true_iff, beq_iff_eq])
                    clear HN o0 o33 o14
                    go_wp2
                    go_ret
                    exact ⟨ret_b HN2.out.symm, HB2.out⟩
        · have d3 : (fl != 0) = true := by simp [hfl]
          have HN := Lib.hid (HNO.out (fun h => hfl h.2.1))
          clear HNO HYES HARG
          refine wp_region_held_drew (S := (fun W => W.cell? ⟨B, 0, none⟩ = some (.int .i64 op) ∧ W.cell? ⟨B, 1, none⟩ = some (.int .i64 wid) ∧ W.cell? ⟨B, 2, none⟩ = some (.int .i64 fl) ∧ W.cell? ⟨B, 3, none⟩ = some (.slice A' n' c'))) (by kernel_rfl) ?_ (fun hHeld => ?_)
          · exact HS.out _ (drewR (Below.refl _ _))
          refine wpAnyH_take (i := 0) (oi := ({ dst := some 13, op := Op.fieldAddr 38 (Operand.tmp 7) 0, type := 0, pos := "ref.go:31", after := #[], guard := none } : Oper)) (v := ?d1_v0) rfl (by kernel_rfl) (by kernel_rfl) (by kernel_rfl) (fun _ _ _ h => h) (Or.inl ⟨by rfl, ?d1_y0⟩) (by assumption) ?d1_r0
          case d1_y0 =>
            intro w hSw
            (try dsimp only at hSw)
            go_simp
            (try with_reducible rfl)
          try simp only [Act.put, List.setIfInBounds_toArray, List.set_cons_zero, List.set_cons_succ]
          refine wpAnyH_take (i := 1) (oi := ({ dst := some 14, op := Op.load 3 (Operand.tmp 13), type := 3, pos := "ref.go:31", after := #[{ on := 0, ground := Ground.data }], guard := none } : Oper)) (v := ?d2_v1) rfl (by kernel_rfl) (by kernel_rfl) (by kernel_rfl) (fun _ _ _ h => h) (Or.inl ⟨by rfl, ?d2_y1⟩) (by assumption) ?d2_r1
          case d2_y1 =>
            intro w hSw
            (try dsimp only at hSw)
            go_simp
            (try with_reducible rfl)
          try simp only [Act.put, List.setIfInBounds_toArray, List.set_cons_zero, List.set_cons_succ]
          refine wpAnyH_take (i := 3) (oi := ({ dst := some 16, op := Op.fieldAddr 38 (Operand.tmp 7) 3, type := 0, pos := "ref.go:31", after := #[], guard := none } : Oper)) (v := ?d3_v3) rfl (by kernel_rfl) (by kernel_rfl) (by kernel_rfl) (fun _ _ _ h => h) (Or.inl ⟨by rfl, ?d3_y3⟩) (by assumption) ?d3_r3
          case d3_y3 =>
            intro w hSw
            (try dsimp only at hSw)
            go_simp
            (try with_reducible rfl)
          try simp only [Act.put, List.setIfInBounds_toArray, List.set_cons_zero, List.set_cons_succ]
          refine wpAnyH_take (i := 4) (oi := ({ dst := some 17, op := Op.load 35 (Operand.tmp 16), type := 35, pos := "ref.go:31", after := #[{ on := 3, ground := Ground.data }], guard := none } : Oper)) (v := ?d4_v4) rfl (by kernel_rfl) (by kernel_rfl) (by kernel_rfl) (fun _ _ _ h => h) (Or.inl ⟨by rfl, ?d4_y4⟩) (by assumption) ?d4_r4
          case d4_y4 =>
            intro w hSw
            (try dsimp only at hSw)
            go_simp
            (try with_reducible rfl)
          try simp only [Act.put, List.setIfInBounds_toArray, List.set_cons_zero, List.set_cons_succ]
          refine wpAnyH_take (i := 5) (oi := ({ dst := some 18, op := Op.call { callee := Callee.builtin Builtin.len, args := #[Operand.tmp 17], argTypes := #[35] }, type := 3, pos := "ref.go:31", after := #[{ on := 4, ground := Ground.data }], guard := none } : Oper)) (v := ?d5_v5) rfl (by kernel_rfl) (by kernel_rfl) (by kernel_rfl) (fun _ _ _ h => h) (Or.inl ⟨by rfl, ?d5_y5⟩) (by assumption) ?d5_r5
          case d5_y5 =>
            intro w hSw
            (try dsimp only at hSw)
            go_simp
            (try with_reducible rfl)
          try simp only [Act.put, List.setIfInBounds_toArray, List.set_cons_zero, List.set_cons_succ]
          refine wpAnyH_ready (rs := [2]) (by kernel_rfl) (by simp) ?_
          refine AllReadyH.cons (o := ({ dst := some 15, op := Op.call { callee := Callee.value (Operand.func 65), args := #[Operand.tmp 14], argTypes := #[3] }, type := 3, pos := "ref.go:31", after := #[{ on := 1, ground := Ground.data }], guard := none } : Oper)) rfl (fun K hKK => ?_) AllReadyH.nil
          go_simp
          refine (HAR.out _).mono ?_
          rintro e w3 ⟨rfl, rfl⟩
          refine hKK.out _ _ (HS.out _ (by first | exact Below.refl _ _ | exact drewD (Below.refl _ _) | exact drewR (Below.refl _ _))) (fun hS2_5 => ?_)
          try simp only [Act.put, List.setIfInBounds_toArray, List.set_cons_zero, List.set_cons_succ]
          refine wpAnyH_take (i := 6) (oi := ({ dst := some 19, op := Op.binOp BinOp.neq 3 (Operand.tmp 15) (Operand.tmp 18) 3, type := 4, pos := "ref.go:31", after := #[{ on := 2, ground := Ground.data }, { on := 5, ground := Ground.data }], guard := none } : Oper)) (v := ?d6_v6) rfl (by kernel_rfl) (by kernel_rfl) (by kernel_rfl) (fun _ _ _ h => h) (Or.inl ⟨by rfl, ?d6_y6⟩) (by assumption) ?d6_r6
          case d6_y6 =>
            intro w hSw
            (try dsimp only at hSw)
            go_simp
            (try with_reducible rfl)
          try simp only [Act.put, List.setIfInBounds_toArray, List.set_cons_zero, List.set_cons_succ]
          refine wpAnyH_take (i := 7) (oi := ({ dst := some 20, op := Op.move (Operand.tmp 19), type := 4, pos := "ref.go:31", after := #[{ on := 6, ground := Ground.data }, { on := 2, ground := Ground.chain }], guard := none } : Oper)) (v := ?d7_v7) rfl (by kernel_rfl) (by kernel_rfl) (by kernel_rfl) (fun _ _ _ h => h) (Or.inl ⟨by rfl, ?d7_y7⟩) (by assumption) ?d7_r7
          case d7_y7 =>
            intro w hSw
            (try dsimp only at hSw)
            go_simp
            (try with_reducible rfl)
          try simp only [Act.put, List.setIfInBounds_toArray, List.set_cons_zero, List.set_cons_succ]
          refine wpAnyH_take (i := 8) (oi := ({ dst := some 21, op := Op.fieldAddr 38 (Operand.tmp 7) 0, type := 0, pos := "ref.go:31", after := #[{ on := 7, ground := Ground.guard }], guard := some (7, false) } : Oper)) (v := ?d8_v8) rfl (by kernel_rfl) (by kernel_rfl) (by kernel_rfl) (fun _ _ _ h => h) (Or.inl ⟨by rfl, ?d8_y8⟩) (by assumption) ?d8_r8
          case d8_y8 =>
            intro w hSw
            (try dsimp only at hSw)
            go_simp
            (try with_reducible rfl)
          try simp only [Act.put, List.setIfInBounds_toArray, List.set_cons_zero, List.set_cons_succ]
          refine wpAnyH_take (i := 9) (oi := ({ dst := some 22, op := Op.load 3 (Operand.tmp 21), type := 3, pos := "ref.go:31", after := #[{ on := 8, ground := Ground.data }, { on := 7, ground := Ground.guard }], guard := some (7, false) } : Oper)) (v := ?d9_v9) rfl (by kernel_rfl) (by kernel_rfl) (by kernel_rfl) (fun _ _ _ h => h) (Or.inl ⟨by rfl, ?d9_y9⟩) (by assumption) ?d9_r9
          case d9_y9 =>
            intro w hSw
            (try dsimp only at hSw)
            go_simp
            (try with_reducible rfl)
          try simp only [Act.put, List.setIfInBounds_toArray, List.set_cons_zero, List.set_cons_succ]
          refine wpAnyH_ready (rs := [10]) (by kernel_rfl) (by simp) ?_
          refine AllReadyH.cons (o := ({ dst := some 23, op := Op.call { callee := Callee.value (Operand.func 65), args := #[Operand.tmp 22], argTypes := #[3] }, type := 3, pos := "ref.go:31", after := #[{ on := 9, ground := Ground.data }, { on := 7, ground := Ground.chain }, { on := 7, ground := Ground.guard }], guard := some (7, false) } : Oper)) rfl (fun K hKK => ?_) AllReadyH.nil
          go_simp
          refine (HAR.out _).mono ?_
          rintro e w3 ⟨rfl, rfl⟩
          refine hKK.out _ _ (HS.out _ (by first | exact Below.refl _ _ | exact drewD (Below.refl _ _) | exact drewR (Below.refl _ _))) (fun hS10_9 => ?_)
          try simp only [Act.put, List.setIfInBounds_toArray, List.set_cons_zero, List.set_cons_succ]
          refine wpAnyH_take (i := 11) (oi := ({ dst := some 24, op := Op.binOp BinOp.lss 3 (Operand.tmp 23) (Operand.const (Value.int IntKind.i64 0)) 3, type := 4, pos := "ref.go:31", after := #[{ on := 10, ground := Ground.data }, { on := 7, ground := Ground.guard }], guard := some (7, false) } : Oper)) (v := ?d10_v11) rfl (by kernel_rfl) (by kernel_rfl) (by kernel_rfl) (fun _ _ _ h => h) (Or.inl ⟨by rfl, ?d10_y11⟩) (by assumption) ?d10_r11
          case d10_y11 =>
            intro w hSw
            (try dsimp only at hSw)
            go_simp
            (try with_reducible rfl)
          try simp only [Act.put, List.setIfInBounds_toArray, List.set_cons_zero, List.set_cons_succ]
          refine wpAnyH_take (i := 12) (oi := ({ dst := some 25, op := Op.pick (Operand.tmp 20) (Operand.const (Value.bool true)) (Operand.tmp 24), type := 4, pos := "ref.go:31", after := #[{ on := 7, ground := Ground.data }, { on := 11, ground := Ground.data }], guard := none } : Oper)) (v := ?d11_v12) rfl (by kernel_rfl) (by kernel_rfl) (by kernel_rfl) (fun _ _ _ h => h) (Or.inl ⟨by rfl, ?d11_y12⟩) (by assumption) ?d11_r12
          case d11_y12 =>
            intro w hSw
            (try dsimp only at hSw)
            go_simp
            (try with_reducible rfl)
          try simp only [Act.put, List.setIfInBounds_toArray, List.set_cons_zero, List.set_cons_succ]
          refine wpAnyH_take (i := 13) (oi := ({ dst := some 26, op := Op.move (Operand.tmp 25), type := 4, pos := "ref.go:31", after := #[{ on := 12, ground := Ground.data }, { on := 10, ground := Ground.chain }], guard := none } : Oper)) (v := ?d12_v13) rfl (by kernel_rfl) (by kernel_rfl) (by kernel_rfl) (fun _ _ _ h => h) (Or.inl ⟨by rfl, ?d12_y13⟩) (by assumption) ?d12_r13
          case d12_y13 =>
            intro w hSw
            (try dsimp only at hSw)
            go_simp
            (try with_reducible rfl)
          try simp only [Act.put, List.setIfInBounds_toArray, List.set_cons_zero, List.set_cons_succ]
          refine wpAnyH_take (i := 14) (oi := ({ dst := some 27, op := Op.fieldAddr 38 (Operand.tmp 7) 1, type := 0, pos := "ref.go:31", after := #[{ on := 13, ground := Ground.guard }], guard := some (13, false) } : Oper)) (v := ?d13_v14) rfl (by kernel_rfl) (by kernel_rfl) (by kernel_rfl) (fun _ _ _ h => h) (Or.inl ⟨by rfl, ?d13_y14⟩) (by assumption) ?d13_r14
          case d13_y14 =>
            intro w hSw
            (try dsimp only at hSw)
            go_simp
            (try with_reducible rfl)
          try simp only [Act.put, List.setIfInBounds_toArray, List.set_cons_zero, List.set_cons_succ]
          refine wpAnyH_take (i := 15) (oi := ({ dst := some 28, op := Op.load 3 (Operand.tmp 27), type := 3, pos := "ref.go:31", after := #[{ on := 14, ground := Ground.data }, { on := 13, ground := Ground.guard }], guard := some (13, false) } : Oper)) (v := ?d14_v15) rfl (by kernel_rfl) (by kernel_rfl) (by kernel_rfl) (fun _ _ _ h => h) (Or.inl ⟨by rfl, ?d14_y15⟩) (by assumption) ?d14_r15
          case d14_y15 =>
            intro w hSw
            (try dsimp only at hSw)
            go_simp
            (try with_reducible rfl)
          try simp only [Act.put, List.setIfInBounds_toArray, List.set_cons_zero, List.set_cons_succ]
          refine wpAnyH_ready (rs := [16]) (by kernel_rfl) (by simp) ?_
          refine AllReadyH.cons (o := ({ dst := some 29, op := Op.call { callee := Callee.value (Operand.func 66), args := #[Operand.tmp 28], argTypes := #[3] }, type := 4, pos := "ref.go:31", after := #[{ on := 15, ground := Ground.data }, { on := 13, ground := Ground.chain }, { on := 13, ground := Ground.guard }], guard := some (13, false) } : Oper)) rfl (fun K hKK => ?_) AllReadyH.nil
          go_simp
          refine (HWI.out _).mono ?_
          rintro e w3 ⟨rfl, rfl⟩
          refine hKK.out _ _ (HS.out _ (by first | exact Below.refl _ _ | exact drewD (Below.refl _ _) | exact drewR (Below.refl _ _))) (fun hS16_14 => ?_)
          try simp only [Act.put, List.setIfInBounds_toArray, List.set_cons_zero, List.set_cons_succ]
          refine wpAnyH_take (i := 17) (oi := ({ dst := some 30, op := Op.unOp UnOp.not 4 (Operand.tmp 29), type := 4, pos := "ref.go:31", after := #[{ on := 16, ground := Ground.data }, { on := 13, ground := Ground.guard }], guard := some (13, false) } : Oper)) (v := ?d15_v17) rfl (by kernel_rfl) (by kernel_rfl) (by kernel_rfl) (fun _ _ _ h => h) (Or.inl ⟨by rfl, ?d15_y17⟩) (by assumption) ?d15_r17
          case d15_y17 =>
            intro w hSw
            (try dsimp only at hSw)
            go_simp
            (try with_reducible rfl)
          try simp only [Act.put, List.setIfInBounds_toArray, List.set_cons_zero, List.set_cons_succ]
          refine wpAnyH_take (i := 18) (oi := ({ dst := some 31, op := Op.pick (Operand.tmp 26) (Operand.const (Value.bool true)) (Operand.tmp 30), type := 4, pos := "ref.go:31", after := #[{ on := 13, ground := Ground.data }, { on := 17, ground := Ground.data }], guard := none } : Oper)) (v := ?d16_v18) rfl (by kernel_rfl) (by kernel_rfl) (by kernel_rfl) (fun _ _ _ h => h) (Or.inl ⟨by rfl, ?d16_y18⟩) (by assumption) ?d16_r18
          case d16_y18 =>
            intro w hSw
            (try dsimp only at hSw)
            go_simp
            (try with_reducible rfl)
          try simp only [Act.put, List.setIfInBounds_toArray, List.set_cons_zero, List.set_cons_succ]
          refine wpAnyH_take (i := 19) (oi := ({ dst := some 32, op := Op.move (Operand.tmp 31), type := 4, pos := "ref.go:31", after := #[{ on := 18, ground := Ground.data }, { on := 16, ground := Ground.chain }], guard := none } : Oper)) (v := ?d17_v19) rfl (by kernel_rfl) (by kernel_rfl) (by kernel_rfl) (fun _ _ _ h => h) (Or.inl ⟨by rfl, ?d17_y19⟩) (by assumption) ?d17_r19
          case d17_y19 =>
            intro w hSw
            (try dsimp only at hSw)
            go_simp
            (try with_reducible rfl)
          try simp only [Act.put, List.setIfInBounds_toArray, List.set_cons_zero, List.set_cons_succ]
          refine wpAnyH_take (i := 20) (oi := ({ dst := some 33, op := Op.move (Operand.tmp 2), type := 4, pos := "ref.go:31", after := #[{ on := 19, ground := Ground.guard }], guard := some (19, false) } : Oper)) (v := ?d18_v20) rfl (by kernel_rfl) (by kernel_rfl) (by kernel_rfl) (fun _ _ _ h => h) (Or.inl ⟨by rfl, ?d18_y20⟩) (by assumption) ?d18_r20
          case d18_y20 =>
            intro w hSw
            (try dsimp only at hSw)
            go_simp
            (try with_reducible rfl)
          try simp only [Act.put, List.setIfInBounds_toArray, List.set_cons_zero, List.set_cons_succ]
          refine wpAnyH_take (i := 21) (oi := ({ dst := some 34, op := Op.move (Operand.tmp 33), type := 4, pos := "ref.go:31", after := #[{ on := 20, ground := Ground.data }, { on := 19, ground := Ground.chain }, { on := 19, ground := Ground.guard }], guard := some (19, false) } : Oper)) (v := ?d19_v21) rfl (by kernel_rfl) (by kernel_rfl) (by kernel_rfl) (fun _ _ _ h => h) (Or.inl ⟨by rfl, ?d19_y21⟩) (by assumption) ?d19_r21
          case d19_y21 =>
            intro w hSw
            (try dsimp only at hSw)
            go_simp
            (try with_reducible rfl)
          try simp only [Act.put, List.setIfInBounds_toArray, List.set_cons_zero, List.set_cons_succ]
          refine wpAnyH_take (i := 22) (oi := ({ dst := some 35, op := Op.fieldAddr 38 (Operand.tmp 7) 2, type := 0, pos := "ref.go:31", after := #[{ on := 21, ground := Ground.guard }], guard := some (21, true) } : Oper)) (v := ?d20_v22) rfl (by kernel_rfl) (by kernel_rfl) (by kernel_rfl) (fun _ _ _ h => h) (Or.inl ⟨by rfl, ?d20_y22⟩) (by assumption) ?d20_r22
          case d20_y22 =>
            intro w hSw
            (try dsimp only at hSw)
            go_simp
            (try with_reducible rfl)
          try simp only [Act.put, List.setIfInBounds_toArray, List.set_cons_zero, List.set_cons_succ]
          refine wpAnyH_take (i := 23) (oi := ({ dst := some 36, op := Op.load 3 (Operand.tmp 35), type := 3, pos := "ref.go:31", after := #[{ on := 22, ground := Ground.data }, { on := 21, ground := Ground.guard }], guard := some (21, true) } : Oper)) (v := ?d21_v23) rfl (by kernel_rfl) (by kernel_rfl) (by kernel_rfl) (fun _ _ _ h => h) (Or.inl ⟨by rfl, ?d21_y23⟩) (by assumption) ?d21_r23
          case d21_y23 =>
            intro w hSw
            (try dsimp only at hSw)
            go_simp
            (try with_reducible rfl)
          try simp only [Act.put, List.setIfInBounds_toArray, List.set_cons_zero, List.set_cons_succ]
          refine wpAnyH_take (i := 24) (oi := ({ dst := some 37, op := Op.binOp BinOp.neq 3 (Operand.tmp 36) (Operand.const (Value.int IntKind.i64 0)) 3, type := 4, pos := "ref.go:31", after := #[{ on := 23, ground := Ground.data }, { on := 21, ground := Ground.guard }], guard := some (21, true) } : Oper)) (v := ?d22_v24) rfl (by kernel_rfl) (by kernel_rfl) (by kernel_rfl) (fun _ _ _ h => h) (Or.inl ⟨by rfl, ?d22_y24⟩) (by assumption) ?d22_r24
          case d22_y24 =>
            intro w hSw
            (try dsimp only at hSw)
            go_simp
            (try with_reducible rfl)
          try simp only [Act.put, List.setIfInBounds_toArray, List.set_cons_zero, List.set_cons_succ]
          refine wpAnyH_take (i := 25) (oi := ({ dst := some 38, op := Op.pick (Operand.tmp 34) (Operand.tmp 37) (Operand.const (Value.bool false)), type := 4, pos := "ref.go:31", after := #[{ on := 21, ground := Ground.data }, { on := 24, ground := Ground.data }, { on := 19, ground := Ground.guard }], guard := some (19, false) } : Oper)) (v := ?d23_v25) rfl (by kernel_rfl) (by kernel_rfl) (by kernel_rfl) (fun _ _ _ h => h) (Or.inl ⟨by rfl, ?d23_y25⟩) (by assumption) ?d23_r25
          case d23_y25 =>
            intro w hSw
            (try dsimp only at hSw)
            go_simp
            (try with_reducible rfl)
          try simp only [Act.put, List.setIfInBounds_toArray, List.set_cons_zero, List.set_cons_succ]
          refine wpAnyH_take (i := 26) (oi := ({ dst := some 39, op := Op.pick (Operand.tmp 32) (Operand.const (Value.bool true)) (Operand.tmp 38), type := 4, pos := "ref.go:31", after := #[{ on := 19, ground := Ground.data }, { on := 25, ground := Ground.data }], guard := none } : Oper)) (v := ?d24_v26) rfl (by kernel_rfl) (by kernel_rfl) (by kernel_rfl) (fun _ _ _ h => h) (Or.inl ⟨by rfl, ?d24_y26⟩) (by assumption) ?d24_r26
          case d24_y26 =>
            intro w hSw
            (try dsimp only at hSw)
            go_simp
            (try with_reducible rfl)
          try simp only [Act.put, List.setIfInBounds_toArray, List.set_cons_zero, List.set_cons_succ]
          refine wpAnyH_done (by kernel_rfl) ?_ _
          go_wp2
          go_ret
          exact ⟨ret_b HN.out.symm, by first | exact drewD HB.out | exact drewR HB.out | exact HB.out⟩
  · have d1 : (arn != (n' : Int)) = true := by simp [hln]
    have HN := Lib.hid (HNO.out (fun h => by
      have h1 := HAN.out
      rw [h.1] at h1
      have h2 := h.2.2.2
      simp at h1
      omega))
    clear HNO HYES HARG
    refine wp_region_held_drew (S := (fun W => W.cell? ⟨B, 0, none⟩ = some (.int .i64 op) ∧ W.cell? ⟨B, 1, none⟩ = some (.int .i64 wid) ∧ W.cell? ⟨B, 2, none⟩ = some (.int .i64 fl) ∧ W.cell? ⟨B, 3, none⟩ = some (.slice A' n' c'))) (by kernel_rfl) ?_ (fun hHeld => ?_)
    · exact HS.out _ (drewR (Below.refl _ _))
    refine wpAnyH_take (i := 0) (oi := ({ dst := some 13, op := Op.fieldAddr 38 (Operand.tmp 7) 0, type := 0, pos := "ref.go:31", after := #[], guard := none } : Oper)) (v := ?a1_v0) rfl (by kernel_rfl) (by kernel_rfl) (by kernel_rfl) (fun _ _ _ h => h) (Or.inl ⟨by rfl, ?a1_y0⟩) (by assumption) ?a1_r0
    case a1_y0 =>
      intro w hSw
      (try dsimp only at hSw)
      go_simp
      (try with_reducible rfl)
    try simp only [Act.put, List.setIfInBounds_toArray, List.set_cons_zero, List.set_cons_succ]
    refine wpAnyH_take (i := 1) (oi := ({ dst := some 14, op := Op.load 3 (Operand.tmp 13), type := 3, pos := "ref.go:31", after := #[{ on := 0, ground := Ground.data }], guard := none } : Oper)) (v := ?a2_v1) rfl (by kernel_rfl) (by kernel_rfl) (by kernel_rfl) (fun _ _ _ h => h) (Or.inl ⟨by rfl, ?a2_y1⟩) (by assumption) ?a2_r1
    case a2_y1 =>
      intro w hSw
      (try dsimp only at hSw)
      go_simp
      (try with_reducible rfl)
    try simp only [Act.put, List.setIfInBounds_toArray, List.set_cons_zero, List.set_cons_succ]
    refine wpAnyH_take (i := 3) (oi := ({ dst := some 16, op := Op.fieldAddr 38 (Operand.tmp 7) 3, type := 0, pos := "ref.go:31", after := #[], guard := none } : Oper)) (v := ?a3_v3) rfl (by kernel_rfl) (by kernel_rfl) (by kernel_rfl) (fun _ _ _ h => h) (Or.inl ⟨by rfl, ?a3_y3⟩) (by assumption) ?a3_r3
    case a3_y3 =>
      intro w hSw
      (try dsimp only at hSw)
      go_simp
      (try with_reducible rfl)
    try simp only [Act.put, List.setIfInBounds_toArray, List.set_cons_zero, List.set_cons_succ]
    refine wpAnyH_take (i := 4) (oi := ({ dst := some 17, op := Op.load 35 (Operand.tmp 16), type := 35, pos := "ref.go:31", after := #[{ on := 3, ground := Ground.data }], guard := none } : Oper)) (v := ?a4_v4) rfl (by kernel_rfl) (by kernel_rfl) (by kernel_rfl) (fun _ _ _ h => h) (Or.inl ⟨by rfl, ?a4_y4⟩) (by assumption) ?a4_r4
    case a4_y4 =>
      intro w hSw
      (try dsimp only at hSw)
      go_simp
      (try with_reducible rfl)
    try simp only [Act.put, List.setIfInBounds_toArray, List.set_cons_zero, List.set_cons_succ]
    refine wpAnyH_take (i := 5) (oi := ({ dst := some 18, op := Op.call { callee := Callee.builtin Builtin.len, args := #[Operand.tmp 17], argTypes := #[35] }, type := 3, pos := "ref.go:31", after := #[{ on := 4, ground := Ground.data }], guard := none } : Oper)) (v := ?a5_v5) rfl (by kernel_rfl) (by kernel_rfl) (by kernel_rfl) (fun _ _ _ h => h) (Or.inl ⟨by rfl, ?a5_y5⟩) (by assumption) ?a5_r5
    case a5_y5 =>
      intro w hSw
      (try dsimp only at hSw)
      go_simp
      (try with_reducible rfl)
    try simp only [Act.put, List.setIfInBounds_toArray, List.set_cons_zero, List.set_cons_succ]
    refine wpAnyH_ready (rs := [2]) (by kernel_rfl) (by simp) ?_
    refine AllReadyH.cons (o := ({ dst := some 15, op := Op.call { callee := Callee.value (Operand.func 65), args := #[Operand.tmp 14], argTypes := #[3] }, type := 3, pos := "ref.go:31", after := #[{ on := 1, ground := Ground.data }], guard := none } : Oper)) rfl (fun K hKK => ?_) AllReadyH.nil
    go_simp
    refine (HAR.out _).mono ?_
    rintro e w3 ⟨rfl, rfl⟩
    refine hKK.out _ _ (HS.out _ (by first | exact Below.refl _ _ | exact drewD (Below.refl _ _) | exact drewR (Below.refl _ _))) (fun hS2_5 => ?_)
    try simp only [Act.put, List.setIfInBounds_toArray, List.set_cons_zero, List.set_cons_succ]
    refine wpAnyH_take (i := 6) (oi := ({ dst := some 19, op := Op.binOp BinOp.neq 3 (Operand.tmp 15) (Operand.tmp 18) 3, type := 4, pos := "ref.go:31", after := #[{ on := 2, ground := Ground.data }, { on := 5, ground := Ground.data }], guard := none } : Oper)) (v := ?a6_v6) rfl (by kernel_rfl) (by kernel_rfl) (by kernel_rfl) (fun _ _ _ h => h) (Or.inl ⟨by rfl, ?a6_y6⟩) (by assumption) ?a6_r6
    case a6_y6 =>
      intro w hSw
      (try dsimp only at hSw)
      go_simp
      (try with_reducible rfl)
    try simp only [Act.put, List.setIfInBounds_toArray, List.set_cons_zero, List.set_cons_succ]
    refine wpAnyH_take (i := 7) (oi := ({ dst := some 20, op := Op.move (Operand.tmp 19), type := 4, pos := "ref.go:31", after := #[{ on := 6, ground := Ground.data }, { on := 2, ground := Ground.chain }], guard := none } : Oper)) (v := ?a7_v7) rfl (by kernel_rfl) (by kernel_rfl) (by kernel_rfl) (fun _ _ _ h => h) (Or.inl ⟨by rfl, ?a7_y7⟩) (by assumption) ?a7_r7
    case a7_y7 =>
      intro w hSw
      (try dsimp only at hSw)
      go_simp
      (try with_reducible rfl)
    try simp only [Act.put, List.setIfInBounds_toArray, List.set_cons_zero, List.set_cons_succ]
    refine wpAnyH_take (i := 8) (oi := ({ dst := some 21, op := Op.fieldAddr 38 (Operand.tmp 7) 0, type := 0, pos := "ref.go:31", after := #[{ on := 7, ground := Ground.guard }], guard := some (7, false) } : Oper)) rfl (by kernel_rfl) (by kernel_rfl) (by kernel_rfl) (fun _ _ _ h => h) (Or.inr ⟨by rfl, rfl⟩) (by assumption) ?a8_r8
    try simp only [Act.put, List.setIfInBounds_toArray, List.set_cons_zero, List.set_cons_succ]
    refine wpAnyH_take (i := 9) (oi := ({ dst := some 22, op := Op.load 3 (Operand.tmp 21), type := 3, pos := "ref.go:31", after := #[{ on := 8, ground := Ground.data }, { on := 7, ground := Ground.guard }], guard := some (7, false) } : Oper)) rfl (by kernel_rfl) (by kernel_rfl) (by kernel_rfl) (fun _ _ _ h => h) (Or.inr ⟨by rfl, rfl⟩) (by assumption) ?a9_r9
    try simp only [Act.put, List.setIfInBounds_toArray, List.set_cons_zero, List.set_cons_succ]
    refine wpAnyH_take (i := 10) (oi := ({ dst := some 23, op := Op.call { callee := Callee.value (Operand.func 65), args := #[Operand.tmp 22], argTypes := #[3] }, type := 3, pos := "ref.go:31", after := #[{ on := 9, ground := Ground.data }, { on := 7, ground := Ground.chain }, { on := 7, ground := Ground.guard }], guard := some (7, false) } : Oper)) rfl (by kernel_rfl) (by kernel_rfl) (by kernel_rfl) (fun _ _ _ h => h) (Or.inr ⟨by rfl, rfl⟩) (by assumption) ?a10_r10
    try simp only [Act.put, List.setIfInBounds_toArray, List.set_cons_zero, List.set_cons_succ]
    refine wpAnyH_take (i := 11) (oi := ({ dst := some 24, op := Op.binOp BinOp.lss 3 (Operand.tmp 23) (Operand.const (Value.int IntKind.i64 0)) 3, type := 4, pos := "ref.go:31", after := #[{ on := 10, ground := Ground.data }, { on := 7, ground := Ground.guard }], guard := some (7, false) } : Oper)) rfl (by kernel_rfl) (by kernel_rfl) (by kernel_rfl) (fun _ _ _ h => h) (Or.inr ⟨by rfl, rfl⟩) (by assumption) ?a11_r11
    try simp only [Act.put, List.setIfInBounds_toArray, List.set_cons_zero, List.set_cons_succ]
    refine wpAnyH_take (i := 12) (oi := ({ dst := some 25, op := Op.pick (Operand.tmp 20) (Operand.const (Value.bool true)) (Operand.tmp 24), type := 4, pos := "ref.go:31", after := #[{ on := 7, ground := Ground.data }, { on := 11, ground := Ground.data }], guard := none } : Oper)) (v := ?a12_v12) rfl (by kernel_rfl) (by kernel_rfl) (by kernel_rfl) (fun _ _ _ h => h) (Or.inl ⟨by rfl, ?a12_y12⟩) (by assumption) ?a12_r12
    case a12_y12 =>
      intro w hSw
      (try dsimp only at hSw)
      go_simp
      (try with_reducible rfl)
    try simp only [Act.put, List.setIfInBounds_toArray, List.set_cons_zero, List.set_cons_succ]
    refine wpAnyH_take (i := 13) (oi := ({ dst := some 26, op := Op.move (Operand.tmp 25), type := 4, pos := "ref.go:31", after := #[{ on := 12, ground := Ground.data }, { on := 10, ground := Ground.chain }], guard := none } : Oper)) (v := ?a13_v13) rfl (by kernel_rfl) (by kernel_rfl) (by kernel_rfl) (fun _ _ _ h => h) (Or.inl ⟨by rfl, ?a13_y13⟩) (by assumption) ?a13_r13
    case a13_y13 =>
      intro w hSw
      (try dsimp only at hSw)
      go_simp
      (try with_reducible rfl)
    try simp only [Act.put, List.setIfInBounds_toArray, List.set_cons_zero, List.set_cons_succ]
    refine wpAnyH_take (i := 14) (oi := ({ dst := some 27, op := Op.fieldAddr 38 (Operand.tmp 7) 1, type := 0, pos := "ref.go:31", after := #[{ on := 13, ground := Ground.guard }], guard := some (13, false) } : Oper)) rfl (by kernel_rfl) (by kernel_rfl) (by kernel_rfl) (fun _ _ _ h => h) (Or.inr ⟨by rfl, rfl⟩) (by assumption) ?a14_r14
    try simp only [Act.put, List.setIfInBounds_toArray, List.set_cons_zero, List.set_cons_succ]
    refine wpAnyH_take (i := 15) (oi := ({ dst := some 28, op := Op.load 3 (Operand.tmp 27), type := 3, pos := "ref.go:31", after := #[{ on := 14, ground := Ground.data }, { on := 13, ground := Ground.guard }], guard := some (13, false) } : Oper)) rfl (by kernel_rfl) (by kernel_rfl) (by kernel_rfl) (fun _ _ _ h => h) (Or.inr ⟨by rfl, rfl⟩) (by assumption) ?a15_r15
    try simp only [Act.put, List.setIfInBounds_toArray, List.set_cons_zero, List.set_cons_succ]
    refine wpAnyH_take (i := 16) (oi := ({ dst := some 29, op := Op.call { callee := Callee.value (Operand.func 66), args := #[Operand.tmp 28], argTypes := #[3] }, type := 4, pos := "ref.go:31", after := #[{ on := 15, ground := Ground.data }, { on := 13, ground := Ground.chain }, { on := 13, ground := Ground.guard }], guard := some (13, false) } : Oper)) rfl (by kernel_rfl) (by kernel_rfl) (by kernel_rfl) (fun _ _ _ h => h) (Or.inr ⟨by rfl, rfl⟩) (by assumption) ?a16_r16
    try simp only [Act.put, List.setIfInBounds_toArray, List.set_cons_zero, List.set_cons_succ]
    refine wpAnyH_take (i := 17) (oi := ({ dst := some 30, op := Op.unOp UnOp.not 4 (Operand.tmp 29), type := 4, pos := "ref.go:31", after := #[{ on := 16, ground := Ground.data }, { on := 13, ground := Ground.guard }], guard := some (13, false) } : Oper)) rfl (by kernel_rfl) (by kernel_rfl) (by kernel_rfl) (fun _ _ _ h => h) (Or.inr ⟨by rfl, rfl⟩) (by assumption) ?a17_r17
    try simp only [Act.put, List.setIfInBounds_toArray, List.set_cons_zero, List.set_cons_succ]
    refine wpAnyH_take (i := 18) (oi := ({ dst := some 31, op := Op.pick (Operand.tmp 26) (Operand.const (Value.bool true)) (Operand.tmp 30), type := 4, pos := "ref.go:31", after := #[{ on := 13, ground := Ground.data }, { on := 17, ground := Ground.data }], guard := none } : Oper)) (v := ?a18_v18) rfl (by kernel_rfl) (by kernel_rfl) (by kernel_rfl) (fun _ _ _ h => h) (Or.inl ⟨by rfl, ?a18_y18⟩) (by assumption) ?a18_r18
    case a18_y18 =>
      intro w hSw
      (try dsimp only at hSw)
      go_simp
      (try with_reducible rfl)
    try simp only [Act.put, List.setIfInBounds_toArray, List.set_cons_zero, List.set_cons_succ]
    refine wpAnyH_take (i := 19) (oi := ({ dst := some 32, op := Op.move (Operand.tmp 31), type := 4, pos := "ref.go:31", after := #[{ on := 18, ground := Ground.data }, { on := 16, ground := Ground.chain }], guard := none } : Oper)) (v := ?a19_v19) rfl (by kernel_rfl) (by kernel_rfl) (by kernel_rfl) (fun _ _ _ h => h) (Or.inl ⟨by rfl, ?a19_y19⟩) (by assumption) ?a19_r19
    case a19_y19 =>
      intro w hSw
      (try dsimp only at hSw)
      go_simp
      (try with_reducible rfl)
    try simp only [Act.put, List.setIfInBounds_toArray, List.set_cons_zero, List.set_cons_succ]
    refine wpAnyH_take (i := 20) (oi := ({ dst := some 33, op := Op.move (Operand.tmp 2), type := 4, pos := "ref.go:31", after := #[{ on := 19, ground := Ground.guard }], guard := some (19, false) } : Oper)) rfl (by kernel_rfl) (by kernel_rfl) (by kernel_rfl) (fun _ _ _ h => h) (Or.inr ⟨by rfl, rfl⟩) (by assumption) ?a20_r20
    try simp only [Act.put, List.setIfInBounds_toArray, List.set_cons_zero, List.set_cons_succ]
    refine wpAnyH_take (i := 21) (oi := ({ dst := some 34, op := Op.move (Operand.tmp 33), type := 4, pos := "ref.go:31", after := #[{ on := 20, ground := Ground.data }, { on := 19, ground := Ground.chain }, { on := 19, ground := Ground.guard }], guard := some (19, false) } : Oper)) rfl (by kernel_rfl) (by kernel_rfl) (by kernel_rfl) (fun _ _ _ h => h) (Or.inr ⟨by rfl, rfl⟩) (by assumption) ?a21_r21
    try simp only [Act.put, List.setIfInBounds_toArray, List.set_cons_zero, List.set_cons_succ]
    refine wpAnyH_take (i := 22) (oi := ({ dst := some 35, op := Op.fieldAddr 38 (Operand.tmp 7) 2, type := 0, pos := "ref.go:31", after := #[{ on := 21, ground := Ground.guard }], guard := some (21, true) } : Oper)) rfl (by kernel_rfl) (by kernel_rfl) (by kernel_rfl) (fun _ _ _ h => h) (Or.inr ⟨by rfl, rfl⟩) (by assumption) ?a22_r22
    try simp only [Act.put, List.setIfInBounds_toArray, List.set_cons_zero, List.set_cons_succ]
    refine wpAnyH_take (i := 23) (oi := ({ dst := some 36, op := Op.load 3 (Operand.tmp 35), type := 3, pos := "ref.go:31", after := #[{ on := 22, ground := Ground.data }, { on := 21, ground := Ground.guard }], guard := some (21, true) } : Oper)) rfl (by kernel_rfl) (by kernel_rfl) (by kernel_rfl) (fun _ _ _ h => h) (Or.inr ⟨by rfl, rfl⟩) (by assumption) ?a23_r23
    try simp only [Act.put, List.setIfInBounds_toArray, List.set_cons_zero, List.set_cons_succ]
    refine wpAnyH_take (i := 24) (oi := ({ dst := some 37, op := Op.binOp BinOp.neq 3 (Operand.tmp 36) (Operand.const (Value.int IntKind.i64 0)) 3, type := 4, pos := "ref.go:31", after := #[{ on := 23, ground := Ground.data }, { on := 21, ground := Ground.guard }], guard := some (21, true) } : Oper)) rfl (by kernel_rfl) (by kernel_rfl) (by kernel_rfl) (fun _ _ _ h => h) (Or.inr ⟨by rfl, rfl⟩) (by assumption) ?a24_r24
    try simp only [Act.put, List.setIfInBounds_toArray, List.set_cons_zero, List.set_cons_succ]
    refine wpAnyH_take (i := 25) (oi := ({ dst := some 38, op := Op.pick (Operand.tmp 34) (Operand.tmp 37) (Operand.const (Value.bool false)), type := 4, pos := "ref.go:31", after := #[{ on := 21, ground := Ground.data }, { on := 24, ground := Ground.data }, { on := 19, ground := Ground.guard }], guard := some (19, false) } : Oper)) rfl (by kernel_rfl) (by kernel_rfl) (by kernel_rfl) (fun _ _ _ h => h) (Or.inr ⟨by rfl, rfl⟩) (by assumption) ?a25_r25
    try simp only [Act.put, List.setIfInBounds_toArray, List.set_cons_zero, List.set_cons_succ]
    refine wpAnyH_take (i := 26) (oi := ({ dst := some 39, op := Op.pick (Operand.tmp 32) (Operand.const (Value.bool true)) (Operand.tmp 38), type := 4, pos := "ref.go:31", after := #[{ on := 19, ground := Ground.data }, { on := 25, ground := Ground.data }], guard := none } : Oper)) (v := ?a26_v26) rfl (by kernel_rfl) (by kernel_rfl) (by kernel_rfl) (fun _ _ _ h => h) (Or.inl ⟨by rfl, ?a26_y26⟩) (by assumption) ?a26_r26
    case a26_y26 =>
      intro w hSw
      (try dsimp only at hSw)
      go_simp
      (try with_reducible rfl)
    try simp only [Act.put, List.setIfInBounds_toArray, List.set_cons_zero, List.set_cons_succ]
    refine wpAnyH_done (by kernel_rfl) ?_ _
    go_wp2
    go_ret
    exact ⟨ret_b HN.out.symm, by first | exact drewD HB.out | exact drewR HB.out | exact HB.out⟩
end Go.Proofs.YtbohigjfdnnomaaGreatDoor
