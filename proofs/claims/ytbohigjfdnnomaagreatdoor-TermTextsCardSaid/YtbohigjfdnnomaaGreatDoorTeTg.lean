/-
  Nodes compared and copied by the reference.
-/
import Derived.Test.YtbohigjfdnnomaaGreatDoorTeTf
namespace Go.Proofs.YtbohigjfdnnomaaGreatDoor
open Go.RowKit

set_option maxRecDepth 100000 in
set_option maxHeartbeats 4000000 in
theorem sameNode_any {w : World} {x y : Nd} {A B : Option Addr} {n c m d : Nat} (hx : Ints w A n c x.args) (hy : Ints w B m d y.args) :
    Calls Tryz.prog 34 #[.agg #[.int .i64 x.op, .int .i64 x.width, .int .i64 x.flags, .slice A n c, .int .u32 x.imm], .agg #[.int .i64 y.op, .int .i64 y.width, .int .i64 y.flags, .slice B m d, .int .u32 y.imm]] w fun e w' => e = .returned (.bool (decide (x = y))) ∧ Below w.heap.size w w' := by
  obtain ⟨op, wi, fl, args, im⟩ := x
  obtain ⟨op2, wi2, fl2, args2, im2⟩ := y
  have HS := Lib.hid (fun w1 (hb : Below w.heap.size w w1) => sameInts_any (hx.below hb) (hy.below hb))
  clear hx hy
  simp only at HS ⊢
  have hb : Below w.heap.size w ((w.alloc (.cells #[.int .i64 op, .int .i64 wi, .int .i64 fl, .slice A n c, .int .u32 im] 38)).alloc (.cells #[.int .i64 op2, .int .i64 wi2, .int .i64 fl2, .slice B m d, .int .u32 im2] 38)) := ((Below.refl _ _).alloc (Nat.le_refl _) _).alloc (by simp) _
  by_cases h1 : op = op2
  · by_cases h2 : wi = wi2
    · by_cases h3 : fl = fl2
      · by_cases h4 : im = im2
        · subst h1 h2 h3 h4
          have HSS := Lib.hid (HS.out _ hb)
          have HB := Lib.hid hb
          have HD := Lib.hid (show decide (args = args2) = decide ((⟨op, wi, fl, args, im⟩ : Nd) = ⟨op, wi, fl, args2, im⟩) by simp)
          clear hb
          go_enter Tryz.func34, Tryz.ntmps34
          go_wp2_with fail
          refine HSS.out.mono ?_
          rintro e w1 ⟨rfl, hb2⟩
          go_wp2
          go_ret
          exact ⟨by exact ret_b HD.out, HB.out.trans (hb2.mono HB.out.size)⟩
        · have HD := Lib.hid (show false = decide ((⟨op, wi, fl, args, im⟩ : Nd) = ⟨op2, wi2, fl2, args2, im2⟩) by simp [h4])
          have e1 : (op == op2) = true := by simp [h1]
          have e2 : (wi == wi2) = true := by simp [h2]
          have e3 : (fl == fl2) = true := by simp [h3]
          have e4 : (im == im2) = false := by simp [h4]
          have HB := Lib.hid hb
          clear HS hb h1 h2 h3 h4
          go_enter Tryz.func34, Tryz.ntmps34
          go_wp2
          go_ret
          exact ⟨by exact ret_b HD.out, HB.out⟩
      · have HD := Lib.hid (show false = decide ((⟨op, wi, fl, args, im⟩ : Nd) = ⟨op2, wi2, fl2, args2, im2⟩) by simp [h3])
        have e1 : (op == op2) = true := by simp [h1]
        have e2 : (wi == wi2) = true := by simp [h2]
        have e3 : (fl == fl2) = false := by simp [h3]
        have HB := Lib.hid hb
        clear HS hb h1 h2 h3
        go_enter Tryz.func34, Tryz.ntmps34
        go_wp2
        go_ret
        exact ⟨by exact ret_b HD.out, HB.out⟩
    · have HD := Lib.hid (show false = decide ((⟨op, wi, fl, args, im⟩ : Nd) = ⟨op2, wi2, fl2, args2, im2⟩) by simp [h2])
      have e1 : (op == op2) = true := by simp [h1]
      have e2 : (wi == wi2) = false := by simp [h2]
      have HB := Lib.hid hb
      clear HS hb h1 h2
      go_enter Tryz.func34, Tryz.ntmps34
      go_wp2
      go_ret
      exact ⟨by exact ret_b HD.out, HB.out⟩
  · have HD := Lib.hid (show false = decide ((⟨op, wi, fl, args, im⟩ : Nd) = ⟨op2, wi2, fl2, args2, im2⟩) by simp [h1])
    have e1 : (op == op2) = false := by simp [h1]
    have HB := Lib.hid hb
    clear HS hb h1
    go_enter Tryz.func34, Tryz.ntmps34
    go_wp2
    go_ret
    exact ⟨by exact ret_b HD.out, HB.out⟩
set_option maxRecDepth 100000 in
set_option maxHeartbeats 8000000 in
theorem sameNodes_any {w : World} {A A2 : Option Addr} {n n2 c c2 : Nat} {T U : List Nd} (h : Term w A n c T) (h2 : Term w A2 n2 c2 U) :
    Calls Tryz.prog 18 #[.slice A n c, .slice A2 n2 c2] w fun e w' => e = .returned (.bool (decide (T = U))) ∧ Below w.heap.size w w' := by
  have hcap := h.2.1
  have hmax := h.2.2.1
  have hcap2 := h2.2.1
  have hmax2 := h2.2.2.1
  by_cases hlen : n = n2
  · subst hlen
    have H := Lib.hid h
    have H2 := Lib.hid h2
    have HNO := Lib.hid (fun (i : Nat) (hd : T[i]! ≠ U[i]!) => show decide (T = U) = false from decide_eq_false fun e => hd (by rw [e]))
    have HYES := Lib.hid (fun (hd : ∀ i : Nat, i < n → T[i]! = U[i]!) => show decide (T = U) = true from decide_eq_true (List.ext_getElem (by rw [← h.1, h2.1]) fun i h3 h4 => by
      have := hd i (by rw [h.1]; exact h3)
      rw [getElem!_pos T i h3, getElem!_pos U i h4] at this
      exact this))
    generalize decide (T = U) = B at HNO HYES ⊢
    clear h h2
    go_enter Tryz.func18, Tryz.ntmps18
    go_wp2
    go_loopw [5] (fun zi wr => ∃ i : Nat, i ≤ n ∧ zi = .int .i64 (i : Int) ∧ Below w.heap.size w wr ∧ Hid (∀ j, j < i → T[j]! = U[j]!)) (fun zi _ => n - (intOf zi).toNat)
    case atStart => exact ⟨0, by omega, rfl, Below.refl _ _, Lib.hid fun j hj => absurd hj (by omega)⟩
    case round =>
      obtain ⟨i, hi, rfl, hb, HJ⟩ := hrel
      by_cases hlt : i < n
      · obtain ⟨b, off, A', n', c', rfl, hg, ⟨a0, a1, a2, a3, a4⟩, hI, -⟩ := (H.out.below hb).at_ hlt
        obtain ⟨b2, off2, A2', n2', c2', rfl, hg2, ⟨d0, d1, d2, d3, d4⟩, hI2, -⟩ := (H2.out.below hb).at_ hlt
        have HN1 := Lib.hid (HNO.out i)
        have HJ2 := Lib.hid (show T[i]! = U[i]! → ∀ j, j < i + 1 → T[j]! = U[j]! from fun e j hj => by
          by_cases ej : j = i
          · rw [ej]; exact e
          · exact HJ.out j (by omega))
        have HC := Lib.hid (fun w1 (hb1 : Below wr.heap.size wr w1) => sameNode_any (hI.below hb1) (hI2.below hb1))
        generalize T[i]! = x at a0 a1 a2 a3 a4 HN1 HJ2 HC
        generalize U[i]! = y at d0 d1 d2 d3 d4 HN1 HJ2 HC
        clear hI hI2
        by_cases e : x = y
        · have HE := Lib.hid (HJ2.out e)
          have e1 : decide (x = y) = true := decide_eq_true e
          rw [e1] at HC
          clear e e1 HJ2 HN1
          obtain ⟨op, wid, fl, args, imm⟩ := x
          obtain ⟨op2, wid2, fl2, args2, imm2⟩ := y
          simp only at a0 a1 a2 a3 a4 d0 d1 d2 d3 d4 HC
          have HS := Lib.hid (fun U (hU : Below wr.heap.size wr U) => (⟨⟨(hU.cell (p := ⟨b, off + i * 5, none⟩) hg).trans a0, (hU.cell (p := ⟨b, off + i * 5 + 1, none⟩) hg).trans a1, (hU.cell (p := ⟨b, off + i * 5 + 2, none⟩) hg).trans a2, (hU.cell (p := ⟨b, off + i * 5 + 3, none⟩) hg).trans a3, (hU.cell (p := ⟨b, off + i * 5 + 4, none⟩) hg).trans a4⟩, (hU.cell (p := ⟨b2, off2 + i * 5, none⟩) hg2).trans d0, (hU.cell (p := ⟨b2, off2 + i * 5 + 1, none⟩) hg2).trans d1, (hU.cell (p := ⟨b2, off2 + i * 5 + 2, none⟩) hg2).trans d2, (hU.cell (p := ⟨b2, off2 + i * 5 + 3, none⟩) hg2).trans d3, (hU.cell (p := ⟨b2, off2 + i * 5 + 4, none⟩) hg2).trans d4⟩ : (U.cell? ⟨b, off + i * 5, none⟩ = some (.int .i64 op) ∧ U.cell? ⟨b, off + i * 5 + 1, none⟩ = some (.int .i64 wid) ∧ U.cell? ⟨b, off + i * 5 + 2, none⟩ = some (.int .i64 fl) ∧ U.cell? ⟨b, off + i * 5 + 3, none⟩ = some (.slice A' n' c') ∧ U.cell? ⟨b, off + i * 5 + 4, none⟩ = some (.int .u32 imm)) ∧ U.cell? ⟨b2, off2 + i * 5, none⟩ = some (.int .i64 op2) ∧ U.cell? ⟨b2, off2 + i * 5 + 1, none⟩ = some (.int .i64 wid2) ∧ U.cell? ⟨b2, off2 + i * 5 + 2, none⟩ = some (.int .i64 fl2) ∧ U.cell? ⟨b2, off2 + i * 5 + 3, none⟩ = some (.slice A2' n2' c2') ∧ U.cell? ⟨b2, off2 + i * 5 + 4, none⟩ = some (.int .u32 imm2)))
          have HB := Lib.hid hb
          clear hb
          go_wp2_with fail
          refine wp_region_held_drew (S := (fun U => (U.cell? ⟨b, off + i * 5, none⟩ = some (.int .i64 op) ∧ U.cell? ⟨b, off + i * 5 + 1, none⟩ = some (.int .i64 wid) ∧ U.cell? ⟨b, off + i * 5 + 2, none⟩ = some (.int .i64 fl) ∧ U.cell? ⟨b, off + i * 5 + 3, none⟩ = some (.slice A' n' c') ∧ U.cell? ⟨b, off + i * 5 + 4, none⟩ = some (.int .u32 imm)) ∧ U.cell? ⟨b2, off2 + i * 5, none⟩ = some (.int .i64 op2) ∧ U.cell? ⟨b2, off2 + i * 5 + 1, none⟩ = some (.int .i64 wid2) ∧ U.cell? ⟨b2, off2 + i * 5 + 2, none⟩ = some (.int .i64 fl2) ∧ U.cell? ⟨b2, off2 + i * 5 + 3, none⟩ = some (.slice A2' n2' c2') ∧ U.cell? ⟨b2, off2 + i * 5 + 4, none⟩ = some (.int .u32 imm2))) (by kernel_rfl) ?_ (fun hHeld => ?_)
          · exact HS.out _ (by first | exact Below.refl _ _ | exact drewD (Below.refl _ _) | exact drewR (Below.refl _ _) | exact hw3 | exact drewD hw3 | exact drewR hw3)
          refine wpAnyH_take (i := 0) (oi := ({ dst := some 17, op := Op.move (Operand.tmp 0), type := 22, pos := "ref.go:249", after := #[], guard := none } : Oper)) (v := ?a1_v0) rfl (by kernel_rfl) (by kernel_rfl) (by kernel_rfl) (fun _ _ _ h => h) (Or.inl ⟨by rfl, ?a1_y0⟩) (by assumption) ?a1_r0
          case a1_y0 =>
            intro w hSw
            (try dsimp only at hSw)
            go_simp
            (try with_reducible rfl)
          try simp only [Act.put, List.setIfInBounds_toArray, List.set_cons_zero, List.set_cons_succ]
          refine wpAnyH_take (i := 1) (oi := ({ dst := some 18, op := Op.move (Operand.tmp 5), type := 3, pos := "ref.go:249", after := #[], guard := none } : Oper)) (v := ?a2_v1) rfl (by kernel_rfl) (by kernel_rfl) (by kernel_rfl) (fun _ _ _ h => h) (Or.inl ⟨by rfl, ?a2_y1⟩) (by assumption) ?a2_r1
          case a2_y1 =>
            intro w hSw
            (try dsimp only at hSw)
            go_simp
            (try with_reducible rfl)
          try simp only [Act.put, List.setIfInBounds_toArray, List.set_cons_zero, List.set_cons_succ]
          refine wpAnyH_take (i := 2) (oi := ({ dst := some 19, op := Op.indexAddr 22 (Operand.tmp 17) (Operand.tmp 18), type := 0, pos := "ref.go:249", after := #[{ on := 0, ground := Ground.data }, { on := 1, ground := Ground.data }], guard := none } : Oper)) (v := ?a3_v2) rfl (by kernel_rfl) (by kernel_rfl) (by kernel_rfl) (fun _ _ _ h => h) (Or.inl ⟨by rfl, ?a3_y2⟩) (by assumption) ?a3_r2
          case a3_y2 =>
            intro w hSw
            (try dsimp only at hSw)
            go_simp
            (try with_reducible rfl)
          try simp only [Act.put, List.setIfInBounds_toArray, List.set_cons_zero, List.set_cons_succ]
          refine wpAnyH_take (i := 3) (oi := ({ dst := some 20, op := Op.load 38 (Operand.tmp 19), type := 38, pos := "ref.go:249", after := #[{ on := 2, ground := Ground.data }], guard := none } : Oper)) (v := ?a4_v3) rfl (by kernel_rfl) (by kernel_rfl) (by kernel_rfl) (fun _ _ _ h => h) (Or.inl ⟨by rfl, ?a4_y3⟩) (by assumption) ?a4_r3
          case a4_y3 =>
            intro w hSw
            (try dsimp only at hSw)
            go_simp
            (try with_reducible rfl)
          try simp only [Act.put, List.setIfInBounds_toArray, List.set_cons_zero, List.set_cons_succ]
          refine wpAnyH_take (i := 4) (oi := ({ dst := some 21, op := Op.move (Operand.tmp 1), type := 22, pos := "ref.go:249", after := #[], guard := none } : Oper)) (v := ?a5_v4) rfl (by kernel_rfl) (by kernel_rfl) (by kernel_rfl) (fun _ _ _ h => h) (Or.inl ⟨by rfl, ?a5_y4⟩) (by assumption) ?a5_r4
          case a5_y4 =>
            intro w hSw
            (try dsimp only at hSw)
            go_simp
            (try with_reducible rfl)
          try simp only [Act.put, List.setIfInBounds_toArray, List.set_cons_zero, List.set_cons_succ]
          refine wpAnyH_take (i := 5) (oi := ({ dst := some 22, op := Op.move (Operand.tmp 5), type := 3, pos := "ref.go:249", after := #[], guard := none } : Oper)) (v := ?a6_v5) rfl (by kernel_rfl) (by kernel_rfl) (by kernel_rfl) (fun _ _ _ h => h) (Or.inl ⟨by rfl, ?a6_y5⟩) (by assumption) ?a6_r5
          case a6_y5 =>
            intro w hSw
            (try dsimp only at hSw)
            go_simp
            (try with_reducible rfl)
          try simp only [Act.put, List.setIfInBounds_toArray, List.set_cons_zero, List.set_cons_succ]
          refine wpAnyH_take (i := 6) (oi := ({ dst := some 23, op := Op.indexAddr 22 (Operand.tmp 21) (Operand.tmp 22), type := 0, pos := "ref.go:249", after := #[{ on := 4, ground := Ground.data }, { on := 5, ground := Ground.data }], guard := none } : Oper)) (v := ?a7_v6) rfl (by kernel_rfl) (by kernel_rfl) (by kernel_rfl) (fun _ _ _ h => h) (Or.inl ⟨by rfl, ?a7_y6⟩) (by assumption) ?a7_r6
          case a7_y6 =>
            intro w hSw
            (try dsimp only at hSw)
            go_simp
            (try with_reducible rfl)
          try simp only [Act.put, List.setIfInBounds_toArray, List.set_cons_zero, List.set_cons_succ]
          refine wpAnyH_take (i := 7) (oi := ({ dst := some 24, op := Op.load 38 (Operand.tmp 23), type := 38, pos := "ref.go:249", after := #[{ on := 6, ground := Ground.data }], guard := none } : Oper)) (v := ?a8_v7) rfl (by kernel_rfl) (by kernel_rfl) (by kernel_rfl) (fun _ _ _ h => h) (Or.inl ⟨by rfl, ?a8_y7⟩) (by assumption) ?a8_r7
          case a8_y7 =>
            intro w hSw
            (try dsimp only at hSw)
            go_simp
            (try with_reducible rfl)
          try simp only [Act.put, List.setIfInBounds_toArray, List.set_cons_zero, List.set_cons_succ]
          refine wpAnyH_ready (rs := [8]) (by kernel_rfl) (by simp) ?_
          refine AllReadyH.cons (o := ({ dst := some 25, op := Op.call { callee := Callee.value (Operand.func 34), args := #[Operand.tmp 20, Operand.tmp 24], argTypes := #[38, 38] }, type := 4, pos := "ref.go:249", after := #[{ on := 3, ground := Ground.data }, { on := 7, ground := Ground.data }], guard := none } : Oper)) rfl (fun K hKK => ?_) AllReadyH.nil
          go_simp
          refine (HC.out _ (by first | exact Below.refl _ _ | exact drewD (Below.refl _ _) | exact drewR (Below.refl _ _) | exact hw3 | exact drewD hw3 | exact drewR hw3)).mono ?_
          rintro e w3 ⟨rfl, hb3⟩
          have hw3 : Below wr.heap.size wr w3 := ⟨hb3.os, hb3.tape, hb3.output, hb3.size, hb3.block⟩
          refine hKK.out _ _ (HS.out _ (by first | exact Below.refl _ _ | exact drewD (Below.refl _ _) | exact drewR (Below.refl _ _) | exact hw3 | exact drewD hw3 | exact drewR hw3)) (fun hS8_8 => ?_)
          try simp only [Act.put, List.setIfInBounds_toArray, List.set_cons_zero, List.set_cons_succ]
          refine wpAnyH_take (i := 9) (oi := ({ dst := some 26, op := Op.unOp UnOp.not 4 (Operand.tmp 25), type := 4, pos := "ref.go:249", after := #[{ on := 8, ground := Ground.data }], guard := none } : Oper)) (v := ?a9_v9) rfl (by kernel_rfl) (by kernel_rfl) (by kernel_rfl) (fun _ _ _ h => h) (Or.inl ⟨by rfl, ?a9_y9⟩) (by assumption) ?a9_r9
          case a9_y9 =>
            intro w hSw
            (try dsimp only at hSw)
            go_simp
            (try with_reducible rfl)
          try simp only [Act.put, List.setIfInBounds_toArray, List.set_cons_zero, List.set_cons_succ]
          refine wpAnyH_done (by kernel_rfl) ?_ _
          have hb4 := HB.out.trans (hw3.mono HB.out.size)
          clear hw3 hb3 a0 a1 a2 a3 a4 d0 d1 d2 d3 d4
          go_wp2
          go_roundw
          case rel => exact ⟨i + 1, by omega, by go_num, by first | exact hb4 | exact drewD hb4 | exact drewR hb4, HE⟩
          case measure => simp [intOf]; omega
        · have HE := Lib.hid (HN1.out e)
          have e1 : decide (x = y) = false := decide_eq_false e
          rw [e1] at HC
          clear e e1 HJ2 HN1
          obtain ⟨op, wid, fl, args, imm⟩ := x
          obtain ⟨op2, wid2, fl2, args2, imm2⟩ := y
          simp only at a0 a1 a2 a3 a4 d0 d1 d2 d3 d4 HC
          have HS := Lib.hid (fun U (hU : Below wr.heap.size wr U) => (⟨⟨(hU.cell (p := ⟨b, off + i * 5, none⟩) hg).trans a0, (hU.cell (p := ⟨b, off + i * 5 + 1, none⟩) hg).trans a1, (hU.cell (p := ⟨b, off + i * 5 + 2, none⟩) hg).trans a2, (hU.cell (p := ⟨b, off + i * 5 + 3, none⟩) hg).trans a3, (hU.cell (p := ⟨b, off + i * 5 + 4, none⟩) hg).trans a4⟩, (hU.cell (p := ⟨b2, off2 + i * 5, none⟩) hg2).trans d0, (hU.cell (p := ⟨b2, off2 + i * 5 + 1, none⟩) hg2).trans d1, (hU.cell (p := ⟨b2, off2 + i * 5 + 2, none⟩) hg2).trans d2, (hU.cell (p := ⟨b2, off2 + i * 5 + 3, none⟩) hg2).trans d3, (hU.cell (p := ⟨b2, off2 + i * 5 + 4, none⟩) hg2).trans d4⟩ : (U.cell? ⟨b, off + i * 5, none⟩ = some (.int .i64 op) ∧ U.cell? ⟨b, off + i * 5 + 1, none⟩ = some (.int .i64 wid) ∧ U.cell? ⟨b, off + i * 5 + 2, none⟩ = some (.int .i64 fl) ∧ U.cell? ⟨b, off + i * 5 + 3, none⟩ = some (.slice A' n' c') ∧ U.cell? ⟨b, off + i * 5 + 4, none⟩ = some (.int .u32 imm)) ∧ U.cell? ⟨b2, off2 + i * 5, none⟩ = some (.int .i64 op2) ∧ U.cell? ⟨b2, off2 + i * 5 + 1, none⟩ = some (.int .i64 wid2) ∧ U.cell? ⟨b2, off2 + i * 5 + 2, none⟩ = some (.int .i64 fl2) ∧ U.cell? ⟨b2, off2 + i * 5 + 3, none⟩ = some (.slice A2' n2' c2') ∧ U.cell? ⟨b2, off2 + i * 5 + 4, none⟩ = some (.int .u32 imm2)))
          have HB := Lib.hid hb
          clear hb
          go_wp2_with fail
          refine wp_region_held_drew (S := (fun U => (U.cell? ⟨b, off + i * 5, none⟩ = some (.int .i64 op) ∧ U.cell? ⟨b, off + i * 5 + 1, none⟩ = some (.int .i64 wid) ∧ U.cell? ⟨b, off + i * 5 + 2, none⟩ = some (.int .i64 fl) ∧ U.cell? ⟨b, off + i * 5 + 3, none⟩ = some (.slice A' n' c') ∧ U.cell? ⟨b, off + i * 5 + 4, none⟩ = some (.int .u32 imm)) ∧ U.cell? ⟨b2, off2 + i * 5, none⟩ = some (.int .i64 op2) ∧ U.cell? ⟨b2, off2 + i * 5 + 1, none⟩ = some (.int .i64 wid2) ∧ U.cell? ⟨b2, off2 + i * 5 + 2, none⟩ = some (.int .i64 fl2) ∧ U.cell? ⟨b2, off2 + i * 5 + 3, none⟩ = some (.slice A2' n2' c2') ∧ U.cell? ⟨b2, off2 + i * 5 + 4, none⟩ = some (.int .u32 imm2))) (by kernel_rfl) ?_ (fun hHeld => ?_)
          · exact HS.out _ (by first | exact Below.refl _ _ | exact drewD (Below.refl _ _) | exact drewR (Below.refl _ _) | exact hw3 | exact drewD hw3 | exact drewR hw3)
          refine wpAnyH_take (i := 0) (oi := ({ dst := some 17, op := Op.move (Operand.tmp 0), type := 22, pos := "ref.go:249", after := #[], guard := none } : Oper)) (v := ?b1_v0) rfl (by kernel_rfl) (by kernel_rfl) (by kernel_rfl) (fun _ _ _ h => h) (Or.inl ⟨by rfl, ?b1_y0⟩) (by assumption) ?b1_r0
          case b1_y0 =>
            intro w hSw
            (try dsimp only at hSw)
            go_simp
            (try with_reducible rfl)
          try simp only [Act.put, List.setIfInBounds_toArray, List.set_cons_zero, List.set_cons_succ]
          refine wpAnyH_take (i := 1) (oi := ({ dst := some 18, op := Op.move (Operand.tmp 5), type := 3, pos := "ref.go:249", after := #[], guard := none } : Oper)) (v := ?b2_v1) rfl (by kernel_rfl) (by kernel_rfl) (by kernel_rfl) (fun _ _ _ h => h) (Or.inl ⟨by rfl, ?b2_y1⟩) (by assumption) ?b2_r1
          case b2_y1 =>
            intro w hSw
            (try dsimp only at hSw)
            go_simp
            (try with_reducible rfl)
          try simp only [Act.put, List.setIfInBounds_toArray, List.set_cons_zero, List.set_cons_succ]
          refine wpAnyH_take (i := 2) (oi := ({ dst := some 19, op := Op.indexAddr 22 (Operand.tmp 17) (Operand.tmp 18), type := 0, pos := "ref.go:249", after := #[{ on := 0, ground := Ground.data }, { on := 1, ground := Ground.data }], guard := none } : Oper)) (v := ?b3_v2) rfl (by kernel_rfl) (by kernel_rfl) (by kernel_rfl) (fun _ _ _ h => h) (Or.inl ⟨by rfl, ?b3_y2⟩) (by assumption) ?b3_r2
          case b3_y2 =>
            intro w hSw
            (try dsimp only at hSw)
            go_simp
            (try with_reducible rfl)
          try simp only [Act.put, List.setIfInBounds_toArray, List.set_cons_zero, List.set_cons_succ]
          refine wpAnyH_take (i := 3) (oi := ({ dst := some 20, op := Op.load 38 (Operand.tmp 19), type := 38, pos := "ref.go:249", after := #[{ on := 2, ground := Ground.data }], guard := none } : Oper)) (v := ?b4_v3) rfl (by kernel_rfl) (by kernel_rfl) (by kernel_rfl) (fun _ _ _ h => h) (Or.inl ⟨by rfl, ?b4_y3⟩) (by assumption) ?b4_r3
          case b4_y3 =>
            intro w hSw
            (try dsimp only at hSw)
            go_simp
            (try with_reducible rfl)
          try simp only [Act.put, List.setIfInBounds_toArray, List.set_cons_zero, List.set_cons_succ]
          refine wpAnyH_take (i := 4) (oi := ({ dst := some 21, op := Op.move (Operand.tmp 1), type := 22, pos := "ref.go:249", after := #[], guard := none } : Oper)) (v := ?b5_v4) rfl (by kernel_rfl) (by kernel_rfl) (by kernel_rfl) (fun _ _ _ h => h) (Or.inl ⟨by rfl, ?b5_y4⟩) (by assumption) ?b5_r4
          case b5_y4 =>
            intro w hSw
            (try dsimp only at hSw)
            go_simp
            (try with_reducible rfl)
          try simp only [Act.put, List.setIfInBounds_toArray, List.set_cons_zero, List.set_cons_succ]
          refine wpAnyH_take (i := 5) (oi := ({ dst := some 22, op := Op.move (Operand.tmp 5), type := 3, pos := "ref.go:249", after := #[], guard := none } : Oper)) (v := ?b6_v5) rfl (by kernel_rfl) (by kernel_rfl) (by kernel_rfl) (fun _ _ _ h => h) (Or.inl ⟨by rfl, ?b6_y5⟩) (by assumption) ?b6_r5
          case b6_y5 =>
            intro w hSw
            (try dsimp only at hSw)
            go_simp
            (try with_reducible rfl)
          try simp only [Act.put, List.setIfInBounds_toArray, List.set_cons_zero, List.set_cons_succ]
          refine wpAnyH_take (i := 6) (oi := ({ dst := some 23, op := Op.indexAddr 22 (Operand.tmp 21) (Operand.tmp 22), type := 0, pos := "ref.go:249", after := #[{ on := 4, ground := Ground.data }, { on := 5, ground := Ground.data }], guard := none } : Oper)) (v := ?b7_v6) rfl (by kernel_rfl) (by kernel_rfl) (by kernel_rfl) (fun _ _ _ h => h) (Or.inl ⟨by rfl, ?b7_y6⟩) (by assumption) ?b7_r6
          case b7_y6 =>
            intro w hSw
            (try dsimp only at hSw)
            go_simp
            (try with_reducible rfl)
          try simp only [Act.put, List.setIfInBounds_toArray, List.set_cons_zero, List.set_cons_succ]
          refine wpAnyH_take (i := 7) (oi := ({ dst := some 24, op := Op.load 38 (Operand.tmp 23), type := 38, pos := "ref.go:249", after := #[{ on := 6, ground := Ground.data }], guard := none } : Oper)) (v := ?b8_v7) rfl (by kernel_rfl) (by kernel_rfl) (by kernel_rfl) (fun _ _ _ h => h) (Or.inl ⟨by rfl, ?b8_y7⟩) (by assumption) ?b8_r7
          case b8_y7 =>
            intro w hSw
            (try dsimp only at hSw)
            go_simp
            (try with_reducible rfl)
          try simp only [Act.put, List.setIfInBounds_toArray, List.set_cons_zero, List.set_cons_succ]
          refine wpAnyH_ready (rs := [8]) (by kernel_rfl) (by simp) ?_
          refine AllReadyH.cons (o := ({ dst := some 25, op := Op.call { callee := Callee.value (Operand.func 34), args := #[Operand.tmp 20, Operand.tmp 24], argTypes := #[38, 38] }, type := 4, pos := "ref.go:249", after := #[{ on := 3, ground := Ground.data }, { on := 7, ground := Ground.data }], guard := none } : Oper)) rfl (fun K hKK => ?_) AllReadyH.nil
          go_simp
          refine (HC.out _ (by first | exact Below.refl _ _ | exact drewD (Below.refl _ _) | exact drewR (Below.refl _ _) | exact hw3 | exact drewD hw3 | exact drewR hw3)).mono ?_
          rintro e w3 ⟨rfl, hb3⟩
          have hw3 : Below wr.heap.size wr w3 := ⟨hb3.os, hb3.tape, hb3.output, hb3.size, hb3.block⟩
          refine hKK.out _ _ (HS.out _ (by first | exact Below.refl _ _ | exact drewD (Below.refl _ _) | exact drewR (Below.refl _ _) | exact hw3 | exact drewD hw3 | exact drewR hw3)) (fun hS8_8 => ?_)
          try simp only [Act.put, List.setIfInBounds_toArray, List.set_cons_zero, List.set_cons_succ]
          refine wpAnyH_take (i := 9) (oi := ({ dst := some 26, op := Op.unOp UnOp.not 4 (Operand.tmp 25), type := 4, pos := "ref.go:249", after := #[{ on := 8, ground := Ground.data }], guard := none } : Oper)) (v := ?b9_v9) rfl (by kernel_rfl) (by kernel_rfl) (by kernel_rfl) (fun _ _ _ h => h) (Or.inl ⟨by rfl, ?b9_y9⟩) (by assumption) ?b9_r9
          case b9_y9 =>
            intro w hSw
            (try dsimp only at hSw)
            go_simp
            (try with_reducible rfl)
          try simp only [Act.put, List.setIfInBounds_toArray, List.set_cons_zero, List.set_cons_succ]
          refine wpAnyH_done (by kernel_rfl) ?_ _
          have hb4 := HB.out.trans (hw3.mono HB.out.size)
          clear hw3 hb3 a0 a1 a2 a3 a4 d0 d1 d2 d3 d4
          go_wp2
          exact bodyPost_ret (results_tmp rfl _ _ _) rfl ⟨by exact ret_b HE.out.symm, by first | exact hb4 | exact drewD hb4 | exact drewR hb4⟩
      · obtain rfl : i = n := by omega
        have HE := Lib.hid (HYES.out HJ.out)
        go_wp2
        go_ret
        exact ⟨ret_b HE.out.symm, hb⟩
  · have HE := Lib.hid (show decide (T = U) = false from decide_eq_false fun e => hlen (by rw [h.1, h2.1, e]))
    have e1 : (((n : Nat) : Int) != ((n2 : Nat) : Int)) = true := by simp; omega
    clear h h2 hlen
    go_enter Tryz.func18, Tryz.ntmps18
    go_wp2
    go_ret
    exact ⟨ret_b HE.out.symm, Below.refl _ _⟩
end Go.Proofs.YtbohigjfdnnomaaGreatDoor
