/-
  Whether an instruction is one of a program.
-/
import Derived.Test.YtjlacdnkncgpaaaTmA
namespace Go.Proofs.Ytjlacdnkncgpaaa
open Go.RowKit

theorem isField_at (x lim : Int) (has B : Bool) (w : World) (hl : 0 < lim) (h : fldB x lim has = B) : Calls Try.prog 58 #[.int .i64 x, .int .i64 lim, .bool has] w fun e w' => e = .returned (.bool B) ∧ w = w' := by
  subst h
  exact isField_any x lim has w hl
theorem cells6 {W : World} {P : Nat} {a b c d e f : Value} {t : TypeId} {fr : Nat × Nat} (h : W.heap[P]? = some (.cells #[a, b, c, d, e, f] t fr)) :
    W.cell? ⟨P, 0, none⟩ = some a ∧ W.cell? ⟨P, 1, none⟩ = some b ∧ W.cell? ⟨P, 2, none⟩ = some c ∧ W.cell? ⟨P, 3, none⟩ = some d ∧ W.cell? ⟨P, 4, none⟩ = some e ∧ W.cell? ⟨P, 5, none⟩ = some f := by
  refine ⟨?_, ?_, ?_, ?_, ?_, ?_⟩ <;> simp [World.cell?, h]
def codB (x : Cod) : Bool := if x.op < 0 ∨ 27 < x.op ∨ (x.imm ≠ 0 ∧ (shF x.op).imm = false) then false else fldB x.d 200 (shF x.op).d && (((shF x.op).place && decide (x.a = -1)) || fldB x.a 200 (shF x.op).a) && fldB x.b 200 (shF x.op).b && fldB x.to 400 (shF x.op).to
set_option maxRecDepth 100000 in
set_option maxHeartbeats 8000000 in
theorem isCode_any (x : Cod) (w : World) : Calls Try.prog 48 #[aggC x, .int .i64 200, .int .i64 400] w fun e w' => e = .returned (.bool (codB x)) ∧ Below w.heap.size w w' := by
  obtain ⟨op, d, a, b, imm, to⟩ := x
  have HS := Lib.hid (fun w1 => shapeOf_any op w1)
  have HC := Lib.hid (show codB ⟨op, d, a, b, imm, to⟩ = if op < 0 ∨ 27 < op ∨ (imm ≠ 0 ∧ (shF op).imm = false) then false else fldB d 200 (shF op).d && (((shF op).place && decide (a = -1)) || fldB a 200 (shF op).a) && fldB b 200 (shF op).b && fldB to 400 (shF op).to from rfl)
  generalize codB ⟨op, d, a, b, imm, to⟩ = R at HC ⊢
  generalize shF op = S at HS HC
  obtain ⟨sd, sa, sb, si, st, sp⟩ := S
  simp only at HC
  by_cases h1 : op < 0
  · have HR := Lib.hid (show R = false from HC.out.trans (by rw [if_pos (.inl h1)]))
    clear HC
    go_enter Try.func48, Try.ntmps48
    go_wp2_with fail
    have hb0 : Below w.heap.size w (w.alloc (.cells #[.int .i64 op, .int .i64 d, .int .i64 a, .int .i64 b, .int .u32 imm, .int .i64 to] 47)) := (Below.refl _ _).alloc (Nat.le_refl _) _
    have hx := heap_alloc_new w (.cells #[.int .i64 op, .int .i64 d, .int .i64 a, .int .i64 b, .int .u32 imm, .int .i64 to] 47)
    generalize World.alloc w _ = W0 at hb0 hx ⊢
    refine (HS.out W0).mono ?_
    rintro e w1 ⟨rfl, hb1⟩
    have hx1 := (heap_alloc_old w1 (.cells #[.bool sd, .bool sa, .bool sb, .bool si, .bool st, .bool sp] 66) (lt_of_block ((hb1.block _ (lt_of_block hx)).trans hx))).trans ((hb1.block _ (lt_of_block hx)).trans hx)
    have hs1 := heap_alloc_new w1 (.cells #[.bool sd, .bool sa, .bool sb, .bool si, .bool st, .bool sp] 66)
    have hb2 : Below w.heap.size w (w1.alloc (.cells #[.bool sd, .bool sa, .bool sb, .bool si, .bool st, .bool sp] 66)) := (hb0.trans (hb1.mono hb0.size)).alloc (hb0.trans (hb1.mono hb0.size)).size _
    obtain ⟨x0, x1, x2, x3, x4, x5⟩ := cells6 hx1
    obtain ⟨s0, s1, s2, s3, s4, s5⟩ := cells6 hs1
    clear hx hx1 hs1 hb0 hb1 HS
    go_wp2_with (fail)
    go_ret
    exact ⟨ret_b HR.out.symm, hb2⟩
  by_cases h2 : 27 < op
  · have HR := Lib.hid (show R = false from HC.out.trans (by rw [if_pos (.inr (.inl h2))]))
    clear HC
    go_enter Try.func48, Try.ntmps48
    go_wp2_with fail
    have hb0 : Below w.heap.size w (w.alloc (.cells #[.int .i64 op, .int .i64 d, .int .i64 a, .int .i64 b, .int .u32 imm, .int .i64 to] 47)) := (Below.refl _ _).alloc (Nat.le_refl _) _
    have hx := heap_alloc_new w (.cells #[.int .i64 op, .int .i64 d, .int .i64 a, .int .i64 b, .int .u32 imm, .int .i64 to] 47)
    generalize World.alloc w _ = W0 at hb0 hx ⊢
    refine (HS.out W0).mono ?_
    rintro e w1 ⟨rfl, hb1⟩
    have hx1 := (heap_alloc_old w1 (.cells #[.bool sd, .bool sa, .bool sb, .bool si, .bool st, .bool sp] 66) (lt_of_block ((hb1.block _ (lt_of_block hx)).trans hx))).trans ((hb1.block _ (lt_of_block hx)).trans hx)
    have hs1 := heap_alloc_new w1 (.cells #[.bool sd, .bool sa, .bool sb, .bool si, .bool st, .bool sp] 66)
    have hb2 : Below w.heap.size w (w1.alloc (.cells #[.bool sd, .bool sa, .bool sb, .bool si, .bool st, .bool sp] 66)) := (hb0.trans (hb1.mono hb0.size)).alloc (hb0.trans (hb1.mono hb0.size)).size _
    obtain ⟨x0, x1, x2, x3, x4, x5⟩ := cells6 hx1
    obtain ⟨s0, s1, s2, s3, s4, s5⟩ := cells6 hs1
    clear hx hx1 hs1 hb0 hb1 HS
    go_wp2_with (fail)
    go_ret
    exact ⟨ret_b HR.out.symm, hb2⟩
  by_cases h3 : imm = 0
  · subst h3
    have hn : ¬ (op < 0 ∨ 27 < op ∨ ((0 : Int) ≠ 0 ∧ si = false)) := by simp; omega
    cases hD : fldB d 200 sd
    · have HD := Lib.hid hD
      have HR := Lib.hid (show R = false from HC.out.trans (by rw [if_neg hn, hD]; rfl))
      clear HC
      go_enter Try.func48, Try.ntmps48
      go_wp2_with fail
      have hb0 : Below w.heap.size w (w.alloc (.cells #[.int .i64 op, .int .i64 d, .int .i64 a, .int .i64 b, .int .u32 0, .int .i64 to] 47)) := (Below.refl _ _).alloc (Nat.le_refl _) _
      have hx := heap_alloc_new w (.cells #[.int .i64 op, .int .i64 d, .int .i64 a, .int .i64 b, .int .u32 0, .int .i64 to] 47)
      generalize World.alloc w _ = W0 at hb0 hx ⊢
      refine (HS.out W0).mono ?_
      rintro e w1 ⟨rfl, hb1⟩
      have hx1 := (heap_alloc_old w1 (.cells #[.bool sd, .bool sa, .bool sb, .bool si, .bool st, .bool sp] 66) (lt_of_block ((hb1.block _ (lt_of_block hx)).trans hx))).trans ((hb1.block _ (lt_of_block hx)).trans hx)
      have hs1 := heap_alloc_new w1 (.cells #[.bool sd, .bool sa, .bool sb, .bool si, .bool st, .bool sp] 66)
      have hb2 : Below w.heap.size w (w1.alloc (.cells #[.bool sd, .bool sa, .bool sb, .bool si, .bool st, .bool sp] 66)) := (hb0.trans (hb1.mono hb0.size)).alloc (hb0.trans (hb1.mono hb0.size)).size _
      obtain ⟨x0, x1, x2, x3, x4, x5⟩ := cells6 hx1
      obtain ⟨s0, s1, s2, s3, s4, s5⟩ := cells6 hs1
      clear hx hx1 hs1 hb0 hb1 HS
      go_wp2_with (first | (go_at_call 58; ((with_reducible refine (isField_at d 200 sd false _ (by omega) HD.out).mono ?_); rintro e w' ⟨rfl, rfl⟩)))
      go_ret
      exact ⟨ret_b HR.out.symm, hb2⟩
    · have HD := Lib.hid hD
      by_cases hP : sp = true ∧ a = -1
      · obtain ⟨rfl, rfl⟩ := hP
        cases hB : fldB b 200 sb
        · have HB := Lib.hid hB
          have HR := Lib.hid (show R = false from HC.out.trans (by rw [if_neg hn, hD, hB]; simp))
          clear HC
          go_enter Try.func48, Try.ntmps48
          go_wp2_with fail
          have hb0 : Below w.heap.size w (w.alloc (.cells #[.int .i64 op, .int .i64 d, .int .i64 (-1), .int .i64 b, .int .u32 0, .int .i64 to] 47)) := (Below.refl _ _).alloc (Nat.le_refl _) _
          have hx := heap_alloc_new w (.cells #[.int .i64 op, .int .i64 d, .int .i64 (-1), .int .i64 b, .int .u32 0, .int .i64 to] 47)
          generalize World.alloc w _ = W0 at hb0 hx ⊢
          refine (HS.out W0).mono ?_
          rintro e w1 ⟨rfl, hb1⟩
          have hx1 := (heap_alloc_old w1 (.cells #[.bool sd, .bool sa, .bool sb, .bool si, .bool st, .bool true] 66) (lt_of_block ((hb1.block _ (lt_of_block hx)).trans hx))).trans ((hb1.block _ (lt_of_block hx)).trans hx)
          have hs1 := heap_alloc_new w1 (.cells #[.bool sd, .bool sa, .bool sb, .bool si, .bool st, .bool true] 66)
          have hb2 : Below w.heap.size w (w1.alloc (.cells #[.bool sd, .bool sa, .bool sb, .bool si, .bool st, .bool true] 66)) := (hb0.trans (hb1.mono hb0.size)).alloc (hb0.trans (hb1.mono hb0.size)).size _
          obtain ⟨x0, x1, x2, x3, x4, x5⟩ := cells6 hx1
          obtain ⟨s0, s1, s2, s3, s4, s5⟩ := cells6 hs1
          clear hx hx1 hs1 hb0 hb1 HS
          go_wp2_with (first | (go_at_call 58; ((with_reducible refine (isField_at d 200 sd true _ (by omega) HD.out).mono ?_); rintro e w' ⟨rfl, rfl⟩)) | (go_at_call 58; ((with_reducible refine (isField_at b 200 sb false _ (by omega) HB.out).mono ?_); rintro e w' ⟨rfl, rfl⟩)))
          go_ret
          exact ⟨ret_b HR.out.symm, hb2⟩
        · have HB := Lib.hid hB
          obtain ⟨BT, hBT⟩ : ∃ BT, fldB to 400 st = BT := ⟨_, rfl⟩
          have HT := Lib.hid hBT
          clear hBT
          have HR := Lib.hid (show R = BT from HC.out.trans (by rw [if_neg hn, hD, hB, HT.out]; simp))
          clear HC
          go_enter Try.func48, Try.ntmps48
          go_wp2_with fail
          have hb0 : Below w.heap.size w (w.alloc (.cells #[.int .i64 op, .int .i64 d, .int .i64 (-1), .int .i64 b, .int .u32 0, .int .i64 to] 47)) := (Below.refl _ _).alloc (Nat.le_refl _) _
          have hx := heap_alloc_new w (.cells #[.int .i64 op, .int .i64 d, .int .i64 (-1), .int .i64 b, .int .u32 0, .int .i64 to] 47)
          generalize World.alloc w _ = W0 at hb0 hx ⊢
          refine (HS.out W0).mono ?_
          rintro e w1 ⟨rfl, hb1⟩
          have hx1 := (heap_alloc_old w1 (.cells #[.bool sd, .bool sa, .bool sb, .bool si, .bool st, .bool true] 66) (lt_of_block ((hb1.block _ (lt_of_block hx)).trans hx))).trans ((hb1.block _ (lt_of_block hx)).trans hx)
          have hs1 := heap_alloc_new w1 (.cells #[.bool sd, .bool sa, .bool sb, .bool si, .bool st, .bool true] 66)
          have hb2 : Below w.heap.size w (w1.alloc (.cells #[.bool sd, .bool sa, .bool sb, .bool si, .bool st, .bool true] 66)) := (hb0.trans (hb1.mono hb0.size)).alloc (hb0.trans (hb1.mono hb0.size)).size _
          obtain ⟨x0, x1, x2, x3, x4, x5⟩ := cells6 hx1
          obtain ⟨s0, s1, s2, s3, s4, s5⟩ := cells6 hs1
          clear hx hx1 hs1 hb0 hb1 HS
          go_wp2_with (first | (go_at_call 58; ((with_reducible refine (isField_at d 200 sd true _ (by omega) HD.out).mono ?_); rintro e w' ⟨rfl, rfl⟩)) | (go_at_call 58; ((with_reducible refine (isField_at b 200 sb true _ (by omega) HB.out).mono ?_); rintro e w' ⟨rfl, rfl⟩)) | (go_at_call 58; ((with_reducible refine (isField_at to 400 st BT _ (by omega) HT.out).mono ?_); rintro e w' ⟨rfl, rfl⟩)))
          go_ret
          exact ⟨ret_b HR.out.symm, hb2⟩
      · have HQ : (sp && decide (a = -1)) = false := by
          cases sp
          · rfl
          · simp; intro h; exact hP ⟨rfl, h⟩
        cases hA : fldB a 200 sa
        · have HA := Lib.hid hA
          cases sp
          · clear hP
            have HR := Lib.hid (show R = false from HC.out.trans (by rw [if_neg hn, hD, HQ, hA]; rfl))
            clear HC
            go_enter Try.func48, Try.ntmps48
            go_wp2_with fail
            have hb0 : Below w.heap.size w (w.alloc (.cells #[.int .i64 op, .int .i64 d, .int .i64 a, .int .i64 b, .int .u32 0, .int .i64 to] 47)) := (Below.refl _ _).alloc (Nat.le_refl _) _
            have hx := heap_alloc_new w (.cells #[.int .i64 op, .int .i64 d, .int .i64 a, .int .i64 b, .int .u32 0, .int .i64 to] 47)
            generalize World.alloc w _ = W0 at hb0 hx ⊢
            refine (HS.out W0).mono ?_
            rintro e w1 ⟨rfl, hb1⟩
            have hx1 := (heap_alloc_old w1 (.cells #[.bool sd, .bool sa, .bool sb, .bool si, .bool st, .bool false] 66) (lt_of_block ((hb1.block _ (lt_of_block hx)).trans hx))).trans ((hb1.block _ (lt_of_block hx)).trans hx)
            have hs1 := heap_alloc_new w1 (.cells #[.bool sd, .bool sa, .bool sb, .bool si, .bool st, .bool false] 66)
            have hb2 : Below w.heap.size w (w1.alloc (.cells #[.bool sd, .bool sa, .bool sb, .bool si, .bool st, .bool false] 66)) := (hb0.trans (hb1.mono hb0.size)).alloc (hb0.trans (hb1.mono hb0.size)).size _
            obtain ⟨x0, x1, x2, x3, x4, x5⟩ := cells6 hx1
            obtain ⟨s0, s1, s2, s3, s4, s5⟩ := cells6 hs1
            clear hx hx1 hs1 hb0 hb1 HS
            go_wp2_with (first | (go_at_call 58; ((with_reducible refine (isField_at d 200 sd true _ (by omega) HD.out).mono ?_); rintro e w' ⟨rfl, rfl⟩)) | (go_at_call 58; ((with_reducible refine (isField_at a 200 sa false _ (by omega) HA.out).mono ?_); rintro e w' ⟨rfl, rfl⟩)))
            go_ret
            exact ⟨ret_b HR.out.symm, hb2⟩
          · have da : (a == -1) = false := by simp; intro h; exact hP ⟨rfl, h⟩
            clear hP
            have HR := Lib.hid (show R = false from HC.out.trans (by rw [if_neg hn, hD, HQ, hA]; rfl))
            clear HC
            go_enter Try.func48, Try.ntmps48
            go_wp2_with fail
            have hb0 : Below w.heap.size w (w.alloc (.cells #[.int .i64 op, .int .i64 d, .int .i64 a, .int .i64 b, .int .u32 0, .int .i64 to] 47)) := (Below.refl _ _).alloc (Nat.le_refl _) _
            have hx := heap_alloc_new w (.cells #[.int .i64 op, .int .i64 d, .int .i64 a, .int .i64 b, .int .u32 0, .int .i64 to] 47)
            generalize World.alloc w _ = W0 at hb0 hx ⊢
            refine (HS.out W0).mono ?_
            rintro e w1 ⟨rfl, hb1⟩
            have hx1 := (heap_alloc_old w1 (.cells #[.bool sd, .bool sa, .bool sb, .bool si, .bool st, .bool true] 66) (lt_of_block ((hb1.block _ (lt_of_block hx)).trans hx))).trans ((hb1.block _ (lt_of_block hx)).trans hx)
            have hs1 := heap_alloc_new w1 (.cells #[.bool sd, .bool sa, .bool sb, .bool si, .bool st, .bool true] 66)
            have hb2 : Below w.heap.size w (w1.alloc (.cells #[.bool sd, .bool sa, .bool sb, .bool si, .bool st, .bool true] 66)) := (hb0.trans (hb1.mono hb0.size)).alloc (hb0.trans (hb1.mono hb0.size)).size _
            obtain ⟨x0, x1, x2, x3, x4, x5⟩ := cells6 hx1
            obtain ⟨s0, s1, s2, s3, s4, s5⟩ := cells6 hs1
            clear hx hx1 hs1 hb0 hb1 HS
            go_wp2_with (first | (go_at_call 58; ((with_reducible refine (isField_at d 200 sd true _ (by omega) HD.out).mono ?_); rintro e w' ⟨rfl, rfl⟩)) | (go_at_call 58; ((with_reducible refine (isField_at a 200 sa false _ (by omega) HA.out).mono ?_); rintro e w' ⟨rfl, rfl⟩)))
            go_ret
            exact ⟨ret_b HR.out.symm, hb2⟩
        · have HA := Lib.hid hA
          cases hB : fldB b 200 sb
          · have HB := Lib.hid hB
            cases sp
            · clear hP
              have HR := Lib.hid (show R = false from HC.out.trans (by rw [if_neg hn, hD, HQ, hA, hB]; rfl))
              clear HC
              go_enter Try.func48, Try.ntmps48
              go_wp2_with fail
              have hb0 : Below w.heap.size w (w.alloc (.cells #[.int .i64 op, .int .i64 d, .int .i64 a, .int .i64 b, .int .u32 0, .int .i64 to] 47)) := (Below.refl _ _).alloc (Nat.le_refl _) _
              have hx := heap_alloc_new w (.cells #[.int .i64 op, .int .i64 d, .int .i64 a, .int .i64 b, .int .u32 0, .int .i64 to] 47)
              generalize World.alloc w _ = W0 at hb0 hx ⊢
              refine (HS.out W0).mono ?_
              rintro e w1 ⟨rfl, hb1⟩
              have hx1 := (heap_alloc_old w1 (.cells #[.bool sd, .bool sa, .bool sb, .bool si, .bool st, .bool false] 66) (lt_of_block ((hb1.block _ (lt_of_block hx)).trans hx))).trans ((hb1.block _ (lt_of_block hx)).trans hx)
              have hs1 := heap_alloc_new w1 (.cells #[.bool sd, .bool sa, .bool sb, .bool si, .bool st, .bool false] 66)
              have hb2 : Below w.heap.size w (w1.alloc (.cells #[.bool sd, .bool sa, .bool sb, .bool si, .bool st, .bool false] 66)) := (hb0.trans (hb1.mono hb0.size)).alloc (hb0.trans (hb1.mono hb0.size)).size _
              obtain ⟨x0, x1, x2, x3, x4, x5⟩ := cells6 hx1
              obtain ⟨s0, s1, s2, s3, s4, s5⟩ := cells6 hs1
              clear hx hx1 hs1 hb0 hb1 HS
              go_wp2_with (first | (go_at_call 58; ((with_reducible refine (isField_at d 200 sd true _ (by omega) HD.out).mono ?_); rintro e w' ⟨rfl, rfl⟩)) | (go_at_call 58; ((with_reducible refine (isField_at a 200 sa true _ (by omega) HA.out).mono ?_); rintro e w' ⟨rfl, rfl⟩)) | (go_at_call 58; ((with_reducible refine (isField_at b 200 sb false _ (by omega) HB.out).mono ?_); rintro e w' ⟨rfl, rfl⟩)))
              go_ret
              exact ⟨ret_b HR.out.symm, hb2⟩
            · have da : (a == -1) = false := by simp; intro h; exact hP ⟨rfl, h⟩
              clear hP
              have HR := Lib.hid (show R = false from HC.out.trans (by rw [if_neg hn, hD, HQ, hA, hB]; rfl))
              clear HC
              go_enter Try.func48, Try.ntmps48
              go_wp2_with fail
              have hb0 : Below w.heap.size w (w.alloc (.cells #[.int .i64 op, .int .i64 d, .int .i64 a, .int .i64 b, .int .u32 0, .int .i64 to] 47)) := (Below.refl _ _).alloc (Nat.le_refl _) _
              have hx := heap_alloc_new w (.cells #[.int .i64 op, .int .i64 d, .int .i64 a, .int .i64 b, .int .u32 0, .int .i64 to] 47)
              generalize World.alloc w _ = W0 at hb0 hx ⊢
              refine (HS.out W0).mono ?_
              rintro e w1 ⟨rfl, hb1⟩
              have hx1 := (heap_alloc_old w1 (.cells #[.bool sd, .bool sa, .bool sb, .bool si, .bool st, .bool true] 66) (lt_of_block ((hb1.block _ (lt_of_block hx)).trans hx))).trans ((hb1.block _ (lt_of_block hx)).trans hx)
              have hs1 := heap_alloc_new w1 (.cells #[.bool sd, .bool sa, .bool sb, .bool si, .bool st, .bool true] 66)
              have hb2 : Below w.heap.size w (w1.alloc (.cells #[.bool sd, .bool sa, .bool sb, .bool si, .bool st, .bool true] 66)) := (hb0.trans (hb1.mono hb0.size)).alloc (hb0.trans (hb1.mono hb0.size)).size _
              obtain ⟨x0, x1, x2, x3, x4, x5⟩ := cells6 hx1
              obtain ⟨s0, s1, s2, s3, s4, s5⟩ := cells6 hs1
              clear hx hx1 hs1 hb0 hb1 HS
              go_wp2_with (first | (go_at_call 58; ((with_reducible refine (isField_at d 200 sd true _ (by omega) HD.out).mono ?_); rintro e w' ⟨rfl, rfl⟩)) | (go_at_call 58; ((with_reducible refine (isField_at a 200 sa true _ (by omega) HA.out).mono ?_); rintro e w' ⟨rfl, rfl⟩)) | (go_at_call 58; ((with_reducible refine (isField_at b 200 sb false _ (by omega) HB.out).mono ?_); rintro e w' ⟨rfl, rfl⟩)))
              go_ret
              exact ⟨ret_b HR.out.symm, hb2⟩
          · have HB := Lib.hid hB
            obtain ⟨BT, hBT⟩ : ∃ BT, fldB to 400 st = BT := ⟨_, rfl⟩
            have HT := Lib.hid hBT
            clear hBT
            cases sp
            · clear hP
              have HR := Lib.hid (show R = BT from HC.out.trans (by rw [if_neg hn, hD, HQ, hA, hB, HT.out]; simp))
              clear HC
              go_enter Try.func48, Try.ntmps48
              go_wp2_with fail
              have hb0 : Below w.heap.size w (w.alloc (.cells #[.int .i64 op, .int .i64 d, .int .i64 a, .int .i64 b, .int .u32 0, .int .i64 to] 47)) := (Below.refl _ _).alloc (Nat.le_refl _) _
              have hx := heap_alloc_new w (.cells #[.int .i64 op, .int .i64 d, .int .i64 a, .int .i64 b, .int .u32 0, .int .i64 to] 47)
              generalize World.alloc w _ = W0 at hb0 hx ⊢
              refine (HS.out W0).mono ?_
              rintro e w1 ⟨rfl, hb1⟩
              have hx1 := (heap_alloc_old w1 (.cells #[.bool sd, .bool sa, .bool sb, .bool si, .bool st, .bool false] 66) (lt_of_block ((hb1.block _ (lt_of_block hx)).trans hx))).trans ((hb1.block _ (lt_of_block hx)).trans hx)
              have hs1 := heap_alloc_new w1 (.cells #[.bool sd, .bool sa, .bool sb, .bool si, .bool st, .bool false] 66)
              have hb2 : Below w.heap.size w (w1.alloc (.cells #[.bool sd, .bool sa, .bool sb, .bool si, .bool st, .bool false] 66)) := (hb0.trans (hb1.mono hb0.size)).alloc (hb0.trans (hb1.mono hb0.size)).size _
              obtain ⟨x0, x1, x2, x3, x4, x5⟩ := cells6 hx1
              obtain ⟨s0, s1, s2, s3, s4, s5⟩ := cells6 hs1
              clear hx hx1 hs1 hb0 hb1 HS
              go_wp2_with (first | (go_at_call 58; ((with_reducible refine (isField_at d 200 sd true _ (by omega) HD.out).mono ?_); rintro e w' ⟨rfl, rfl⟩)) | (go_at_call 58; ((with_reducible refine (isField_at a 200 sa true _ (by omega) HA.out).mono ?_); rintro e w' ⟨rfl, rfl⟩)) | (go_at_call 58; ((with_reducible refine (isField_at b 200 sb true _ (by omega) HB.out).mono ?_); rintro e w' ⟨rfl, rfl⟩)) | (go_at_call 58; ((with_reducible refine (isField_at to 400 st BT _ (by omega) HT.out).mono ?_); rintro e w' ⟨rfl, rfl⟩)))
              go_ret
              exact ⟨ret_b HR.out.symm, hb2⟩
            · have da : (a == -1) = false := by simp; intro h; exact hP ⟨rfl, h⟩
              clear hP
              have HR := Lib.hid (show R = BT from HC.out.trans (by rw [if_neg hn, hD, HQ, hA, hB, HT.out]; simp))
              clear HC
              go_enter Try.func48, Try.ntmps48
              go_wp2_with fail
              have hb0 : Below w.heap.size w (w.alloc (.cells #[.int .i64 op, .int .i64 d, .int .i64 a, .int .i64 b, .int .u32 0, .int .i64 to] 47)) := (Below.refl _ _).alloc (Nat.le_refl _) _
              have hx := heap_alloc_new w (.cells #[.int .i64 op, .int .i64 d, .int .i64 a, .int .i64 b, .int .u32 0, .int .i64 to] 47)
              generalize World.alloc w _ = W0 at hb0 hx ⊢
              refine (HS.out W0).mono ?_
              rintro e w1 ⟨rfl, hb1⟩
              have hx1 := (heap_alloc_old w1 (.cells #[.bool sd, .bool sa, .bool sb, .bool si, .bool st, .bool true] 66) (lt_of_block ((hb1.block _ (lt_of_block hx)).trans hx))).trans ((hb1.block _ (lt_of_block hx)).trans hx)
              have hs1 := heap_alloc_new w1 (.cells #[.bool sd, .bool sa, .bool sb, .bool si, .bool st, .bool true] 66)
              have hb2 : Below w.heap.size w (w1.alloc (.cells #[.bool sd, .bool sa, .bool sb, .bool si, .bool st, .bool true] 66)) := (hb0.trans (hb1.mono hb0.size)).alloc (hb0.trans (hb1.mono hb0.size)).size _
              obtain ⟨x0, x1, x2, x3, x4, x5⟩ := cells6 hx1
              obtain ⟨s0, s1, s2, s3, s4, s5⟩ := cells6 hs1
              clear hx hx1 hs1 hb0 hb1 HS
              go_wp2_with (first | (go_at_call 58; ((with_reducible refine (isField_at d 200 sd true _ (by omega) HD.out).mono ?_); rintro e w' ⟨rfl, rfl⟩)) | (go_at_call 58; ((with_reducible refine (isField_at a 200 sa true _ (by omega) HA.out).mono ?_); rintro e w' ⟨rfl, rfl⟩)) | (go_at_call 58; ((with_reducible refine (isField_at b 200 sb true _ (by omega) HB.out).mono ?_); rintro e w' ⟨rfl, rfl⟩)) | (go_at_call 58; ((with_reducible refine (isField_at to 400 st BT _ (by omega) HT.out).mono ?_); rintro e w' ⟨rfl, rfl⟩)))
              go_ret
              exact ⟨ret_b HR.out.symm, hb2⟩
  · have dm : (imm != 0) = true := by simp [h3]
    cases si
    · have HR := Lib.hid (show R = false from HC.out.trans (by rw [if_pos (.inr (.inr ⟨h3, rfl⟩))]))
      clear HC
      go_enter Try.func48, Try.ntmps48
      go_wp2_with fail
      have hb0 : Below w.heap.size w (w.alloc (.cells #[.int .i64 op, .int .i64 d, .int .i64 a, .int .i64 b, .int .u32 imm, .int .i64 to] 47)) := (Below.refl _ _).alloc (Nat.le_refl _) _
      have hx := heap_alloc_new w (.cells #[.int .i64 op, .int .i64 d, .int .i64 a, .int .i64 b, .int .u32 imm, .int .i64 to] 47)
      generalize World.alloc w _ = W0 at hb0 hx ⊢
      refine (HS.out W0).mono ?_
      rintro e w1 ⟨rfl, hb1⟩
      have hx1 := (heap_alloc_old w1 (.cells #[.bool sd, .bool sa, .bool sb, .bool false, .bool st, .bool sp] 66) (lt_of_block ((hb1.block _ (lt_of_block hx)).trans hx))).trans ((hb1.block _ (lt_of_block hx)).trans hx)
      have hs1 := heap_alloc_new w1 (.cells #[.bool sd, .bool sa, .bool sb, .bool false, .bool st, .bool sp] 66)
      have hb2 : Below w.heap.size w (w1.alloc (.cells #[.bool sd, .bool sa, .bool sb, .bool false, .bool st, .bool sp] 66)) := (hb0.trans (hb1.mono hb0.size)).alloc (hb0.trans (hb1.mono hb0.size)).size _
      obtain ⟨x0, x1, x2, x3, x4, x5⟩ := cells6 hx1
      obtain ⟨s0, s1, s2, s3, s4, s5⟩ := cells6 hs1
      clear hx hx1 hs1 hb0 hb1 HS
      go_wp2_with (fail)
      go_ret
      exact ⟨ret_b HR.out.symm, hb2⟩
    · have hn : ¬ (op < 0 ∨ 27 < op ∨ (imm ≠ 0 ∧ true = false)) := by simp; omega
      cases hD : fldB d 200 sd
      · have HD := Lib.hid hD
        have HR := Lib.hid (show R = false from HC.out.trans (by rw [if_neg hn, hD]; rfl))
        clear HC
        go_enter Try.func48, Try.ntmps48
        go_wp2_with fail
        have hb0 : Below w.heap.size w (w.alloc (.cells #[.int .i64 op, .int .i64 d, .int .i64 a, .int .i64 b, .int .u32 imm, .int .i64 to] 47)) := (Below.refl _ _).alloc (Nat.le_refl _) _
        have hx := heap_alloc_new w (.cells #[.int .i64 op, .int .i64 d, .int .i64 a, .int .i64 b, .int .u32 imm, .int .i64 to] 47)
        generalize World.alloc w _ = W0 at hb0 hx ⊢
        refine (HS.out W0).mono ?_
        rintro e w1 ⟨rfl, hb1⟩
        have hx1 := (heap_alloc_old w1 (.cells #[.bool sd, .bool sa, .bool sb, .bool true, .bool st, .bool sp] 66) (lt_of_block ((hb1.block _ (lt_of_block hx)).trans hx))).trans ((hb1.block _ (lt_of_block hx)).trans hx)
        have hs1 := heap_alloc_new w1 (.cells #[.bool sd, .bool sa, .bool sb, .bool true, .bool st, .bool sp] 66)
        have hb2 : Below w.heap.size w (w1.alloc (.cells #[.bool sd, .bool sa, .bool sb, .bool true, .bool st, .bool sp] 66)) := (hb0.trans (hb1.mono hb0.size)).alloc (hb0.trans (hb1.mono hb0.size)).size _
        obtain ⟨x0, x1, x2, x3, x4, x5⟩ := cells6 hx1
        obtain ⟨s0, s1, s2, s3, s4, s5⟩ := cells6 hs1
        clear hx hx1 hs1 hb0 hb1 HS
        go_wp2_with (first | (go_at_call 58; ((with_reducible refine (isField_at d 200 sd false _ (by omega) HD.out).mono ?_); rintro e w' ⟨rfl, rfl⟩)))
        go_ret
        exact ⟨ret_b HR.out.symm, hb2⟩
      · have HD := Lib.hid hD
        by_cases hP : sp = true ∧ a = -1
        · obtain ⟨rfl, rfl⟩ := hP
          cases hB : fldB b 200 sb
          · have HB := Lib.hid hB
            have HR := Lib.hid (show R = false from HC.out.trans (by rw [if_neg hn, hD, hB]; simp))
            clear HC
            go_enter Try.func48, Try.ntmps48
            go_wp2_with fail
            have hb0 : Below w.heap.size w (w.alloc (.cells #[.int .i64 op, .int .i64 d, .int .i64 (-1), .int .i64 b, .int .u32 imm, .int .i64 to] 47)) := (Below.refl _ _).alloc (Nat.le_refl _) _
            have hx := heap_alloc_new w (.cells #[.int .i64 op, .int .i64 d, .int .i64 (-1), .int .i64 b, .int .u32 imm, .int .i64 to] 47)
            generalize World.alloc w _ = W0 at hb0 hx ⊢
            refine (HS.out W0).mono ?_
            rintro e w1 ⟨rfl, hb1⟩
            have hx1 := (heap_alloc_old w1 (.cells #[.bool sd, .bool sa, .bool sb, .bool true, .bool st, .bool true] 66) (lt_of_block ((hb1.block _ (lt_of_block hx)).trans hx))).trans ((hb1.block _ (lt_of_block hx)).trans hx)
            have hs1 := heap_alloc_new w1 (.cells #[.bool sd, .bool sa, .bool sb, .bool true, .bool st, .bool true] 66)
            have hb2 : Below w.heap.size w (w1.alloc (.cells #[.bool sd, .bool sa, .bool sb, .bool true, .bool st, .bool true] 66)) := (hb0.trans (hb1.mono hb0.size)).alloc (hb0.trans (hb1.mono hb0.size)).size _
            obtain ⟨x0, x1, x2, x3, x4, x5⟩ := cells6 hx1
            obtain ⟨s0, s1, s2, s3, s4, s5⟩ := cells6 hs1
            clear hx hx1 hs1 hb0 hb1 HS
            go_wp2_with (first | (go_at_call 58; ((with_reducible refine (isField_at d 200 sd true _ (by omega) HD.out).mono ?_); rintro e w' ⟨rfl, rfl⟩)) | (go_at_call 58; ((with_reducible refine (isField_at b 200 sb false _ (by omega) HB.out).mono ?_); rintro e w' ⟨rfl, rfl⟩)))
            go_ret
            exact ⟨ret_b HR.out.symm, hb2⟩
          · have HB := Lib.hid hB
            obtain ⟨BT, hBT⟩ : ∃ BT, fldB to 400 st = BT := ⟨_, rfl⟩
            have HT := Lib.hid hBT
            clear hBT
            have HR := Lib.hid (show R = BT from HC.out.trans (by rw [if_neg hn, hD, hB, HT.out]; simp))
            clear HC
            go_enter Try.func48, Try.ntmps48
            go_wp2_with fail
            have hb0 : Below w.heap.size w (w.alloc (.cells #[.int .i64 op, .int .i64 d, .int .i64 (-1), .int .i64 b, .int .u32 imm, .int .i64 to] 47)) := (Below.refl _ _).alloc (Nat.le_refl _) _
            have hx := heap_alloc_new w (.cells #[.int .i64 op, .int .i64 d, .int .i64 (-1), .int .i64 b, .int .u32 imm, .int .i64 to] 47)
            generalize World.alloc w _ = W0 at hb0 hx ⊢
            refine (HS.out W0).mono ?_
            rintro e w1 ⟨rfl, hb1⟩
            have hx1 := (heap_alloc_old w1 (.cells #[.bool sd, .bool sa, .bool sb, .bool true, .bool st, .bool true] 66) (lt_of_block ((hb1.block _ (lt_of_block hx)).trans hx))).trans ((hb1.block _ (lt_of_block hx)).trans hx)
            have hs1 := heap_alloc_new w1 (.cells #[.bool sd, .bool sa, .bool sb, .bool true, .bool st, .bool true] 66)
            have hb2 : Below w.heap.size w (w1.alloc (.cells #[.bool sd, .bool sa, .bool sb, .bool true, .bool st, .bool true] 66)) := (hb0.trans (hb1.mono hb0.size)).alloc (hb0.trans (hb1.mono hb0.size)).size _
            obtain ⟨x0, x1, x2, x3, x4, x5⟩ := cells6 hx1
            obtain ⟨s0, s1, s2, s3, s4, s5⟩ := cells6 hs1
            clear hx hx1 hs1 hb0 hb1 HS
            go_wp2_with (first | (go_at_call 58; ((with_reducible refine (isField_at d 200 sd true _ (by omega) HD.out).mono ?_); rintro e w' ⟨rfl, rfl⟩)) | (go_at_call 58; ((with_reducible refine (isField_at b 200 sb true _ (by omega) HB.out).mono ?_); rintro e w' ⟨rfl, rfl⟩)) | (go_at_call 58; ((with_reducible refine (isField_at to 400 st BT _ (by omega) HT.out).mono ?_); rintro e w' ⟨rfl, rfl⟩)))
            go_ret
            exact ⟨ret_b HR.out.symm, hb2⟩
        · have HQ : (sp && decide (a = -1)) = false := by
            cases sp
            · rfl
            · simp; intro h; exact hP ⟨rfl, h⟩
          cases hA : fldB a 200 sa
          · have HA := Lib.hid hA
            cases sp
            · clear hP
              have HR := Lib.hid (show R = false from HC.out.trans (by rw [if_neg hn, hD, HQ, hA]; rfl))
              clear HC
              go_enter Try.func48, Try.ntmps48
              go_wp2_with fail
              have hb0 : Below w.heap.size w (w.alloc (.cells #[.int .i64 op, .int .i64 d, .int .i64 a, .int .i64 b, .int .u32 imm, .int .i64 to] 47)) := (Below.refl _ _).alloc (Nat.le_refl _) _
              have hx := heap_alloc_new w (.cells #[.int .i64 op, .int .i64 d, .int .i64 a, .int .i64 b, .int .u32 imm, .int .i64 to] 47)
              generalize World.alloc w _ = W0 at hb0 hx ⊢
              refine (HS.out W0).mono ?_
              rintro e w1 ⟨rfl, hb1⟩
              have hx1 := (heap_alloc_old w1 (.cells #[.bool sd, .bool sa, .bool sb, .bool true, .bool st, .bool false] 66) (lt_of_block ((hb1.block _ (lt_of_block hx)).trans hx))).trans ((hb1.block _ (lt_of_block hx)).trans hx)
              have hs1 := heap_alloc_new w1 (.cells #[.bool sd, .bool sa, .bool sb, .bool true, .bool st, .bool false] 66)
              have hb2 : Below w.heap.size w (w1.alloc (.cells #[.bool sd, .bool sa, .bool sb, .bool true, .bool st, .bool false] 66)) := (hb0.trans (hb1.mono hb0.size)).alloc (hb0.trans (hb1.mono hb0.size)).size _
              obtain ⟨x0, x1, x2, x3, x4, x5⟩ := cells6 hx1
              obtain ⟨s0, s1, s2, s3, s4, s5⟩ := cells6 hs1
              clear hx hx1 hs1 hb0 hb1 HS
              go_wp2_with (first | (go_at_call 58; ((with_reducible refine (isField_at d 200 sd true _ (by omega) HD.out).mono ?_); rintro e w' ⟨rfl, rfl⟩)) | (go_at_call 58; ((with_reducible refine (isField_at a 200 sa false _ (by omega) HA.out).mono ?_); rintro e w' ⟨rfl, rfl⟩)))
              go_ret
              exact ⟨ret_b HR.out.symm, hb2⟩
            · have da : (a == -1) = false := by simp; intro h; exact hP ⟨rfl, h⟩
              clear hP
              have HR := Lib.hid (show R = false from HC.out.trans (by rw [if_neg hn, hD, HQ, hA]; rfl))
              clear HC
              go_enter Try.func48, Try.ntmps48
              go_wp2_with fail
              have hb0 : Below w.heap.size w (w.alloc (.cells #[.int .i64 op, .int .i64 d, .int .i64 a, .int .i64 b, .int .u32 imm, .int .i64 to] 47)) := (Below.refl _ _).alloc (Nat.le_refl _) _
              have hx := heap_alloc_new w (.cells #[.int .i64 op, .int .i64 d, .int .i64 a, .int .i64 b, .int .u32 imm, .int .i64 to] 47)
              generalize World.alloc w _ = W0 at hb0 hx ⊢
              refine (HS.out W0).mono ?_
              rintro e w1 ⟨rfl, hb1⟩
              have hx1 := (heap_alloc_old w1 (.cells #[.bool sd, .bool sa, .bool sb, .bool true, .bool st, .bool true] 66) (lt_of_block ((hb1.block _ (lt_of_block hx)).trans hx))).trans ((hb1.block _ (lt_of_block hx)).trans hx)
              have hs1 := heap_alloc_new w1 (.cells #[.bool sd, .bool sa, .bool sb, .bool true, .bool st, .bool true] 66)
              have hb2 : Below w.heap.size w (w1.alloc (.cells #[.bool sd, .bool sa, .bool sb, .bool true, .bool st, .bool true] 66)) := (hb0.trans (hb1.mono hb0.size)).alloc (hb0.trans (hb1.mono hb0.size)).size _
              obtain ⟨x0, x1, x2, x3, x4, x5⟩ := cells6 hx1
              obtain ⟨s0, s1, s2, s3, s4, s5⟩ := cells6 hs1
              clear hx hx1 hs1 hb0 hb1 HS
              go_wp2_with (first | (go_at_call 58; ((with_reducible refine (isField_at d 200 sd true _ (by omega) HD.out).mono ?_); rintro e w' ⟨rfl, rfl⟩)) | (go_at_call 58; ((with_reducible refine (isField_at a 200 sa false _ (by omega) HA.out).mono ?_); rintro e w' ⟨rfl, rfl⟩)))
              go_ret
              exact ⟨ret_b HR.out.symm, hb2⟩
          · have HA := Lib.hid hA
            cases hB : fldB b 200 sb
            · have HB := Lib.hid hB
              cases sp
              · clear hP
                have HR := Lib.hid (show R = false from HC.out.trans (by rw [if_neg hn, hD, HQ, hA, hB]; rfl))
                clear HC
                go_enter Try.func48, Try.ntmps48
                go_wp2_with fail
                have hb0 : Below w.heap.size w (w.alloc (.cells #[.int .i64 op, .int .i64 d, .int .i64 a, .int .i64 b, .int .u32 imm, .int .i64 to] 47)) := (Below.refl _ _).alloc (Nat.le_refl _) _
                have hx := heap_alloc_new w (.cells #[.int .i64 op, .int .i64 d, .int .i64 a, .int .i64 b, .int .u32 imm, .int .i64 to] 47)
                generalize World.alloc w _ = W0 at hb0 hx ⊢
                refine (HS.out W0).mono ?_
                rintro e w1 ⟨rfl, hb1⟩
                have hx1 := (heap_alloc_old w1 (.cells #[.bool sd, .bool sa, .bool sb, .bool true, .bool st, .bool false] 66) (lt_of_block ((hb1.block _ (lt_of_block hx)).trans hx))).trans ((hb1.block _ (lt_of_block hx)).trans hx)
                have hs1 := heap_alloc_new w1 (.cells #[.bool sd, .bool sa, .bool sb, .bool true, .bool st, .bool false] 66)
                have hb2 : Below w.heap.size w (w1.alloc (.cells #[.bool sd, .bool sa, .bool sb, .bool true, .bool st, .bool false] 66)) := (hb0.trans (hb1.mono hb0.size)).alloc (hb0.trans (hb1.mono hb0.size)).size _
                obtain ⟨x0, x1, x2, x3, x4, x5⟩ := cells6 hx1
                obtain ⟨s0, s1, s2, s3, s4, s5⟩ := cells6 hs1
                clear hx hx1 hs1 hb0 hb1 HS
                go_wp2_with (first | (go_at_call 58; ((with_reducible refine (isField_at d 200 sd true _ (by omega) HD.out).mono ?_); rintro e w' ⟨rfl, rfl⟩)) | (go_at_call 58; ((with_reducible refine (isField_at a 200 sa true _ (by omega) HA.out).mono ?_); rintro e w' ⟨rfl, rfl⟩)) | (go_at_call 58; ((with_reducible refine (isField_at b 200 sb false _ (by omega) HB.out).mono ?_); rintro e w' ⟨rfl, rfl⟩)))
                go_ret
                exact ⟨ret_b HR.out.symm, hb2⟩
              · have da : (a == -1) = false := by simp; intro h; exact hP ⟨rfl, h⟩
                clear hP
                have HR := Lib.hid (show R = false from HC.out.trans (by rw [if_neg hn, hD, HQ, hA, hB]; rfl))
                clear HC
                go_enter Try.func48, Try.ntmps48
                go_wp2_with fail
                have hb0 : Below w.heap.size w (w.alloc (.cells #[.int .i64 op, .int .i64 d, .int .i64 a, .int .i64 b, .int .u32 imm, .int .i64 to] 47)) := (Below.refl _ _).alloc (Nat.le_refl _) _
                have hx := heap_alloc_new w (.cells #[.int .i64 op, .int .i64 d, .int .i64 a, .int .i64 b, .int .u32 imm, .int .i64 to] 47)
                generalize World.alloc w _ = W0 at hb0 hx ⊢
                refine (HS.out W0).mono ?_
                rintro e w1 ⟨rfl, hb1⟩
                have hx1 := (heap_alloc_old w1 (.cells #[.bool sd, .bool sa, .bool sb, .bool true, .bool st, .bool true] 66) (lt_of_block ((hb1.block _ (lt_of_block hx)).trans hx))).trans ((hb1.block _ (lt_of_block hx)).trans hx)
                have hs1 := heap_alloc_new w1 (.cells #[.bool sd, .bool sa, .bool sb, .bool true, .bool st, .bool true] 66)
                have hb2 : Below w.heap.size w (w1.alloc (.cells #[.bool sd, .bool sa, .bool sb, .bool true, .bool st, .bool true] 66)) := (hb0.trans (hb1.mono hb0.size)).alloc (hb0.trans (hb1.mono hb0.size)).size _
                obtain ⟨x0, x1, x2, x3, x4, x5⟩ := cells6 hx1
                obtain ⟨s0, s1, s2, s3, s4, s5⟩ := cells6 hs1
                clear hx hx1 hs1 hb0 hb1 HS
                go_wp2_with (first | (go_at_call 58; ((with_reducible refine (isField_at d 200 sd true _ (by omega) HD.out).mono ?_); rintro e w' ⟨rfl, rfl⟩)) | (go_at_call 58; ((with_reducible refine (isField_at a 200 sa true _ (by omega) HA.out).mono ?_); rintro e w' ⟨rfl, rfl⟩)) | (go_at_call 58; ((with_reducible refine (isField_at b 200 sb false _ (by omega) HB.out).mono ?_); rintro e w' ⟨rfl, rfl⟩)))
                go_ret
                exact ⟨ret_b HR.out.symm, hb2⟩
            · have HB := Lib.hid hB
              obtain ⟨BT, hBT⟩ : ∃ BT, fldB to 400 st = BT := ⟨_, rfl⟩
              have HT := Lib.hid hBT
              clear hBT
              cases sp
              · clear hP
                have HR := Lib.hid (show R = BT from HC.out.trans (by rw [if_neg hn, hD, HQ, hA, hB, HT.out]; simp))
                clear HC
                go_enter Try.func48, Try.ntmps48
                go_wp2_with fail
                have hb0 : Below w.heap.size w (w.alloc (.cells #[.int .i64 op, .int .i64 d, .int .i64 a, .int .i64 b, .int .u32 imm, .int .i64 to] 47)) := (Below.refl _ _).alloc (Nat.le_refl _) _
                have hx := heap_alloc_new w (.cells #[.int .i64 op, .int .i64 d, .int .i64 a, .int .i64 b, .int .u32 imm, .int .i64 to] 47)
                generalize World.alloc w _ = W0 at hb0 hx ⊢
                refine (HS.out W0).mono ?_
                rintro e w1 ⟨rfl, hb1⟩
                have hx1 := (heap_alloc_old w1 (.cells #[.bool sd, .bool sa, .bool sb, .bool true, .bool st, .bool false] 66) (lt_of_block ((hb1.block _ (lt_of_block hx)).trans hx))).trans ((hb1.block _ (lt_of_block hx)).trans hx)
                have hs1 := heap_alloc_new w1 (.cells #[.bool sd, .bool sa, .bool sb, .bool true, .bool st, .bool false] 66)
                have hb2 : Below w.heap.size w (w1.alloc (.cells #[.bool sd, .bool sa, .bool sb, .bool true, .bool st, .bool false] 66)) := (hb0.trans (hb1.mono hb0.size)).alloc (hb0.trans (hb1.mono hb0.size)).size _
                obtain ⟨x0, x1, x2, x3, x4, x5⟩ := cells6 hx1
                obtain ⟨s0, s1, s2, s3, s4, s5⟩ := cells6 hs1
                clear hx hx1 hs1 hb0 hb1 HS
                go_wp2_with (first | (go_at_call 58; ((with_reducible refine (isField_at d 200 sd true _ (by omega) HD.out).mono ?_); rintro e w' ⟨rfl, rfl⟩)) | (go_at_call 58; ((with_reducible refine (isField_at a 200 sa true _ (by omega) HA.out).mono ?_); rintro e w' ⟨rfl, rfl⟩)) | (go_at_call 58; ((with_reducible refine (isField_at b 200 sb true _ (by omega) HB.out).mono ?_); rintro e w' ⟨rfl, rfl⟩)) | (go_at_call 58; ((with_reducible refine (isField_at to 400 st BT _ (by omega) HT.out).mono ?_); rintro e w' ⟨rfl, rfl⟩)))
                go_ret
                exact ⟨ret_b HR.out.symm, hb2⟩
              · have da : (a == -1) = false := by simp; intro h; exact hP ⟨rfl, h⟩
                clear hP
                have HR := Lib.hid (show R = BT from HC.out.trans (by rw [if_neg hn, hD, HQ, hA, hB, HT.out]; simp))
                clear HC
                go_enter Try.func48, Try.ntmps48
                go_wp2_with fail
                have hb0 : Below w.heap.size w (w.alloc (.cells #[.int .i64 op, .int .i64 d, .int .i64 a, .int .i64 b, .int .u32 imm, .int .i64 to] 47)) := (Below.refl _ _).alloc (Nat.le_refl _) _
                have hx := heap_alloc_new w (.cells #[.int .i64 op, .int .i64 d, .int .i64 a, .int .i64 b, .int .u32 imm, .int .i64 to] 47)
                generalize World.alloc w _ = W0 at hb0 hx ⊢
                refine (HS.out W0).mono ?_
                rintro e w1 ⟨rfl, hb1⟩
                have hx1 := (heap_alloc_old w1 (.cells #[.bool sd, .bool sa, .bool sb, .bool true, .bool st, .bool true] 66) (lt_of_block ((hb1.block _ (lt_of_block hx)).trans hx))).trans ((hb1.block _ (lt_of_block hx)).trans hx)
                have hs1 := heap_alloc_new w1 (.cells #[.bool sd, .bool sa, .bool sb, .bool true, .bool st, .bool true] 66)
                have hb2 : Below w.heap.size w (w1.alloc (.cells #[.bool sd, .bool sa, .bool sb, .bool true, .bool st, .bool true] 66)) := (hb0.trans (hb1.mono hb0.size)).alloc (hb0.trans (hb1.mono hb0.size)).size _
                obtain ⟨x0, x1, x2, x3, x4, x5⟩ := cells6 hx1
                obtain ⟨s0, s1, s2, s3, s4, s5⟩ := cells6 hs1
                clear hx hx1 hs1 hb0 hb1 HS
                go_wp2_with (first | (go_at_call 58; ((with_reducible refine (isField_at d 200 sd true _ (by omega) HD.out).mono ?_); rintro e w' ⟨rfl, rfl⟩)) | (go_at_call 58; ((with_reducible refine (isField_at a 200 sa true _ (by omega) HA.out).mono ?_); rintro e w' ⟨rfl, rfl⟩)) | (go_at_call 58; ((with_reducible refine (isField_at b 200 sb true _ (by omega) HB.out).mono ?_); rintro e w' ⟨rfl, rfl⟩)) | (go_at_call 58; ((with_reducible refine (isField_at to 400 st BT _ (by omega) HT.out).mono ?_); rintro e w' ⟨rfl, rfl⟩)))
                go_ret
                exact ⟨ret_b HR.out.symm, hb2⟩
end Go.Proofs.Ytjlacdnkncgpaaa
