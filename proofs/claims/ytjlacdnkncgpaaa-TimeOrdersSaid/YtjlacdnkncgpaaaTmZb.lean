/-
  Same at equal stretches; the walk of TimeOrders.
-/
import Derived.Test.YtjlacdnkncgpaaaTmZa
import Derived.Test.YtjlacdnkncgpaaaTmM
namespace Go.Proofs.Ytjlacdnkncgpaaa
open Go.RowKit

section
variable {w : World} {A A2 : Option Addr} {n c c2 : Nat} {zs : List Cod} {os : List Int}
set_option maxRecDepth 100000 in
set_option maxHeartbeats 4000000 in
theorem same_yes (h : Tab w A n c zs) (h2 : Tab w A2 n c2 zs) :
    Calls Try.prog 25 #[.slice A n c, .slice A2 n c2] w fun e w' => e = .returned (.bool true) ∧ Below w.heap.size w w' := by
  have HT := Lib.hid h
  have HT2 := Lib.hid h2
  have hcap := h.2.1
  have hmax := h.2.2.1
  have hcap2 := h2.2.1
  clear h h2
  go_enter Try.func25, Try.ntmps25
  go_wp2
  go_loopw [5] (fun zi wr => ∃ i : Nat, i ≤ n ∧ zi = .int .i64 (i : Int) ∧ Below w.heap.size w wr) (fun zi _ => n - (intOf zi).toNat)
  case atStart => exact ⟨0, by omega, rfl, Below.refl _ _⟩
  case round =>
    obtain ⟨i, hi, rfl, hb⟩ := hrel
    by_cases hlt : i < n
    · obtain ⟨b0, off, rfl, hbs, ht⟩ := (HT.out.below hb).at_ hlt
      obtain ⟨b2, off2, rfl, hbs2, ht2⟩ := (HT2.out.below hb).at_ hlt
      generalize zs[i]! = x at ht ht2
      obtain ⟨op, d, a, b, imm, to⟩ := x
      obtain ⟨x0, x1, x2, x3, x4, x5⟩ := ht
      obtain ⟨y0, y1, y2, y3, y4, y5⟩ := ht2
      simp only at x0 x1 x2 x3 x4 x5 y0 y1 y2 y3 y4 y5
      have Tx0 := cell_regrown x0
      have Tx1 := cell_regrown x1
      have Tx2 := cell_regrown x2
      have Tx3 := cell_regrown x3
      have Tx4 := cell_regrown x4
      have Tx5 := cell_regrown x5
      have Ty0 := cell_regrown y0
      have Ty1 := cell_regrown y1
      have Ty2 := cell_regrown y2
      have Ty3 := cell_regrown y3
      have Ty4 := cell_regrown y4
      have Ty5 := cell_regrown y5
      clear x0 x1 x2 x3 x4 x5 y0 y1 y2 y3 y4 y5
      go_wp2
      refine wp_region_quiet_below (by kernel_rfl) (by kernel_rfl) ?_
      iterate 9 (go_big_quiet_step (fail))
      refine wpQuiet_nil ?_
      intro _ hw'
      obtain ⟨⟨dq, osq⟩, hw''⟩ := hw'
      subst hw''
      replace hb := hb.trans ((below_regrown wr dq osq).mono hb.size)
      generalize Sort.grow (redrawn wr dq) osq = W5 at hb ⊢
      clear Tx0 Tx1 Tx2 Tx3 Tx4 Tx5 Ty0 Ty1 Ty2 Ty3 Ty4 Ty5
      go_wp2
      go_roundw
      case rel => exact ⟨i + 1, by omega, by go_num, hb⟩
      case measure => simp [intOf]; omega
    · obtain rfl : i = n := by omega
      go_wp2
      go_ret
      exact ⟨rfl, hb⟩
set_option maxRecDepth 100000 in
set_option maxHeartbeats 4000000 in
theorem orders_walk {n2 : Nat} (h : Tab w A n c zs) (ho : Ints w A2 n2 c2 os) :
    Calls Try.prog 5 #[.slice A n c, .slice A2 n2 c2] w fun e w' => e = .returned (.bool true) ∧ Below w.heap.size w w' := by
  by_cases hn : 100 < n
  · clear h ho
    have HN := Lib.hid hn
    clear hn
    go_enter Try.func5, Try.ntmps5
    go_wp2_with (first | (go_at_call 7; ((with_reducible refine (long_yes _ _ _ _ HN.out).mono ?_); rintro e w' ⟨rfl, rfl⟩)))
    refine (calls_known (Below.refl _ _)).mono ?_
    rintro e w' ⟨rfl, hb⟩
    go_wp2
    go_ret
    exact ⟨rfl, hb⟩
  · have HN := Lib.hid hn
    by_cases hn2 : 200 < n2
    · clear h ho hn
      go_enter Try.func5, Try.ntmps5
      go_wp2_with (first | (go_at_call 7; ((with_reducible refine (long_no _ _ _ _ HN.out).mono ?_); rintro e w' ⟨rfl, rfl⟩)))
      refine (calls_known (Below.refl _ _)).mono ?_
      rintro e w' ⟨rfl, hb⟩
      go_wp2
      go_ret
      exact ⟨rfl, hb⟩
    · have HF := Lib.hid (fun w1 (hb : Below w.heap.size w w1) => IsOrder_tab (h.below hb) (ho.below hb))
      have HR := Lib.hid (fun w1 (hb : Below w.heap.size w w1) => refIsOrderTop_tab (h.below hb) (ho.below hb))
      have HA := Lib.hid (fun w1 (hb : Below w.heap.size w w1) => Apply_tab (h.below hb) (ho.below hb))
      have HB := Lib.hid (fun w1 (hb : Below w.heap.size w w1) => refApplyTop_tab (h.below hb) (ho.below hb))
      generalize resA zs os = L at HA HB
      generalize isF zs os = I at HF HR
      generalize errF zs os = X at HF HR
      generalize aerF zs os = Y at HA HB
      have eX : (X == X) = true := beq_self_eq_true X
      have eY : (Y == Y) = true := beq_self_eq_true Y
      have eI : (I == I) = true := beq_self_eq_true I
      have d2 : decide (200 < n2) = false := decide_eq_false hn2
      have d3 : decide ((200 : Int) < (n2 : Int)) = false := decide_eq_false (by omega)
      clear hn h ho
      go_enter Try.func5, Try.ntmps5
      go_wp2_with (first | (go_at_call 7; ((with_reducible refine (long_no _ _ _ _ HN.out).mono ?_); rintro e w' ⟨rfl, rfl⟩)))
      refine (HF.out _ (Below.refl _ _)).mono ?_
      rintro e w1 ⟨rfl, hb⟩
      go_wp2_with fail
      refine (HR.out _ hb).mono ?_
      rintro e w2 ⟨rfl, hb2⟩
      replace hb := hb.trans (hb2.mono hb.size)
      clear hb2
      go_wp2_with fail
      refine (HA.out _ hb).mono ?_
      rintro e w3 ⟨V, rfl, hown, hb2⟩
      obtain ⟨A3, c3, rfl, hT3⟩ := tab_own hown
      have HT3 := Lib.hid hT3
      replace hb := hb.trans (hb2.mono hb.size)
      clear hb2 hown hT3
      go_wp2_with fail
      refine (HB.out _ hb).mono ?_
      rintro e w4 ⟨V, rfl, hown, hb2⟩
      obtain ⟨A4, c4, rfl, hT4⟩ := tab_own hown
      have HS := Lib.hid (same_yes (HT3.out.below hb2) hT4)
      replace hb := hb.trans (hb2.mono hb.size)
      clear hb2 hown hT4
      go_wp2_with fail
      refine HS.out.mono ?_
      rintro e w5 ⟨rfl, hb2⟩
      replace hb := hb.trans (hb2.mono hb.size)
      clear hb2
      go_wp2_with fail
      refine (calls_known hb).mono ?_
      rintro e w' ⟨rfl, hb⟩
      go_wp2
      go_ret
      exact ⟨rfl, hb⟩
end
end Go.Proofs.Ytjlacdnkncgpaaa
