/-
  OWN TEXT. The walk of TermTexts.
-/
import Derived.Test.YtbohigjfdnnomaaGreatDoorTeXe
import Derived.Test.YtbohigjfdnnomaaGreatDoorTeSk
namespace Go.Proofs.YtbohigjfdnnomaaGreatDoor
open Go.RowKit

theorem shL_text {T U : List Nd} (hv : valF T = 0) (hu : valF U = 0) (iT : ∀ k, k < T.length → 0 ≤ T[k]!.imm) (iU : ∀ k, k < U.length → 0 ≤ U[k]!.imm) : textT (shL T) = textT (shL U) ↔ shL T = shL U := by
  have g : ∀ {T : List Nd}, valF T = 0 → (∀ k, k < T.length → 0 ≤ T[k]!.imm) → valF (shL T) = 0 ∧ ∀ k, k < (shL T).length → 0 ≤ (shL T)[k]!.imm := by
    intro T hv hi
    have h1 := (val_zero.1 hv).1
    have hk : T.length - 1 < T.length := by omega
    refine ⟨(shF_val hv hk).1, fun k h2 => ?_⟩
    obtain ⟨x, hx, l, e, -⟩ := (shF_end (down_val hv) hk).2 k h2
    unfold shL
    rw [e]
    exact hi x hx
  exact text_iff (g hv iT).1 (g hu iU).1 (g hv iT).2 (g hu iU).2
theorem str_self (S : ByteArray) : (S.toList == S.toList) = true := beq_self_eq_true _
theorem str_ne {S S2 : ByteArray} (h : ¬ S = S2) : (S.toList == S2.toList) = false := by
  rw [ByteArray.toList_eq, ByteArray.toList_eq]
  exact beq_eq_false_iff_ne.2 fun e => h (ByteArray.ext (by simpa using e))
section
variable {w : World} {A A2 : Option Addr} {n c n2 c2 : Nat} {T U : List Nd}
set_option maxRecDepth 100000 in
set_option maxHeartbeats 8000000 in
/-- The walk of TermTexts. -/
theorem texts_walk (h : Term w A n c T) (h2 : Term w A2 n2 c2 U) (hM : Masks w) (hP : P10 w) : Calls Tryz.prog 3 #[.slice A n c, .slice A2 n2 c2] w fun e w' => e = .returned (.bool true) ∧ Below w.heap.size w w' := by
  have HK := Lib.hid (fun w1 (hb : Below w.heap.size w w1) => known_any (hM.below hb (Nat.le_refl _)))
  have HL := Lib.hid (fun w1 (hb : Below w.heap.size w w1) => long_any (h.below hb))
  have HLU := Lib.hid (fun w1 (hb : Below w.heap.size w w1) => long_any (h2.below hb))
  cases hT : longB T
  · cases hU : longB U
    · have HS := Lib.hid (fun w1 (hb : Below w.heap.size w w1) => same_any (h.below hb) (h2.below hb))
      have HR := Lib.hid (fun w1 (hb : Below w.heap.size w w1) => refSame_any (h.below hb) (h2.below hb))
      rw [hT] at HL
      rw [hU] at HLU
      clear hT hU
      by_cases hE : sameE T U = 0
      · have hvT : valF T = 0 := by
          unfold sameE at hE
          split at hE
          · assumption
          · exact hE
        have hvU : valF U = 0 := by
          unfold sameE at hE
          rw [if_pos hvT] at hE
          exact hE
        have hX := shL_text hvT hvU (fun k hk => (term_imm h k hk).1) (fun k hk => (term_imm h2 k hk).1)
        have hR : sameR T U = decide (shL T = shL U) := by unfold sameR; rw [if_pos ⟨hvT, hvU⟩]
        have HTX := Lib.hid (fun w1 (hb : Below w.heap.size w w1) => text_yes (h.below hb) hvT (hP.below hb))
        have HTU := Lib.hid (fun w1 (hb : Below w.heap.size w w1) => text_yes (h2.below hb) hvU (hP.below hb))
        rw [hE, hR] at HS HR
        clear h h2 hM hP hE hvT hvU hR
        by_cases he : shL T = shL U
        · have he2 := hX.2 he
          rw [decide_eq_true he] at HS HR
          rw [← he2] at HTU
          generalize (⟨(textT (shL T)).toArray⟩ : ByteArray) = S at HTX HTU
          clear hX he he2
          have e1 : (S.toList == S.toList) = true := str_self S
          go_enter Tryz.func3, Tryz.ntmps3
          go_wp2_with fail
          refine (HL.out _ (Below.refl _ _)).mono ?_
          rintro e w1 ⟨rfl, b1⟩
          go_wp2_with fail
          refine (HLU.out _ b1).mono ?_
          rintro e w2 ⟨rfl, hb⟩
          have b2 := b1.trans (hb.mono b1.size)
          clear hb
          go_wp2_with fail
          refine (HS.out _ b2).mono ?_
          rintro e w3 ⟨rfl, hb⟩
          have b3 := b2.trans (hb.mono b2.size)
          clear hb
          go_wp2_with fail
          refine (HR.out _ b3).mono ?_
          rintro e w4 ⟨rfl, hb⟩
          have b4 := b3.trans (hb.mono b3.size)
          clear hb
          go_wp2_with fail
          refine (HTX.out _ b4).mono ?_
          rintro e w5 ⟨rfl, hb⟩
          have b5 := b4.trans (hb.mono b4.size)
          clear hb
          go_wp2_with fail
          refine (HTU.out _ b5).mono ?_
          rintro e w6 ⟨rfl, hb⟩
          have b6 := b5.trans (hb.mono b5.size)
          clear hb
          go_wp2_with fail
          refine (HK.out _ b6).mono ?_
          rintro e w7 ⟨rfl, hb⟩
          have b7 := b6.trans (hb.mono b6.size)
          clear hb
          go_wp2
          go_ret
          exact ⟨rfl, b7⟩
        · have he2 : ¬ (⟨(textT (shL T)).toArray⟩ : ByteArray) = ⟨(textT (shL U)).toArray⟩ := fun e => he (hX.1 (by
            have h1 := congrArg (fun b : ByteArray => b.data.toList) e
            simpa using h1))
          rw [decide_eq_false he] at HS HR
          generalize (⟨(textT (shL T)).toArray⟩ : ByteArray) = S at HTX he2
          generalize (⟨(textT (shL U)).toArray⟩ : ByteArray) = S2 at HTU he2
          clear hX he
          have e1 : (S.toList == S2.toList) = false := str_ne he2
          clear he2
          go_enter Tryz.func3, Tryz.ntmps3
          go_wp2_with fail
          refine (HL.out _ (Below.refl _ _)).mono ?_
          rintro e w1 ⟨rfl, b1⟩
          go_wp2_with fail
          refine (HLU.out _ b1).mono ?_
          rintro e w2 ⟨rfl, hb⟩
          have b2 := b1.trans (hb.mono b1.size)
          clear hb
          go_wp2_with fail
          refine (HS.out _ b2).mono ?_
          rintro e w3 ⟨rfl, hb⟩
          have b3 := b2.trans (hb.mono b2.size)
          clear hb
          go_wp2_with fail
          refine (HR.out _ b3).mono ?_
          rintro e w4 ⟨rfl, hb⟩
          have b4 := b3.trans (hb.mono b3.size)
          clear hb
          go_wp2_with fail
          refine (HTX.out _ b4).mono ?_
          rintro e w5 ⟨rfl, hb⟩
          have b5 := b4.trans (hb.mono b4.size)
          clear hb
          go_wp2_with fail
          refine (HTU.out _ b5).mono ?_
          rintro e w6 ⟨rfl, hb⟩
          have b6 := b5.trans (hb.mono b5.size)
          clear hb
          go_wp2_with fail
          refine (HK.out _ b6).mono ?_
          rintro e w7 ⟨rfl, hb⟩
          have b7 := b6.trans (hb.mono b6.size)
          clear hb
          go_wp2
          go_ret
          exact ⟨rfl, b7⟩
      · clear h h2 hM hP
        generalize sameE T U = E at HS HR hE
        generalize sameR T U = R at HS HR
        have e1 : (E != 0) = true := by simp [hE]
        have e2 : (E != E) = false := by simp
        have e3 : (R != R) = false := by simp
        clear hE
        go_enter Tryz.func3, Tryz.ntmps3
        go_wp2_with fail
        refine (HL.out _ (Below.refl _ _)).mono ?_
        rintro e w1 ⟨rfl, b1⟩
        go_wp2_with fail
        refine (HLU.out _ b1).mono ?_
        rintro e w2 ⟨rfl, hb⟩
        have b2 := b1.trans (hb.mono b1.size)
        clear hb
        go_wp2_with fail
        refine (HS.out _ b2).mono ?_
        rintro e w3 ⟨rfl, hb⟩
        have b3 := b2.trans (hb.mono b2.size)
        clear hb
        go_wp2_with fail
        refine (HR.out _ b3).mono ?_
        rintro e w4 ⟨rfl, hb⟩
        have b4 := b3.trans (hb.mono b3.size)
        clear hb
        go_wp2_with fail
        refine (HK.out _ b4).mono ?_
        rintro e w5 ⟨rfl, hb⟩
        have b5 := b4.trans (hb.mono b4.size)
        clear hb
        go_wp2
        go_ret
        exact ⟨rfl, b5⟩
    · rw [hT] at HL
      rw [hU] at HLU
      clear hT hU h h2 hM hP
      go_enter Tryz.func3, Tryz.ntmps3
      go_wp2_with fail
      refine (HL.out _ (Below.refl _ _)).mono ?_
      rintro e w1 ⟨rfl, b1⟩
      go_wp2_with fail
      refine (HLU.out _ b1).mono ?_
      rintro e w2 ⟨rfl, hb⟩
      have b2 := b1.trans (hb.mono b1.size)
      clear hb
      go_wp2_with fail
      refine (HK.out _ b2).mono ?_
      rintro e w3 ⟨rfl, hb⟩
      have b3 := b2.trans (hb.mono b2.size)
      clear hb
      go_wp2
      go_ret
      exact ⟨rfl, b3⟩
  · rw [hT] at HL
    clear hT h h2 hM hP HLU
    go_enter Tryz.func3, Tryz.ntmps3
    go_wp2_with fail
    refine (HL.out _ (Below.refl _ _)).mono ?_
    rintro e w1 ⟨rfl, b1⟩
    go_wp2_with fail
    refine (HK.out _ b1).mono ?_
    rintro e w2 ⟨rfl, hb⟩
    have b2 := b1.trans (hb.mono b1.size)
    clear hb
    go_wp2
    go_ret
    exact ⟨rfl, b2⟩
end
end Go.Proofs.YtbohigjfdnnomaaGreatDoor
