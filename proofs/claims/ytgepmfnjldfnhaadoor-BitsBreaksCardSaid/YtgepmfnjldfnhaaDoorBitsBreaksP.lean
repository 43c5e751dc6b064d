/-
  BitsBreaks returns true for every operation, flags, width and pair of words, and leaves its arguments as they were. Condition: the table of masks begins as the program's text lays it, which the card ties.
-/
import Derived.Test.YtgepmfnjldfnhaaDoorBitsV6
import Derived.Test.YtgepmfnjldfnhaaDoorBitsF
import Derived.Test.YtgepmfnjldfnhaaDoorTie
import Derived.Test.YtgepmfnjldfnhaaDoorCards
import Derived.SevenTiedAt
namespace Go.Proofs.YtgepmfnjldfnhaaDoor
open Go.ChangeShapes Go.WideShapes Go.ChangeAt Go.WideMaps Go.WideElems Go.RowKit Go.Joins

set_option maxRecDepth 100000 in
theorem bitsBreaks_lifted (os : Os) (started : os.Started) (H : Type) (enc : TypeId × Value → H) :
    ReturnsInHanded {} Tryd.checked os 6 .any (fun w args => (Rows.bitsBreaksSpec.pre enc Tryd.prog Tryd.f6 [] false w args ∧ laidMetH Tryd.prog laid1 w) ∧ sizedMet enc Tryd.prog Tryd.f6 (OpenSpec.ofChange Rows.bitsBreaksSpec) false w args)
      (Rows.bitsBreaksSpec.post enc Tryd.prog Tryd.f6 false true false false) := by
  refine returnsInHanded_of_change_and (C := Tryd.checked) (X := fun w _ => laidMetH Tryd.prog laid1 w) (fun _ _ _ hh h => h.of_heap hh) own started (by kernel_rfl) Tryd.func6
    (ChangeSpec.witness_shaped (enc := enc) (C := Tryd.checked) (os := os) (X := fun w _ => laidMetH Tryd.prog laid1 w) false (World.doorLaid Tryd.prog 400 os) #[.agg #[.int .i64 0, .int .i64 0], .int .i64 0, .agg #[.int .u32 0, .int .u32 0]] 8 rfl (World.shaped_of_RefB (by kernel_rfl) (by kernel_rfl)) (by kernel_rfl) (by kernel_rfl) (by kernel_rfl) (door_met os _)) ?_
  intro W base args ds gs before hval0 hW _ _ hL _
  have hval : ∀ (j : Nat) t v, Tryd.f6.params[j]? = some t → args[j]? = some v → Value.okWide Tryd.prog W .any base t v := hval0
  have hW' := hW
  obtain ⟨p, q, hA0, hV, rfl, hfz, hnd⟩ := hW
  have hA : DataW.TrodAll enc Tryd.prog W 0 (fun _ => true) true Tryd.f6.params.toList args.toList ds p := hA0
  rw [Tryd.params6] at hA hval
  obtain ⟨v0, v1, v2, d0, d1, d2, p0, p1, p2, rfl, rfl, rfl, h0, h1, h2⟩ := trodAll_three hA
  obtain ⟨rfl, rfl⟩ := trodVars_none hV
  obtain ⟨c0, c1, y0, y1, m0, rfl, rfl, rfl, hy0, hy1⟩ := open_agg2 Tryd.underlying38 (by kernel_rfl) (show Tryd.prog.cellsOf 38 = 2 by kernel_rfl) (hval 0 38 v0 rfl rfl) h0
  obtain ⟨a0, e0, rfl, w0⟩ := DataW.trod_int Tryd.underlying3 hy0
  obtain ⟨a1, e1, rfl, w1⟩ := DataW.trod_int Tryd.underlying3 hy1
  simp at e0 e1; subst e0 e1
  obtain ⟨a2, rfl, rfl, rfl, w2⟩ := open_int Tryd.underlying3 (hval 1 3 v1 rfl rfl) h1
  obtain ⟨c3, c4, y3, y4, m2, rfl, rfl, rfl, hy3, hy4⟩ := open_agg2 Tryd.underlying32 (by kernel_rfl) (show Tryd.prog.cellsOf 32 = 2 by kernel_rfl) (hval 2 32 v2 rfl rfl) h2
  obtain ⟨a3, e3, rfl, w3⟩ := DataW.trod_int Tryd.underlying22 hy3
  obtain ⟨a4, e4, rfl, w4⟩ := DataW.trod_int Tryd.underlying22 hy4
  simp at e3 e4; subst e3 e4
  clear hA0 hval0
  simp only [List.append_nil] at hW'
  have b3 := bounds_u32 w3
  obtain ⟨x3, rfl⟩ : ∃ x : Nat, a3 = x := ⟨a3.toNat, by omega⟩
  have b4 := bounds_u32 w4
  obtain ⟨x4, rfl⟩ : ∃ x : Nat, a4 = x := ⟨a4.toNat, by omega⟩
  refine (breaks_walk a0 a1 a2 x3 x4 W (masks_of_laidH hL) (by omega) (by omega)).mono fun e W' ⟨he, hb⟩ => ?_
  subst he
  have e1 : (Rows.bitsBreaksSpec.fn H ([.agg [.lit (.int .i64 a0), .lit (.int .i64 a1)], .lit (.int .i64 a2), .agg [.lit (.int .u32 x3), .lit (.int .u32 x4)]] ++ [])) = { results := [.lit (.bool true)], args := [.agg [.lit (.int .i64 a0), .lit (.int .i64 a1)], .lit (.int .i64 a2), .agg [.lit (.int .u32 x3), .lit (.int .u32 x4)]] } := rfl
  refine ⟨_, rfl, _, _, _, [], [], [], hW', ?_, ?_, ?_, hb.frame _, fun h => by cases h⟩
  · rw [e1]; exact trodAll_mk1 (shut_bool Tryd.underlying4 true)
  · rw [e1]; exact trodAll_mk3 (shut_agg2 (v0 := .int .i64 a0) (v1 := .int .i64 a1) (y0 := (.lit (.int .i64 a0), [])) (y1 := (.lit (.int .i64 a1), [])) Tryd.underlying38 (by kernel_rfl) (show Tryd.prog.cellsOf 38 = 2 by kernel_rfl) ⟨1, by simp [DataW.trod, Tryd.underlying3, w0]⟩ ⟨1, by simp [DataW.trod, Tryd.underlying3, w1]⟩) (shut_int Tryd.underlying3 w2) (shut_agg2 (v0 := .int .u32 x3) (v1 := .int .u32 x4) (y0 := (.lit (.int .u32 x3), [])) (y1 := (.lit (.int .u32 x4), [])) Tryd.underlying32 (by kernel_rfl) (show Tryd.prog.cellsOf 32 = 2 by kernel_rfl) ⟨1, by simp [DataW.trod, Tryd.underlying22, w3]⟩ ⟨1, by simp [DataW.trod, Tryd.underlying22, w4]⟩)
  · rw [e1]; rfl

theorem bitsBreaks_holds : Rows.BitsBreaksSaid :=
  OpenClaim.holds_of_wide 6 Tryd.f6 rfl rfl rfl rfl rfl rfl rfl ⟨rfl, rfl, rfl, rfl, rfl⟩ rfl rfl rfl rfl rfl (by kernel_rfl) Tryd.func6 (by kernel_rfl)
    (of_decide_eq_true (by kernel_rfl)) (by unfold Func.isWrapper; rw [if_neg (of_decide_eq_false (by kernel_rfl))]; exact ⟨rfl, rfl⟩)
    (fun os started H enc _ => bitsBreaks_lifted os started H enc)
theorem bitsBreaks_card : Rows.BitsBreaksCardSaid :=
  Claim7.holds_tied_plain_at .later [] [.data] true Rows.bitsBreaksCard.stood.harness false
    bitsBreaks_holds (fun _ h => by cases h) (by kernel_rfl) (fun _ h => by cases h) bitsBreaks_row_tie rfl ⟨rfl, rfl⟩ (by kernel_rfl) rfl
    (fun f fn hf hfn => by
      obtain rfl : f = 6 := Option.some.inj ((show Tryd.prog.funcNamed "backstay/backstaylaw01.BitsBreaks" = some 6 by kernel_rfl).symm.trans hf) |>.symm
      obtain rfl : fn = Tryd.f6 := (Option.some.inj (Tryd.func6.symm.trans hfn)).symm
      exact ⟨by kernel_rfl, fun j t ht => by
        rw [Tryd.params6] at ht
        have hm : t ∈ [38, 3, 32] := by simpa using Array.mem_of_getElem? ht
        have hall : ([38, 3, 32].all fun u => !Tryd.prog.wantsStandIn u) = true := by kernel_rfl
        exact (show Tryd.prog.wantsStandIn t = false by simpa using List.all_eq_true.1 hall t hm)⟩)
    (by kernel_rfl)
#print axioms bitsBreaks_card
end Go.Proofs.YtgepmfnjldfnhaaDoor
