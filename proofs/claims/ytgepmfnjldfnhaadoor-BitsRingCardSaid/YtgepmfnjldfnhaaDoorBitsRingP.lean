/-
  BitsRing returns true for every width and three words, and leaves its arguments as they were. Condition: the table of masks begins as the program's text lays it, which the card ties.
-/
import Derived.Test.YtgepmfnjldfnhaaDoorBitsRg
import Derived.Test.YtgepmfnjldfnhaaDoorBitsF
import Derived.Test.YtgepmfnjldfnhaaDoorTie
import Derived.Test.YtgepmfnjldfnhaaDoorCards
import Derived.SevenTiedAt
namespace Go.Proofs.YtgepmfnjldfnhaaDoor
open Go.ChangeShapes Go.WideShapes Go.ChangeAt Go.WideMaps Go.WideElems Go.RowKit Go.Joins

set_option maxRecDepth 100000 in
theorem bitsRing_lifted (os : Os) (started : os.Started) (H : Type) (enc : TypeId × Value → H) :
    ReturnsInHanded {} Tryd.checked os 11 .any (fun w args => (Rows.bitsRingSpec.pre enc Tryd.prog Tryd.f11 [] false w args ∧ laidMetH Tryd.prog laid1 w) ∧ sizedMet enc Tryd.prog Tryd.f11 (OpenSpec.ofChange Rows.bitsRingSpec) false w args)
      (Rows.bitsRingSpec.post enc Tryd.prog Tryd.f11 false true false false) := by
  refine returnsInHanded_of_change_and (C := Tryd.checked) (X := fun w _ => laidMetH Tryd.prog laid1 w) (fun _ _ _ hh h => h.of_heap hh) own started (by kernel_rfl) Tryd.func11
    (ChangeSpec.witness_shaped (enc := enc) (C := Tryd.checked) (os := os) (X := fun w _ => laidMetH Tryd.prog laid1 w) false (World.doorLaid Tryd.prog 400 os) #[.int .i64 0, .agg #[.int .u32 0, .int .u32 0], .int .u32 0] 8 rfl (World.shaped_of_RefB (by kernel_rfl) (by kernel_rfl)) (by kernel_rfl) (by kernel_rfl) (by kernel_rfl) (door_met os _)) ?_
  intro W base args ds gs before hval0 hW _ _ hL _
  have hval : ∀ (j : Nat) t v, Tryd.f11.params[j]? = some t → args[j]? = some v → Value.okWide Tryd.prog W .any base t v := hval0
  have hW' := hW
  obtain ⟨p, q, hA0, hV, rfl, hfz, hnd⟩ := hW
  have hA : DataW.TrodAll enc Tryd.prog W 0 (fun _ => true) true Tryd.f11.params.toList args.toList ds p := hA0
  rw [Tryd.params11] at hA hval
  obtain ⟨v0, v1, v2, d0, d1, d2, p0, p1, p2, rfl, rfl, rfl, h0, h1, h2⟩ := trodAll_three hA
  obtain ⟨rfl, rfl⟩ := trodVars_none hV
  obtain ⟨a0, rfl, rfl, rfl, w0⟩ := open_int Tryd.underlying3 (hval 0 3 v0 rfl rfl) h0
  obtain ⟨c1, c2, y1, y2, m1, rfl, rfl, rfl, hy1, hy2⟩ := open_agg2 Tryd.underlying32 (by kernel_rfl) (show Tryd.prog.cellsOf 32 = 2 by kernel_rfl) (hval 1 32 v1 rfl rfl) h1
  obtain ⟨a1, e1, rfl, w1⟩ := DataW.trod_int Tryd.underlying22 hy1
  obtain ⟨a2, e2, rfl, w2⟩ := DataW.trod_int Tryd.underlying22 hy2
  simp at e1 e2; subst e1 e2
  obtain ⟨a3, rfl, rfl, rfl, w3⟩ := open_int Tryd.underlying22 (hval 2 22 v2 rfl rfl) h2
  clear hA0 hval0
  simp only [List.append_nil] at hW'
  have b1 := bounds_u32 w1
  obtain ⟨x1, rfl⟩ : ∃ x : Nat, a1 = x := ⟨a1.toNat, by omega⟩
  have b2 := bounds_u32 w2
  obtain ⟨x2, rfl⟩ : ∃ x : Nat, a2 = x := ⟨a2.toNat, by omega⟩
  have b3 := bounds_u32 w3
  obtain ⟨x3, rfl⟩ : ∃ x : Nat, a3 = x := ⟨a3.toNat, by omega⟩
  refine (ring_walk a0 x1 x2 x3 W (masks_of_laidH hL) (by omega) (by omega) (by omega)).mono fun e W' ⟨he, hb⟩ => ?_
  subst he
  have e1 : (Rows.bitsRingSpec.fn H ([.lit (.int .i64 a0), .agg [.lit (.int .u32 x1), .lit (.int .u32 x2)], .lit (.int .u32 x3)] ++ [])) = { results := [.lit (.bool true)], args := [.lit (.int .i64 a0), .agg [.lit (.int .u32 x1), .lit (.int .u32 x2)], .lit (.int .u32 x3)] } := rfl
  refine ⟨_, rfl, _, _, _, [], [], [], hW', ?_, ?_, ?_, hb.frame _, fun h => by cases h⟩
  · rw [e1]; exact trodAll_mk1 (shut_bool Tryd.underlying4 true)
  · rw [e1]; exact trodAll_mk3 (shut_int Tryd.underlying3 w0) (shut_agg2 (v0 := .int .u32 x1) (v1 := .int .u32 x2) (y0 := (.lit (.int .u32 x1), [])) (y1 := (.lit (.int .u32 x2), [])) Tryd.underlying32 (by kernel_rfl) (show Tryd.prog.cellsOf 32 = 2 by kernel_rfl) ⟨1, by simp [DataW.trod, Tryd.underlying22, w1]⟩ ⟨1, by simp [DataW.trod, Tryd.underlying22, w2]⟩) (shut_int Tryd.underlying22 w3)
  · rw [e1]; rfl

theorem bitsRing_holds : Rows.BitsRingSaid :=
  OpenClaim.holds_of_wide 11 Tryd.f11 rfl rfl rfl rfl rfl rfl rfl ⟨rfl, rfl, rfl, rfl, rfl⟩ rfl rfl rfl rfl rfl (by kernel_rfl) Tryd.func11 (by kernel_rfl)
    (of_decide_eq_true (by kernel_rfl)) (by unfold Func.isWrapper; rw [if_neg (of_decide_eq_false (by kernel_rfl))]; exact ⟨rfl, rfl⟩)
    (fun os started H enc _ => bitsRing_lifted os started H enc)
theorem bitsRing_card : Rows.BitsRingCardSaid :=
  Claim7.holds_tied_plain_at .later [] [.data] true Rows.bitsRingCard.stood.harness false
    bitsRing_holds (fun _ h => by cases h) (by kernel_rfl) (fun _ h => by cases h) bitsRing_row_tie rfl ⟨rfl, rfl⟩ (by kernel_rfl) rfl
    (fun f fn hf hfn => by
      obtain rfl : f = 11 := Option.some.inj ((show Tryd.prog.funcNamed "backstay/backstaylaw01.BitsRing" = some 11 by kernel_rfl).symm.trans hf) |>.symm
      obtain rfl : fn = Tryd.f11 := (Option.some.inj (Tryd.func11.symm.trans hfn)).symm
      exact ⟨by kernel_rfl, fun j t ht => by
        rw [Tryd.params11] at ht
        have hm : t ∈ [3, 32, 22] := by simpa using Array.mem_of_getElem? ht
        have hall : ([3, 32, 22].all fun u => !Tryd.prog.wantsStandIn u) = true := by kernel_rfl
        exact (show Tryd.prog.wantsStandIn t = false by simpa using List.all_eq_true.1 hall t hm)⟩)
    (by kernel_rfl)
#print axioms bitsRing_card
end Go.Proofs.YtgepmfnjldfnhaaDoor
