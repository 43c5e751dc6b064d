/-
  TopWords returns true for every width, words, shift and lane, and leaves its arguments as they were. Condition: the table of masks begins as the program's text lays it, which the card ties.
-/
import Derived.Test.YtgnaohhopbhihaaDoorTopG
import Derived.Test.YtgnaohhopbhihaaDoorBitsF
import Derived.Test.YtgnaohhopbhihaaDoorTie
import Derived.Test.YtgnaohhopbhihaaDoorCards
import Derived.SevenTiedAt
import Derived.Lib.SmallJoins
namespace Go.Proofs.YtgnaohhopbhihaaDoor
open Go.ChangeShapes Go.WideShapes Go.ChangeAt Go.WideMaps Go.WideElems Go.RowKit Go.Joins

theorem top_walk (m : Int) (a b : Nat) (y l : Int) (w : World) (hM : Masks w) (a32 : a < 4294967296) (b32 : b < 4294967296) :
    Calls Tryd.prog 3 #[.int .i64 m, .agg #[.int .u32 a, .int .u32 b, .int .i64 y, .int .i64 l]] w fun e w' => e = .returned (.bool true) ∧ Below w.heap.size w w' := by
  by_cases hbad : m < 1 ∨ 32 < m ∨ pw m.toNat ≤ a ∨ pw m.toNat ≤ b
  · exact top_bad m a b y l w hM a32 b32 hbad
  · obtain ⟨n, rfl, h1, h2, ha, hb⟩ : ∃ n : Nat, m = n ∧ 1 ≤ n ∧ n ≤ 32 ∧ a < pw n ∧ b < pw n := ⟨m.toNat, by omega, by omega, by omega, by omega, by omega⟩
    exact top_good n a b y l w hM h1 h2 ha hb
set_option maxRecDepth 100000 in
theorem topWords_lifted (os : Os) (started : os.Started) (H : Type) (enc : TypeId × Value → H) :
    ReturnsInHanded {} Tryd.checked os 3 .any (fun w args => (Rows.topWordsSpec.pre enc Tryd.prog Tryd.f3 [] false w args ∧ laidMetH Tryd.prog laid1 w) ∧ sizedMet enc Tryd.prog Tryd.f3 (OpenSpec.ofChange Rows.topWordsSpec) false w args)
      (Rows.topWordsSpec.post enc Tryd.prog Tryd.f3 false true false false) := by
  refine returnsInHanded_of_change_and (C := Tryd.checked) (X := fun w _ => laidMetH Tryd.prog laid1 w) (fun _ _ _ hh h => h.of_heap hh) own started (by kernel_rfl) Tryd.func3
    (ChangeSpec.witness_shaped (enc := enc) (C := Tryd.checked) (os := os) (X := fun w _ => laidMetH Tryd.prog laid1 w) false (World.doorLaid Tryd.prog 400 os) #[.int .i64 0, .agg #[.int .u32 0, .int .u32 0, .int .i64 0, .int .i64 0]] 8 rfl (World.shaped_of_RefB (by kernel_rfl) (by kernel_rfl)) (by kernel_rfl) (by kernel_rfl) (by kernel_rfl) (door_met os _)) ?_
  intro W base args ds gs before hval0 hW _ _ hL _
  have hval : ∀ (j : Nat) t v, Tryd.f3.params[j]? = some t → args[j]? = some v → Value.okWide Tryd.prog W .any base t v := hval0
  have hW' := hW
  obtain ⟨p, q, hA0, hV, rfl, hfz, hnd⟩ := hW
  have hA : DataW.TrodAll enc Tryd.prog W 0 (fun _ => true) true Tryd.f3.params.toList args.toList ds p := hA0
  rw [Tryd.params3] at hA hval
  obtain ⟨v0, v1, d0, d1, p0, p1, rfl, rfl, rfl, h0, h1⟩ := trodAll_two hA
  obtain ⟨rfl, rfl⟩ := trodVars_none hV
  obtain ⟨a0, rfl, rfl, rfl, w0⟩ := open_int Tryd.underlying3 (hval 0 3 v0 rfl rfl) h0
  obtain ⟨c1, c2, c3, c4, y1, y2, y3, y4, m1, rfl, rfl, rfl, hy1, hy2, hy3, hy4⟩ := open_agg4 Tryd.underlying24 (by kernel_rfl) (show Tryd.prog.cellsOf 24 = 4 by kernel_rfl) (hval 1 24 v1 rfl rfl) h1
  obtain ⟨a1, e1, rfl, w1⟩ := DataW.trod_int Tryd.underlying22 hy1
  obtain ⟨a2, e2, rfl, w2⟩ := DataW.trod_int Tryd.underlying22 hy2
  obtain ⟨a3, e3, rfl, w3⟩ := DataW.trod_int Tryd.underlying3 hy3
  obtain ⟨a4, e4, rfl, w4⟩ := DataW.trod_int Tryd.underlying3 hy4
  simp at e1 e2 e3 e4
  subst e1 e2 e3 e4
  clear hA0 hval0
  simp only [List.append_nil] at hW'
  have b1 := bounds_u32 w1
  obtain ⟨x1, rfl⟩ : ∃ x : Nat, a1 = x := ⟨a1.toNat, by omega⟩
  have b2 := bounds_u32 w2
  obtain ⟨x2, rfl⟩ : ∃ x : Nat, a2 = x := ⟨a2.toNat, by omega⟩
  refine (top_walk a0 x1 x2 a3 a4 W (masks_of_laidH hL) (by omega) (by omega)).mono fun e W' ⟨he, hb⟩ => ?_
  subst he
  have e1 : (Rows.topWordsSpec.fn H ([.lit (.int .i64 a0), .agg [.lit (.int .u32 x1), .lit (.int .u32 x2), .lit (.int .i64 a3), .lit (.int .i64 a4)]] ++ [])) = { results := [.lit (.bool true)], args := [.lit (.int .i64 a0), .agg [.lit (.int .u32 x1), .lit (.int .u32 x2), .lit (.int .i64 a3), .lit (.int .i64 a4)]] } := rfl
  refine ⟨_, rfl, _, _, _, [], [], [], hW', ?_, ?_, ?_, hb.frame _, fun h => by cases h⟩
  · rw [e1]; exact trodAll_mk1 (shut_bool Tryd.underlying4 true)
  · rw [e1]; exact trodAll_mk2 (shut_int Tryd.underlying3 w0) (shut_agg4 (v0 := .int .u32 x1) (v1 := .int .u32 x2) (v2 := .int .i64 a3) (v3 := .int .i64 a4) (y0 := (.lit (.int .u32 x1), [])) (y1 := (.lit (.int .u32 x2), [])) (y2 := (.lit (.int .i64 a3), [])) (y3 := (.lit (.int .i64 a4), [])) Tryd.underlying24 (by kernel_rfl) (show Tryd.prog.cellsOf 24 = 4 by kernel_rfl) ⟨1, by simp [DataW.trod, Tryd.underlying22, w1]⟩ ⟨1, by simp [DataW.trod, Tryd.underlying22, w2]⟩ ⟨1, by simp [DataW.trod, Tryd.underlying3, w3]⟩ ⟨1, by simp [DataW.trod, Tryd.underlying3, w4]⟩)
  · rw [e1]; rfl

theorem topWords_holds : Rows.TopWordsSaid :=
  OpenClaim.holds_of_wide 3 Tryd.f3 rfl rfl rfl rfl rfl rfl rfl ⟨rfl, rfl, rfl, rfl, rfl⟩ rfl rfl rfl rfl rfl (by kernel_rfl) Tryd.func3 (by kernel_rfl)
    (of_decide_eq_true (by kernel_rfl)) (by unfold Func.isWrapper; rw [if_neg (of_decide_eq_false (by kernel_rfl))]; exact ⟨rfl, rfl⟩)
    (fun os started H enc _ => topWords_lifted os started H enc)
theorem topWords_card : Rows.TopWordsCardSaid :=
  Claim7.holds_tied_plain_at .later [] [.data] true Rows.topWordsCard.stood.harness true
    topWords_holds (fun _ h => by cases h) (by kernel_rfl) (fun _ h => by cases h) topWords_row_tie rfl ⟨rfl, rfl⟩ (by kernel_rfl) rfl
    (fun f fn hf hfn => by
      obtain rfl : f = 3 := Option.some.inj ((show Tryd.prog.funcNamed "backstay/backstaytop.TopWords" = some 3 by kernel_rfl).symm.trans hf) |>.symm
      obtain rfl : fn = Tryd.f3 := (Option.some.inj (Tryd.func3.symm.trans hfn)).symm
      exact ⟨by kernel_rfl, fun j t ht => by
        rw [Tryd.params3] at ht
        have hm : t ∈ [3, 24] := by simpa using Array.mem_of_getElem? ht
        have hall : ([3, 24].all fun u => !Tryd.prog.wantsStandIn u) = true := by kernel_rfl
        exact (show Tryd.prog.wantsStandIn t = false by simpa using List.all_eq_true.1 hall t hm)⟩)
    (by kernel_rfl)
#print axioms topWords_card
end Go.Proofs.YtgnaohhopbhihaaDoor
