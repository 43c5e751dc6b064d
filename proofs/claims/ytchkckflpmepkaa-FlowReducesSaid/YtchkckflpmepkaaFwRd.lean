/-
  The walk of Reduces.
-/
import Derived.Test.YtchkckflpmepkaaFwRc
namespace Go.Proofs.Ytchkckflpmepkaa
open Go.RowKit

section
variable {w : World} {A : Option Addr} {n c : Nat} {g : List (List Int)}
set_option maxRecDepth 100000 in
set_option maxHeartbeats 8000000 in
theorem reduces_walk (h : RG w A n c g) : Calls Try.prog 9 #[.slice A n c] w fun e w' => e = .returned (.bool true) ∧ Below w.heap.size w w' := by
  have HLO := Lib.hid (long_any h)
  have H1 := Lib.hid (fun w1 (hb : Below w.heap.size w w1) => IsReducible_any (h.below hb))
  have H2 := Lib.hid (fun w1 (hb : Below w.heap.size w w1) => refIsReducible_any (h.below hb))
  have H3 := Lib.hid (fun w1 (hb : Below w.heap.size w w1) => Critical_any (h.below hb))
  have H4 := Lib.hid (fun w1 (hb : Below w.heap.size w w1) => refCritical_any (h.below hb))
  generalize valF g = X at H1 H2 H3 H4
  generalize resI g = R at H1 H2
  generalize resC g = E at H3 H4
  have eX : (X == X) = true := beq_self_eq_true X
  have eR : (R == R) = true := beq_self_eq_true R
  clear h
  go_enter Try.func9, Try.ntmps9
  go_wp2_with fail
  refine HLO.out.mono ?_
  rintro e w' ⟨rfl | ⟨rfl, -⟩, rfl⟩
  · go_wp2_with fail
    refine (calls_known (Below.refl _ _)).mono ?_
    rintro e w' ⟨rfl, hb⟩
    go_wp2
    go_ret
    exact ⟨rfl, hb⟩
  · go_wp2_with fail
    refine (H1.out _ (Below.refl _ _)).mono ?_
    rintro e w1 ⟨rfl, hb⟩
    go_wp2_with fail
    refine (H2.out _ hb).mono ?_
    rintro e w2 ⟨rfl, c1⟩
    replace hb := hb.trans (c1.mono hb.size)
    clear c1
    go_wp2_with fail
    refine (H3.out _ hb).mono ?_
    rintro e w3 ⟨v3, rfl, n3, c1⟩
    replace hb := hb.trans (c1.mono hb.size)
    clear c1
    go_wp2_with fail
    refine (H4.out _ hb).mono ?_
    rintro e w4 ⟨v4, rfl, n4, c1⟩
    replace n3 := n3.below c1
    replace hb := hb.trans (c1.mono hb.size)
    have HB := Lib.hid hb
    have HS := Lib.hid (sameEdges_yes n3 n4)
    clear c1 n3 n4 hb
    go_wp2_with fail
    refine HS.out.mono ?_
    rintro e w5 ⟨rfl, c1⟩
    have hb5 := HB.out.trans (c1.mono HB.out.size)
    go_wp2_with fail
    refine (calls_known hb5).mono ?_
    rintro e w' ⟨rfl, hb⟩
    go_wp2
    go_ret
    exact ⟨rfl, hb⟩
end
end Go.Proofs.Ytchkckflpmepkaa
