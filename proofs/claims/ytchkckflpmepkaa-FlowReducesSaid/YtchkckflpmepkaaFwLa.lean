/-
  The walks of Graphs, Orders, Dominates.
-/
import Derived.Test.YtchkckflpmepkaaFwZ
namespace Go.Proofs.Ytchkckflpmepkaa
open Go.RowKit

theorem calls_known {w0 w : World} (hb : Below w0.heap.size w0 w) : Calls Try.prog 12 #[] w fun e w' => e = .returned (.bool true) ∧ Below w0.heap.size w0 w' :=
  (known_any w).mono fun _ _ h => ⟨h.1, hb.trans (h.2.mono hb.size)⟩
theorem resD_self {g : List (List Int)} {a : Int} (h : errT g [a, a] = 0) : resD g a a = true := by
  obtain ⟨hv, -, -, -, -⟩ := errT_two h
  unfold resD
  rw [h, dom_self (okG_val hv)]
  rfl
section
variable {w : World} {A : Option Addr} {n c : Nat} {g : List (List Int)}
set_option maxRecDepth 100000 in
set_option maxHeartbeats 8000000 in
theorem graphs_walk (h : RG w A n c g) (v : Int) : Calls Try.prog 3 #[.slice A n c, .int .i64 v] w fun e w' => e = .returned (.bool true) ∧ Below w.heap.size w w' := by
  have HLO := Lib.hid (long_any h)
  have HR := Lib.hid (fun w1 (hb : Below w.heap.size w w1) => Reached_any (h.below hb))
  have HR2 := Lib.hid (fun w1 (hb : Below w.heap.size w w1) => refReached_any (h.below hb))
  have HB := Lib.hid (fun w1 (hb : Below w.heap.size w w1) => Before_any (h.below hb) v)
  have HB2 := Lib.hid (fun w1 (hb : Below w.heap.size w w1) => refBefore_any (h.below hb) v)
  have HV := Lib.hid (fun w1 (hb : Below w.heap.size w w1) => validate_any (h.below hb))
  have HV2 := Lib.hid (fun w1 (hb : Below w.heap.size w w1) => refValidate_any (h.below hb))
  generalize valF g = X at HR HR2 HV HV2
  generalize errN g [v] = Y at HB HB2
  have eX : (X == X) = true := beq_self_eq_true X
  have eY : (Y == Y) = true := beq_self_eq_true Y
  clear h
  go_enter Try.func3, Try.ntmps3
  go_wp2_with fail
  refine HLO.out.mono ?_
  rintro e w' ⟨rfl | ⟨rfl, -⟩, rfl⟩
  · go_wp2_with fail
    refine (calls_known (Below.refl _ _)).mono ?_
    rintro e w' ⟨rfl, hb⟩
    go_wp2
    go_ret
    exact ⟨rfl, hb⟩
  · go_wp2_with fail
    refine (HR.out _ (Below.refl _ _)).mono ?_
    rintro e w1 ⟨v1, rfl, n1, hb⟩
    go_wp2_with fail
    refine (HR2.out _ hb).mono ?_
    rintro e w2 ⟨v2, rfl, n2, c1⟩
    replace n1 := n1.below c1
    replace hb := hb.trans (c1.mono hb.size)
    clear c1
    go_wp2_with fail
    refine (HB.out _ hb).mono ?_
    rintro e w3 ⟨v3, rfl, n3, c1⟩
    replace n1 := n1.below c1
    replace n2 := n2.below c1
    replace hb := hb.trans (c1.mono hb.size)
    clear c1
    go_wp2_with fail
    refine (HB2.out _ hb).mono ?_
    rintro e w4 ⟨v4, rfl, n4, c1⟩
    have n1 := Lib.hid (n1.below c1)
    have n2 := Lib.hid (n2.below c1)
    have n3 := Lib.hid (n3.below c1)
    have n4 := Lib.hid n4
    replace hb := hb.trans (c1.mono hb.size)
    clear c1
    go_wp2_with fail
    refine (HV.out _ hb).mono ?_
    rintro e w' ⟨rfl, rfl⟩
    go_wp2_with fail
    refine (HV2.out _ hb).mono ?_
    rintro e w' ⟨rfl, rfl⟩
    obtain ⟨A1, m1, c1, rfl, k1⟩ := n1.out
    obtain ⟨A2, m2, c2, rfl, k2⟩ := n2.out
    have K1 := Lib.hid k1
    have K2 := Lib.hid k2
    clear k1 k2
    go_wp2_with fail
    refine (sameInts_yes K1.out K2.out).mono ?_
    rintro e w5 ⟨rfl, d1⟩
    replace n3 := n3.out.below d1
    replace n4 := n4.out.below d1
    replace hb := hb.trans (d1.mono hb.size)
    clear d1 K1 K2
    obtain ⟨A3, m3, c3, rfl, k3⟩ := n3
    obtain ⟨A4, m4, c4, rfl, k4⟩ := n4
    have K3 := Lib.hid k3
    have K4 := Lib.hid k4
    clear k3 k4
    go_wp2_with fail
    refine (sameInts_yes K3.out K4.out).mono ?_
    rintro e w6 ⟨rfl, d1⟩
    replace hb := hb.trans (d1.mono hb.size)
    clear d1 K3 K4
    go_wp2_with fail
    refine (calls_known hb).mono ?_
    rintro e w' ⟨rfl, hb⟩
    go_wp2
    go_ret
    exact ⟨rfl, hb⟩
set_option maxRecDepth 100000 in
set_option maxHeartbeats 8000000 in
theorem dominates_walk (h : RG w A n c g) (a b : Int) : Calls Try.prog 6 #[.slice A n c, .int .i64 a, .int .i64 b] w fun e w' => e = .returned (.bool true) ∧ Below w.heap.size w w' := by
  have HLO := Lib.hid (long_any h)
  have HD := Lib.hid (fun w1 (hb : Below w.heap.size w w1) => Dominates_any (h.below hb) a b)
  have HD2 := Lib.hid (fun w1 (hb : Below w.heap.size w w1) => refDominatesTop_any (h.below hb) a b)
  have HS := Lib.hid (show errT g [a, b] = 0 → a = b → resD g a b = true from fun h1 h2 => by subst h2; exact resD_self h1)
  generalize errT g [a, b] = Y at HD HD2 HS
  generalize resD g a b = B at HD HD2 HS
  have eY : (Y == Y) = true := beq_self_eq_true Y
  have eB : (B == B) = true := beq_self_eq_true B
  clear h
  go_enter Try.func6, Try.ntmps6
  go_wp2_with fail
  refine HLO.out.mono ?_
  rintro e w' ⟨rfl | ⟨rfl, -⟩, rfl⟩
  · go_wp2_with fail
    refine (calls_known (Below.refl _ _)).mono ?_
    rintro e w' ⟨rfl, hb⟩
    go_wp2
    go_ret
    exact ⟨rfl, hb⟩
  · go_wp2_with fail
    refine (HD.out _ (Below.refl _ _)).mono ?_
    rintro e w1 ⟨rfl, hb⟩
    go_wp2_with fail
    refine (HD2.out _ hb).mono ?_
    rintro e w2 ⟨rfl, c1⟩
    replace hb := hb.trans (c1.mono hb.size)
    clear c1
    by_cases hY : Y = 0
    · have dY : (Y != 0) = false := by simp [hY]
      by_cases hab : a = b
      · have dab : (a != b) = false := by simp [hab]
        obtain rfl : B = true := HS.out hY hab
        clear HD HD2 HS hY hab
        go_wp2_with fail
        refine (calls_known hb).mono ?_
        rintro e w' ⟨rfl, hb⟩
        go_wp2
        go_ret
        exact ⟨rfl, hb⟩
      · have dab : (a != b) = true := by simp [hab]
        clear HD HD2 HS hY hab
        go_wp2_with fail
        refine (calls_known hb).mono ?_
        rintro e w' ⟨rfl, hb⟩
        go_wp2
        go_ret
        exact ⟨rfl, hb⟩
    · have dY : (Y != 0) = true := by simp [hY]
      clear HD HD2 HS hY
      go_wp2_with fail
      refine (calls_known hb).mono ?_
      rintro e w' ⟨rfl, hb⟩
      go_wp2
      go_ret
      exact ⟨rfl, hb⟩
end
end Go.Proofs.Ytchkckflpmepkaa
