/-
  The walk of Loops.
-/
import Derived.Test.YtchkckflpmepkaaFwLd
namespace Go.Proofs.Ytchkckflpmepkaa
open Go.RowKit

theorem errT_ok {g : List (List Int)} {a b : Int} (hv : valF g = 0) (ha : nodeB a g.length = true) (hb : nodeB b g.length = true) (ra : wy (natG g) (-1) 0 a.toNat = true) (rb : wy (natG g) (-1) 0 b.toNat = true) : errT g [a, b] = 0 := by
  have h1 : nodesOk g [a, b] = true := by
    unfold nodesOk
    simp [ha, hb]
  have h2 : seenOk g [a, b] = true := by
    unfold seenOk
    simp [ra, rb]
  unfold errT
  rw [if_pos hv, h1, if_pos rfl, h2, if_pos rfl]
theorem loops_dom {g : List (List Int)} {v : Int} {j : Nat} (hj : j ∈ resL g v) : errT g [v, (j : Int)] = 0 ∧ resD g v (j : Int) = true := by
  unfold resL at hj
  by_cases he : errL g v = 0
  · rw [if_pos he] at hj
    have hS := (mem_setL.1 hj).2
    unfold errL at he
    by_cases hn : errN g [v] = 0
    · rw [if_pos hn] at he
      cases hh : hdS (bkL (natG g)) v.toNat
      · rw [hh] at he
        cases he
      · obtain ⟨hv, hns, -⟩ : valF g = 0 ∧ nodesOk g [v] = true ∧ errN g [v] = 0 := by
          rcases errN_cases g [v] with hh | hh
          · exact hh
          · exact absurd hn hh.1
        have hG := okG_val hv
        have hvn : nodeB v g.length = true := by
          unfold nodesOk at hns
          simp at hns
          exact hns
        have hlt := lopS_lt hG (hd_lt hG hh) hS
        rw [natG_len] at hlt
        have hE : errT g [v, (j : Int)] = 0 := errT_ok hv hvn (decide_eq_true (by omega)) (head_reached hG hh) (by
          rw [show ((j : Int)).toNat = j from rfl]
          exact loop_reached hG hS hh)
        refine ⟨hE, ?_⟩
        unfold resD
        rw [hE, show ((j : Int)).toNat = j from rfl, head_dom hG hS hh]
        rfl
    · rw [if_neg hn] at he
      exact absurd he hn
  · rw [if_neg he] at hj
    cases hj
section
variable {w : World} {A : Option Addr} {n c : Nat} {g : List (List Int)}
set_option maxRecDepth 100000 in
set_option maxHeartbeats 8000000 in
theorem loops_walk (h : RG w A n c g) (v : Int) : Calls Try.prog 8 #[.slice A n c, .int .i64 v] w fun e w' => e = .returned (.bool true) ∧ Below w.heap.size w w' := by
  have HLO := Lib.hid (long_any h)
  have HB := Lib.hid (fun w1 (hb : Below w.heap.size w w1) => Backs_any (h.below hb))
  have HB2 := Lib.hid (fun w1 (hb : Below w.heap.size w w1) => refBacksTop_any (h.below hb))
  have HL := Lib.hid (fun w1 (hb : Below w.heap.size w w1) => Loop_any (h.below hb) v)
  have HL2 := Lib.hid (fun w1 (hb : Below w.heap.size w w1) => refLoopTop_any (h.below hb) v)
  have HD := Lib.hid (fun w1 (hb : Below w.heap.size w w1) => Depth_any (h.below hb) v)
  have HD2 := Lib.hid (fun w1 (hb : Below w.heap.size w w1) => refDepth_any (h.below hb) v)
  have HDM := Lib.hid (fun w1 (hb : Below w.heap.size w w1) (j : Nat) (hj : j ∈ resL g v) => (loops_dom hj).1 ▸ (loops_dom hj).2 ▸ Dominates_any (h.below hb) v (j : Int))
  have hll : (resL g v).length ≤ 10 := by
    unfold resL
    split
    · exact setL_le _ _
    · simp
  generalize valF g = X at HB HB2
  generalize errL g v = Y at HL HL2
  generalize resL g v = L at HL HL2 HDM hll
  generalize errT g [v] = Z at HD HD2
  generalize resDp g v = P at HD HD2
  have eX : (X == X) = true := beq_self_eq_true X
  have eY : (Y == Y) = true := beq_self_eq_true Y
  have eZ : (Z == Z) = true := beq_self_eq_true Z
  have eP : (P == P) = true := beq_self_eq_true P
  clear h
  go_enter Try.func8, Try.ntmps8
  go_wp2_with fail
  refine HLO.out.mono ?_
  rintro e w' ⟨rfl | ⟨rfl, -⟩, rfl⟩
  · go_wp2_with fail
    refine (calls_known (Below.refl _ _)).mono ?_
    rintro e w' ⟨rfl, hb⟩
    go_wp2
    go_ret
    exact ⟨rfl, hb⟩
  · go_wp2_with fail
    refine (HB.out _ (Below.refl _ _)).mono ?_
    rintro e w1 ⟨v1, rfl, n1, hb⟩
    go_wp2_with fail
    refine (HB2.out _ hb).mono ?_
    rintro e w2 ⟨v2, rfl, n2, c1⟩
    replace n1 := n1.below c1
    replace hb := hb.trans (c1.mono hb.size)
    clear c1
    go_wp2_with fail
    refine (HL.out _ hb).mono ?_
    rintro e w3 ⟨v3, rfl, n3, c1⟩
    replace n1 := n1.below c1
    replace n2 := n2.below c1
    replace hb := hb.trans (c1.mono hb.size)
    clear c1
    go_wp2_with fail
    refine (HL2.out _ hb).mono ?_
    rintro e w4 ⟨v4, rfl, n4, c1⟩
    replace n1 := n1.below c1
    replace n2 := n2.below c1
    replace n3 := n3.below c1
    replace hb := hb.trans (c1.mono hb.size)
    clear c1
    go_wp2_with fail
    refine (HD.out _ hb).mono ?_
    rintro e w5 ⟨rfl, c1⟩
    replace n1 := n1.below c1
    replace n2 := n2.below c1
    replace n3 := n3.below c1
    replace n4 := n4.below c1
    replace hb := hb.trans (c1.mono hb.size)
    clear c1
    go_wp2_with fail
    refine (HD2.out _ hb).mono ?_
    rintro e w6 ⟨rfl, c1⟩
    have N1 := Lib.hid (n1.below c1)
    have N2 := Lib.hid (n2.below c1)
    have N3 := Lib.hid (n3.below c1)
    have N4 := Lib.hid (n4.below c1)
    replace hb := hb.trans (c1.mono hb.size)
    clear c1 n1 n2 n3 n4
    go_wp2_with fail
    refine (sameEdges_yes N1.out N2.out).mono ?_
    rintro e w7 ⟨rfl, c1⟩
    have k3 := N3.out.below c1
    have k4 := N4.out.below c1
    replace hb := hb.trans (c1.mono hb.size)
    clear c1 N1 N2 N3 N4
    obtain ⟨A3, m3, c3, rfl, k3⟩ := k3
    obtain ⟨A4, m4, c4, rfl, k4⟩ := k4
    have K3 := Lib.hid k3
    have K4 := Lib.hid k4
    clear k3 k4
    go_wp2_with fail
    refine (sameInts_yes K3.out K4.out).mono ?_
    rintro e w8 ⟨rfl, c1⟩
    have k3 := K3.out.below c1
    replace hb := hb.trans (c1.mono hb.size)
    have hm3 := k3.1
    have hcc := k3.2.1
    have hmm := k3.2.2.1
    have KK := Lib.hid k3
    have HM := Lib.hid hm3
    clear c1 K3 K4 k3 hm3
    go_wp2
    go_loopw [17] (fun zi wr => ∃ i : Nat, i ≤ m3 ∧ zi = .int .i64 (i : Int) ∧ Below w8.heap.size w8 wr) (fun zi _ => m3 - (intOf zi).toNat)
    case atStart => exact ⟨0, by omega, rfl, Below.refl _ _⟩
    case round =>
      obtain ⟨i, hi, rfl, hb3⟩ := hrel
      by_cases hlt : i < m3
      · obtain ⟨b, off, rfl, hbs, hc⟩ := KK.out.get hb3 hlt
        have HC := Lib.hid (HDM.out wr (hb.trans (hb3.mono hb.size)) L[i]! (at_get (by rw [← HM.out]; exact hlt)))
        generalize L[i]! = j at hc HC
        go_wp2_with fail
        refine HC.out.mono ?_
        rintro e w9 ⟨rfl, hb4⟩
        have hb5 := hb3.trans (hb4.mono hb3.size)
        clear hb3 hb4 hc hbs
        go_wp2
        go_roundw
        case rel => exact ⟨i + 1, by omega, by go_num, hb5⟩
        case measure => simp [intOf]; omega
      · obtain rfl : i = m3 := by omega
        have hb4 := hb.trans (hb3.mono hb.size)
        go_wp2_with fail
        refine (calls_known hb4).mono ?_
        rintro e w' ⟨rfl, hb5⟩
        go_wp2
        go_ret
        exact ⟨rfl, hb5⟩
end
end Go.Proofs.Ytchkckflpmepkaa
