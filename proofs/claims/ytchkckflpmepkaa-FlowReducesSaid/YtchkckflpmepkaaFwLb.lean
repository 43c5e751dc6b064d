/-
  The walk of Orders.
-/
import Derived.Test.YtchkckflpmepkaaFwLa
namespace Go.Proofs.Ytchkckflpmepkaa
open Go.RowKit

theorem resO_len (g : List (List Int)) : (resO g).length = (resR g).length := by
  unfold resO resR
  by_cases hv : valF g = 0
  · rw [if_pos hv, if_pos hv, ordL_len (okG_val hv), natG_len]
  · rw [if_neg hv, if_neg hv]
theorem resO_zero {g : List (List Int)} (hv : valF g = 0) : (resO g)[0]? = some 0 := by
  unfold resO
  rw [if_pos hv]
  exact ordL_head (okG_val hv)
section
variable {w : World} {A : Option Addr} {n c : Nat} {g : List (List Int)}
set_option maxRecDepth 100000 in
set_option maxHeartbeats 8000000 in
theorem orders_walk (h : RG w A n c g) : Calls Try.prog 4 #[.slice A n c] w fun e w' => e = .returned (.bool true) ∧ Below w.heap.size w w' := by
  have HLO := Lib.hid (long_any h)
  have HO := Lib.hid (fun w1 (hb : Below w.heap.size w w1) => Order_any (h.below hb))
  have HO2 := Lib.hid (fun w1 (hb : Below w.heap.size w w1) => refOrder_any (h.below hb))
  have HR := Lib.hid (fun w1 (hb : Below w.heap.size w w1) => Reached_any (h.below hb))
  have HEQ := Lib.hid (resO_len g)
  have HZ := Lib.hid (fun hv => resO_zero (g := g) hv)
  generalize valF g = X at HO HO2 HR HZ
  generalize resO g = L at HO HO2 HEQ HZ
  generalize resR g = L2 at HR HEQ
  have eX : (X == X) = true := beq_self_eq_true X
  clear h
  go_enter Try.func4, Try.ntmps4
  go_wp2_with fail
  refine HLO.out.mono ?_
  rintro e w' ⟨rfl | ⟨rfl, -⟩, rfl⟩
  · go_wp2_with fail
    refine (calls_known (Below.refl _ _)).mono ?_
    rintro e w' ⟨rfl, hb⟩
    go_wp2
    go_ret
    exact ⟨rfl, hb⟩
  · go_wp2_with fail
    refine (HO.out _ (Below.refl _ _)).mono ?_
    rintro e w1 ⟨v1, rfl, n1, hb⟩
    go_wp2_with fail
    refine (HO2.out _ hb).mono ?_
    rintro e w2 ⟨v2, rfl, n2, c1⟩
    replace n1 := n1.below c1
    replace hb := hb.trans (c1.mono hb.size)
    clear c1
    go_wp2_with fail
    refine (HR.out _ hb).mono ?_
    rintro e w3 ⟨v3, rfl, n3, c1⟩
    replace n1 := n1.below c1
    replace n2 := n2.below c1
    replace hb := hb.trans (c1.mono hb.size)
    clear c1
    obtain ⟨A1, m1, c1, rfl, n1⟩ := n1
    obtain ⟨A2, m2, c2, rfl, n2⟩ := n2
    obtain ⟨A3, m3, c3, rfl, n3⟩ := n3
    obtain rfl : m3 = m1 := by rw [n1.1, n3.1, HEQ.out]
    have hm1 := n1.1
    have HM1 := Lib.hid hm1
    have K1 := Lib.hid n1
    have K2 := Lib.hid n2
    clear n3 hm1 n1 n2
    go_wp2_with fail
    refine (sameInts_yes K1.out K2.out).mono ?_
    rintro e w5 ⟨rfl, d1⟩
    have n1 := K1.out.below d1
    replace hb := hb.trans (d1.mono hb.size)
    clear d1 K1 K2
    have eM : ((m3 : Int) == (m3 : Int)) = true := beq_self_eq_true _
    by_cases hX : X = 0
    · have dX : (X != 0) = false := by simp [hX]
      have hz := HZ.out hX
      have hpos : 0 < m3 := by
        rw [HM1.out]
        exact (List.getElem?_eq_some_iff.1 hz).1
      obtain ⟨b, off, rfl, hbs, hc⟩ := n1.at_ hpos
      have h0 : L[0]! = 0 := by rw [List.getElem!_eq_getElem?_getD, hz]; rfl
      rw [h0] at hc
      rw [Nat.add_zero] at hc
      have dpos : decide ((0 : Int) < (m3 : Int)) = true := decide_eq_true (by omega)
      have hc' : w5.cell? ⟨b, off, none⟩ = some (.int .i64 0) := hc
      clear hX hz h0 hc n1
      go_wp2_with fail
      refine (calls_known hb).mono ?_
      rintro e w' ⟨rfl, hb⟩
      go_wp2
      go_ret
      exact ⟨rfl, hb⟩
    · have dX : (X != 0) = true := by simp [hX]
      clear hX n1
      go_wp2_with fail
      refine (calls_known hb).mono ?_
      rintro e w' ⟨rfl, hb⟩
      go_wp2
      go_ret
      exact ⟨rfl, hb⟩
end
end Go.Proofs.Ytchkckflpmepkaa
