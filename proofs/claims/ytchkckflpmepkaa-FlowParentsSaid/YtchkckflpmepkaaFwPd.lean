/-
  The walk of Parents.
-/
import Derived.Test.YtchkckflpmepkaaFwPc
namespace Go.Proofs.Ytchkckflpmepkaa
open Go.RowKit

theorem errT_all {g : List (List Int)} {ns : List Int} (hv : valF g = 0) (h : ∀ x ∈ ns, nodeB x g.length = true ∧ wy (natG g) (-1) 0 x.toNat = true) : errT g ns = 0 := by
  unfold errT nodesOk seenOk
  rw [if_pos hv, if_pos (List.all_eq_true.2 fun x hx => (h x hx).1), if_pos (List.all_eq_true.2 fun x hx => (h x hx).2)]
theorem node_reached {g : List (List Int)} (hG : okG (natG g)) {b : Nat} (h : wy (natG g) (-1) 0 b = true) : nodeB (b : Int) g.length = true := by
  have := wy_lt hG hG.1 h
  rw [natG_len] at this
  exact decide_eq_true (by omega)
section
variable {w : World} {A : Option Addr} {n c : Nat} {g : List (List Int)}
set_option maxRecDepth 100000 in
set_option maxHeartbeats 8000000 in
theorem parents_walk (h : RG w A n c g) (b : Int) : Calls Try.prog 7 #[.slice A n c, .int .i64 b] w fun e w' => e = .returned (.bool true) ∧ Below w.heap.size w w' := by
  have HLO := Lib.hid (long_any h)
  have HP := Lib.hid (fun w1 (hb : Below w.heap.size w w1) => Parent_any (h.below hb) b)
  have HQ := Lib.hid (fun w1 (hb : Below w.heap.size w w1) => refParent_any (h.below hb) b)
  have HE := Lib.hid (show errT g [b] = 0 → ∃ B : Nat, b = (B : Int) ∧ wy (natG g) (-1) 0 B = true ∧ valF g = 0 ∧ okG (natG g) from fun he => by
    obtain ⟨hv, hB, hR⟩ := errT_one he
    have hvb := of_decide_eq_true hB
    exact ⟨b.toNat, by omega, hR, hv, okG_val hv⟩)
  have HP2 := Lib.hid (fun (hv : valF g = 0) (B : Nat) (hB : wy (natG g) (-1) 0 B = true) => show errT g [(B : Int)] = 0 from errT_all hv fun x hx => by
    rw [List.mem_singleton] at hx
    subst hx
    exact ⟨node_reached (okG_val hv) hB, hB⟩)
  have HPP := Lib.hid (fun w1 (hb : Below w.heap.size w w1) (B : Nat) => Parent_any (h.below hb) (B : Int))
  have HDD := Lib.hid (fun w1 (hb : Below w.heap.size w w1) (a B : Nat) => Dominates_any (h.below hb) (a : Int) (B : Int))
  have HRP := Lib.hid (fun (hv : valF g = 0) (B : Nat) (hB : wy (natG g) (-1) 0 B = true) => show resP g (B : Int) = upF (natG g) B from if_pos (HP2.out hv B hB))
  have HRD := Lib.hid (fun (hv : valF g = 0) (B a : Nat) (hB : wy (natG g) (-1) 0 B = true) (hu : upF (natG g) B = some a) => show wy (natG g) (-1) 0 a = true ∧ numD (natG g) a < numD (natG g) B ∧ errT g [(a : Int), (B : Int)] = 0 ∧ resD g (a : Int) (B : Int) = true from by
    have hG := okG_val hv
    have hup := upF_is hu
    obtain ⟨h1, h2, h3⟩ := str_iff.1 ((up_iff hG).1 hup).1
    have he : errT g [(a : Int), (B : Int)] = 0 := errT_all hv fun x hx => by
      rcases List.mem_cons.1 hx with rfl | hx
      · exact ⟨node_reached hG h1, h1⟩
      · rw [List.mem_singleton] at hx
        subst hx
        exact ⟨node_reached hG hB, hB⟩
    refine ⟨h1, num_up hG hup, he, ?_⟩
    unfold resD
    rw [he]
    exact h3)
  have HZ := Lib.hid (fun (hv : valF g = 0) (B : Nat) (hB : wy (natG g) (-1) 0 B = true) (hu : upF (natG g) B = none) => show B = 0 from Classical.byContradiction fun h0 => by
    obtain ⟨a, ha⟩ := up_ex (okG_val hv) hB h0
    rw [upF_some (okG_val hv) ha] at hu
    cases hu)
  have HNL := Lib.hid (fun B => show numD (natG g) B ≤ n from by rw [h.1, ← natG_len]; exact num_le B)
  have hcap := h.2.1
  have hmax := h.2.2.1
  generalize hO : resP g b = O at HP HQ
  generalize hY : errT g [b] = Y at HP HQ HE
  have eY : (Y == Y) = true := beq_self_eq_true Y
  have hO' := Lib.hid hO
  have hY' := Lib.hid hY
  generalize numO O = x at HP HQ
  generalize O.isSome = y at HP HQ
  have ex : (x == x) = true := beq_self_eq_true x
  have ey : (y == y) = true := beq_self_eq_true y
  clear h hO hY
  go_enter Try.func7, Try.ntmps7
  go_wp2_with fail
  refine HLO.out.mono ?_
  rintro e w' ⟨rfl | ⟨rfl, -⟩, rfl⟩
  · go_wp2_with fail
    refine (calls_known (Below.refl _ _)).mono ?_
    rintro e w' ⟨rfl, hb⟩
    go_wp2
    go_ret
    exact ⟨rfl, hb⟩
  · go_wp2_with fail
    refine (HP.out _ (Below.refl _ _)).mono ?_
    rintro e w1 ⟨rfl, hb⟩
    go_wp2_with fail
    refine (HQ.out _ hb).mono ?_
    rintro e w2 ⟨rfl, c1⟩
    replace hb := hb.trans (c1.mono hb.size)
    clear c1
    by_cases hE : Y = 0
    · obtain ⟨B, rfl, hB, hv, hG⟩ := HE.out hE
      have HV := Lib.hid hv
      have HW := Lib.hid hb
      have hB' := Lib.hid hB
      subst hE
      clear hB hv hG HE HP HQ
      go_wp2
      go_loopw [1, 11] (fun zb zk wr => ∃ (k B : Nat), k + numD (natG g) B ≤ n ∧ zk = .int .i64 (k : Int) ∧ zb = .int .i64 (B : Int) ∧ Below w2.heap.size w2 wr ∧ Hid (wy (natG g) (-1) 0 B = true)) (fun _ zk _ => n + 1 - (intOf zk).toNat)
      case atStart => exact ⟨0, B, by have := HNL.out B; omega, rfl, rfl, Below.refl _ _, hB'⟩
      case round =>
        clear hb hB' hO' hY'
        obtain ⟨k, B, hk, rfl, rfl, hb3, hB⟩ := hrel
        have hkn : k ≤ n := by omega
        have hb := HW.out.trans (hb3.mono HW.out.size)
        have HPB := Lib.hid (HPP.out wr hb B)
        rw [HP2.out HV.out B hB.out, HRP.out HV.out B hB.out] at HPB
        cases hu : upF (natG g) B with
        | none =>
          rw [hu] at HPB
          obtain rfl : B = 0 := HZ.out HV.out B hB.out hu
          clear hu hk
          go_wp2_with fail
          refine HPB.out.mono ?_
          rintro e w3 ⟨rfl, c3⟩
          have hb4 := hb.trans (c3.mono hb.size)
          clear hb hb3 c3
          go_wp2_with fail
          refine (calls_known hb4).mono ?_
          rintro e w' ⟨rfl, hb5⟩
          go_wp2
          go_ret
          exact ⟨rfl, hb5⟩
        | some a =>
          rw [hu] at HPB
          obtain ⟨ha, hlt, he, hd⟩ := HRD.out HV.out B a hB.out hu
          have HDB := Lib.hid (fun w4 (hb : Below w.heap.size w w4) => HDD.out w4 hb a B)
          rw [he, hd] at HDB
          have HA := Lib.hid ha
          clear hu he hd ha
          go_wp2_with fail
          refine HPB.out.mono ?_
          rintro e w3 ⟨rfl, c3⟩
          have hb4 := hb.trans (c3.mono hb.size)
          have hb5 := hb3.trans (c3.mono hb3.size)
          clear hb hb3 c3
          go_wp2_with fail
          refine (HDB.out w3 hb4).mono ?_
          rintro e w4 ⟨rfl, c3⟩
          have hb6 := hb5.trans (c3.mono hb5.size)
          clear hb4 hb5 c3
          go_wp2
          go_roundw
          case rel => exact ⟨k + 1, a, by omega, by go_num, rfl, hb6, HA⟩
          case measure => simp [intOf]; omega
    · have dE : (Y != 0) = true := by simp [hE]
      clear hE HE
      go_wp2_with fail
      refine (calls_known hb).mono ?_
      rintro e w' ⟨rfl, hb5⟩
      go_wp2
      go_ret
      exact ⟨rfl, hb5⟩
end
end Go.Proofs.Ytchkckflpmepkaa
