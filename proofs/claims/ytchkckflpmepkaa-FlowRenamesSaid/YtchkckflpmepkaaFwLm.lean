/-
  The walk of Renames.
-/
import Derived.Test.YtchkckflpmepkaaFwLl
namespace Go.Proofs.Ytchkckflpmepkaa
open Go.RowKit

theorem map_at (l : List Nat) (f : Nat → Nat) {k : Nat} (h : k < l.length) : (l.map f)[k]! = f l[k]! := by simp [h]
section
variable {w : World} {A : Option Addr} {n c : Nat} {g : List (List Int)}
set_option maxRecDepth 100000 in
set_option maxHeartbeats 8000000 in
theorem renames_walk (h : RG w A n c g) {T : Option Addr} {m k : Nat} {to : List Int} (ht : Ints w T m k to) : Calls Try.prog 10 #[.slice A n c, .slice T m k] w fun e w' => e = .returned (.bool true) ∧ Below w.heap.size w w' := by
  have HLO := Lib.hid (long_any h)
  have HP := Lib.hid (fun w1 (hb : Below w.heap.size w w1) => Rename_any (h.below hb) (ht.below hb))
  have HQ := Lib.hid (fun w1 (hb : Below w.heap.size w w1) => refRename_any (h.below hb) (ht.below hb))
  have HO := Lib.hid (fun w1 (hb : Below w.heap.size w w1) => Order_any (h.below hb))
  have HT := Lib.hid ht
  have hcapT := ht.2.1
  have hmaxT := ht.2.2.1
  have HE := Lib.hid (show errR g to = 0 → valF g = 0 ∧ valF (resRn g to) = 0 ∧ m = g.length ∧ ∃ π : Nat → Nat, (∀ v, v < g.length → to[v]! = (π v : Int) ∧ π v < g.length) ∧ resO (resRn g to) = (resO g).map π from fun he => by
    have hv : valF g = 0 := Classical.byContradiction fun hv => by
      rw [(ren_val1 hv).1] at he
      exact hv he
    have hp : perF g to = true := Classical.byContradiction fun hp => by
      rw [(ren_bad hv hp).1] at he
      omega
    have e1 : resRn g to = rnG g to := if_pos he
    rw [e1]
    exact ⟨hv, ren_val hv hp, by rw [ht.1]; exact (per_iff.1 hp).1, resO_ren hv hp⟩)
  have HLT := Lib.hid (fun i (hi : i < (resO g).length) => resO_lt (at_get hi))
  generalize resRn g to = Z at HP HQ HE
  generalize errR g to = E at HP HQ HE
  clear h ht
  go_enter Try.func10, Try.ntmps10
  go_wp2_with fail
  refine HLO.out.mono ?_
  rintro e w' ⟨rfl | ⟨rfl, -⟩, rfl⟩
  · go_wp2_with fail
    refine (calls_known (Below.refl _ _)).mono ?_
    rintro e w' ⟨rfl, hb⟩
    go_wp2
    go_ret
    exact ⟨rfl, hb⟩
  · by_cases hm : 50 < m
    · have d5 : decide ((50 : Int) < (m : Int)) = true := decide_eq_true (by omega)
      go_wp2_with fail
      refine (calls_known (Below.refl _ _)).mono ?_
      rintro e w' ⟨rfl, hb⟩
      go_wp2
      go_ret
      exact ⟨rfl, hb⟩
    · have d5 : decide ((50 : Int) < (m : Int)) = false := decide_eq_false (by omega)
      go_wp2_with fail
      refine (HP.out _ (Below.refl _ _)).mono ?_
      rintro e w1 ⟨v1, rfl, n1, hb⟩
      go_wp2_with fail
      refine (HQ.out _ hb).mono ?_
      rintro e w2 ⟨v2, rfl, n2, c1⟩
      replace n1 := n1.below c1
      replace hb := hb.trans (c1.mono hb.size)
      clear c1
      go_wp2_with fail
      refine (sameLists_yes n1 n2).mono ?_
      rintro e w3 ⟨rfl, c1⟩
      replace n1 := n1.below c1
      replace hb := hb.trans (c1.mono hb.size)
      clear c1 n2
      by_cases hE : E = 0
      · obtain ⟨hv, hv2, hmn, π, hπ, hR⟩ := HE.out hE
        subst hE
        rw [hv] at HO
        obtain ⟨A1, m1, k1, rfl, hG⟩ := n1
        have HO2 := Lib.hid (fun w4 (hb : Below w3.heap.size w3 w4) => Order_any (hG.below hb))
        rw [hv2, hR] at HO2
        have HC1 := Lib.hid (fun i (hi : i < (resO g).length) => (HLT.out i hi : _ < _))
        have HX := Lib.hid (fun i (hi : i < (resO g).length) => hπ _ (HLT.out i hi))
        have HM := Lib.hid (fun i (hi : i < (resO g).length) => map_at (resO g) π hi)
        have HL := Lib.hid (show ((resO g).map π).length = (resO g).length by simp)
        generalize (resO g).map π = Y at HO2 HM HL
        generalize resO g = X at HO HC1 HX HM HL
        rw [← hmn] at HC1
        clear hv hv2 hR hG hπ HE HLT HP HQ hmn
        go_wp2_with fail
        refine (HO.out _ hb).mono ?_
        rintro e w4 ⟨x1, rfl, n1, c1⟩
        have c2 := c1
        replace hb := hb.trans (c1.mono hb.size)
        go_wp2_with fail
        refine (HO2.out _ c1).mono ?_
        rintro e w5 ⟨y1, rfl, n2, c3⟩
        replace n1 := n1.below c3
        replace hb := hb.trans (c3.mono hb.size)
        clear c1 c2 c3
        obtain ⟨AX, mX, kX, rfl, n1⟩ := n1
        obtain ⟨AY, mY, kY, rfl, n2⟩ := n2
        obtain rfl : mY = mX := by rw [n2.1, n1.1, HL.out]
        have hq1 := n1.2.1
        have hq2 := n1.2.2.1
        have hq3 := n2.2.1
        have hq4 := n2.2.2.1
        have HN1 := Lib.hid n1
        have HN2 := Lib.hid n2
        have HNL := Lib.hid n1.1
        have HW := Lib.hid hb
        clear n1 n2
        go_wp2
        go_loopw [13] (fun zi wr => ∃ i : Nat, i ≤ mY ∧ zi = .int .i64 (i : Int) ∧ Below w5.heap.size w5 wr) (fun zi _ => mY - (intOf zi).toNat)
        case atStart => exact ⟨0, by omega, rfl, Below.refl _ _⟩
        case round =>
          clear hb
          obtain ⟨i, hi, rfl, hb3⟩ := hrel
          by_cases hlt : i < mY
          · obtain ⟨b, off, rfl, hbs, hc⟩ := HN1.out.get hb3 hlt
            obtain ⟨b2, off2, rfl, hbs2, hc2⟩ := HN2.out.get hb3 hlt
            have hl : i < X.length := by rw [← HNL.out]; exact hlt
            rw [HM.out i hl] at hc2
            have hxm := HC1.out i hl
            have hxp := (HX.out i hl).1
            generalize X[i]! = x at hc hc2 hxm hxp
            obtain ⟨b3, off3, rfl, hbs3, hc3⟩ := (HT.out.below (HW.out.trans (hb3.mono HW.out.size))).at_ hxm
            rw [hxp] at hc3
            generalize π x = p at hc2 hc3
            clear hxp hl
            have e0 : decide ((x : Int) < 0) = false := decide_eq_false (by omega)
            have e1 : decide (m ≤ x) = false := decide_eq_false (by omega)
            have e2 : ((p : Int) != (p : Int)) = false := by simp
            go_wp2
            refine wp_region_held_drew (S := (fun W => W.cell? ⟨b, off + i, none⟩ = some (.int .i64 (x : Int)) ∧ W.cell? ⟨b2, off2 + i, none⟩ = some (.int .i64 (p : Int)) ∧ W.cell? ⟨b3, off3 + x, none⟩ = some (.int .i64 (p : Int)))) (by kernel_rfl) ?_ (fun hHeld => ?_)
            · exact ⟨hc, hc2, hc3⟩
            refine wpAnyH_take (i := 0) (oi := ({ dst := some 75, op := Op.move (Operand.tmp 9), type := 25, pos := "law.go:172", after := #[], guard := none } : Oper)) (v := ?av0) rfl (by kernel_rfl) (by kernel_rfl) (by kernel_rfl) (fun _ _ _ h => h) (Or.inl ⟨by rfl, ?ay0⟩) (by assumption) ?ar0
            case ay0 =>
              intro w hSw
              (try dsimp only at hSw)
              go_simp
              (try with_reducible rfl)
            try simp only [Act.put, List.setIfInBounds_toArray, List.set_cons_zero, List.set_cons_succ]
            refine wpAnyH_take (i := 1) (oi := ({ dst := some 76, op := Op.move (Operand.tmp 13), type := 3, pos := "law.go:172", after := #[], guard := none } : Oper)) (v := ?av1) rfl (by kernel_rfl) (by kernel_rfl) (by kernel_rfl) (fun _ _ _ h => h) (Or.inl ⟨by rfl, ?ay1⟩) (by assumption) ?ar1
            case ay1 =>
              intro w hSw
              (try dsimp only at hSw)
              go_simp
              (try with_reducible rfl)
            try simp only [Act.put, List.setIfInBounds_toArray, List.set_cons_zero, List.set_cons_succ]
            refine wpAnyH_take (i := 2) (oi := ({ dst := some 77, op := Op.indexAddr 25 (Operand.tmp 75) (Operand.tmp 76), type := 0, pos := "law.go:172", after := #[{ on := 0, ground := Ground.data }, { on := 1, ground := Ground.data }], guard := none } : Oper)) (v := ?av2) rfl (by kernel_rfl) (by kernel_rfl) (by kernel_rfl) (fun _ _ _ h => h) (Or.inl ⟨by rfl, ?ay2⟩) (by assumption) ?ar2
            case ay2 =>
              intro w hSw
              (try dsimp only at hSw)
              go_simp
              (try with_reducible rfl)
            try simp only [Act.put, List.setIfInBounds_toArray, List.set_cons_zero, List.set_cons_succ]
            refine wpAnyH_take (i := 3) (oi := ({ dst := some 78, op := Op.load 3 (Operand.tmp 77), type := 3, pos := "law.go:172", after := #[{ on := 2, ground := Ground.data }], guard := none } : Oper)) (v := ?av3) rfl (by kernel_rfl) (by kernel_rfl) (by kernel_rfl) (fun _ _ _ h => h) (Or.inl ⟨by rfl, ?ay3⟩) (by assumption) ?ar3
            case ay3 =>
              intro w hSw
              (try dsimp only at hSw)
              go_simp
              (try with_reducible rfl)
            try simp only [Act.put, List.setIfInBounds_toArray, List.set_cons_zero, List.set_cons_succ]
            refine wpAnyH_take (i := 4) (oi := ({ dst := some 79, op := Op.binOp BinOp.lss 3 (Operand.tmp 78) (Operand.const (Value.int IntKind.i64 0)) 3, type := 4, pos := "law.go:172", after := #[{ on := 3, ground := Ground.data }], guard := none } : Oper)) (v := ?av4) rfl (by kernel_rfl) (by kernel_rfl) (by kernel_rfl) (fun _ _ _ h => h) (Or.inl ⟨by rfl, ?ay4⟩) (by assumption) ?ar4
            case ay4 =>
              intro w hSw
              (try dsimp only at hSw)
              go_simp
              (try with_reducible rfl)
            try simp only [Act.put, List.setIfInBounds_toArray, List.set_cons_zero, List.set_cons_succ]
            refine wpAnyH_take (i := 5) (oi := ({ dst := some 80, op := Op.move (Operand.tmp 79), type := 4, pos := "law.go:172", after := #[{ on := 4, ground := Ground.data }], guard := none } : Oper)) (v := ?av5) rfl (by kernel_rfl) (by kernel_rfl) (by kernel_rfl) (fun _ _ _ h => h) (Or.inl ⟨by rfl, ?ay5⟩) (by assumption) ?ar5
            case ay5 =>
              intro w hSw
              (try dsimp only at hSw)
              go_simp
              (try with_reducible rfl)
            try simp only [Act.put, List.setIfInBounds_toArray, List.set_cons_zero, List.set_cons_succ]
            refine wpAnyH_take (i := 6) (oi := ({ dst := some 81, op := Op.move (Operand.tmp 9), type := 25, pos := "law.go:172", after := #[{ on := 5, ground := Ground.guard }], guard := some (5, false) } : Oper)) (v := ?av6) rfl (by kernel_rfl) (by kernel_rfl) (by kernel_rfl) (fun _ _ _ h => h) (Or.inl ⟨by rfl, ?ay6⟩) (by assumption) ?ar6
            case ay6 =>
              intro w hSw
              (try dsimp only at hSw)
              go_simp
              (try with_reducible rfl)
            try simp only [Act.put, List.setIfInBounds_toArray, List.set_cons_zero, List.set_cons_succ]
            refine wpAnyH_take (i := 7) (oi := ({ dst := some 82, op := Op.move (Operand.tmp 13), type := 3, pos := "law.go:172", after := #[{ on := 5, ground := Ground.guard }], guard := some (5, false) } : Oper)) (v := ?av7) rfl (by kernel_rfl) (by kernel_rfl) (by kernel_rfl) (fun _ _ _ h => h) (Or.inl ⟨by rfl, ?ay7⟩) (by assumption) ?ar7
            case ay7 =>
              intro w hSw
              (try dsimp only at hSw)
              go_simp
              (try with_reducible rfl)
            try simp only [Act.put, List.setIfInBounds_toArray, List.set_cons_zero, List.set_cons_succ]
            refine wpAnyH_take (i := 8) (oi := ({ dst := some 83, op := Op.indexAddr 25 (Operand.tmp 81) (Operand.tmp 82), type := 0, pos := "law.go:172", after := #[{ on := 6, ground := Ground.data }, { on := 7, ground := Ground.data }, { on := 5, ground := Ground.guard }], guard := some (5, false) } : Oper)) (v := ?av8) rfl (by kernel_rfl) (by kernel_rfl) (by kernel_rfl) (fun _ _ _ h => h) (Or.inl ⟨by rfl, ?ay8⟩) (by assumption) ?ar8
            case ay8 =>
              intro w hSw
              (try dsimp only at hSw)
              go_simp
              (try with_reducible rfl)
            try simp only [Act.put, List.setIfInBounds_toArray, List.set_cons_zero, List.set_cons_succ]
            refine wpAnyH_take (i := 9) (oi := ({ dst := some 84, op := Op.load 3 (Operand.tmp 83), type := 3, pos := "law.go:172", after := #[{ on := 8, ground := Ground.data }, { on := 5, ground := Ground.guard }], guard := some (5, false) } : Oper)) (v := ?av9) rfl (by kernel_rfl) (by kernel_rfl) (by kernel_rfl) (fun _ _ _ h => h) (Or.inl ⟨by rfl, ?ay9⟩) (by assumption) ?ar9
            case ay9 =>
              intro w hSw
              (try dsimp only at hSw)
              go_simp
              (try with_reducible rfl)
            try simp only [Act.put, List.setIfInBounds_toArray, List.set_cons_zero, List.set_cons_succ]
            refine wpAnyH_take (i := 10) (oi := ({ dst := some 85, op := Op.move (Operand.tmp 1), type := 25, pos := "law.go:172", after := #[{ on := 5, ground := Ground.guard }], guard := some (5, false) } : Oper)) (v := ?av10) rfl (by kernel_rfl) (by kernel_rfl) (by kernel_rfl) (fun _ _ _ h => h) (Or.inl ⟨by rfl, ?ay10⟩) (by assumption) ?ar10
            case ay10 =>
              intro w hSw
              (try dsimp only at hSw)
              go_simp
              (try with_reducible rfl)
            try simp only [Act.put, List.setIfInBounds_toArray, List.set_cons_zero, List.set_cons_succ]
            refine wpAnyH_take (i := 11) (oi := ({ dst := some 86, op := Op.call { callee := Callee.builtin Builtin.len, args := #[Operand.tmp 85], argTypes := #[25] }, type := 3, pos := "law.go:172", after := #[{ on := 10, ground := Ground.data }, { on := 5, ground := Ground.guard }], guard := some (5, false) } : Oper)) (v := ?av11) rfl (by kernel_rfl) (by kernel_rfl) (by kernel_rfl) (fun _ _ _ h => h) (Or.inl ⟨by rfl, ?ay11⟩) (by assumption) ?ar11
            case ay11 =>
              intro w hSw
              (try dsimp only at hSw)
              go_simp
              (try with_reducible rfl)
            try simp only [Act.put, List.setIfInBounds_toArray, List.set_cons_zero, List.set_cons_succ]
            refine wpAnyH_take (i := 12) (oi := ({ dst := some 87, op := Op.binOp BinOp.geq 3 (Operand.tmp 84) (Operand.tmp 86) 3, type := 4, pos := "law.go:172", after := #[{ on := 9, ground := Ground.data }, { on := 11, ground := Ground.data }, { on := 5, ground := Ground.guard }], guard := some (5, false) } : Oper)) (v := ?av12) rfl (by kernel_rfl) (by kernel_rfl) (by kernel_rfl) (fun _ _ _ h => h) (Or.inl ⟨by rfl, ?ay12⟩) (by assumption) ?ar12
            case ay12 =>
              intro w hSw
              (try dsimp only at hSw)
              go_simp
              (try with_reducible rfl)
            try simp only [Act.put, List.setIfInBounds_toArray, List.set_cons_zero, List.set_cons_succ]
            refine wpAnyH_take (i := 13) (oi := ({ dst := some 88, op := Op.pick (Operand.tmp 80) (Operand.const (Value.bool true)) (Operand.tmp 87), type := 4, pos := "law.go:172", after := #[{ on := 5, ground := Ground.data }, { on := 12, ground := Ground.data }], guard := none } : Oper)) (v := ?av13) rfl (by kernel_rfl) (by kernel_rfl) (by kernel_rfl) (fun _ _ _ h => h) (Or.inl ⟨by rfl, ?ay13⟩) (by assumption) ?ar13
            case ay13 =>
              intro w hSw
              (try dsimp only at hSw)
              go_simp
              (try with_reducible rfl)
            try simp only [Act.put, List.setIfInBounds_toArray, List.set_cons_zero, List.set_cons_succ]
            refine wpAnyH_take (i := 14) (oi := ({ dst := some 89, op := Op.move (Operand.tmp 88), type := 4, pos := "law.go:172", after := #[{ on := 13, ground := Ground.data }, { on := 5, ground := Ground.chain }], guard := none } : Oper)) (v := ?av14) rfl (by kernel_rfl) (by kernel_rfl) (by kernel_rfl) (fun _ _ _ h => h) (Or.inl ⟨by rfl, ?ay14⟩) (by assumption) ?ar14
            case ay14 =>
              intro w hSw
              (try dsimp only at hSw)
              go_simp
              (try with_reducible rfl)
            try simp only [Act.put, List.setIfInBounds_toArray, List.set_cons_zero, List.set_cons_succ]
            refine wpAnyH_take (i := 15) (oi := ({ dst := some 90, op := Op.move (Operand.tmp 1), type := 25, pos := "law.go:172", after := #[{ on := 14, ground := Ground.guard }], guard := some (14, false) } : Oper)) (v := ?av15) rfl (by kernel_rfl) (by kernel_rfl) (by kernel_rfl) (fun _ _ _ h => h) (Or.inl ⟨by rfl, ?ay15⟩) (by assumption) ?ar15
            case ay15 =>
              intro w hSw
              (try dsimp only at hSw)
              go_simp
              (try with_reducible rfl)
            try simp only [Act.put, List.setIfInBounds_toArray, List.set_cons_zero, List.set_cons_succ]
            refine wpAnyH_take (i := 16) (oi := ({ dst := some 91, op := Op.move (Operand.tmp 9), type := 25, pos := "law.go:172", after := #[{ on := 14, ground := Ground.guard }], guard := some (14, false) } : Oper)) (v := ?av16) rfl (by kernel_rfl) (by kernel_rfl) (by kernel_rfl) (fun _ _ _ h => h) (Or.inl ⟨by rfl, ?ay16⟩) (by assumption) ?ar16
            case ay16 =>
              intro w hSw
              (try dsimp only at hSw)
              go_simp
              (try with_reducible rfl)
            try simp only [Act.put, List.setIfInBounds_toArray, List.set_cons_zero, List.set_cons_succ]
            refine wpAnyH_take (i := 17) (oi := ({ dst := some 92, op := Op.move (Operand.tmp 13), type := 3, pos := "law.go:172", after := #[{ on := 14, ground := Ground.guard }], guard := some (14, false) } : Oper)) (v := ?av17) rfl (by kernel_rfl) (by kernel_rfl) (by kernel_rfl) (fun _ _ _ h => h) (Or.inl ⟨by rfl, ?ay17⟩) (by assumption) ?ar17
            case ay17 =>
              intro w hSw
              (try dsimp only at hSw)
              go_simp
              (try with_reducible rfl)
            try simp only [Act.put, List.setIfInBounds_toArray, List.set_cons_zero, List.set_cons_succ]
            refine wpAnyH_take (i := 18) (oi := ({ dst := some 93, op := Op.indexAddr 25 (Operand.tmp 91) (Operand.tmp 92), type := 0, pos := "law.go:172", after := #[{ on := 16, ground := Ground.data }, { on := 17, ground := Ground.data }, { on := 14, ground := Ground.guard }], guard := some (14, false) } : Oper)) (v := ?av18) rfl (by kernel_rfl) (by kernel_rfl) (by kernel_rfl) (fun _ _ _ h => h) (Or.inl ⟨by rfl, ?ay18⟩) (by assumption) ?ar18
            case ay18 =>
              intro w hSw
              (try dsimp only at hSw)
              go_simp
              (try with_reducible rfl)
            try simp only [Act.put, List.setIfInBounds_toArray, List.set_cons_zero, List.set_cons_succ]
            refine wpAnyH_take (i := 19) (oi := ({ dst := some 94, op := Op.load 3 (Operand.tmp 93), type := 3, pos := "law.go:172", after := #[{ on := 18, ground := Ground.data }, { on := 14, ground := Ground.guard }], guard := some (14, false) } : Oper)) (v := ?av19) rfl (by kernel_rfl) (by kernel_rfl) (by kernel_rfl) (fun _ _ _ h => h) (Or.inl ⟨by rfl, ?ay19⟩) (by assumption) ?ar19
            case ay19 =>
              intro w hSw
              (try dsimp only at hSw)
              go_simp
              (try with_reducible rfl)
            try simp only [Act.put, List.setIfInBounds_toArray, List.set_cons_zero, List.set_cons_succ]
            refine wpAnyH_take (i := 20) (oi := ({ dst := some 95, op := Op.indexAddr 25 (Operand.tmp 90) (Operand.tmp 94), type := 0, pos := "law.go:172", after := #[{ on := 15, ground := Ground.data }, { on := 19, ground := Ground.data }, { on := 14, ground := Ground.guard }], guard := some (14, false) } : Oper)) (v := ?av20) rfl (by kernel_rfl) (by kernel_rfl) (by kernel_rfl) (fun _ _ _ h => h) (Or.inl ⟨by rfl, ?ay20⟩) (by assumption) ?ar20
            case ay20 =>
              intro w hSw
              (try dsimp only at hSw)
              go_simp
              (try with_reducible rfl)
            try simp only [Act.put, List.setIfInBounds_toArray, List.set_cons_zero, List.set_cons_succ]
            refine wpAnyH_take (i := 21) (oi := ({ dst := some 96, op := Op.load 3 (Operand.tmp 95), type := 3, pos := "law.go:172", after := #[{ on := 20, ground := Ground.data }, { on := 14, ground := Ground.guard }], guard := some (14, false) } : Oper)) (v := ?av21) rfl (by kernel_rfl) (by kernel_rfl) (by kernel_rfl) (fun _ _ _ h => h) (Or.inl ⟨by rfl, ?ay21⟩) (by assumption) ?ar21
            case ay21 =>
              intro w hSw
              (try dsimp only at hSw)
              go_simp
              (try with_reducible rfl)
            try simp only [Act.put, List.setIfInBounds_toArray, List.set_cons_zero, List.set_cons_succ]
            refine wpAnyH_take (i := 22) (oi := ({ dst := some 97, op := Op.move (Operand.tmp 11), type := 25, pos := "law.go:172", after := #[{ on := 14, ground := Ground.guard }], guard := some (14, false) } : Oper)) (v := ?av22) rfl (by kernel_rfl) (by kernel_rfl) (by kernel_rfl) (fun _ _ _ h => h) (Or.inl ⟨by rfl, ?ay22⟩) (by assumption) ?ar22
            case ay22 =>
              intro w hSw
              (try dsimp only at hSw)
              go_simp
              (try with_reducible rfl)
            try simp only [Act.put, List.setIfInBounds_toArray, List.set_cons_zero, List.set_cons_succ]
            refine wpAnyH_take (i := 23) (oi := ({ dst := some 98, op := Op.move (Operand.tmp 13), type := 3, pos := "law.go:172", after := #[{ on := 14, ground := Ground.guard }], guard := some (14, false) } : Oper)) (v := ?av23) rfl (by kernel_rfl) (by kernel_rfl) (by kernel_rfl) (fun _ _ _ h => h) (Or.inl ⟨by rfl, ?ay23⟩) (by assumption) ?ar23
            case ay23 =>
              intro w hSw
              (try dsimp only at hSw)
              go_simp
              (try with_reducible rfl)
            try simp only [Act.put, List.setIfInBounds_toArray, List.set_cons_zero, List.set_cons_succ]
            refine wpAnyH_take (i := 24) (oi := ({ dst := some 99, op := Op.indexAddr 25 (Operand.tmp 97) (Operand.tmp 98), type := 0, pos := "law.go:172", after := #[{ on := 22, ground := Ground.data }, { on := 23, ground := Ground.data }, { on := 14, ground := Ground.guard }], guard := some (14, false) } : Oper)) (v := ?av24) rfl (by kernel_rfl) (by kernel_rfl) (by kernel_rfl) (fun _ _ _ h => h) (Or.inl ⟨by rfl, ?ay24⟩) (by assumption) ?ar24
            case ay24 =>
              intro w hSw
              (try dsimp only at hSw)
              go_simp
              (try with_reducible rfl)
            try simp only [Act.put, List.setIfInBounds_toArray, List.set_cons_zero, List.set_cons_succ]
            refine wpAnyH_take (i := 25) (oi := ({ dst := some 100, op := Op.load 3 (Operand.tmp 99), type := 3, pos := "law.go:172", after := #[{ on := 24, ground := Ground.data }, { on := 14, ground := Ground.guard }], guard := some (14, false) } : Oper)) (v := ?av25) rfl (by kernel_rfl) (by kernel_rfl) (by kernel_rfl) (fun _ _ _ h => h) (Or.inl ⟨by rfl, ?ay25⟩) (by assumption) ?ar25
            case ay25 =>
              intro w hSw
              (try dsimp only at hSw)
              go_simp
              (try with_reducible rfl)
            try simp only [Act.put, List.setIfInBounds_toArray, List.set_cons_zero, List.set_cons_succ]
            refine wpAnyH_take (i := 26) (oi := ({ dst := some 101, op := Op.binOp BinOp.neq 3 (Operand.tmp 96) (Operand.tmp 100) 3, type := 4, pos := "law.go:172", after := #[{ on := 21, ground := Ground.data }, { on := 25, ground := Ground.data }, { on := 14, ground := Ground.guard }], guard := some (14, false) } : Oper)) (v := ?av26) rfl (by kernel_rfl) (by kernel_rfl) (by kernel_rfl) (fun _ _ _ h => h) (Or.inl ⟨by rfl, ?ay26⟩) (by assumption) ?ar26
            case ay26 =>
              intro w hSw
              (try dsimp only at hSw)
              go_simp
              (try with_reducible rfl)
            try simp only [Act.put, List.setIfInBounds_toArray, List.set_cons_zero, List.set_cons_succ]
            refine wpAnyH_take (i := 27) (oi := ({ dst := some 102, op := Op.pick (Operand.tmp 89) (Operand.const (Value.bool true)) (Operand.tmp 101), type := 4, pos := "law.go:172", after := #[{ on := 14, ground := Ground.data }, { on := 26, ground := Ground.data }], guard := none } : Oper)) (v := ?av27) rfl (by kernel_rfl) (by kernel_rfl) (by kernel_rfl) (fun _ _ _ h => h) (Or.inl ⟨by rfl, ?ay27⟩) (by assumption) ?ar27
            case ay27 =>
              intro w hSw
              (try dsimp only at hSw)
              go_simp
              (try with_reducible rfl)
            try simp only [Act.put, List.setIfInBounds_toArray, List.set_cons_zero, List.set_cons_succ]
            refine wpAnyH_done (by kernel_rfl) ?_ _
            go_wp2
            go_roundw
            case rel => exact ⟨i + 1, by omega, by go_num, drewR hb3⟩
            case measure => simp [intOf]; omega
          · obtain rfl : i = mY := by omega
            have hb4 := HW.out.trans (hb3.mono HW.out.size)
            go_wp2_with fail
            refine (calls_known hb4).mono ?_
            rintro e w' ⟨rfl, hb5⟩
            go_wp2
            go_ret
            exact ⟨rfl, hb5⟩
      · have dE : (E != 0) = true := by simp [hE]
        clear n1 hE HE
        go_wp2_with fail
        refine (calls_known hb).mono ?_
        rintro e w' ⟨rfl, hb5⟩
        go_wp2
        go_ret
        exact ⟨rfl, hb5⟩
end
end Go.Proofs.Ytchkckflpmepkaa
