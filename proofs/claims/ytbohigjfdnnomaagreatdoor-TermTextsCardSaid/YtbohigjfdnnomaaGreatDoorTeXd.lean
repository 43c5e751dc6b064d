/-
  OWN TEXT. Same of pool: slices.EqualFunc over nodes.
  OWN TEXT. Same of the program and of the reference.
-/
import Derived.Test.YtbohigjfdnnomaaGreatDoorTeTf
import Derived.Test.YtbohigjfdnnomaaGreatDoorTeTl
namespace Go.Proofs.YtbohigjfdnnomaaGreatDoor
section
open Go.RowKit

set_option maxRecDepth 100000 in
set_option maxHeartbeats 2000000 in
theorem eqInts_any {w : World} {A A2 : Option Addr} {n n2 c c2 : Nat} {l l2 : List Int} (h : Ints w A n c l) (h2 : Ints w A2 n2 c2 l2) :
    Calls Tryz.prog 33 #[.slice A n c, .slice A2 n2 c2] w fun e w' => e = .returned (.bool (decide (l = l2))) ∧ Below w.heap.size w w' := by
  have hcap := h.2.1
  have hmax := h.2.2.1
  have hcap2 := h2.2.1
  have hmax2 := h2.2.2.1
  by_cases hlen : n = n2
  · subst hlen
    have H := Lib.hid h
    have H2 := Lib.hid h2
    have HNO := Lib.hid (fun (i : Nat) (hd : l[i]! ≠ l2[i]!) => show decide (l = l2) = false from decide_eq_false fun e => hd (by rw [e]))
    have HYES := Lib.hid (fun (hd : ∀ i : Nat, i < n → l[i]! = l2[i]!) => show decide (l = l2) = true from decide_eq_true (List.ext_getElem (by rw [← h.1, h2.1]) fun i h3 h4 => by
      have := hd i (by rw [h.1]; exact h3)
      rw [getElem!_pos l i h3, getElem!_pos l2 i h4] at this
      exact this))
    generalize decide (l = l2) = B at HNO HYES ⊢
    clear h h2
    go_enter Tryz.func33, Tryz.ntmps33
    go_wp2
    go_loopw [13] (fun zi wr => ∃ i : Nat, i ≤ n ∧ zi = .int .i64 (i : Int) ∧ Below w.heap.size w wr ∧ Hid (∀ j, j < i → l[j]! = l2[j]!)) (fun zi _ => n - (intOf zi).toNat)
    case atStart => exact ⟨0, by omega, rfl, Below.refl _ _, Lib.hid fun j hj => absurd hj (by omega)⟩
    case round =>
      obtain ⟨i, hi, rfl, hb, HJ⟩ := hrel
      by_cases hlt : i < n
      · obtain ⟨b, off, rfl, hg, hc⟩ := (H.out.below hb).at_ hlt
        obtain ⟨b2, off2, rfl, hg2, hc2⟩ := (H2.out.below hb).at_ hlt
        have HN1 := Lib.hid (HNO.out i)
        have HJ2 := Lib.hid (show l[i]! = l2[i]! → ∀ j, j < i + 1 → l[j]! = l2[j]! from fun e j hj => by
          by_cases ej : j = i
          · rw [ej]; exact e
          · exact HJ.out j (by omega))
        generalize l[i]! = p at hc HN1 HJ2
        generalize l2[i]! = q at hc2 HN1 HJ2
        by_cases e : p = q
        · have e1 : (p != q) = false := by simp [e]
          have HJ3 := Lib.hid (HJ2.out e)
          clear e HJ2 HN1
          go_wp2
          go_region
          go_wp2
          go_roundw
          case rel => exact ⟨i + 1, by omega, by go_num, drewR hb, HJ3⟩
          case measure => simp [intOf]; omega
        · have e1 : (p != q) = true := by simp [e]
          have HE := Lib.hid (HN1.out e)
          clear e HJ2 HN1
          go_wp2
          go_region
          go_wp2
          exact bodyPost_ret (results_tmp rfl _ _ _) rfl ⟨by exact ret_b HE.out.symm, drewR hb⟩
      · obtain rfl : i = n := by omega
        have HE := Lib.hid (HYES.out HJ.out)
        go_wp2
        go_ret
        exact ⟨ret_b HE.out.symm, hb⟩
  · have HE := Lib.hid (show decide (l = l2) = false from decide_eq_false fun e => hlen (by rw [h.1, h2.1, e]))
    have e1 : (((n : Nat) : Int) != ((n2 : Nat) : Int)) = true := by simp; omega
    clear h h2 hlen
    go_enter Tryz.func33, Tryz.ntmps33
    go_wp2
    go_ret
    exact ⟨ret_b HE.out.symm, Below.refl _ _⟩
set_option maxRecDepth 100000 in
set_option maxHeartbeats 4000000 in
theorem eqNode_any {w : World} {x y : Nd} {A B : Option Addr} {n c m d : Nat} (hx : Ints w A n c x.args) (hy : Ints w B m d y.args) :
    Calls Tryz.prog 32 #[.agg #[.int .i64 x.op, .int .i64 x.width, .int .i64 x.flags, .slice A n c, .int .u32 x.imm], .agg #[.int .i64 y.op, .int .i64 y.width, .int .i64 y.flags, .slice B m d, .int .u32 y.imm]] w fun e w' => e = .returned (.bool (decide (x = y))) ∧ Below w.heap.size w w' := by
  obtain ⟨op, wi, fl, args, im⟩ := x
  obtain ⟨op2, wi2, fl2, args2, im2⟩ := y
  have HS := Lib.hid (fun w1 (hb : Below w.heap.size w w1) => eqInts_any (hx.below hb) (hy.below hb))
  clear hx hy
  simp only at HS ⊢
  have hb : Below w.heap.size w ((w.alloc (.cells #[.int .i64 op, .int .i64 wi, .int .i64 fl, .slice A n c, .int .u32 im] 38)).alloc (.cells #[.int .i64 op2, .int .i64 wi2, .int .i64 fl2, .slice B m d, .int .u32 im2] 38)) := ((Below.refl _ _).alloc (Nat.le_refl _) _).alloc (by simp) _
  by_cases h1 : op = op2
  · by_cases h2 : wi = wi2
    · by_cases h3 : fl = fl2
      · by_cases h4 : im = im2
        · subst h1 h2 h3 h4
          have HSS := Lib.hid (HS.out _ hb)
          have HB := Lib.hid hb
          have HD := Lib.hid (show decide (args = args2) = decide ((⟨op, wi, fl, args, im⟩ : Nd) = ⟨op, wi, fl, args2, im⟩) by simp)
          clear hb
          go_enter Tryz.func32, Tryz.ntmps32
          go_wp2_with fail
          refine HSS.out.mono ?_
          rintro e w1 ⟨rfl, hb2⟩
          go_wp2
          go_ret
          exact ⟨by exact ret_b HD.out, HB.out.trans (hb2.mono HB.out.size)⟩
        · have HD := Lib.hid (show false = decide ((⟨op, wi, fl, args, im⟩ : Nd) = ⟨op2, wi2, fl2, args2, im2⟩) by simp [h4])
          have e1 : (op == op2) = true := by simp [h1]
          have e2 : (wi == wi2) = true := by simp [h2]
          have e3 : (fl == fl2) = true := by simp [h3]
          have e4 : (im == im2) = false := by simp [h4]
          have HB := Lib.hid hb
          clear HS hb h1 h2 h3 h4
          go_enter Tryz.func32, Tryz.ntmps32
          go_wp2
          go_ret
          exact ⟨by exact ret_b HD.out, HB.out⟩
      · have HD := Lib.hid (show false = decide ((⟨op, wi, fl, args, im⟩ : Nd) = ⟨op2, wi2, fl2, args2, im2⟩) by simp [h3])
        have e1 : (op == op2) = true := by simp [h1]
        have e2 : (wi == wi2) = true := by simp [h2]
        have e3 : (fl == fl2) = false := by simp [h3]
        have HB := Lib.hid hb
        clear HS hb h1 h2 h3
        go_enter Tryz.func32, Tryz.ntmps32
        go_wp2
        go_ret
        exact ⟨by exact ret_b HD.out, HB.out⟩
    · have HD := Lib.hid (show false = decide ((⟨op, wi, fl, args, im⟩ : Nd) = ⟨op2, wi2, fl2, args2, im2⟩) by simp [h2])
      have e1 : (op == op2) = true := by simp [h1]
      have e2 : (wi == wi2) = false := by simp [h2]
      have HB := Lib.hid hb
      clear HS hb h1 h2
      go_enter Tryz.func32, Tryz.ntmps32
      go_wp2
      go_ret
      exact ⟨by exact ret_b HD.out, HB.out⟩
  · have HD := Lib.hid (show false = decide ((⟨op, wi, fl, args, im⟩ : Nd) = ⟨op2, wi2, fl2, args2, im2⟩) by simp [h1])
    have e1 : (op == op2) = false := by simp [h1]
    have HB := Lib.hid hb
    clear HS hb h1
    go_enter Tryz.func32, Tryz.ntmps32
    go_wp2
    go_ret
    exact ⟨by exact ret_b HD.out, HB.out⟩
set_option maxRecDepth 100000 in
set_option maxHeartbeats 8000000 in
theorem eqNodes_any {w : World} {A A2 : Option Addr} {n n2 c c2 : Nat} {T U : List Nd} (h : Term w A n c T) (h2 : Term w A2 n2 c2 U) :
    Calls Tryz.prog 31 #[.slice A n c, .slice A2 n2 c2, .func (.func 32) #[] #[]] w fun e w' => e = .returned (.bool (decide (T = U))) ∧ Below w.heap.size w w' := by
  have eg : ∀ args w, (callFunc 32 args).run Tryz.prog w = .ok (.enter 32 args) w := fun _ _ => rfl
  have hcap := h.2.1
  have hmax := h.2.2.1
  have hcap2 := h2.2.1
  have hmax2 := h2.2.2.1
  by_cases hlen : n = n2
  · subst hlen
    have H := Lib.hid h
    have H2 := Lib.hid h2
    have HNO := Lib.hid (fun (i : Nat) (hd : T[i]! ≠ U[i]!) => show decide (T = U) = false from decide_eq_false fun e => hd (by rw [e]))
    have HYES := Lib.hid (fun (hd : ∀ i : Nat, i < n → T[i]! = U[i]!) => show decide (T = U) = true from decide_eq_true (List.ext_getElem (by rw [← h.1, h2.1]) fun i h3 h4 => by
      have := hd i (by rw [h.1]; exact h3)
      rw [getElem!_pos T i h3, getElem!_pos U i h4] at this
      exact this))
    generalize decide (T = U) = B at HNO HYES ⊢
    clear h h2
    go_enter Tryz.func31, Tryz.ntmps31
    go_wp2
    go_loopw [17] (fun zi wr => ∃ i : Nat, i ≤ n ∧ zi = .int .i64 (i : Int) ∧ Below w.heap.size w wr ∧ Hid (∀ j, j < i → T[j]! = U[j]!)) (fun zi _ => n - (intOf zi).toNat)
    case atStart => exact ⟨0, by omega, rfl, Below.refl _ _, Lib.hid fun j hj => absurd hj (by omega)⟩
    case round =>
      obtain ⟨i, hi, rfl, hb, HJ⟩ := hrel
      by_cases hlt : i < n
      · obtain ⟨b, off, A', n', c', rfl, hg, ⟨a0, a1, a2, a3, a4⟩, hI, -⟩ := (H.out.below hb).at_ hlt
        obtain ⟨b2, off2, A2', n2', c2', rfl, hg2, ⟨d0, d1, d2, d3, d4⟩, hI2, -⟩ := (H2.out.below hb).at_ hlt
        have HN1 := Lib.hid (HNO.out i)
        have HJ2 := Lib.hid (show T[i]! = U[i]! → ∀ j, j < i + 1 → T[j]! = U[j]! from fun e j hj => by
          by_cases ej : j = i
          · rw [ej]; exact e
          · exact HJ.out j (by omega))
        have HC := Lib.hid (fun w1 (hb1 : Below wr.heap.size wr w1) => eqNode_any (hI.below hb1) (hI2.below hb1))
        generalize T[i]! = x at a0 a1 a2 a3 a4 HN1 HJ2 HC
        generalize U[i]! = y at d0 d1 d2 d3 d4 HN1 HJ2 HC
        clear hI hI2
        have HB := Lib.hid hb
        obtain ⟨op, wid, fl, args, imm⟩ := x
        obtain ⟨op2, wid2, fl2, args2, imm2⟩ := y
        simp only at a0 a1 a2 a3 a4 d0 d1 d2 d3 d4 HC
        clear hb
        go_upto_region 6 with fail
        clear a0 a1 a2 a3 a4
        have hx := heap_alloc_new wr (.cells #[.int .i64 op, .int .i64 wid, .int .i64 fl, .slice A' n' c', .int .u32 imm] 38)
        have hb1 : Below wr.heap.size wr (wr.alloc (.cells #[.int .i64 op, .int .i64 wid, .int .i64 fl, .slice A' n' c', .int .u32 imm] 38)) := (Below.refl _ _).alloc (Nat.le_refl _) _
        have hs1 : wr.heap.size < (wr.alloc (.cells #[.int .i64 op, .int .i64 wid, .int .i64 fl, .slice A' n' c', .int .u32 imm] 38)).heap.size := by simp
        generalize World.alloc wr _ = w1 at hx hb1 hs1 ⊢
        generalize wr.heap.size = X at hx hs1 ⊢
        have d0 := (hb1.cell (p := ⟨b2, off2 + i * 5, none⟩) hg2).trans d0
        have d1 := (hb1.cell (p := ⟨b2, off2 + i * 5 + 1, none⟩) hg2).trans d1
        have d2 := (hb1.cell (p := ⟨b2, off2 + i * 5 + 2, none⟩) hg2).trans d2
        have d3 := (hb1.cell (p := ⟨b2, off2 + i * 5 + 3, none⟩) hg2).trans d3
        have d4 := (hb1.cell (p := ⟨b2, off2 + i * 5 + 4, none⟩) hg2).trans d4
        have HB1 := Lib.hid hb1
        clear hb1
        go_upto_region 7 with fail
        clear d0 d1 d2 d3 d4
        have hy := heap_alloc_new w1 (.cells #[.int .i64 op2, .int .i64 wid2, .int .i64 fl2, .slice A2' n2' c2', .int .u32 imm2] 38)
        have hb2 : Below w1.heap.size w1 (w1.alloc (.cells #[.int .i64 op2, .int .i64 wid2, .int .i64 fl2, .slice A2' n2' c2', .int .u32 imm2] 38)) := (Below.refl _ _).alloc (Nat.le_refl _) _
        generalize World.alloc w1 _ = w2 at hy hb2 ⊢
        have hx := (hb2.block _ hs1).trans hx
        have HB2 := Lib.hid (HB1.out.trans (hb2.mono HB1.out.size))
        generalize w1.heap.size = Y at hy ⊢
        have x0 := cell_of_row _ _ 0 _ _ _ hx
        have x1 := cell_of_row _ _ 1 _ _ _ hx
        have x2 := cell_of_row _ _ 2 _ _ _ hx
        have x3 := cell_of_row _ _ 3 _ _ _ hx
        have x4 := cell_of_row _ _ 4 _ _ _ hx
        have y0 := cell_of_row _ _ 0 _ _ _ hy
        have y1 := cell_of_row _ _ 1 _ _ _ hy
        have y2 := cell_of_row _ _ 2 _ _ _ hy
        have y3 := cell_of_row _ _ 3 _ _ _ hy
        have y4 := cell_of_row _ _ 4 _ _ _ hy
        simp only [List.getElem?_toArray, List.getElem?_cons_zero, List.getElem?_cons_succ] at x0 x1 x2 x3 x4 y0 y1 y2 y3 y4
        have HE := Lib.hid (HC.out w2 HB2.out)
        clear hx hy HB1 hb2 hs1 HC
        by_cases e : (⟨op, wid, fl, args, imm⟩ : Nd) = ⟨op2, wid2, fl2, args2, imm2⟩
        · have e1 := decide_eq_true e
          rw [e1] at HE
          have HJ3 := Lib.hid (HJ2.out e)
          clear e e1 HJ2 HN1
          go_wp2_with fail
          refine HE.out.mono ?_
          rintro e w' ⟨rfl, hb'⟩
          go_wp2
          have hb3 := HB.out.trans ((HB2.out.trans (hb'.mono HB2.out.size)).mono HB.out.size)
          go_roundw
          case rel => exact ⟨i + 1, by omega, by go_num, hb3, HJ3⟩
          case measure => simp [intOf]; omega
        · have e1 := decide_eq_false e
          rw [e1] at HE
          have HN2 := Lib.hid (HN1.out e)
          clear e e1 HJ2 HN1
          go_wp2_with fail
          refine HE.out.mono ?_
          rintro e w' ⟨rfl, hb'⟩
          go_wp2
          have hb3 := HB.out.trans ((HB2.out.trans (hb'.mono HB2.out.size)).mono HB.out.size)
          go_ret
          exact ⟨ret_b HN2.out.symm, hb3⟩
      · have HF := Lib.hid (HYES.out fun j hj => HJ.out j (by omega))
        clear HYES HNO HJ
        go_wp2
        go_ret
        exact ⟨ret_b HF.out.symm, hb⟩
  · have hF : decide (T = U) = false := decide_eq_false fun e => hlen (by rw [h.1, h2.1, e])
    rw [hF]
    have e1 : ((n : Int) != (n2 : Int)) = true := by simp; omega
    clear h h2 hF
    go_enter Tryz.func31, Tryz.ntmps31
    go_wp2
    go_ret
    exact ⟨rfl, Below.refl _ _⟩
set_option maxRecDepth 100000 in
set_option maxHeartbeats 8000000 in
theorem poolSame_any {w : World} {A A2 : Option Addr} {n n2 c c2 : Nat} {T U : List Nd} (h : Term w A n c T) (h2 : Term w A2 n2 c2 U) :
    Calls Tryz.prog 17 #[.slice A n c, .slice A2 n2 c2] w fun e w' => e = .returned (.bool (decide (T = U))) ∧ Below w.heap.size w w' := by
  have HC := Lib.hid (eqNodes_any h h2)
  clear h h2
  go_enter Tryz.func17, Tryz.ntmps17
  go_wp2_with fail
  refine HC.out.mono ?_
  rintro e w' ⟨rfl, hb'⟩
  go_wp2
  go_ret
  exact ⟨rfl, hb'⟩
end
section
open Go.RowKit

/-- Share of a valid term. -/
def shL (T : List Nd) : List Nd := shF T (T.length - 1)
def sameE (T U : List Nd) : Int := if valF T = 0 then valF U else valF T
def sameR (T U : List Nd) : Bool := if valF T = 0 ∧ valF U = 0 then decide (shL T = shL U) else false
section
variable {w : World} {A A2 : Option Addr} {n n2 c c2 : Nat} {T U : List Nd}
set_option maxRecDepth 100000 in
set_option maxHeartbeats 4000000 in
theorem same_any (h : Term w A n c T) (h2 : Term w A2 n2 c2 U) :
    Calls Tryz.prog 7 #[.slice A n c, .slice A2 n2 c2] w fun e w' => e = .returned (.tuple #[.bool (sameR T U), .int .i64 (sameE T U)]) ∧ Below w.heap.size w w' := by
  have HT := Lib.hid (share_any h)
  have HU := Lib.hid (fun w1 (hb : Below w.heap.size w w1) => share_any (h2.below hb))
  clear h h2
  by_cases hv : valF T = 0
  · by_cases hu : valF U = 0
    · have hR : sameR T U = decide (shL T = shL U) := by unfold sameR; rw [if_pos ⟨hv, hu⟩]
      have hE : sameE T U = 0 := by unfold sameE; rw [if_pos hv]; exact hu
      rw [hR, hE]
      simp only [hv, hu, if_true] at HT HU
      rw [show shF T (T.length - 1) = shL T from rfl] at HT
      rw [show shF U (U.length - 1) = shL U from rfl] at HU
      generalize shL T = X at HT ⊢
      generalize shL U = Y at HU ⊢
      clear hR hE hv hu
      go_enter Tryz.func7, Tryz.ntmps7
      go_wp2_with fail
      refine HT.out.mono ?_
      rintro e w1 ⟨nv, av, rfl, hO, -, hb⟩
      obtain ⟨A3, c3, rfl, hX⟩ := own_term hO
      have HX := Lib.hid hX
      have HUU := Lib.hid (HU.out w1 hb)
      have HB := Lib.hid hb
      clear hO hX hb
      go_wp2_with fail
      refine HUU.out.mono ?_
      rintro e w2 ⟨nv2, av2, rfl, hO2, -, hb2⟩
      obtain ⟨A4, c4, rfl, hY⟩ := own_term hO2
      have HS := Lib.hid (poolSame_any (HX.out.below hb2) hY)
      have HB2 := Lib.hid (HB.out.trans (hb2.mono HB.out.size))
      clear hO2 hY hb2
      go_wp2_with fail
      refine HS.out.mono ?_
      rintro e w3 ⟨rfl, hb3⟩
      go_wp2
      go_ret2
      exact ⟨rfl, HB2.out.trans (hb3.mono HB2.out.size)⟩
    · have hR : sameR T U = false := by unfold sameR; rw [if_neg (fun e => hu e.2)]
      have hE : sameE T U = valF U := by unfold sameE; rw [if_pos hv]
      rw [hR, hE]
      rw [hv] at HT
      generalize valF U = V at HU hu ⊢
      have e1 : (V != 0) = true := by simp [hu]
      clear hR hE hv hu
      go_enter Tryz.func7, Tryz.ntmps7
      go_wp2_with fail
      refine HT.out.mono ?_
      rintro e w1 ⟨nv, av, rfl, hO, -, hb⟩
      have HUU := Lib.hid (HU.out w1 hb)
      have HB := Lib.hid hb
      clear hO hb
      go_wp2_with fail
      refine HUU.out.mono ?_
      rintro e w2 ⟨nv2, av2, rfl, hO2, -, hb2⟩
      have HB2 := Lib.hid (HB.out.trans (hb2.mono HB.out.size))
      clear hO2 hb2
      go_wp2
      go_ret2
      exact ⟨rfl, HB2.out⟩
  · have hR : sameR T U = false := by unfold sameR; rw [if_neg (fun e => hv e.1)]
    have hE : sameE T U = valF T := by unfold sameE; rw [if_neg hv]
    rw [hR, hE]
    generalize valF T = V at HT hv ⊢
    have e1 : (V != 0) = true := by simp [hv]
    clear hR hE hv HU
    go_enter Tryz.func7, Tryz.ntmps7
    go_wp2_with fail
    refine HT.out.mono ?_
    rintro e w1 ⟨nv, av, rfl, hO, -, hb⟩
    have HB := Lib.hid hb
    clear hO hb
    go_wp2
    go_ret2
    exact ⟨rfl, HB.out⟩
set_option maxRecDepth 100000 in
set_option maxHeartbeats 4000000 in
theorem refSame_any (h : Term w A n c T) (h2 : Term w A2 n2 c2 U) :
    Calls Tryz.prog 8 #[.slice A n c, .slice A2 n2 c2] w fun e w' => e = .returned (.tuple #[.bool (sameR T U), .int .i64 (sameE T U)]) ∧ Below w.heap.size w w' := by
  have HT := Lib.hid (refValidate_any h)
  have HU := Lib.hid (fun w1 (hb : Below w.heap.size w w1) => refValidate_any (h2.below hb))
  have hcap := h.2.1
  have hmax := h.2.2.1
  have hcap2 := h2.2.1
  have hmax2 := h2.2.2.1
  by_cases hv : valF T = 0
  · by_cases hu : valF U = 0
    · have hR : sameR T U = decide (shL T = shL U) := by unfold sameR; rw [if_pos ⟨hv, hu⟩]
      have hE : sameE T U = 0 := by unfold sameE; rw [if_pos hv]; exact hu
      rw [hR, hE]
      have l1 : 1 ≤ n ∧ n ≤ 300 := by have := (val_zero.1 hv).1; have := h.1; omega
      have l2 : 1 ≤ n2 ∧ n2 ≤ 300 := by have := (val_zero.1 hu).1; have := h2.1; omega
      have e1 : ((n : Nat) : Int) - 1 = ((n - 1 : Nat) : Int) := by omega
      have e2 : ((n2 : Nat) : Int) - 1 = ((n2 - 1 : Nat) : Int) := by omega
      have HS := Lib.hid (fun w1 (hb : Below w.heap.size w w1) => shared_any (h.below hb) (down_val hv) (val_args hv) (by omega) (show n - 1 < n by omega))
      have HS2 := Lib.hid (fun w1 (hb : Below w.heap.size w w1) => shared_any (h2.below hb) (down_val hu) (val_args hu) (by omega) (show n2 - 1 < n2 by omega))
      rw [show shF T (n - 1) = shL T by unfold shL; rw [h.1]] at HS
      rw [show shF U (n2 - 1) = shL U by unfold shL; rw [h2.1]] at HS2
      rw [hv] at HT
      simp only [hu] at HU
      generalize shL T = X at HS ⊢
      generalize shL U = Y at HS2 ⊢
      clear hR hE hv hu h h2
      go_enter Tryz.func8, Tryz.ntmps8
      go_wp2_with fail
      refine HT.out.mono ?_
      rintro e w1 ⟨rfl, hb⟩
      have HUU := Lib.hid (HU.out w1 hb)
      have HB := Lib.hid hb
      clear hb
      go_wp2_with fail
      refine HUU.out.mono ?_
      rintro e w2 ⟨rfl, hb2⟩
      have HB2 := Lib.hid (HB.out.trans (hb2.mono HB.out.size))
      have HSS := Lib.hid (HS.out _ HB2.out)
      clear hb2
      go_wp2_with fail
      refine HSS.out.mono ?_
      rintro e w3 ⟨nv, av, rfl, hO, hb3⟩
      obtain ⟨A3, c3, rfl, hX⟩ := own_term hO.own
      have HX := Lib.hid hX
      have HB3 := Lib.hid (HB2.out.trans (hb3.mono HB2.out.size))
      have HSS2 := Lib.hid (HS2.out _ HB3.out)
      clear hO hX hb3
      go_wp2_with fail
      refine HSS2.out.mono ?_
      rintro e w4 ⟨nv2, av2, rfl, hO2, hb4⟩
      obtain ⟨A4, c4, rfl, hY⟩ := own_term hO2.own
      have HN := Lib.hid (sameNodes_any (HX.out.below hb4) hY)
      have HB4 := Lib.hid (HB3.out.trans (hb4.mono HB3.out.size))
      clear hO2 hY hb4
      go_wp2_with fail
      refine HN.out.mono ?_
      rintro e w5 ⟨rfl, hb5⟩
      go_wp2
      go_ret2
      exact ⟨rfl, HB4.out.trans (hb5.mono HB4.out.size)⟩
    · have hR : sameR T U = false := by unfold sameR; rw [if_neg (fun e => hu e.2)]
      have hE : sameE T U = valF U := by unfold sameE; rw [if_pos hv]
      rw [hR, hE]
      rw [hv] at HT
      generalize valF U = V at HU hu ⊢
      have e1 : (V != 0) = true := by simp [hu]
      clear hR hE hv hu h h2
      go_enter Tryz.func8, Tryz.ntmps8
      go_wp2_with fail
      refine HT.out.mono ?_
      rintro e w1 ⟨rfl, hb⟩
      have HUU := Lib.hid (HU.out w1 hb)
      have HB := Lib.hid hb
      clear hb
      go_wp2_with fail
      refine HUU.out.mono ?_
      rintro e w2 ⟨rfl, hb2⟩
      have HB2 := Lib.hid (HB.out.trans (hb2.mono HB.out.size))
      clear hb2
      go_wp2
      go_ret2
      exact ⟨rfl, HB2.out⟩
  · have hR : sameR T U = false := by unfold sameR; rw [if_neg (fun e => hv e.1)]
    have hE : sameE T U = valF T := by unfold sameE; rw [if_neg hv]
    rw [hR, hE]
    generalize valF T = V at HT hv ⊢
    have e1 : (V != 0) = true := by simp [hv]
    clear hR hE hv HU h h2
    go_enter Tryz.func8, Tryz.ntmps8
    go_wp2_with fail
    refine HT.out.mono ?_
    rintro e w1 ⟨rfl, hb⟩
    have HB := Lib.hid hb
    clear hb
    go_wp2
    go_ret2
    exact ⟨rfl, HB.out⟩
end
end
end Go.Proofs.YtbohigjfdnnomaaGreatDoor
