/-
  Parent of the program.
-/
import Derived.Test.YtchkckflpmepkaaFwPa
namespace Go.Proofs.Ytchkckflpmepkaa
open Go.RowKit

/-- What Parent answers. -/
def resP (g : List (List Int)) (b : Int) : Option Nat := if errT g [b] = 0 then upF (natG g) b.toNat else none
def numO (o : Option Nat) : Int := match o with
  | some a => (a : Int)
  | none => 0
theorem setA_set (s : NS) {v : Nat} (h : v < 10) (x : Bool) : (setA s).setIfInBounds v (.bool x) = setA (fun j => if j = v then x else s j) := by
  apply Array.ext_getElem?
  intro j
  rw [Array.getElem?_setIfInBounds, setA_size]
  by_cases hj : v = j
  · subst hj
    rw [if_pos rfl, if_pos h, setA_at _ h, if_pos rfl]
  · rw [if_neg hj]
    by_cases h10 : j < 10
    · rw [setA_at _ h10, setA_at _ h10, if_neg (fun e => hj e.symm)]
    · rw [Array.getElem?_eq_none (by rw [setA_size]; omega), Array.getElem?_eq_none (by rw [setA_size]; omega)]
theorem SetB.set {w : World} {B : Nat} {s : NS} (h : SetB w B s) {v : Nat} (hv : v < 10) (x : Bool) : SetB (w.setCell ⟨B, v, none⟩ (.bool x)) B (fun j => if j = v then x else s j) := by
  unfold SetB at h ⊢
  rw [heap_setCell_same w B v _ _ _ h, setA_set _ hv]
theorem own_from {w : World} {base n m c : Nat} {A : Option Addr} {l : List Value} (h : w.ownsRow base 3 1 (.slice A n c) m l) : ∀ q off, A = some ⟨q, off, none⟩ → base ≤ q := by
  intro q off e
  subst e
  rcases h.2 with ⟨h2, _⟩ | ⟨g, cap, cur, h2, h3, _⟩
  · cases h2
  · injection h2 with h2
    injection h2 with h2
    injection h2 with h2
    omega
/-- The part of a set that stands below a place of a list. -/
def partS (l : List Nat) (i : Nat) (p : NS) : NS := fun j => decide (j ∈ l.take i) && p j
theorem partS_step {l : List Nat} {i : Nat} {p : NS} (h : i < l.length) (j : Nat) : (if j = l[i]! then p l[i]! else partS l i p j) = partS l (i + 1) p j := by
  unfold partS
  rw [take_succ h]
  by_cases hj : j = l[i]!
  · rw [if_pos hj, hj]
    simp
  · rw [if_neg hj]
    have e : (decide (j ∈ l.take i ++ [l[i]!])) = decide (j ∈ l.take i) := by
      rw [Bool.eq_iff_iff, decide_eq_true_iff, decide_eq_true_iff, List.mem_append, List.mem_singleton]
      exact ⟨fun h => h.elim id (fun h => absurd h hj), .inl⟩
    rw [e]
theorem up_all {G : List (List Nat)} (hG : okG G) {b a : Nat} (ha : a ∈ setL (strB G b) 10) : upB G b a = (setL (strB G b) 10).all fun c => domB G c a := by
  have h10 := hG.2.1
  rw [Bool.eq_iff_iff, up_iff hG, List.all_eq_true]
  constructor
  · rintro ⟨_, h⟩ c hc
    exact h c (mem_setL.1 hc).2
  · intro h
    refine ⟨(mem_setL.1 ha).2, fun c hc => h c (mem_setL.2 ⟨?_, hc⟩)⟩
    have := str_lt hG hc
    omega
theorem all_take {l : List Nat} {p : Nat → Bool} {k : Nat} (h : k < l.length) : (l.take (k + 1)).all p = ((l.take k).all p && p l[k]!) := by
  rw [take_succ h, List.all_append]
  simp
section
variable {w : World} {A : Option Addr} {n c : Nat} {g : List (List Int)}
set_option maxRecDepth 100000 in
set_option maxHeartbeats 8000000 in
theorem Parent_any (h : RG w A n c g) (b : Int) : Calls Try.prog 27 #[.slice A n c, .int .i64 b] w fun e w' => e = .returned (.tuple #[.int .i64 (numO (resP g b)), .bool (resP g b).isSome, .int .i64 (errT g [b])]) ∧ Below w.heap.size w w' := by
  have HV := Lib.hid (fun w1 (hb : Below w.heap.size w w1) => check_any ((h.below hb).below ((Below.refl w1.heap.size w1).alloc (Nat.le_refl _) _)) (ints_one w1 b))
  by_cases he : errT g [b] = 0
  · obtain ⟨hv, hB, hR⟩ := errT_one he
    have hG := okG_val hv
    have hvb := of_decide_eq_true hB
    obtain ⟨V, rfl⟩ : ∃ V : Nat, b = (V : Int) := ⟨b.toNat, by omega⟩
    have hl := hG.2.1
    rw [natG_len] at hl
    have hV10 : V < 10 := by omega
    have hM := MG_of h hv
    have HRE := Lib.hid (fun w1 (hb : Below w.heap.size w w1) => reached_any hG (hM.below hb))
    have HDO := Lib.hid (fun w1 (hb : Below w.heap.size w w1) x y (hy : y < 10) => dominates_any hG (hM.below hb) x y hy)
    have HTL := Lib.hid (fun s w1 => list_any s w1)
    have hr : resP g V = upF (natG g) V := if_pos he
    have HSOME := Lib.hid (fun a (ha : upB (natG g) V a = true) => upF_some hG ha)
    have HNONE := Lib.hid (fun (hh : ∀ i, i < (setL (strB (natG g) V) 10).length → upB (natG g) V (setL (strB (natG g) V) 10)[i]! = false) => upF_none (G := natG g) (b := V) fun a ha => by
      cases hu : upB (natG g) V a
      · rfl
      · have hm : a ∈ setL (strB (natG g) V) 10 := mem_setL.2 ⟨by rw [natG_len] at ha; omega, ((up_iff hG).1 hu).1⟩
        obtain ⟨i, hi, rfl⟩ := mem_at.1 hm
        rw [hh i hi] at hu
        cases hu)
    have HUA := Lib.hid (fun i (hi : i < (setL (strB (natG g) V) 10).length) => up_all hG (at_get hi))
    have HS := Lib.hid (show ∀ j, j < 10 → partS (setL (wy (natG g) (-1) 0) 10) (setL (wy (natG g) (-1) 0) 10).length (fun j => decide (j ≠ V) && domB (natG g) j V) j = strB (natG g) V j from fun j hj => by
      unfold partS strB
      rw [List.take_length]
      congr 1
      rw [Bool.eq_iff_iff, decide_eq_true_iff, mem_setL]
      exact ⟨fun h => h.2, fun h => ⟨hj, h⟩⟩)
    have HTLT := Lib.hid (fun i (hi : i < (setL (wy (natG g) (-1) 0) 10).length) => (mem_setL.1 (at_get hi)).1)
    have hT10 := setL_le (wy (natG g) (-1) 0) 10
    have HLLT := Lib.hid (fun i (hi : i < (setL (strB (natG g) V) 10).length) => (mem_setL.1 (at_get hi)).1)
    have hL10 := setL_le (strB (natG g) V) 10
    rw [he] at HV ⊢
    rw [hr]
    generalize upF (natG g) V = U at HSOME HNONE ⊢
    have HLE := Lib.hid (show setL (strB (natG g) V) 10 = setL (strB (natG g) V) 10 from rfl)
    generalize upB (natG g) V = P at HSOME HNONE HUA
    generalize strB (natG g) V = S at HNONE HUA HS HLLT hL10
    generalize domB (natG g) = D at HDO HUA HS
    have HTT := Lib.hid (HTL.out (wy (natG g) (-1) 0))
    generalize wy (natG g) (-1) 0 = R at HRE HTT HS HTLT hT10
    generalize setL R 10 = T at HTT HS HTLT hT10
    clear h hv hG hB hvb hl hM hr he hR HLE
    go_enter Try.func27, Try.ntmps27
    go_wp2_with fail
    refine (HV.out _ (Below.refl _ _)).mono ?_
    rintro e w1 ⟨rfl, hb1⟩
    have hb2 := ((Below.refl w.heap.size w).alloc (Nat.le_refl _) (.cells #[.int .i64 (V : Int)] 3)).trans (hb1.mono (by simp))
    clear hb1
    go_upto_region 5 with fail
    have hS := SetB.zero w1
    have hb3 := hb2.alloc hb2.size (.cells zV 52)
    have hQ := hb2.size
    generalize World.alloc w1 _ = W1 at hS hb3 ⊢
    generalize w1.heap.size = Q at hS hQ ⊢
    clear hb2
    have hQ1 := lt_of_block hS
    go_wp2_with fail
    refine (HRE.out W1 hb3).mono ?_
    rintro e w2 ⟨rfl, hb4⟩
    replace hS := hS.below hb4
    replace hb3 := hb3.trans (hb4.mono hb3.size)
    replace hQ1 := lt_of_block hS
    clear hb4
    go_wp2_with fail
    refine (HTT.out w2).mono ?_
    rintro e w3 ⟨vl, rfl, hown, hb4⟩
    replace hS := hS.below hb4
    replace hb3 := hb3.trans (hb4.mono hb3.size)
    have hQ1x := hQ1
    obtain ⟨AL, cL, rfl, hN⟩ := own_nats hown
    have hqA := own_from hown
    have hqQ : ∀ q off, AL = some ⟨q, off, none⟩ → q ≠ Q := fun q off e => by have := hqA q off e; omega
    have hcL := hN.2.1
    have hmL := hN.2.2.1
    have HN := Lib.hid hN
    have HQ := Lib.hid hqQ
    have HB3 := Lib.hid hb3
    have hq3 : Q < w3.heap.size := Nat.lt_of_lt_of_le hQ1x hb4.size
    clear hown hN hqA hqQ hb3 hb4
    have hS0 := hS.congr (t := partS T 0 (fun j => decide (j ≠ V) && D j V)) (fun j _ => by simp [partS, non])
    clear hS
    go_wp2
    go_loopw [27] (fun zi wr => ∃ i : Nat, i ≤ T.length ∧ zi = .int .i64 (i : Int) ∧ SetB wr Q (partS T i (fun j => decide (j ≠ V) && D j V)) ∧ KeepS Q w3 wr) (fun zi _ => T.length - (intOf zi).toNat)
    case atStart => exact ⟨0, by omega, rfl, hS0, KeepS.refl _ _⟩
    case round =>
      clear hS0
      obtain ⟨i, hi, rfl, hS, hK⟩ := hrel
      have hbw : Below w.heap.size w wr := HB3.out.trans (hK.below hQ (by omega))
      by_cases hlt : i < T.length
      · obtain ⟨bl, off, rfl, hbs, hc⟩ := (HN.out.keep HQ.out hK).at_ hlt
        have ha10 := HTLT.out i hlt
        have HST := Lib.hid (fun j => partS_step (p := fun j => decide (j ≠ V) && D j V) hlt j)
        have hSx := fun x => hS.set ha10 x
        generalize T[i]! = a at hc ha10 HST hSx
        obtain ⟨hcell, hfree⟩ := hS.cell ha10
        generalize partS T i (fun j => decide (j ≠ V) && D j V) a = cb at hcell
        by_cases haV : a = V
        · have HS2 := Lib.hid ((hSx false).congr (t := partS T (i + 1) (fun j => decide (j ≠ V) && D j V)) (fun j _ => by rw [← HST.out j]; simp [haV]))
          have HK2 := Lib.hid (hK.set a (.bool false))
          have e1 : ((a : Int) != (V : Int)) = false := by simp [haV]
          clear haV hS hK hSx
          go_wp2
          go_roundw
          case rel => exact ⟨i + 1, by omega, by go_num, HS2.out, HK2.out⟩
          case measure => simp [intOf]; omega
        · have e1 : ((a : Int) != (V : Int)) = true := by simp; omega
          have HC := Lib.hid (HDO.out wr hbw a V hV10)
          have hHS := Lib.hid hS
          have HST2 := Lib.hid (fun j => by have := HST.out j; rwa [show (decide (a ≠ V) && D a V) = D a V by simp [haV]] at this)
          generalize D a V = x at HC HST2
          clear haV hSx hS hcell hfree
          go_wp2_with fail
          refine HC.out.mono ?_
          rintro e w4 ⟨rfl, hb4⟩
          have hS4 := hHS.out.below hb4
          obtain ⟨hcell, hfree⟩ := hS4.cell ha10
          generalize partS T i (fun j => decide (j ≠ V) && D j V) a = cb at hcell
          have HS2 := Lib.hid ((hS4.set ha10 x).congr (t := partS T (i + 1) (fun j => decide (j ≠ V) && D j V)) (fun j _ => HST2.out j))
          have HK2 := Lib.hid ((hK.trans (KeepS.of_below hb4)).set a (.bool x))
          clear hS4 hK hb4 hc hbs
          go_wp2
          go_roundw
          case rel => exact ⟨i + 1, by omega, by go_num, HS2.out, HK2.out⟩
          case measure => simp [intOf]; omega
      · obtain rfl : i = T.length := by omega
        have hS1 := hS.congr HS.out
        have HS1 := Lib.hid hS1
        unfold SetB at hS1
        clear hS hK hi hlt
        go_wp2_with (refine wpList_load_row rfl 52 (.tmp 8) rfl Q rfl 52 (setA S) (0, 0) _ hS1 Try.underlying52 rfl (setA_info S) ?_)
        refine (HTL.out S wr).mono ?_
        rintro e w5 ⟨v5, rfl, hown, hb5⟩
        replace HS1 := Lib.hid (HS1.out.below hb5)
        have HW5 := Lib.hid (hbw.trans (hb5.mono hbw.size))
        have HSL := Lib.hid (HTL.out S)
        generalize setL S 10 = L at HNONE HUA HLLT hL10 hown HSL
        obtain ⟨AM, cM, rfl, hM⟩ := own_nats hown
        have hcM := hM.2.1
        have hmM := hM.2.2.1
        have HM := Lib.hid hM
        clear hown hM hS1 hb5 hbw
        go_wp2
        go_loopw [46] (fun zi wr => ∃ i : Nat, i ≤ L.length ∧ zi = .int .i64 (i : Int) ∧ Below w5.heap.size w5 wr ∧ Hid (∀ j, j < i → P L[j]! = false)) (fun zi _ => L.length - (intOf zi).toNat)
        case atStart => exact ⟨0, by omega, rfl, Below.refl _ _, Lib.hid fun j hj => absurd hj (by omega)⟩
        case round =>
          obtain ⟨i, hi, rfl, hb6, HJ⟩ := hrel
          have hbw := HW5.out.trans (hb6.mono HW5.out.size)
          by_cases hlt : i < L.length
          · obtain ⟨bl, off, rfl, hbs, hc⟩ := HM.out.get hb6 hlt
            have ha10 := HLLT.out i hlt
            have HPA := Lib.hid (HUA.out i hlt)
            have HSA := Lib.hid (HSOME.out L[i]!)
            have HJ2 := Lib.hid (show P L[i]! = false → ∀ j, j < i + 1 → P L[j]! = false from fun h j hj => by
              by_cases hji : j = i
              · rw [hji]; exact h
              · exact HJ.out j (by omega))
            generalize L[i]! = a at hc ha10 HPA HSA HJ2
            have hS1 := HS1.out.below hb6
            unfold SetB at hS1
            go_wp2_with (refine wpList_load_row rfl 52 (.tmp 8) rfl Q rfl 52 (setA S) (0, 0) _ hS1 Try.underlying52 rfl (setA_info S) ?_)
            refine (HSL.out wr).mono ?_
            rintro e w7 ⟨v7, rfl, hown, hb7⟩
            obtain ⟨AN, cN, rfl, hN7⟩ := own_nats hown
            have hcN := hN7.2.1
            have hmN := hN7.2.2.1
            have HN7 := Lib.hid hN7
            have HB7 := Lib.hid (hb6.trans (hb7.mono hb6.size))
            have HW7 := Lib.hid (hbw.trans (hb7.mono hbw.size))
            clear hown hN7 hb7 hb6 hbw hS1 hc hbs
            go_wp2
            go_loopw [13, 53] (fun zn zk wr => ∃ k : Nat, k ≤ L.length ∧ zk = .int .i64 (k : Int) ∧ zn = .bool ((L.take k).all fun c => D c a) ∧ Below w7.heap.size w7 wr) (fun _ zk _ => L.length - (intOf zk).toNat)
            case atStart => exact ⟨0, by omega, rfl, rfl, Below.refl _ _⟩
            case round =>
              obtain ⟨k, hk, rfl, rfl, hb8⟩ := hrel
              have hbw := HW7.out.trans (hb8.mono HW7.out.size)
              by_cases hkl : k < L.length
              · obtain ⟨bk, offk, rfl, hbk, hck⟩ := HN7.out.get hb8 hkl
                have HAT := Lib.hid (all_take (p := fun c => D c a) hkl)
                have HC := Lib.hid (HDO.out wr hbw L[k]! a ha10)
                generalize L[k]! = x at hck HAT HC
                have HAT := Lib.hid (show ∀ q1, ((L.take k).all fun c => D c a) = q1 → ((L.take (k + 1)).all fun c => D c a) = (q1 && D x a) from fun q1 h => by rw [← h]; exact HAT.out)
                generalize D x a = dx at HAT HC
                obtain ⟨q1, hq1⟩ : ∃ q1, ((L.take k).all fun c => D c a) = q1 := ⟨_, rfl⟩
                have HE := Lib.hid (HAT.out q1 hq1)
                rw [hq1]
                clear hq1 HAT
                cases q1
                · clear HC
                  go_wp2
                  go_roundw
                  case rel => exact ⟨k + 1, by omega, by go_num, by rw [HE.out]; rfl, hb8⟩
                  case measure => simp [intOf]; omega
                · go_wp2_with fail
                  refine HC.out.mono ?_
                  rintro e w9 ⟨rfl, hb9⟩
                  have hb10 := hb8.trans (hb9.mono hb8.size)
                  clear hb8 hb9 hck hbk hbw
                  go_wp2
                  go_roundw
                  case rel => exact ⟨k + 1, by omega, by go_num, by rw [HE.out]; rfl, hb10⟩
                  case measure => simp [intOf]; omega
              · obtain rfl : k = L.length := by omega
                rw [List.take_length, ← HPA.out]
                have HBZ := Lib.hid (HB7.out.trans (hb8.mono HB7.out.size))
                have HBW := Lib.hid hbw
                clear hb8 hbw
                cases hP : P a
                · have HJ3 := Lib.hid (HJ2.out hP)
                  clear hP HPA HSA HJ2
                  go_wp2
                  go_roundw
                  case rel => exact ⟨i + 1, by omega, by go_num, HBZ.out, HJ3⟩
                  case measure => simp [intOf]; omega
                · have HU := Lib.hid (HSA.out hP)
                  clear hP HPA HSA HJ2
                  go_wp2
                  exact bodyPost_ret (results_tmp3 rfl _ _ _) rfl ⟨by rw [HU.out]; rfl, HBW.out⟩
          · obtain rfl : i = L.length := by omega
            have HU := Lib.hid (HNONE.out HJ.out)
            go_wp2
            exact bodyPost_ret (results_tmp3 rfl _ _ _) rfl ⟨by rw [HU.out]; rfl, hbw⟩
  · have hr : resP g b = none := if_neg he
    rw [hr]
    generalize errT g [b] = X at HV he ⊢
    have dX : (X != 0) = true := by simp [he]
    clear h hr he
    go_enter Try.func27, Try.ntmps27
    go_wp2_with fail
    refine (HV.out _ (Below.refl _ _)).mono ?_
    rintro e w1 ⟨rfl, hb1⟩
    have hb2 := ((Below.refl w.heap.size w).alloc (Nat.le_refl _) (.cells #[.int .i64 b] 3)).trans (hb1.mono (by simp))
    clear hb1
    go_wp2
    exact bodyPost_ret (results_tmp3 rfl _ _ _) rfl ⟨rfl, hb2⟩
end
end Go.Proofs.Ytchkckflpmepkaa
