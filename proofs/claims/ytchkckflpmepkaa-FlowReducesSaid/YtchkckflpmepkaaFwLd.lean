/-
  Depth of both packages.
-/
import Derived.Test.YtchkckflpmepkaaFwLc
namespace Go.Proofs.Ytchkckflpmepkaa
open Go.RowKit

theorem errT_one {g : List (List Int)} {a : Int} (h : errT g [a] = 0) : valF g = 0 ∧ nodeB a g.length = true ∧ wy (natG g) (-1) 0 a.toNat = true := by
  unfold errT at h
  by_cases hv : valF g = 0
  · rw [if_pos hv] at h
    cases h1 : nodesOk g [a]
    · rw [h1] at h
      cases h
    · rw [h1, if_pos rfl] at h
      cases h2 : seenOk g [a]
      · rw [h2] at h
        cases h
      · unfold nodesOk at h1
        unfold seenOk at h2
        simp at h1 h2
        exact ⟨hv, h1, h2⟩
  · rw [if_neg hv] at h
    exact absurd h hv
def dpP (p : Nat → Bool) (l : List Nat) (i : Nat) : Nat := ((l.take i).filter p).length
theorem dpP_succ {p : Nat → Bool} {l : List Nat} {i : Nat} (h : i < l.length) : dpP p l (i + 1) = dpP p l i + (if p l[i]! then 1 else 0) := by
  unfold dpP
  rw [take_succ h, List.filter_append, List.length_append]
  cases hh : p l[i]!
  · rw [List.filter_cons, hh]; rfl
  · rw [List.filter_cons, hh]; rfl
theorem dpP_le (p : Nat → Bool) (l : List Nat) (i : Nat) : dpP p l i ≤ l.length := by
  unfold dpP
  have h1 := List.length_filter_le p (l.take i)
  have h2 := List.length_take_le' i l
  omega
section
variable {w : World} {A : Option Addr} {n c : Nat} {g : List (List Int)}
set_option maxRecDepth 100000 in
set_option maxHeartbeats 4000000 in
theorem Depth_any (h : RG w A n c g) (v : Int) : Calls Try.prog 32 #[.slice A n c, .int .i64 v] w fun e w' => e = .returned (.tuple #[.int .i64 (resDp g v), .int .i64 (errT g [v])]) ∧ Below w.heap.size w w' := by
  have HV := Lib.hid (fun w1 (hb : Below w.heap.size w w1) => check_any ((h.below hb).below ((Below.refl w1.heap.size w1).alloc (Nat.le_refl _) _)) (ints_one w1 v))
  by_cases he : errT g [v] = 0
  · obtain ⟨hv, hB, -⟩ := errT_one he
    have hG := okG_val hv
    have hvb := of_decide_eq_true hB
    obtain ⟨V, rfl⟩ : ∃ V : Nat, v = (V : Int) := ⟨v.toNat, by omega⟩
    have hl := hG.2.1
    rw [natG_len] at hl
    have hV10 : V < 10 := by omega
    have hM := MG_of h hv
    have HH := Lib.hid (fun w1 (hb : Below w.heap.size w w1) => heads_any hG (hM.below hb))
    have HLP := Lib.hid (fun w1 (hb : Below w.heap.size w w1) hd (hh : hd < n) => loop_any hG (hM.below hb) hd hh)
    have HN := Lib.hid (fun i (hi : i < (setL (hdS (bkL (natG g))) 10).length) => show (setL (hdS (bkL (natG g))) 10)[i]! < n by
      rw [hM.1]
      exact hd_lt hG (mem_setL.1 (at_get hi)).2)
    have hr : resDp g V = (dpP (fun h => lopS (natG g) h V) (setL (hdS (bkL (natG g))) 10) (setL (hdS (bkL (natG g))) 10).length : Int) := by
      unfold resDp depN dpP
      rw [if_pos he, List.take_length]
      rfl
    have HTL := Lib.hid (fun w1 => list_any (hdS (bkL (natG g))) w1)
    have HIX := Lib.hid (fun hd W => setA_idx (lopS (natG g) hd) hV10 W)
    have HDS := Lib.hid (fun i hi => dpP_succ (p := fun h => lopS (natG g) h V) (l := setL (hdS (bkL (natG g))) 10) (i := i) hi)
    have HDL := Lib.hid (dpP_le (fun h => lopS (natG g) h V) (setL (hdS (bkL (natG g))) 10))
    have hD0 : dpP (fun h => lopS (natG g) h V) (setL (hdS (bkL (natG g))) 10) 0 = 0 := rfl
    have hLl := setL_le (hdS (bkL (natG g))) 10
    rw [he] at HV ⊢
    rw [hr]
    generalize dpP (fun h => lopS (natG g) h V) (setL (hdS (bkL (natG g))) 10) = D at HDS HDL hD0 ⊢
    have HD0 := Lib.hid hD0
    generalize setL (hdS (bkL (natG g))) 10 = L at HN HTL HDS HDL hLl ⊢
    generalize hdS (bkL (natG g)) = T at HH HTL
    generalize lopS (natG g) = S at HLP HIX HDS
    clear h hv hG hB he hvb hl hM hr hD0
    go_enter Try.func32, Try.ntmps32
    go_wp2_with fail
    refine (HV.out _ (Below.refl _ _)).mono ?_
    rintro e w1 ⟨rfl, hb1⟩
    have hb2 := ((Below.refl w.heap.size w).alloc (Nat.le_refl _) (.cells #[.int .i64 (V : Int)] 3)).trans (hb1.mono (by simp))
    clear hb1
    go_wp2_with fail
    refine (HH.out w1 hb2).mono ?_
    rintro e w2 ⟨rfl, hb3⟩
    replace hb2 := hb2.trans (hb3.mono hb2.size)
    go_wp2_with fail
    refine (HTL.out w2).mono ?_
    rintro e w3 ⟨vl, rfl, hown, hb4⟩
    replace hb2 := hb2.trans (hb4.mono hb2.size)
    obtain ⟨AL, cL, rfl, hN⟩ := own_nats hown
    have hcL := hN.2.1
    have hmL := hN.2.2.1
    have HNL := Lib.hid hN
    clear hown hN hb3 hb4
    go_wp2
    go_loopw [7, 21] (fun zd zi wr => ∃ i : Nat, i ≤ L.length ∧ zi = .int .i64 (i : Int) ∧ zd = .int .i64 (D i : Int) ∧ Below w3.heap.size w3 wr) (fun _ zi _ => L.length - (intOf zi).toNat)
    case atStart => exact ⟨0, by omega, rfl, by rw [HD0.out]; rfl, Below.refl _ _⟩
    case round =>
      obtain ⟨i, hi, rfl, rfl, hb5⟩ := hrel
      by_cases hlt : i < L.length
      · obtain ⟨b, off, rfl, hbs, hc⟩ := HNL.out.get hb5 hlt
        have hn := HN.out i hlt
        have HD1 := Lib.hid (HDS.out i hlt)
        have hDl := HDL.out i
        generalize L[i]! = hd at hc hn HD1
        have HC := Lib.hid (HLP.out wr (hb2.trans (hb5.mono hb2.size)) hd hn)
        have hidx := HIX.out hd
        cases hS : S hd V
        · have HD2 := Lib.hid (show D (i + 1) = D i by rw [HD1.out, hS]; rfl)
          rw [hS] at hidx
          clear HD1 hS
          go_wp2_with fail
          refine HC.out.mono ?_
          rintro e w4 ⟨rfl, hb6⟩
          have hb7 := hb5.trans (hb6.mono hb5.size)
          clear hb5 hb6 hc hbs HC
          go_wp2
          go_roundw
          case rel => exact ⟨i + 1, by omega, by go_num, by rw [HD2.out], hb7⟩
          case measure => simp [intOf]; omega
        · have HD2 := Lib.hid (show D (i + 1) = D i + 1 by rw [HD1.out, hS]; rfl)
          rw [hS] at hidx
          clear HD1 hS
          go_wp2_with fail
          refine HC.out.mono ?_
          rintro e w4 ⟨rfl, hb6⟩
          have hb7 := hb5.trans (hb6.mono hb5.size)
          clear hb5 hb6 hc hbs HC
          go_wp2
          go_roundw
          case rel => exact ⟨i + 1, by omega, by go_num, by rw [HD2.out]; go_num, hb7⟩
          case measure => simp [intOf]; omega
      · obtain rfl : i = L.length := by omega
        have hb6 := hb2.trans (hb5.mono hb2.size)
        go_wp2
        exact bodyPost_ret (results_tmp2 rfl _ _ _) rfl ⟨rfl, hb6⟩
  · have hr : resDp g v = 0 := if_neg he
    rw [hr]
    generalize errT g [v] = X at HV he ⊢
    have dX : (X != 0) = true := by simp [he]
    clear h hr he
    go_enter Try.func32, Try.ntmps32
    go_wp2_with fail
    refine (HV.out _ (Below.refl _ _)).mono ?_
    rintro e w1 ⟨rfl, hb1⟩
    have hb2 := ((Below.refl w.heap.size w).alloc (Nat.le_refl _) (.cells #[.int .i64 v] 3)).trans (hb1.mono (by simp))
    clear hb1
    go_wp2
    exact bodyPost_ret (results_tmp2 rfl _ _ _) rfl ⟨rfl, hb2⟩
set_option maxRecDepth 100000 in
set_option maxHeartbeats 4000000 in
theorem refDepth_any (h : RG w A n c g) (v : Int) : Calls Try.prog 33 #[.slice A n c, .int .i64 v] w fun e w' => e = .returned (.tuple #[.int .i64 (resDp g v), .int .i64 (errT g [v])]) ∧ Below w.heap.size w w' := by
  have HV := Lib.hid (fun w1 (hb : Below w.heap.size w w1) => there_any ((h.below hb).below ((Below.refl w1.heap.size w1).alloc (Nat.le_refl _) _)) (ints_one w1 v))
  by_cases he : errT g [v] = 0
  · obtain ⟨hv, hB, -⟩ := errT_one he
    have hG := okG_val hv
    have hvb := of_decide_eq_true hB
    obtain ⟨V, rfl⟩ : ∃ V : Nat, v = (V : Int) := ⟨v.toNat, by omega⟩
    have hVn : V < n := by have := h.1; omega
    have hcap := h.2.1
    have hmax := h.2.2.1
    have n10 : n ≤ 10 := by rw [h.1]; have := hG.2.1; rw [natG_len] at this; exact this
    have hM := MG_of h hv
    have HLP := Lib.hid (fun w1 (hb : Below w.heap.size w w1) hd (hh : hd < n) => refLoop_any hG (hM.below hb) hd hh)
    have hr : resDp g V = (dpP (fun h => rlE (natG g) h (bkL (natG g)) V) (List.range n) n : Int) := by
      unfold resDp dpP
      have e1 := dep_eq hG V
      rw [natG_len, ← h.1] at e1
      have e2 : (List.range n).take n = List.range n := by
        conv => lhs; arg 1; rw [← List.length_range (n := n)]
        rw [List.take_length]
      rw [if_pos he, e2, e1]
      rfl
    have HDS := Lib.hid (fun i (hi : i < n) => show dpP (fun h => rlE (natG g) h (bkL (natG g)) V) (List.range n) (i + 1) = dpP (fun h => rlE (natG g) h (bkL (natG g)) V) (List.range n) i + (if rlE (natG g) i (bkL (natG g)) V then 1 else 0) by
      rw [dpP_succ (by rw [List.length_range]; exact hi), show (List.range n)[i]! = i by simp [hi]])
    have HDL := Lib.hid (fun i => show dpP (fun h => rlE (natG g) h (bkL (natG g)) V) (List.range n) i ≤ 10 by
      have := dpP_le (fun h => rlE (natG g) h (bkL (natG g)) V) (List.range n) i
      rw [List.length_range] at this
      omega)
    have hD0 : dpP (fun h => rlE (natG g) h (bkL (natG g)) V) (List.range n) 0 = 0 := rfl
    rw [he] at HV ⊢
    rw [hr]
    generalize dpP (fun h => rlE (natG g) h (bkL (natG g)) V) (List.range n) = D at HDS HDL hD0 ⊢
    have HD0 := Lib.hid hD0
    generalize hSE : (fun h => rlE (natG g) h (bkL (natG g))) = S at HLP
    have hS2 : ∀ hd, rlE (natG g) hd (bkL (natG g)) = S hd := fun hd => by rw [← hSE]
    have HLP2 := Lib.hid (fun w1 (hb : Below w.heap.size w w1) hd (hh : hd < n) => hS2 hd ▸ refLoop_any hG (hM.below hb) hd hh)
    have HDS2 := Lib.hid (fun i (hi : i < n) => show D (i + 1) = D i + (if S i V then 1 else 0) by rw [← hS2]; exact HDS.out i hi)
    clear h hv hG hB he hvb hM hr hD0 hSE hS2 HLP HDS
    go_enter Try.func33, Try.ntmps33
    go_wp2_with fail
    refine (HV.out _ (Below.refl _ _)).mono ?_
    rintro e w1 ⟨rfl, hb1⟩
    have hb2 := ((Below.refl w.heap.size w).alloc (Nat.le_refl _) (.cells #[.int .i64 (V : Int)] 3)).trans (hb1.mono (by simp))
    clear hb1
    go_wp2
    go_loopw [7, 8] (fun zd zi wr => ∃ i : Nat, i ≤ n ∧ zi = .int .i64 (i : Int) ∧ zd = .int .i64 (D i : Int) ∧ Below w.heap.size w wr) (fun _ zi _ => n - (intOf zi).toNat)
    case atStart => exact ⟨0, by omega, rfl, by rw [HD0.out]; rfl, hb2⟩
    case round =>
      clear hb2
      obtain ⟨i, hi, rfl, rfl, hb5⟩ := hrel
      by_cases hlt : i < n
      · have HD1 := Lib.hid (HDS2.out i hlt)
        have hDl := HDL.out i
        have HC := Lib.hid (HLP2.out wr hb5 i hlt)
        generalize S i = Si at HC HD1
        obtain ⟨B, hB⟩ : ∃ B, Si V = B := ⟨_, rfl⟩
        rw [hB] at HD1
        have HBB := Lib.hid hB
        clear hB
        go_wp2_with fail
        refine HC.out.mono ?_
        rintro e w4 ⟨gb, rfl, hBo, -, hb6⟩
        have hcell := (hBo.cell hVn).1
        have hgl := hBo.lt
        rw [HBB.out] at hcell
        have hb7 := hb5.trans (hb6.mono hb5.size)
        clear hb5 hb6 HC hBo
        cases B
        · have HD2 := Lib.hid (show D (i + 1) = D i by rw [HD1.out]; rfl)
          go_wp2
          go_roundw
          case rel => exact ⟨i + 1, by omega, by go_num, by rw [HD2.out], hb7⟩
          case measure => simp [intOf]; omega
        · have HD2 := Lib.hid (show D (i + 1) = D i + 1 by rw [HD1.out]; rfl)
          go_wp2
          go_roundw
          case rel => exact ⟨i + 1, by omega, by go_num, by rw [HD2.out]; go_num, hb7⟩
          case measure => simp [intOf]; omega
      · obtain rfl : i = n := by omega
        go_wp2
        exact bodyPost_ret (results_tmp2 rfl _ _ _) rfl ⟨rfl, hb5⟩
  · have hr : resDp g v = 0 := if_neg he
    rw [hr]
    generalize errT g [v] = X at HV he ⊢
    have dX : (X != 0) = true := by simp [he]
    clear h hr he
    go_enter Try.func33, Try.ntmps33
    go_wp2_with fail
    refine (HV.out _ (Below.refl _ _)).mono ?_
    rintro e w1 ⟨rfl, hb1⟩
    have hb2 := ((Below.refl w.heap.size w).alloc (Nat.le_refl _) (.cells #[.int .i64 v] 3)).trans (hb1.mono (by simp))
    clear hb1
    go_wp2
    exact bodyPost_ret (results_tmp2 rfl _ _ _) rfl ⟨rfl, hb2⟩
end
end Go.Proofs.Ytchkckflpmepkaa
