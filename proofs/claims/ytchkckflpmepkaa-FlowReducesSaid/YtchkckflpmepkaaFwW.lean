/-
  loop of the program.
-/
import Derived.Test.YtchkckflpmepkaaFwV
namespace Go.Proofs.Ytchkckflpmepkaa
open Go.RowKit

/-- The loop of a head. -/
def lopS (G : List (List Nat)) (h : Nat) : NS := lopE G (wy G (-1) 0) h (bkL G).reverse
theorem take_rev {l : List Edg} {i : Nat} (h : i < l.length) : (l.take (i + 1)).reverse = l[i]! :: (l.take i).reverse := by
  rw [takeE_succ h, List.reverse_append]
  rfl
section
variable {w : World} {A : Option Addr} {n c : Nat} {G : List (List Nat)}
set_option maxRecDepth 100000 in
set_option maxHeartbeats 8000000 in
theorem loop_any (hG : okG G) (h : MG w A n c G) (hd : Nat) (hdn : hd < n) : Calls Try.prog 59 #[.slice A n c, .int .i64 (hd : Int)] w fun e w' => e = .returned (.agg (setA (lopS G hd))) ∧ Below w.heap.size w w' := by
  have n10 : n ≤ 10 := by rw [h.1]; exact hG.2.1
  have HRE := Lib.hid (fun w1 (hb : Below w.heap.size w w1) => reached_any hG (h.below hb))
  have HBK := Lib.hid (fun w1 (hb : Below w.heap.size w w1) => backs_any hG (h.below hb))
  have HV := Lib.hid (fun (S Q Gb V : Nat) T (hS : w.heap.size ≤ S) (hq : Q ≠ S) (hg : Gb ≠ S) (hvS : V ≠ S) => loopVisit_any (T := T) hG h hS hq hg hvS 11)
  have HLT := Lib.hid (fun i (hi : i < (bkL G).length) => show (bkL G)[i]!.1 < n by
    have hm : (bkL G)[i]! ∈ bkL G := by rw [show (bkL G)[i]! = (bkL G)[i] by simp [hi]]; exact List.getElem_mem _
    rw [h.1]
    exact (bkL_mem hG hm).1)
  have hEl := bkL_len (G := G)
  have HF := Lib.hid (show lopS G hd = lopE G (wy G (-1) 0) hd ((bkL G).take (bkL G).length).reverse by rw [List.take_length]; rfl)
  generalize lopS G hd = Z at HF ⊢
  generalize bkL G = E at HBK HLT hEl HF
  generalize wy G (-1) 0 = T at HRE HF
  clear h hG
  go_enter Try.func59, Try.ntmps59
  go_wp2_with fail
  have hb0 : Below w.heap.size w ((w.alloc (.cells #[.slice A n c] 22)).alloc (.cells zV 52)) := ((Below.refl _ _).alloc (Nat.le_refl _) _).alloc (by simp) _
  have hGb := (heap_alloc_old (w.alloc (.cells #[.slice A n c] 22)) (.cells zV 52) (lt_of_block (heap_alloc_new w (.cells #[.slice A n c] 22)))).trans (heap_alloc_new w (.cells #[.slice A n c] 22))
  have hR := SetB.zero (w.alloc (.cells #[.slice A n c] 22))
  rw [show (w.alloc (.cells #[.slice A n c] 22)).heap.size = w.heap.size + 1 by simp] at hR
  generalize World.alloc (World.alloc w _) _ = W0 at hb0 hGb hR ⊢
  refine (HRE.out W0 hb0).mono ?_
  rintro e w1 ⟨rfl, hb1⟩
  have hG1 := (hb1.block _ (lt_of_block hGb)).trans hGb
  have hR1 := hR.below hb1
  have hb2 := hb0.trans (hb1.mono hb0.size)
  clear hb0 hGb hR hb1
  have hSq := SetB.zero w1
  have hb3 := hb2.alloc hb2.size (.cells zV 52)
  have hlow1 := lt_of_block hR1
  have hG2 := (heap_alloc_old w1 (.cells zV 52) (lt_of_block hG1)).trans hG1
  have hR2 := hR1.block (heap_alloc_old w1 (.cells zV 52) (lt_of_block hR1))
  go_upto_region 2 with (refine wpList_store_row rfl _ _ _ rfl w1.heap.size (setA T) rfl rfl 52 _ hSq (setA_info T) (by rw [setA_size, setA_size]) (setA_one T) ?_)
  have hQ3 : SetB ((w1.alloc (.cells zV 52)).setRow w1.heap.size (setA T)) w1.heap.size T := setRow_get _ _ _ _ _ hSq
  have hG3 := (setRow_ne (w1.alloc (.cells zV 52)) w1.heap.size (setA T) (k := w.heap.size) (by have := lt_of_block hG1; omega)).trans hG2
  have hR3 := hR2.block (setRow_ne (w1.alloc (.cells zV 52)) w1.heap.size (setA T) (k := w.heap.size + 1) (by omega))
  have hb4 := setRow_below hb3 hb2.size (setA T)
  have hz : ((w1.alloc (.cells zV 52)).setRow w1.heap.size (setA T)).heap.size = w1.heap.size + 1 := by
    show (Array.modify _ _ _).size = _
    simp
  generalize World.setRow (World.alloc w1 _) _ _ = W2 at hQ3 hG3 hR3 hb4 hz ⊢
  clear hG1 hR1 hb2 hSq hb3 hG2 hR2
  have hQlt := hb4.size
  generalize w1.heap.size = Q at hQ3 hz hlow1 ⊢
  go_upto_region 3 with fail
  have hS4 := SetB.zero W2
  have hQ4 := hQ3.below ((Below.refl W2.heap.size W2).alloc (Nat.le_refl _) (.cells zV 52))
  have hR4 := hR3.below ((Below.refl W2.heap.size W2).alloc (Nat.le_refl _) (.cells zV 52))
  have hG4 := (heap_alloc_old W2 (.cells zV 52) (lt_of_block hG3)).trans hG3
  have hb5 := hb4.alloc hb4.size (.cells zV 52)
  have hz5 : (W2.alloc (.cells zV 52)).heap.size = Q + 1 + 1 := by rw [← hz]; simp
  rw [hz] at hS4
  try rw [hz]
  generalize World.alloc W2 _ = W3 at hS4 hQ4 hR4 hG4 hb5 hz5 ⊢
  clear hQ3 hG3 hR3 hb4 hz
  obtain ⟨hcell, hfree⟩ := hS4.cell (show hd < 10 by omega)
  rw [show non hd = false from rfl] at hcell
  have hS5 := hS4.put (show hd < 10 by omega)
  have hQ5 := hQ4.ne (P := Q + 1) (o := hd) (u := .bool true) (by omega)
  have hR5 := hR4.ne (P := Q + 1) (o := hd) (u := .bool true) (by omega)
  have hG5 := (heap_setCell_other W3 ⟨Q + 1, hd, none⟩ w.heap.size (.bool true) (by show w.heap.size ≠ Q + 1; omega)).trans hG4
  have hb6 := hb5.setCell (p := ⟨Q + 1, hd, none⟩) (show w.heap.size ≤ Q + 1 by omega) (.bool true)
  have hz6 : (W3.setCell ⟨Q + 1, hd, none⟩ (.bool true)).heap.size = Q + 1 + 1 := by rw [← hz5]; simp
  go_upto_region 4 with fail
  generalize World.setCell W3 _ _ = W4 at hS5 hQ5 hR5 hG5 hb6 hz6 ⊢
  clear hcell hfree hS4 hQ4 hR4 hG4 hb5 hz5
  go_upto_region 5 with fail
  have hV7 := heap_alloc_new W4 (.cells #[.nilFunc] 60)
  have hbA := (Below.refl W4.heap.size W4).alloc (Nat.le_refl _) (.cells #[.nilFunc] 60)
  have hS7 := hS5.below hbA
  have hQ7 := hQ5.below hbA
  have hR7 := hR5.below hbA
  have hG7 := (hbA.block _ (lt_of_block hG5)).trans hG5
  have hb7 := hb6.trans (hbA.mono hb6.size)
  rw [hz6] at hV7
  try rw [hz6]
  generalize World.alloc W4 _ = W5 at hV7 hS7 hQ7 hR7 hG7 hb7 ⊢
  clear hbA hS5 hQ5 hR5 hG5 hb6 hz6
  obtain ⟨W6, hW6⟩ : ∃ W6, W6 = W5.setRow (Q + 1 + 1) #[fnV 64 #[ptr (Q + 1), ptr Q, ptr w.heap.size, ptr (Q + 1 + 1)]] := ⟨_, rfl⟩
  go_upto_region 6 with (refine wpList_store_oneTo rfl _ _ _ rfl rfl (Q + 1 + 1) (fnV 64 #[ptr (Q + 1), ptr Q, ptr w.heap.size, ptr (Q + 1 + 1)]) rfl rfl rfl 60 .nilFunc hV7 (by kernel_rfl) ?_)
  have hne : ∀ k, k ≠ Q + 1 + 1 → W6.heap[k]? = W5.heap[k]? := fun k hk => by rw [hW6]; exact setRow_ne _ _ _ hk
  replace hG7 := (hne _ (by omega)).trans hG7
  replace hR7 := hR7.block (hne _ (by omega))
  replace hS7 := hS7.block (hne _ (by omega))
  replace hQ7 := hQ7.block (hne _ (by omega))
  replace hb7 : Below w.heap.size w W6 := by rw [hW6]; exact setRow_below hb7 (by omega) _
  replace hV7 : W6.heap[Q + 1 + 1]? = some (.cells #[fnV 64 #[ptr (Q + 1), ptr Q, ptr w.heap.size, ptr (Q + 1 + 1)]] 60 (0, 0)) := by rw [hW6]; exact setRow_get _ _ _ _ _ hV7
  rw [← hW6]
  clear hW6 hne
  have hW : LopW w A n c (Q + 1) Q w.heap.size (Q + 1 + 1) T (lopE G T hd (E.take 0).reverse) W6 := ⟨hb7, hS7, hQ7, hG7, hV7⟩
  have hG0 := cell_of_one hG7
  clear hS7 hQ7 hG7 hV7
  go_wp2_with fail
  refine (HBK.out W6 hb7).mono ?_
  rintro e w7 ⟨vE, rfl, hE, hb8⟩
  replace hW := hW.more hb8
  replace hR7 := hR7.below hb8
  clear hb7 hb8 hG0
  obtain ⟨AE, m, cE, rfl, hm, hcE, hmE, hcells⟩ := hE
  subst hm
  have HCE := Lib.hid hcells
  have HS1 := Lib.hid hW.in_
  clear hcells
  replace HV := Lib.hid (HV.out (Q + 1) Q w.heap.size (Q + 1 + 1) T (by omega) (by omega) (by omega) (by omega))
  go_wp2
  go_loopw [18] (fun zi wr => ∃ i : Nat, i ≤ E.length ∧ zi = .int .i64 (i : Int) ∧ LopW w A n c (Q + 1) Q w.heap.size (Q + 1 + 1) T (lopE G T hd (E.take i).reverse) wr ∧ SetB wr (w.heap.size + 1) non ∧ KeepS (Q + 1) w7 wr) (fun zi _ => E.length - (intOf zi).toNat)
  case atStart => exact ⟨0, by omega, rfl, hW, hR7, KeepS.refl _ _⟩
  case round =>
    clear hW hR7
    obtain ⟨i, hi, rfl, hW, hR, hK⟩ := hrel
    by_cases hlt : i < E.length
    · obtain ⟨b', off', rfl, hbs', hc1, hc2⟩ := edg_keep HCE.out HS1.out hK hlt
      have hp := HLT.out i hlt
      have HTR := Lib.hid (take_rev hlt)
      generalize E[i]! = x at hc1 hc2 hp HTR
      obtain ⟨p, q⟩ := x
      simp only at hc1 hc2 hp
      go_upto_region 9 with fail
      have hcc := two_cells (heap_alloc_new wr (.cells #[.int .i64 (p : Int), .int .i64 (q : Int)] 50))
      have hbA := (Below.refl wr.heap.size wr).alloc (Nat.le_refl _) (.cells #[.int .i64 (p : Int), .int .i64 (q : Int)] 50)
      have hW2 := hW.more hbA
      have hR2 := hR.below hbA
      have hK2 := hK.trans (KeepS.of_below hbA)
      generalize World.alloc wr _ = W1 at hcc hW2 hR2 hK2 ⊢
      clear hbA hW hR hK hc1 hc2 hbs'
      obtain ⟨h0, h1⟩ := hcc
      by_cases hq : q = hd
      · have d1 : ((q : Int) == (hd : Int)) = true := by rw [hq]; exact beq_self_eq_true _
        have HL := Lib.hid (show lopE G T hd (E.take (i + 1)).reverse = lvF G T 11 p (lopE G T hd (E.take i).reverse) by rw [HTR.out]; exact if_pos hq)
        have hfr : free (lopE G T hd (E.take i).reverse) n < 11 := by have := free_le (lopE G T hd (E.take i).reverse) n; omega
        have HC := Lib.hid (HV.out p _ W1 hp hfr hW2)
        rw [← HL.out] at HC
        have hV0 := cell_of_one hW2.visit
        clear HL hq hfr hW2
        go_wp2_with fail
        refine HC.out.mono ?_
        rintro e w8 ⟨rfl, hK4, hW4⟩
        have hK5 := hK2.trans hK4
        have hR5 := hR2.block (hK4.block _ (lt_of_block hR2) (by omega))
        clear hK2 hK4 hR2 hV0 h0 h1
        go_wp2
        go_roundw
        case rel => exact ⟨i + 1, by omega, by go_num, hW4, hR5, hK5⟩
        case measure => simp [intOf]; omega
      · have d1 : ((q : Int) == (hd : Int)) = false := beq_false_of_ne (by omega)
        have HL := Lib.hid (show LopW w A n c (Q + 1) Q w.heap.size (Q + 1 + 1) T (lopE G T hd (E.take (i + 1)).reverse) W1 by
          rw [HTR.out, show lopE G T hd ((p, q) :: (E.take i).reverse) = lopE G T hd (E.take i).reverse from if_neg hq]
          exact hW2)
        clear hq hW2
        go_wp2
        go_roundw
        case rel => exact ⟨i + 1, by omega, by go_num, HL.out, hR2, hK2⟩
        case measure => simp [intOf]; omega
    · obtain rfl : i = E.length := by omega
      rw [← HF.out] at hW
      have hS := hW.in_
      have hb := hW.below
      unfold SetB at hS hR
      clear hW
      go_wp2_with (first | (refine wpList_load_row rfl 52 (.tmp 6) rfl (Q + 1) rfl 52 (setA Z) (0, 0) _ hS Try.underlying52 rfl (setA_info Z) ?_) | (refine wpList_store_row rfl _ _ _ rfl (w.heap.size + 1) (setA Z) rfl rfl 52 _ hR (setA_info Z) (by rw [setA_size, setA_size]) (setA_one Z) ?_))
      exact bodyPost_ret (results_cell_row rfl _ _ (w.heap.size + 1) 52 (setA Z) (0, 0) _ rfl (setRow_get _ _ _ _ _ hR) Try.underlying52 rfl (setA_info Z)) rfl ⟨rfl, setRow_below hb (by omega) _⟩
end
end Go.Proofs.Ytchkckflpmepkaa
