/-
  Decode of the reference.
-/
import Derived.Test.YthkaclmnbahieaaDoorRvK
namespace Go.Proofs.YthkaclmnbahieaaDoor
open Go.RowKit

theorem callsSym {P : Program} {f : Nat} {args : Array Value} {w : World} {v : Value} (h : Calls P f args w fun e w' => e = .returned v ∧ w' = w) : Calls P f args w fun e w' => e = .returned v ∧ w = w' := h.mono fun _ _ h => ⟨h.1, h.2.symm⟩
set_option maxRecDepth 100000 in
set_option maxHeartbeats 8000000 in
theorem RDecode_any (n : Nat) (hn : n < 4294967296) (w : World) : Calls Tryd.prog 18 #[.int .u32 n] w fun e w' => e = .returned (.tuple #[rvV (decI n), .bool (decB n)]) ∧ Below w.heap.size w w' := by
  have HC := Lib.hid (fun w1 => forms_any w1)
  have HI := Lib.hid (fun sh hs w1 => callsSym (imm_any sh n hs hn w1))
  have HH := Lib.hid (fun sh hs w1 => callsSym (has_any sh hs w1))
  have HV := Lib.hid (fun x w1 => refValidate_any x w1)
  have HE := Lib.hid (fun x hv w1 => refEncodeV x hv w1)
  have HEX := Lib.hid (fun i (hi : i < 41) => ext_Val hi hn)
  have HS := Lib.hid (fun m i (hm : m ≤ 41) (h : rdecF m n = some i) => rdec_some hm hn h)
  have HQ := Lib.hid (rdec_eq hn)
  have P0 : ∀ w1, Calls Tryd.prog 46 #[.int .u32 n, .int .i64 7, .int .i64 11, .int .i64 0] w1 fun e w' => e = .returned (.int .u32 (part n 7 11 0 : Nat)) ∧ w1 = w' := fun w1 => callsSym (refBits_any n 7 11 0 w1 hn (by decide) (by decide) (by decide) (by decide) (part_lt (by decide)))
  have P1 : ∀ w1, Calls Tryd.prog 46 #[.int .u32 n, .int .i64 15, .int .i64 19, .int .i64 0] w1 fun e w' => e = .returned (.int .u32 (part n 15 19 0 : Nat)) ∧ w1 = w' := fun w1 => callsSym (refBits_any n 15 19 0 w1 hn (by decide) (by decide) (by decide) (by decide) (part_lt (by decide)))
  have P2 : ∀ w1, Calls Tryd.prog 46 #[.int .u32 n, .int .i64 20, .int .i64 24, .int .i64 0] w1 fun e w' => e = .returned (.int .u32 (part n 20 24 0 : Nat)) ∧ w1 = w' := fun w1 => callsSym (refBits_any n 20 24 0 w1 hn (by decide) (by decide) (by decide) (by decide) (part_lt (by decide)))
  replace P0 := Lib.hid P0
  replace P1 := Lib.hid P1
  replace P2 := Lib.hid P2
  have HX := Lib.hid (fun i => show extF i n = ⟨(i : Int), if hasD (kT i) then ((part n 7 11 0 : Nat) : Int) else 0, if hasA (kT i) then ((part n 15 19 0 : Nat) : Int) else 0, if hasB (kT i) then ((part n 20 24 0 : Nat) : Int) else 0, extI (kT i) n⟩ from rfl)
  have l7 : part n 7 11 0 < 32 := by unfold part; simp; omega
  have l15 : part n 15 19 0 < 32 := by unfold part; simp; omega
  have l20 : part n 20 24 0 < 32 := by unfold part; simp; omega
  generalize part n 7 11 0 = P7 at *
  generalize part n 15 19 0 = P15 at *
  generalize part n 20 24 0 = P20 at *
  go_enter Tryd.func18, Tryd.ntmps18
  go_upto_region 1 with fail
  have r0 := heap_alloc_new w (.cells #[.int .i64 0, .int .i64 0, .int .i64 0, .int .i64 0, .int .i64 0] 23)
  have hB0 : Below w.heap.size w (w.alloc (.cells #[.int .i64 0, .int .i64 0, .int .i64 0, .int .i64 0, .int .i64 0] 23)) := (Below.refl _ _).alloc (Nat.le_refl _) _
  generalize World.alloc w _ = W at r0 hB0 ⊢
  obtain ⟨M0, hM0⟩ : ∃ M0, w.heap.size = M0 := ⟨_, rfl⟩
  rw [hM0] at r0 hB0 ⊢
  replace hM0 := Lib.hid hM0
  have l0 := lt_of_block r0
  go_upto_region 2 with (go_at_call 39; refine (HC.out _).mono ?_; rintro e w' ⟨rfl, rfl⟩)
  have hg := heap_alloc_new W (.cells RA 71)
  replace r0 := (heap_alloc_old W (.cells RA 71) l0).trans r0
  replace hB0 := hB0.alloc (Nat.le_of_lt l0) (.cells RA 71)
  generalize World.alloc W _ = W2 at hg r0 hB0 ⊢
  generalize W.heap.size = G at hg l0 ⊢
  clear HC
  go_upto_region 3 with fail
  go_loopw [5] (fun zi wr => ∃ i : Nat, i ≤ 41 ∧ zi = .int .i64 (i : Int) ∧ Below M0 w wr ∧ wr.heap[M0]? = some (.cells #[.int .i64 0, .int .i64 0, .int .i64 0, .int .i64 0, .int .i64 0] 23 (0, 0)) ∧ wr.heap[G]? = some (.cells RA 71 (0, 0)) ∧ Hid (rdecF i n = none)) (fun zi _ => 41 - (intOf zi).toNat)
  case atStart => exact ⟨0, by omega, rfl, hB0, r0, hg, Lib.hid rfl⟩
  case round =>
    clear hB0 r0 hg
    obtain ⟨i, hi, rfl, hbw, r0, hg, hrd⟩ := hrel
    by_cases hlt : i < 41
    · have lG := lt_of_block hg
      have lM := lt_of_block r0
      have q0 : wr.cell? ⟨G, i * 4, none⟩ = some (.int .i64 (shT i : Nat)) := (cell_of_row wr G (i * 4) _ _ _ hg).trans (RA_at hlt (j := 0) (by omega))
      have HII := Lib.hid (HI.out (shT i) (shT_le hlt))
      have HHH := Lib.hid (HH.out (shT i) (shT_le hlt))
      rw [kS_of hlt] at HII HHH
      have hX := HX.out i
      have hEV := HEX.out i hlt
      have HSi := Lib.hid (HS.out (i + 1) i (by omega))
      have HRD : rdecF (i + 1) n = if encF (extF i n) = n then some i else none := by
        show (match rdecF i n with | some i => some i | none => if encF (extF i n) = n then some i else none) = _
        rw [hrd.out]
      replace HRD := Lib.hid HRD
      have hN : encF (extF i n) < 4294967296 := (enc_facts hEV).1
      have HVi := Lib.hid (fun w1 => HV.out (extF i n) w1)
      have HEi := Lib.hid (fun w1 => HE.out (extF i n) hEV w1)
      have herr : errF (extF i n) = 0 := if_pos hEV
      rw [herr] at HVi
      clear herr hEV hrd
      generalize encF (extF i n) = N at HRD HEi hN
      rw [hX] at HVi HEi
      have HXX := Lib.hid hX
      clear hX
      generalize extI (kT i) n = I at HII HVi HEi HXX
      generalize hasD (kT i) = bd at HHH HVi HEi HXX
      generalize hasA (kT i) = ba at HHH HVi HEi HXX
      generalize hasB (kT i) = bb at HHH HVi HEi HXX
      generalize shT i = sh at q0 HII HHH
      have hi1 : (i : Int) < 41 := by omega
      have hi0 : (0 : Int) ≤ (i : Int) := by omega
      cases bd <;> cases ba <;> cases bb
      · simp only [if_false, Bool.false_eq_true] at HVi HEi HXX
        go_wp2_with (first | (with_reducible refine (HII.out _).mono ?_; rintro e w' ⟨rfl, rfl⟩) | (with_reducible refine (HHH.out _).mono ?_; rintro e w' ⟨rfl, rfl⟩) | (with_reducible refine (P0.out _).mono ?_; rintro e w' ⟨rfl, rfl⟩) | (with_reducible refine (P1.out _).mono ?_; rintro e w' ⟨rfl, rfl⟩) | (with_reducible refine (P2.out _).mono ?_; rintro e w' ⟨rfl, rfl⟩))
        have hx := heap_alloc_new wr (.cells #[.int .i64 (i : Int), .int .i64 0, .int .i64 0, .int .i64 0, .int .i64 I] 23)
        have r2 := (heap_alloc_old wr (.cells #[.int .i64 (i : Int), .int .i64 0, .int .i64 0, .int .i64 0, .int .i64 I] 23) lM).trans r0
        have g2 := (heap_alloc_old wr (.cells #[.int .i64 (i : Int), .int .i64 0, .int .i64 0, .int .i64 0, .int .i64 I] 23) lG).trans hg
        have hb4 : Below M0 w (wr.alloc (.cells #[.int .i64 (i : Int), .int .i64 0, .int .i64 0, .int .i64 0, .int .i64 I] 23)) := hbw.alloc (Nat.le_of_lt lM) (.cells #[.int .i64 (i : Int), .int .i64 0, .int .i64 0, .int .i64 0, .int .i64 I] 23)
        have hs4 : M0 ≤ (wr.alloc (.cells #[.int .i64 (i : Int), .int .i64 0, .int .i64 0, .int .i64 0, .int .i64 I] 23)).heap.size := by simp; omega
        clear hbw r0 hg lG lM q0 HII HHH
        generalize World.alloc wr _ = W4 at hx r2 g2 hb4 hs4 ⊢
        generalize wr.heap.size = X at hx ⊢
        refine (HVi.out _).mono ?_
        rintro e w5 ⟨rfl, hb5⟩
        replace hx := (hb5.block _ (lt_of_block hx)).trans hx
        replace r2 := (hb5.block _ (lt_of_block r2)).trans r2
        replace g2 := (hb5.block _ (lt_of_block g2)).trans g2
        replace hb4 := hb4.trans (hb5.mono hs4)
        replace hs4 := Nat.le_trans hs4 hb5.size
        clear hb5 HVi
        obtain ⟨x0, x1, x2, x3, x4⟩ := cells5r hx
        go_wp2_with fail
        refine (HEi.out _).mono ?_
        rintro e w6 ⟨rfl, hb6⟩
        replace hx := (hb6.block _ (lt_of_block hx)).trans hx
        have r0 := (hb6.block _ (lt_of_block r2)).trans r2
        replace g2 := (hb6.block _ (lt_of_block g2)).trans g2
        have HB := Lib.hid (hb4.trans (hb6.mono hs4))
        clear x0 x1 x2 x3 x4 r2 hb4 hs4 hb6 HEi
        obtain ⟨x0, x1, x2, x3, x4⟩ := cells5r hx
        by_cases hNn : N = n
        · have HR : decF n = some ⟨i, 0, 0, 0, I⟩ := by
            have h := (HSi.out (HRD.out.trans (if_pos hNn))).2
            rw [HXX.out] at h
            exact h
          replace HR := Lib.hid HR
          clear HSi HRD HXX HS HQ HEX HV HE HI HH HX g2
          subst hNn
          go_wp2_with (refine wpList_store_row rfl _ _ _ rfl M0 #[.int .i64 (i : Int), .int .i64 0, .int .i64 0, .int .i64 0, .int .i64 I] rfl rfl 23 _ r0 (infoC _ _ _ _ _) rfl (oneI _ _ _ _ _) ?_)
          have rr := setRow_heap _ M0 _ #[.int .i64 (i : Int), .int .i64 0, .int .i64 0, .int .i64 0, .int .i64 I] 23 (0, 0) r0
          have hB7 := bel_setRow (HB.out) (Nat.le_refl M0) #[.int .i64 (i : Int), .int .i64 0, .int .i64 0, .int .i64 0, .int .i64 I]
          refine bodyPost_ret (res2c rfl _ _ M0 #[.int .i64 (i : Int), .int .i64 0, .int .i64 0, .int .i64 0, .int .i64 I] rfl (loadRv _ M0 _ _ _ _ _ rr)) rfl ⟨?_, by rw [hM0.out]; exact hB7⟩
          unfold decI decB
          rw [HR.out]
          rfl
        · have hNi : ¬ (N : Int) = (n : Int) := by omega
          have HR2 := Lib.hid (HRD.out.trans (if_neg hNn))
          clear HSi HRD HXX hNn
          go_wp2
          go_roundw
          case rel => exact ⟨i + 1, by omega, rfl, HB.out, r0, g2, HR2⟩
          case measure => simp [intOf]; omega
      · simp only [if_true, if_false, Bool.false_eq_true] at HVi HEi HXX
        go_wp2_with (first | (with_reducible refine (HII.out _).mono ?_; rintro e w' ⟨rfl, rfl⟩) | (with_reducible refine (HHH.out _).mono ?_; rintro e w' ⟨rfl, rfl⟩) | (with_reducible refine (P0.out _).mono ?_; rintro e w' ⟨rfl, rfl⟩) | (with_reducible refine (P1.out _).mono ?_; rintro e w' ⟨rfl, rfl⟩) | (with_reducible refine (P2.out _).mono ?_; rintro e w' ⟨rfl, rfl⟩))
        have hx := heap_alloc_new wr (.cells #[.int .i64 (i : Int), .int .i64 0, .int .i64 0, .int .i64 (P20 : Int), .int .i64 I] 23)
        have r2 := (heap_alloc_old wr (.cells #[.int .i64 (i : Int), .int .i64 0, .int .i64 0, .int .i64 (P20 : Int), .int .i64 I] 23) lM).trans r0
        have g2 := (heap_alloc_old wr (.cells #[.int .i64 (i : Int), .int .i64 0, .int .i64 0, .int .i64 (P20 : Int), .int .i64 I] 23) lG).trans hg
        have hb4 : Below M0 w (wr.alloc (.cells #[.int .i64 (i : Int), .int .i64 0, .int .i64 0, .int .i64 (P20 : Int), .int .i64 I] 23)) := hbw.alloc (Nat.le_of_lt lM) (.cells #[.int .i64 (i : Int), .int .i64 0, .int .i64 0, .int .i64 (P20 : Int), .int .i64 I] 23)
        have hs4 : M0 ≤ (wr.alloc (.cells #[.int .i64 (i : Int), .int .i64 0, .int .i64 0, .int .i64 (P20 : Int), .int .i64 I] 23)).heap.size := by simp; omega
        clear hbw r0 hg lG lM q0 HII HHH
        generalize World.alloc wr _ = W4 at hx r2 g2 hb4 hs4 ⊢
        generalize wr.heap.size = X at hx ⊢
        refine (HVi.out _).mono ?_
        rintro e w5 ⟨rfl, hb5⟩
        replace hx := (hb5.block _ (lt_of_block hx)).trans hx
        replace r2 := (hb5.block _ (lt_of_block r2)).trans r2
        replace g2 := (hb5.block _ (lt_of_block g2)).trans g2
        replace hb4 := hb4.trans (hb5.mono hs4)
        replace hs4 := Nat.le_trans hs4 hb5.size
        clear hb5 HVi
        obtain ⟨x0, x1, x2, x3, x4⟩ := cells5r hx
        go_wp2_with fail
        refine (HEi.out _).mono ?_
        rintro e w6 ⟨rfl, hb6⟩
        replace hx := (hb6.block _ (lt_of_block hx)).trans hx
        have r0 := (hb6.block _ (lt_of_block r2)).trans r2
        replace g2 := (hb6.block _ (lt_of_block g2)).trans g2
        have HB := Lib.hid (hb4.trans (hb6.mono hs4))
        clear x0 x1 x2 x3 x4 r2 hb4 hs4 hb6 HEi
        obtain ⟨x0, x1, x2, x3, x4⟩ := cells5r hx
        by_cases hNn : N = n
        · have HR : decF n = some ⟨i, 0, 0, (P20 : Int), I⟩ := by
            have h := (HSi.out (HRD.out.trans (if_pos hNn))).2
            rw [HXX.out] at h
            exact h
          replace HR := Lib.hid HR
          clear HSi HRD HXX HS HQ HEX HV HE HI HH HX g2
          subst hNn
          go_wp2_with (refine wpList_store_row rfl _ _ _ rfl M0 #[.int .i64 (i : Int), .int .i64 0, .int .i64 0, .int .i64 (P20 : Int), .int .i64 I] rfl rfl 23 _ r0 (infoC _ _ _ _ _) rfl (oneI _ _ _ _ _) ?_)
          have rr := setRow_heap _ M0 _ #[.int .i64 (i : Int), .int .i64 0, .int .i64 0, .int .i64 (P20 : Int), .int .i64 I] 23 (0, 0) r0
          have hB7 := bel_setRow (HB.out) (Nat.le_refl M0) #[.int .i64 (i : Int), .int .i64 0, .int .i64 0, .int .i64 (P20 : Int), .int .i64 I]
          refine bodyPost_ret (res2c rfl _ _ M0 #[.int .i64 (i : Int), .int .i64 0, .int .i64 0, .int .i64 (P20 : Int), .int .i64 I] rfl (loadRv _ M0 _ _ _ _ _ rr)) rfl ⟨?_, by rw [hM0.out]; exact hB7⟩
          unfold decI decB
          rw [HR.out]
          rfl
        · have hNi : ¬ (N : Int) = (n : Int) := by omega
          have HR2 := Lib.hid (HRD.out.trans (if_neg hNn))
          clear HSi HRD HXX hNn
          go_wp2
          go_roundw
          case rel => exact ⟨i + 1, by omega, rfl, HB.out, r0, g2, HR2⟩
          case measure => simp [intOf]; omega
      · simp only [if_true, if_false, Bool.false_eq_true] at HVi HEi HXX
        go_wp2_with (first | (with_reducible refine (HII.out _).mono ?_; rintro e w' ⟨rfl, rfl⟩) | (with_reducible refine (HHH.out _).mono ?_; rintro e w' ⟨rfl, rfl⟩) | (with_reducible refine (P0.out _).mono ?_; rintro e w' ⟨rfl, rfl⟩) | (with_reducible refine (P1.out _).mono ?_; rintro e w' ⟨rfl, rfl⟩) | (with_reducible refine (P2.out _).mono ?_; rintro e w' ⟨rfl, rfl⟩))
        have hx := heap_alloc_new wr (.cells #[.int .i64 (i : Int), .int .i64 0, .int .i64 (P15 : Int), .int .i64 0, .int .i64 I] 23)
        have r2 := (heap_alloc_old wr (.cells #[.int .i64 (i : Int), .int .i64 0, .int .i64 (P15 : Int), .int .i64 0, .int .i64 I] 23) lM).trans r0
        have g2 := (heap_alloc_old wr (.cells #[.int .i64 (i : Int), .int .i64 0, .int .i64 (P15 : Int), .int .i64 0, .int .i64 I] 23) lG).trans hg
        have hb4 : Below M0 w (wr.alloc (.cells #[.int .i64 (i : Int), .int .i64 0, .int .i64 (P15 : Int), .int .i64 0, .int .i64 I] 23)) := hbw.alloc (Nat.le_of_lt lM) (.cells #[.int .i64 (i : Int), .int .i64 0, .int .i64 (P15 : Int), .int .i64 0, .int .i64 I] 23)
        have hs4 : M0 ≤ (wr.alloc (.cells #[.int .i64 (i : Int), .int .i64 0, .int .i64 (P15 : Int), .int .i64 0, .int .i64 I] 23)).heap.size := by simp; omega
        clear hbw r0 hg lG lM q0 HII HHH
        generalize World.alloc wr _ = W4 at hx r2 g2 hb4 hs4 ⊢
        generalize wr.heap.size = X at hx ⊢
        refine (HVi.out _).mono ?_
        rintro e w5 ⟨rfl, hb5⟩
        replace hx := (hb5.block _ (lt_of_block hx)).trans hx
        replace r2 := (hb5.block _ (lt_of_block r2)).trans r2
        replace g2 := (hb5.block _ (lt_of_block g2)).trans g2
        replace hb4 := hb4.trans (hb5.mono hs4)
        replace hs4 := Nat.le_trans hs4 hb5.size
        clear hb5 HVi
        obtain ⟨x0, x1, x2, x3, x4⟩ := cells5r hx
        go_wp2_with fail
        refine (HEi.out _).mono ?_
        rintro e w6 ⟨rfl, hb6⟩
        replace hx := (hb6.block _ (lt_of_block hx)).trans hx
        have r0 := (hb6.block _ (lt_of_block r2)).trans r2
        replace g2 := (hb6.block _ (lt_of_block g2)).trans g2
        have HB := Lib.hid (hb4.trans (hb6.mono hs4))
        clear x0 x1 x2 x3 x4 r2 hb4 hs4 hb6 HEi
        obtain ⟨x0, x1, x2, x3, x4⟩ := cells5r hx
        by_cases hNn : N = n
        · have HR : decF n = some ⟨i, 0, (P15 : Int), 0, I⟩ := by
            have h := (HSi.out (HRD.out.trans (if_pos hNn))).2
            rw [HXX.out] at h
            exact h
          replace HR := Lib.hid HR
          clear HSi HRD HXX HS HQ HEX HV HE HI HH HX g2
          subst hNn
          go_wp2_with (refine wpList_store_row rfl _ _ _ rfl M0 #[.int .i64 (i : Int), .int .i64 0, .int .i64 (P15 : Int), .int .i64 0, .int .i64 I] rfl rfl 23 _ r0 (infoC _ _ _ _ _) rfl (oneI _ _ _ _ _) ?_)
          have rr := setRow_heap _ M0 _ #[.int .i64 (i : Int), .int .i64 0, .int .i64 (P15 : Int), .int .i64 0, .int .i64 I] 23 (0, 0) r0
          have hB7 := bel_setRow (HB.out) (Nat.le_refl M0) #[.int .i64 (i : Int), .int .i64 0, .int .i64 (P15 : Int), .int .i64 0, .int .i64 I]
          refine bodyPost_ret (res2c rfl _ _ M0 #[.int .i64 (i : Int), .int .i64 0, .int .i64 (P15 : Int), .int .i64 0, .int .i64 I] rfl (loadRv _ M0 _ _ _ _ _ rr)) rfl ⟨?_, by rw [hM0.out]; exact hB7⟩
          unfold decI decB
          rw [HR.out]
          rfl
        · have hNi : ¬ (N : Int) = (n : Int) := by omega
          have HR2 := Lib.hid (HRD.out.trans (if_neg hNn))
          clear HSi HRD HXX hNn
          go_wp2
          go_roundw
          case rel => exact ⟨i + 1, by omega, rfl, HB.out, r0, g2, HR2⟩
          case measure => simp [intOf]; omega
      · simp only [if_true, if_false, Bool.false_eq_true] at HVi HEi HXX
        go_wp2_with (first | (with_reducible refine (HII.out _).mono ?_; rintro e w' ⟨rfl, rfl⟩) | (with_reducible refine (HHH.out _).mono ?_; rintro e w' ⟨rfl, rfl⟩) | (with_reducible refine (P0.out _).mono ?_; rintro e w' ⟨rfl, rfl⟩) | (with_reducible refine (P1.out _).mono ?_; rintro e w' ⟨rfl, rfl⟩) | (with_reducible refine (P2.out _).mono ?_; rintro e w' ⟨rfl, rfl⟩))
        have hx := heap_alloc_new wr (.cells #[.int .i64 (i : Int), .int .i64 0, .int .i64 (P15 : Int), .int .i64 (P20 : Int), .int .i64 I] 23)
        have r2 := (heap_alloc_old wr (.cells #[.int .i64 (i : Int), .int .i64 0, .int .i64 (P15 : Int), .int .i64 (P20 : Int), .int .i64 I] 23) lM).trans r0
        have g2 := (heap_alloc_old wr (.cells #[.int .i64 (i : Int), .int .i64 0, .int .i64 (P15 : Int), .int .i64 (P20 : Int), .int .i64 I] 23) lG).trans hg
        have hb4 : Below M0 w (wr.alloc (.cells #[.int .i64 (i : Int), .int .i64 0, .int .i64 (P15 : Int), .int .i64 (P20 : Int), .int .i64 I] 23)) := hbw.alloc (Nat.le_of_lt lM) (.cells #[.int .i64 (i : Int), .int .i64 0, .int .i64 (P15 : Int), .int .i64 (P20 : Int), .int .i64 I] 23)
        have hs4 : M0 ≤ (wr.alloc (.cells #[.int .i64 (i : Int), .int .i64 0, .int .i64 (P15 : Int), .int .i64 (P20 : Int), .int .i64 I] 23)).heap.size := by simp; omega
        clear hbw r0 hg lG lM q0 HII HHH
        generalize World.alloc wr _ = W4 at hx r2 g2 hb4 hs4 ⊢
        generalize wr.heap.size = X at hx ⊢
        refine (HVi.out _).mono ?_
        rintro e w5 ⟨rfl, hb5⟩
        replace hx := (hb5.block _ (lt_of_block hx)).trans hx
        replace r2 := (hb5.block _ (lt_of_block r2)).trans r2
        replace g2 := (hb5.block _ (lt_of_block g2)).trans g2
        replace hb4 := hb4.trans (hb5.mono hs4)
        replace hs4 := Nat.le_trans hs4 hb5.size
        clear hb5 HVi
        obtain ⟨x0, x1, x2, x3, x4⟩ := cells5r hx
        go_wp2_with fail
        refine (HEi.out _).mono ?_
        rintro e w6 ⟨rfl, hb6⟩
        replace hx := (hb6.block _ (lt_of_block hx)).trans hx
        have r0 := (hb6.block _ (lt_of_block r2)).trans r2
        replace g2 := (hb6.block _ (lt_of_block g2)).trans g2
        have HB := Lib.hid (hb4.trans (hb6.mono hs4))
        clear x0 x1 x2 x3 x4 r2 hb4 hs4 hb6 HEi
        obtain ⟨x0, x1, x2, x3, x4⟩ := cells5r hx
        by_cases hNn : N = n
        · have HR : decF n = some ⟨i, 0, (P15 : Int), (P20 : Int), I⟩ := by
            have h := (HSi.out (HRD.out.trans (if_pos hNn))).2
            rw [HXX.out] at h
            exact h
          replace HR := Lib.hid HR
          clear HSi HRD HXX HS HQ HEX HV HE HI HH HX g2
          subst hNn
          go_wp2_with (refine wpList_store_row rfl _ _ _ rfl M0 #[.int .i64 (i : Int), .int .i64 0, .int .i64 (P15 : Int), .int .i64 (P20 : Int), .int .i64 I] rfl rfl 23 _ r0 (infoC _ _ _ _ _) rfl (oneI _ _ _ _ _) ?_)
          have rr := setRow_heap _ M0 _ #[.int .i64 (i : Int), .int .i64 0, .int .i64 (P15 : Int), .int .i64 (P20 : Int), .int .i64 I] 23 (0, 0) r0
          have hB7 := bel_setRow (HB.out) (Nat.le_refl M0) #[.int .i64 (i : Int), .int .i64 0, .int .i64 (P15 : Int), .int .i64 (P20 : Int), .int .i64 I]
          refine bodyPost_ret (res2c rfl _ _ M0 #[.int .i64 (i : Int), .int .i64 0, .int .i64 (P15 : Int), .int .i64 (P20 : Int), .int .i64 I] rfl (loadRv _ M0 _ _ _ _ _ rr)) rfl ⟨?_, by rw [hM0.out]; exact hB7⟩
          unfold decI decB
          rw [HR.out]
          rfl
        · have hNi : ¬ (N : Int) = (n : Int) := by omega
          have HR2 := Lib.hid (HRD.out.trans (if_neg hNn))
          clear HSi HRD HXX hNn
          go_wp2
          go_roundw
          case rel => exact ⟨i + 1, by omega, rfl, HB.out, r0, g2, HR2⟩
          case measure => simp [intOf]; omega
      · simp only [if_true, if_false, Bool.false_eq_true] at HVi HEi HXX
        go_wp2_with (first | (with_reducible refine (HII.out _).mono ?_; rintro e w' ⟨rfl, rfl⟩) | (with_reducible refine (HHH.out _).mono ?_; rintro e w' ⟨rfl, rfl⟩) | (with_reducible refine (P0.out _).mono ?_; rintro e w' ⟨rfl, rfl⟩) | (with_reducible refine (P1.out _).mono ?_; rintro e w' ⟨rfl, rfl⟩) | (with_reducible refine (P2.out _).mono ?_; rintro e w' ⟨rfl, rfl⟩))
        have hx := heap_alloc_new wr (.cells #[.int .i64 (i : Int), .int .i64 (P7 : Int), .int .i64 0, .int .i64 0, .int .i64 I] 23)
        have r2 := (heap_alloc_old wr (.cells #[.int .i64 (i : Int), .int .i64 (P7 : Int), .int .i64 0, .int .i64 0, .int .i64 I] 23) lM).trans r0
        have g2 := (heap_alloc_old wr (.cells #[.int .i64 (i : Int), .int .i64 (P7 : Int), .int .i64 0, .int .i64 0, .int .i64 I] 23) lG).trans hg
        have hb4 : Below M0 w (wr.alloc (.cells #[.int .i64 (i : Int), .int .i64 (P7 : Int), .int .i64 0, .int .i64 0, .int .i64 I] 23)) := hbw.alloc (Nat.le_of_lt lM) (.cells #[.int .i64 (i : Int), .int .i64 (P7 : Int), .int .i64 0, .int .i64 0, .int .i64 I] 23)
        have hs4 : M0 ≤ (wr.alloc (.cells #[.int .i64 (i : Int), .int .i64 (P7 : Int), .int .i64 0, .int .i64 0, .int .i64 I] 23)).heap.size := by simp; omega
        clear hbw r0 hg lG lM q0 HII HHH
        generalize World.alloc wr _ = W4 at hx r2 g2 hb4 hs4 ⊢
        generalize wr.heap.size = X at hx ⊢
        refine (HVi.out _).mono ?_
        rintro e w5 ⟨rfl, hb5⟩
        replace hx := (hb5.block _ (lt_of_block hx)).trans hx
        replace r2 := (hb5.block _ (lt_of_block r2)).trans r2
        replace g2 := (hb5.block _ (lt_of_block g2)).trans g2
        replace hb4 := hb4.trans (hb5.mono hs4)
        replace hs4 := Nat.le_trans hs4 hb5.size
        clear hb5 HVi
        obtain ⟨x0, x1, x2, x3, x4⟩ := cells5r hx
        go_wp2_with fail
        refine (HEi.out _).mono ?_
        rintro e w6 ⟨rfl, hb6⟩
        replace hx := (hb6.block _ (lt_of_block hx)).trans hx
        have r0 := (hb6.block _ (lt_of_block r2)).trans r2
        replace g2 := (hb6.block _ (lt_of_block g2)).trans g2
        have HB := Lib.hid (hb4.trans (hb6.mono hs4))
        clear x0 x1 x2 x3 x4 r2 hb4 hs4 hb6 HEi
        obtain ⟨x0, x1, x2, x3, x4⟩ := cells5r hx
        by_cases hNn : N = n
        · have HR : decF n = some ⟨i, (P7 : Int), 0, 0, I⟩ := by
            have h := (HSi.out (HRD.out.trans (if_pos hNn))).2
            rw [HXX.out] at h
            exact h
          replace HR := Lib.hid HR
          clear HSi HRD HXX HS HQ HEX HV HE HI HH HX g2
          subst hNn
          go_wp2_with (refine wpList_store_row rfl _ _ _ rfl M0 #[.int .i64 (i : Int), .int .i64 (P7 : Int), .int .i64 0, .int .i64 0, .int .i64 I] rfl rfl 23 _ r0 (infoC _ _ _ _ _) rfl (oneI _ _ _ _ _) ?_)
          have rr := setRow_heap _ M0 _ #[.int .i64 (i : Int), .int .i64 (P7 : Int), .int .i64 0, .int .i64 0, .int .i64 I] 23 (0, 0) r0
          have hB7 := bel_setRow (HB.out) (Nat.le_refl M0) #[.int .i64 (i : Int), .int .i64 (P7 : Int), .int .i64 0, .int .i64 0, .int .i64 I]
          refine bodyPost_ret (res2c rfl _ _ M0 #[.int .i64 (i : Int), .int .i64 (P7 : Int), .int .i64 0, .int .i64 0, .int .i64 I] rfl (loadRv _ M0 _ _ _ _ _ rr)) rfl ⟨?_, by rw [hM0.out]; exact hB7⟩
          unfold decI decB
          rw [HR.out]
          rfl
        · have hNi : ¬ (N : Int) = (n : Int) := by omega
          have HR2 := Lib.hid (HRD.out.trans (if_neg hNn))
          clear HSi HRD HXX hNn
          go_wp2
          go_roundw
          case rel => exact ⟨i + 1, by omega, rfl, HB.out, r0, g2, HR2⟩
          case measure => simp [intOf]; omega
      · simp only [if_true, if_false, Bool.false_eq_true] at HVi HEi HXX
        go_wp2_with (first | (with_reducible refine (HII.out _).mono ?_; rintro e w' ⟨rfl, rfl⟩) | (with_reducible refine (HHH.out _).mono ?_; rintro e w' ⟨rfl, rfl⟩) | (with_reducible refine (P0.out _).mono ?_; rintro e w' ⟨rfl, rfl⟩) | (with_reducible refine (P1.out _).mono ?_; rintro e w' ⟨rfl, rfl⟩) | (with_reducible refine (P2.out _).mono ?_; rintro e w' ⟨rfl, rfl⟩))
        have hx := heap_alloc_new wr (.cells #[.int .i64 (i : Int), .int .i64 (P7 : Int), .int .i64 0, .int .i64 (P20 : Int), .int .i64 I] 23)
        have r2 := (heap_alloc_old wr (.cells #[.int .i64 (i : Int), .int .i64 (P7 : Int), .int .i64 0, .int .i64 (P20 : Int), .int .i64 I] 23) lM).trans r0
        have g2 := (heap_alloc_old wr (.cells #[.int .i64 (i : Int), .int .i64 (P7 : Int), .int .i64 0, .int .i64 (P20 : Int), .int .i64 I] 23) lG).trans hg
        have hb4 : Below M0 w (wr.alloc (.cells #[.int .i64 (i : Int), .int .i64 (P7 : Int), .int .i64 0, .int .i64 (P20 : Int), .int .i64 I] 23)) := hbw.alloc (Nat.le_of_lt lM) (.cells #[.int .i64 (i : Int), .int .i64 (P7 : Int), .int .i64 0, .int .i64 (P20 : Int), .int .i64 I] 23)
        have hs4 : M0 ≤ (wr.alloc (.cells #[.int .i64 (i : Int), .int .i64 (P7 : Int), .int .i64 0, .int .i64 (P20 : Int), .int .i64 I] 23)).heap.size := by simp; omega
        clear hbw r0 hg lG lM q0 HII HHH
        generalize World.alloc wr _ = W4 at hx r2 g2 hb4 hs4 ⊢
        generalize wr.heap.size = X at hx ⊢
        refine (HVi.out _).mono ?_
        rintro e w5 ⟨rfl, hb5⟩
        replace hx := (hb5.block _ (lt_of_block hx)).trans hx
        replace r2 := (hb5.block _ (lt_of_block r2)).trans r2
        replace g2 := (hb5.block _ (lt_of_block g2)).trans g2
        replace hb4 := hb4.trans (hb5.mono hs4)
        replace hs4 := Nat.le_trans hs4 hb5.size
        clear hb5 HVi
        obtain ⟨x0, x1, x2, x3, x4⟩ := cells5r hx
        go_wp2_with fail
        refine (HEi.out _).mono ?_
        rintro e w6 ⟨rfl, hb6⟩
        replace hx := (hb6.block _ (lt_of_block hx)).trans hx
        have r0 := (hb6.block _ (lt_of_block r2)).trans r2
        replace g2 := (hb6.block _ (lt_of_block g2)).trans g2
        have HB := Lib.hid (hb4.trans (hb6.mono hs4))
        clear x0 x1 x2 x3 x4 r2 hb4 hs4 hb6 HEi
        obtain ⟨x0, x1, x2, x3, x4⟩ := cells5r hx
        by_cases hNn : N = n
        · have HR : decF n = some ⟨i, (P7 : Int), 0, (P20 : Int), I⟩ := by
            have h := (HSi.out (HRD.out.trans (if_pos hNn))).2
            rw [HXX.out] at h
            exact h
          replace HR := Lib.hid HR
          clear HSi HRD HXX HS HQ HEX HV HE HI HH HX g2
          subst hNn
          go_wp2_with (refine wpList_store_row rfl _ _ _ rfl M0 #[.int .i64 (i : Int), .int .i64 (P7 : Int), .int .i64 0, .int .i64 (P20 : Int), .int .i64 I] rfl rfl 23 _ r0 (infoC _ _ _ _ _) rfl (oneI _ _ _ _ _) ?_)
          have rr := setRow_heap _ M0 _ #[.int .i64 (i : Int), .int .i64 (P7 : Int), .int .i64 0, .int .i64 (P20 : Int), .int .i64 I] 23 (0, 0) r0
          have hB7 := bel_setRow (HB.out) (Nat.le_refl M0) #[.int .i64 (i : Int), .int .i64 (P7 : Int), .int .i64 0, .int .i64 (P20 : Int), .int .i64 I]
          refine bodyPost_ret (res2c rfl _ _ M0 #[.int .i64 (i : Int), .int .i64 (P7 : Int), .int .i64 0, .int .i64 (P20 : Int), .int .i64 I] rfl (loadRv _ M0 _ _ _ _ _ rr)) rfl ⟨?_, by rw [hM0.out]; exact hB7⟩
          unfold decI decB
          rw [HR.out]
          rfl
        · have hNi : ¬ (N : Int) = (n : Int) := by omega
          have HR2 := Lib.hid (HRD.out.trans (if_neg hNn))
          clear HSi HRD HXX hNn
          go_wp2
          go_roundw
          case rel => exact ⟨i + 1, by omega, rfl, HB.out, r0, g2, HR2⟩
          case measure => simp [intOf]; omega
      · simp only [if_true, if_false, Bool.false_eq_true] at HVi HEi HXX
        go_wp2_with (first | (with_reducible refine (HII.out _).mono ?_; rintro e w' ⟨rfl, rfl⟩) | (with_reducible refine (HHH.out _).mono ?_; rintro e w' ⟨rfl, rfl⟩) | (with_reducible refine (P0.out _).mono ?_; rintro e w' ⟨rfl, rfl⟩) | (with_reducible refine (P1.out _).mono ?_; rintro e w' ⟨rfl, rfl⟩) | (with_reducible refine (P2.out _).mono ?_; rintro e w' ⟨rfl, rfl⟩))
        have hx := heap_alloc_new wr (.cells #[.int .i64 (i : Int), .int .i64 (P7 : Int), .int .i64 (P15 : Int), .int .i64 0, .int .i64 I] 23)
        have r2 := (heap_alloc_old wr (.cells #[.int .i64 (i : Int), .int .i64 (P7 : Int), .int .i64 (P15 : Int), .int .i64 0, .int .i64 I] 23) lM).trans r0
        have g2 := (heap_alloc_old wr (.cells #[.int .i64 (i : Int), .int .i64 (P7 : Int), .int .i64 (P15 : Int), .int .i64 0, .int .i64 I] 23) lG).trans hg
        have hb4 : Below M0 w (wr.alloc (.cells #[.int .i64 (i : Int), .int .i64 (P7 : Int), .int .i64 (P15 : Int), .int .i64 0, .int .i64 I] 23)) := hbw.alloc (Nat.le_of_lt lM) (.cells #[.int .i64 (i : Int), .int .i64 (P7 : Int), .int .i64 (P15 : Int), .int .i64 0, .int .i64 I] 23)
        have hs4 : M0 ≤ (wr.alloc (.cells #[.int .i64 (i : Int), .int .i64 (P7 : Int), .int .i64 (P15 : Int), .int .i64 0, .int .i64 I] 23)).heap.size := by simp; omega
        clear hbw r0 hg lG lM q0 HII HHH
        generalize World.alloc wr _ = W4 at hx r2 g2 hb4 hs4 ⊢
        generalize wr.heap.size = X at hx ⊢
        refine (HVi.out _).mono ?_
        rintro e w5 ⟨rfl, hb5⟩
        replace hx := (hb5.block _ (lt_of_block hx)).trans hx
        replace r2 := (hb5.block _ (lt_of_block r2)).trans r2
        replace g2 := (hb5.block _ (lt_of_block g2)).trans g2
        replace hb4 := hb4.trans (hb5.mono hs4)
        replace hs4 := Nat.le_trans hs4 hb5.size
        clear hb5 HVi
        obtain ⟨x0, x1, x2, x3, x4⟩ := cells5r hx
        go_wp2_with fail
        refine (HEi.out _).mono ?_
        rintro e w6 ⟨rfl, hb6⟩
        replace hx := (hb6.block _ (lt_of_block hx)).trans hx
        have r0 := (hb6.block _ (lt_of_block r2)).trans r2
        replace g2 := (hb6.block _ (lt_of_block g2)).trans g2
        have HB := Lib.hid (hb4.trans (hb6.mono hs4))
        clear x0 x1 x2 x3 x4 r2 hb4 hs4 hb6 HEi
        obtain ⟨x0, x1, x2, x3, x4⟩ := cells5r hx
        by_cases hNn : N = n
        · have HR : decF n = some ⟨i, (P7 : Int), (P15 : Int), 0, I⟩ := by
            have h := (HSi.out (HRD.out.trans (if_pos hNn))).2
            rw [HXX.out] at h
            exact h
          replace HR := Lib.hid HR
          clear HSi HRD HXX HS HQ HEX HV HE HI HH HX g2
          subst hNn
          go_wp2_with (refine wpList_store_row rfl _ _ _ rfl M0 #[.int .i64 (i : Int), .int .i64 (P7 : Int), .int .i64 (P15 : Int), .int .i64 0, .int .i64 I] rfl rfl 23 _ r0 (infoC _ _ _ _ _) rfl (oneI _ _ _ _ _) ?_)
          have rr := setRow_heap _ M0 _ #[.int .i64 (i : Int), .int .i64 (P7 : Int), .int .i64 (P15 : Int), .int .i64 0, .int .i64 I] 23 (0, 0) r0
          have hB7 := bel_setRow (HB.out) (Nat.le_refl M0) #[.int .i64 (i : Int), .int .i64 (P7 : Int), .int .i64 (P15 : Int), .int .i64 0, .int .i64 I]
          refine bodyPost_ret (res2c rfl _ _ M0 #[.int .i64 (i : Int), .int .i64 (P7 : Int), .int .i64 (P15 : Int), .int .i64 0, .int .i64 I] rfl (loadRv _ M0 _ _ _ _ _ rr)) rfl ⟨?_, by rw [hM0.out]; exact hB7⟩
          unfold decI decB
          rw [HR.out]
          rfl
        · have hNi : ¬ (N : Int) = (n : Int) := by omega
          have HR2 := Lib.hid (HRD.out.trans (if_neg hNn))
          clear HSi HRD HXX hNn
          go_wp2
          go_roundw
          case rel => exact ⟨i + 1, by omega, rfl, HB.out, r0, g2, HR2⟩
          case measure => simp [intOf]; omega
      · simp only [if_true] at HVi HEi HXX
        go_wp2_with (first | (with_reducible refine (HII.out _).mono ?_; rintro e w' ⟨rfl, rfl⟩) | (with_reducible refine (HHH.out _).mono ?_; rintro e w' ⟨rfl, rfl⟩) | (with_reducible refine (P0.out _).mono ?_; rintro e w' ⟨rfl, rfl⟩) | (with_reducible refine (P1.out _).mono ?_; rintro e w' ⟨rfl, rfl⟩) | (with_reducible refine (P2.out _).mono ?_; rintro e w' ⟨rfl, rfl⟩))
        have hx := heap_alloc_new wr (.cells #[.int .i64 (i : Int), .int .i64 (P7 : Int), .int .i64 (P15 : Int), .int .i64 (P20 : Int), .int .i64 I] 23)
        have r2 := (heap_alloc_old wr (.cells #[.int .i64 (i : Int), .int .i64 (P7 : Int), .int .i64 (P15 : Int), .int .i64 (P20 : Int), .int .i64 I] 23) lM).trans r0
        have g2 := (heap_alloc_old wr (.cells #[.int .i64 (i : Int), .int .i64 (P7 : Int), .int .i64 (P15 : Int), .int .i64 (P20 : Int), .int .i64 I] 23) lG).trans hg
        have hb4 : Below M0 w (wr.alloc (.cells #[.int .i64 (i : Int), .int .i64 (P7 : Int), .int .i64 (P15 : Int), .int .i64 (P20 : Int), .int .i64 I] 23)) := hbw.alloc (Nat.le_of_lt lM) (.cells #[.int .i64 (i : Int), .int .i64 (P7 : Int), .int .i64 (P15 : Int), .int .i64 (P20 : Int), .int .i64 I] 23)
        have hs4 : M0 ≤ (wr.alloc (.cells #[.int .i64 (i : Int), .int .i64 (P7 : Int), .int .i64 (P15 : Int), .int .i64 (P20 : Int), .int .i64 I] 23)).heap.size := by simp; omega
        clear hbw r0 hg lG lM q0 HII HHH
        generalize World.alloc wr _ = W4 at hx r2 g2 hb4 hs4 ⊢
        generalize wr.heap.size = X at hx ⊢
        refine (HVi.out _).mono ?_
        rintro e w5 ⟨rfl, hb5⟩
        replace hx := (hb5.block _ (lt_of_block hx)).trans hx
        replace r2 := (hb5.block _ (lt_of_block r2)).trans r2
        replace g2 := (hb5.block _ (lt_of_block g2)).trans g2
        replace hb4 := hb4.trans (hb5.mono hs4)
        replace hs4 := Nat.le_trans hs4 hb5.size
        clear hb5 HVi
        obtain ⟨x0, x1, x2, x3, x4⟩ := cells5r hx
        go_wp2_with fail
        refine (HEi.out _).mono ?_
        rintro e w6 ⟨rfl, hb6⟩
        replace hx := (hb6.block _ (lt_of_block hx)).trans hx
        have r0 := (hb6.block _ (lt_of_block r2)).trans r2
        replace g2 := (hb6.block _ (lt_of_block g2)).trans g2
        have HB := Lib.hid (hb4.trans (hb6.mono hs4))
        clear x0 x1 x2 x3 x4 r2 hb4 hs4 hb6 HEi
        obtain ⟨x0, x1, x2, x3, x4⟩ := cells5r hx
        by_cases hNn : N = n
        · have HR : decF n = some ⟨i, (P7 : Int), (P15 : Int), (P20 : Int), I⟩ := by
            have h := (HSi.out (HRD.out.trans (if_pos hNn))).2
            rw [HXX.out] at h
            exact h
          replace HR := Lib.hid HR
          clear HSi HRD HXX HS HQ HEX HV HE HI HH HX g2
          subst hNn
          go_wp2_with (refine wpList_store_row rfl _ _ _ rfl M0 #[.int .i64 (i : Int), .int .i64 (P7 : Int), .int .i64 (P15 : Int), .int .i64 (P20 : Int), .int .i64 I] rfl rfl 23 _ r0 (infoC _ _ _ _ _) rfl (oneI _ _ _ _ _) ?_)
          have rr := setRow_heap _ M0 _ #[.int .i64 (i : Int), .int .i64 (P7 : Int), .int .i64 (P15 : Int), .int .i64 (P20 : Int), .int .i64 I] 23 (0, 0) r0
          have hB7 := bel_setRow (HB.out) (Nat.le_refl M0) #[.int .i64 (i : Int), .int .i64 (P7 : Int), .int .i64 (P15 : Int), .int .i64 (P20 : Int), .int .i64 I]
          refine bodyPost_ret (res2c rfl _ _ M0 #[.int .i64 (i : Int), .int .i64 (P7 : Int), .int .i64 (P15 : Int), .int .i64 (P20 : Int), .int .i64 I] rfl (loadRv _ M0 _ _ _ _ _ rr)) rfl ⟨?_, by rw [hM0.out]; exact hB7⟩
          unfold decI decB
          rw [HR.out]
          rfl
        · have hNi : ¬ (N : Int) = (n : Int) := by omega
          have HR2 := Lib.hid (HRD.out.trans (if_neg hNn))
          clear HSi HRD HXX hNn
          go_wp2
          go_roundw
          case rel => exact ⟨i + 1, by omega, rfl, HB.out, r0, g2, HR2⟩
          case measure => simp [intOf]; omega
    · obtain rfl : i = 41 := by omega
      have HR : decF n = none := by
        rw [HQ.out, hrd.out]
        rfl
      have HR2 := Lib.hid HR
      have HB := Lib.hid hbw
      clear HS HQ HEX HV HE HI HH HX hg hrd HR hbw
      go_wp2_with (refine wpList_store_row rfl _ _ _ rfl M0 #[.int .i64 0, .int .i64 0, .int .i64 0, .int .i64 0, .int .i64 0] rfl rfl 23 _ r0 (infoC _ _ _ _ _) rfl (oneI _ _ _ _ _) ?_)
      have rr := setRow_heap _ M0 _ #[.int .i64 0, .int .i64 0, .int .i64 0, .int .i64 0, .int .i64 0] 23 (0, 0) r0
      have hB7 := bel_setRow (HB.out) (Nat.le_refl M0) #[.int .i64 0, .int .i64 0, .int .i64 0, .int .i64 0, .int .i64 0]
      refine bodyPost_ret (res2c rfl _ _ M0 #[.int .i64 0, .int .i64 0, .int .i64 0, .int .i64 0, .int .i64 0] rfl (loadRv _ M0 _ _ _ _ _ rr)) rfl ⟨?_, by rw [hM0.out]; exact hB7⟩
      unfold decI decB
      rw [HR2.out]
      rfl
end Go.Proofs.YthkaclmnbahieaaDoor
