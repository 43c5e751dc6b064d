/-
  checkOrder; isOrder of both packages.
-/
import Derived.Test.YtjlacdnkncgpaaaTmY
import Derived.Test.YtjlacdnkncgpaaaTmU
namespace Go.Proofs.Ytjlacdnkncgpaaa
open Go.RowKit

theorem val_errF {zs : List Cod} {os : List Int} (h : valF zs = 0) : errF zs os = if permB zs.length os then 0 else 1 := if_pos h
/-- Whether two numbers of a list stand against a dependence. -/
def badO (zs : List Cod) (os : List Int) (k j : Nat) : Bool := decide (os[k]! < os[j]!) && depP zs[os[k]!.toNat]! zs[os[j]!.toNat]!
/-- Whether a list keeps all dependences. -/
def ordB (zs : List Cod) (os : List Int) : Bool := decide (∀ k, k < os.length → ∀ j, j < k → badO zs os k j = false)
theorem ord_no {zs : List Cod} {os : List Int} {k j : Nat} (hk : k < os.length) (hj : j < k) (h : badO zs os k j = true) : ordB zs os = false :=
  decide_eq_false fun hh => by rw [hh k hk j hj] at h; cases h
theorem ord_yes {zs : List Cod} {os : List Int} (h : ∀ k, k < os.length → ∀ j, j < k → badO zs os k j = false) : ordB zs os = true := decide_eq_true h
section
variable {w : World} {A A2 : Option Addr} {n c c2 : Nat} {zs : List Cod} {os : List Int}
set_option maxRecDepth 100000 in
set_option maxHeartbeats 4000000 in
theorem checkOrder_tab {n2 : Nat} (h : Tab w A n c zs) (ho : Ints w A2 n2 c2 os) :
    Calls Try.prog 39 #[.slice A n c, .slice A2 n2 c2] w fun e w' => e = .returned (.int .i64 (errF zs os)) ∧ Below w.heap.size w w' := by
  have HV := Lib.hid (validate_tab h)
  have hN := h.shape
  have hN2 := ho.1
  have hcap := h.2.1
  rcases val_cases zs with hv | hv | hv
  · obtain ⟨h40, -⟩ := val_all hv
    rw [hv] at HV
    by_cases hnn : n2 = n
    · subst hnn
      have HO := Lib.hid ho
      have HERR := Lib.hid (show errF zs os = if permB n2 os then 0 else 1 by rw [val_errF hv, ← hN])
      have n40 : n2 ≤ 40 := by rw [hN]; exact h40
      have HN2 := Lib.hid hN2
      have hcap2 := ho.2.1
      generalize errF zs os = E at HERR ⊢
      clear h ho hv h40 hN hN2
      go_enter Try.func39, Try.ntmps39
      go_wp2_with fail
      refine HV.out.mono ?_
      rintro e w1 ⟨rfl, hb⟩
      go_wp2
      go_loopw [19] (fun zi wr => ∃ i : Nat, i ≤ n2 ∧ zi = .int .i64 (i : Int) ∧ Below w.heap.size w wr ∧ Hid (∀ j : Nat, j < i → memB os j = true)) (fun zi _ => n2 - (intOf zi).toNat)
      case atStart => exact ⟨0, by omega, rfl, hb, Lib.hid fun j hj => absurd hj (by omega)⟩
      case round =>
        clear hb
        obtain ⟨i, hi, rfl, hb, HJ⟩ := hrel
        by_cases hlt : i < n2
        · have HC := Lib.hid (fun B hB => contains_ints (i : Int) B (HO.out.below hb) hB)
          cases hM : memB os (i : Int)
          · have HC2 := Lib.hid (HC.out _ hM)
            have HE := Lib.hid (show E = 1 by rw [HERR.out, perm_not_mem hlt hM]; rfl)
            clear hM HC
            go_wp2_with (go_at_call 52; ((with_reducible refine (HC2.out).mono ?_); rintro e w' ⟨rfl, rfl⟩))
            go_ret
            exact ⟨ret_i HE.out.symm, hb⟩
          · have HC2 := Lib.hid (HC.out _ hM)
            have HJ2 := Lib.hid (show ∀ j : Nat, j < i + 1 → memB os j = true from fun j hj => by
              by_cases hji : j = i
              · rw [hji]; exact hM
              · exact HJ.out j (by omega))
            clear hM HC
            go_wp2_with (go_at_call 52; ((with_reducible refine (HC2.out).mono ?_); rintro e w' ⟨rfl, rfl⟩))
            go_roundw
            case rel => exact ⟨i + 1, by omega, by go_num, hb, HJ2⟩
            case measure => simp [intOf]; omega
        · obtain rfl : i = n2 := by omega
          have HE := Lib.hid (show E = 0 by rw [HERR.out, perm_all HN2.out.symm HJ.out]; rfl)
          go_wp2
          go_ret
          exact ⟨ret_i HE.out.symm, hb⟩
    · have HE := Lib.hid (show errF zs os = 1 by rw [val_errF hv, perm_not_len (by omega)]; rfl)
      have d0 : ((n2 : Int) == (n : Int)) = false := beq_false_of_ne (by omega)
      generalize errF zs os = E at HE ⊢
      clear h ho hv h40 hN hN2
      go_enter Try.func39, Try.ntmps39
      go_wp2_with fail
      refine HV.out.mono ?_
      rintro e w1 ⟨rfl, hb⟩
      go_wp2
      go_ret
      exact ⟨ret_i HE.out.symm, hb⟩
  · have HE := Lib.hid (show errF zs os = 1 by unfold errF; rw [hv]; rfl)
    rw [hv] at HV
    generalize errF zs os = E at HE ⊢
    clear h ho hv hN hN2
    go_enter Try.func39, Try.ntmps39
    go_wp2_with fail
    refine HV.out.mono ?_
    rintro e w1 ⟨rfl, hb⟩
    go_wp2
    go_ret
    exact ⟨ret_i HE.out.symm, hb⟩
  · have HE := Lib.hid (show errF zs os = 3 by unfold errF; rw [hv]; rfl)
    rw [hv] at HV
    generalize errF zs os = E at HE ⊢
    clear h ho hv hN hN2
    go_enter Try.func39, Try.ntmps39
    go_wp2_with fail
    refine HV.out.mono ?_
    rintro e w1 ⟨rfl, hb⟩
    go_wp2
    go_ret
    exact ⟨ret_i HE.out.symm, hb⟩
set_option maxRecDepth 100000 in
set_option maxHeartbeats 8000000 in
theorem isOrder_tab (h : Tab w A n c zs) (ho : Ints w A2 n c2 os) (hv : valF zs = 0) (hp : permB n os = true) :
    Calls Try.prog 40 #[.slice A n c, .slice A2 n c2] w fun e w' => e = .returned (.bool (ordB zs os)) ∧ Below w.heap.size w w' := by
  have HT := Lib.hid h
  have HO := Lib.hid ho
  have HN := Lib.hid h.shape
  have HN2 := Lib.hid ho.1
  have hcap := h.2.1
  have hcap2 := ho.2.1
  obtain ⟨h40, hval⟩ := val_all hv
  have n40 : n ≤ 40 := by rw [h.shape]; exact h40
  have HP := Lib.hid (fun (i : Nat) (hi : i < n) => perm_at hp hi)
  have HD := Lib.hid (fun (i j : Nat) (hi : i < n) (hj : j < n) w1 => show Calls Try.prog 37 #[aggC zs[i]!, aggC zs[j]!] w1 fun e w' => e = .returned (.bool (depP zs[i]! zs[j]!)) ∧ Below w1.heap.size w1 w' from depends_any _ _ w1 (val_parts (hval i (by rw [← h.shape]; exact hi))).1 (val_parts (hval j (by rw [← h.shape]; exact hj))).1)
  have HNO := Lib.hid (fun (k j : Nat) (hk : k < n) (hj : j < k) (hh : badO zs os k j = true) => ord_no (zs := zs) (by rw [← HN2.out]; exact hk) hj hh)
  have HYES := Lib.hid (fun (hh : ∀ k, k < n → ∀ j, j < k → badO zs os k j = false) => ord_yes (zs := zs) (os := os) (by rw [← HN2.out]; exact hh))
  generalize ordB zs os = R at HNO HYES ⊢
  clear h ho hv h40 hval hp
  go_enter Try.func40, Try.ntmps40
  go_wp2
  go_loopw [11] (fun zk wr => ∃ k : Nat, k ≤ n ∧ zk = .int .i64 (k : Int) ∧ Below w.heap.size w wr ∧ Hid (∀ k', k' < k → ∀ j, j < k' → badO zs os k' j = false)) (fun zk _ => n - (intOf zk).toNat)
  case atStart => exact ⟨0, by omega, rfl, Below.refl _ _, Lib.hid fun j hj => absurd hj (by omega)⟩
  case round =>
    obtain ⟨k, hk, rfl, hb, HJ⟩ := hrel
    by_cases hlt : k < n
    · obtain ⟨b2, off2, rfl, hg2, hc2⟩ := (HO.out.below hb).at_ hlt
      obtain ⟨b1, off1, rfl, hg1, -⟩ := (HT.out.below hb).at_ hlt
      have hpk := HP.out k hlt
      obtain ⟨p, hpp⟩ : ∃ p, os[k]! = p := ⟨_, rfl⟩
      rw [hpp] at hc2 hpk
      have HPK := Lib.hid hpp
      clear hpp
      obtain ⟨I, rfl⟩ : ∃ I : Nat, p = (I : Int) := ⟨p.toNat, by omega⟩
      have hI : I < n := by omega
      clear hpk
      go_wp2_with fail
      clear hc2
      obtain ⟨wo, hwo⟩ : ∃ wo : World, wo = wr := ⟨_, rfl⟩
      rw [← hwo] at hb hg1 hg2 ⊢
      clear hwo
      go_loopw [20] (fun zj wr2 => ∃ j : Nat, j ≤ k ∧ zj = .int .i64 (j : Int) ∧ Below w.heap.size w wr2 ∧ Hid (∀ j', j' < j → badO zs os k j' = false)) (fun zj _ => k - (intOf zj).toNat)
      case atStart => exact ⟨0, by omega, rfl, hb, Lib.hid fun j hj => absurd hj (by omega)⟩
      case round =>
        clear hb hg1 hg2
        obtain ⟨j, hj, rfl, hb, HJJ⟩ := hrel
        by_cases hjk : j < k
        · obtain ⟨b5, off5, he5, hg5, hc2⟩ := (HO.out.below hb).at_ (show j < n by omega)
          injection he5 with he5
          injection he5 with he51 he52
          subst he51 he52
          have hpj := HP.out j (by omega)
          obtain ⟨q, hqq⟩ : ∃ q, os[j]! = q := ⟨_, rfl⟩
          rw [hqq] at hc2 hpj
          obtain ⟨J, rfl⟩ : ∃ J : Nat, q = (J : Int) := ⟨q.toNat, by omega⟩
          have hJ : J < n := by omega
          have HBD := Lib.hid (show badO zs os k j = (decide ((I : Int) < (J : Int)) && depP zs[I]! zs[J]!) by unfold badO; rw [HPK.out, hqq]; rfl)
          clear hpj hqq
          obtain ⟨b6, off6, he6, -, ht6⟩ := (HT.out.below hb).at_ hI
          injection he6 with he6
          injection he6 with he61 he62
          subst he61 he62
          obtain ⟨b6, off6, he6, hg6, ht7⟩ := (HT.out.below hb).at_ hJ
          injection he6 with he6
          injection he6 with he61 he62
          subst he61 he62
          have HDJ := Lib.hid (HD.out I J hI hJ)
          generalize depP zs[I]! zs[J]! = B at HBD HDJ
          generalize zs[I]! = x at ht6 HDJ
          generalize zs[J]! = y at ht7 HDJ
          obtain ⟨xop, xd, xa, xb, xi, xt⟩ := x
          obtain ⟨yop, yd, ya, yb, yi, yt⟩ := y
          obtain ⟨x0, x1, x2, x3, x4, x5⟩ := ht6
          obtain ⟨y0, y1, y2, y3, y4, y5⟩ := ht7
          simp only at x0 x1 x2 x3 x4 x5 y0 y1 y2 y3 y4 y5
          have Tx0 := cell_regrown x0
          have Tx1 := cell_regrown x1
          have Tx2 := cell_regrown x2
          have Tx3 := cell_regrown x3
          have Tx4 := cell_regrown x4
          have Tx5 := cell_regrown x5
          have Ty0 := cell_regrown y0
          have Ty1 := cell_regrown y1
          have Ty2 := cell_regrown y2
          have Ty3 := cell_regrown y3
          have Ty4 := cell_regrown y4
          have Ty5 := cell_regrown y5
          clear x0 x1 x2 x3 x4 x5 y0 y1 y2 y3 y4 y5
          have Q1 := Lib.hid (show ∀ (dr : Nat) (oz : Array Obj), Calls Try.prog 37 #[aggC ⟨xop, xd, xa, xb, xi, xt⟩, aggC ⟨yop, yd, ya, yb, yi, yt⟩] (Sort.grow (redrawn wr dr) oz) fun e w'' => e = .returned (.bool B) ∧ ∃ q : Regrown, w'' = Sort.grow (redrawn wr q.d) q.os from fun dr oz => Calls.regrown_of (HDJ.out _))
          by_cases hIJ : I < J
          · have HBD2 := Lib.hid (show badO zs os k j = B by rw [HBD.out, decide_eq_true (show (I : Int) < (J : Int) by omega)]; rfl)
            go_wp2
            refine wp_region_quiet_below (by kernel_rfl) (by kernel_rfl) ?_
            iterate 14 (go_big_quiet_step ((go_at_call 37; with_reducible exact Q1.out _ _)))
            refine wpQuiet_nil ?_
            intro _ hw'
            obtain ⟨⟨dq, osq⟩, hw''⟩ := hw'
            subst hw''
            replace hb := hb.trans ((below_regrown wr dq osq).mono hb.size)
            generalize Sort.grow (redrawn wr dq) osq = W5 at hb ⊢
            clear Q1 Tx0 Tx1 Tx2 Tx3 Tx4 Tx5 Ty0 Ty1 Ty2 Ty3 Ty4 Ty5
            clear hc2
            cases B
            · have HF := Lib.hid HBD2.out
              have HJJ2 := Lib.hid (show ∀ j', j' < j + 1 → badO zs os k j' = false from fun j' hj' => by
                by_cases hji : j' = j
                · rw [hji]; exact HF.out
                · exact HJJ.out j' (by omega))
              go_wp2
              go_roundw
              case rel => exact ⟨j + 1, by omega, by go_num, hb, HJJ2⟩
              case measure => simp [intOf]; omega
            · have HE := Lib.hid (HNO.out k j hlt hjk HBD2.out)
              go_wp2
              go_ret
              exact ⟨ret_b HE.out.symm, hb⟩
          · have d0 : decide (I < J) = false := decide_eq_false hIJ
            have HF := Lib.hid (show badO zs os k j = false by rw [HBD.out, decide_eq_false (show ¬ (I : Int) < (J : Int) by omega)]; rfl)
            have HJJ2 := Lib.hid (show ∀ j', j' < j + 1 → badO zs os k j' = false from fun j' hj' => by
              by_cases hji : j' = j
              · rw [hji]; exact HF.out
              · exact HJJ.out j' (by omega))
            go_wp2
            refine wp_region_quiet_below (by kernel_rfl) (by kernel_rfl) ?_
            iterate 14 (go_big_quiet_step ((go_at_call 37; with_reducible exact Q1.out _ _)))
            refine wpQuiet_nil ?_
            intro _ hw'
            obtain ⟨⟨dq, osq⟩, hw''⟩ := hw'
            subst hw''
            replace hb := hb.trans ((below_regrown wr dq osq).mono hb.size)
            generalize Sort.grow (redrawn wr dq) osq = W5 at hb ⊢
            clear Q1 Tx0 Tx1 Tx2 Tx3 Tx4 Tx5 Ty0 Ty1 Ty2 Ty3 Ty4 Ty5
            clear hc2
            go_wp2
            go_roundw
            case rel => exact ⟨j + 1, by omega, by go_num, hb, HJJ2⟩
            case measure => simp [intOf]; omega
        · obtain rfl : j = k := by omega
          have HJ2 := Lib.hid (show ∀ k', k' < j + 1 → ∀ j', j' < k' → badO zs os k' j' = false from fun k' hk' => by
            by_cases hki : k' = j
            · rw [hki]; exact HJJ.out
            · exact HJ.out k' (by omega))
          go_wp2
          go_roundw
          case rel => exact ⟨j + 1, by omega, by go_num, hb, HJ2⟩
          case measure => simp [intOf]; omega
    · obtain rfl : k = n := by omega
      have HE := Lib.hid (HYES.out HJ.out)
      go_wp2
      go_ret
      exact ⟨ret_b HE.out.symm, hb⟩
set_option maxRecDepth 100000 in
set_option maxHeartbeats 8000000 in
theorem refIsOrder_tab (h : Tab w A n c zs) (ho : Ints w A2 n c2 os) (hv : valF zs = 0) (hp : permB n os = true) :
    Calls Try.prog 42 #[.slice A n c, .slice A2 n c2] w fun e w' => e = .returned (.bool (ordB zs os)) ∧ Below w.heap.size w w' := by
  have HT := Lib.hid h
  have HO := Lib.hid ho
  have HN := Lib.hid h.shape
  have HN2 := Lib.hid ho.1
  have hcap := h.2.1
  have hcap2 := ho.2.1
  obtain ⟨h40, hval⟩ := val_all hv
  have n40 : n ≤ 40 := by rw [h.shape]; exact h40
  have HP := Lib.hid (fun (i : Nat) (hi : i < n) => perm_at hp hi)
  have HD := Lib.hid (fun (i j : Nat) (hi : i < n) (hj : j < n) w1 => show Calls Try.prog 38 #[aggC zs[i]!, aggC zs[j]!] w1 fun e w' => e = .returned (.bool (depP zs[i]! zs[j]!)) ∧ Below w1.heap.size w1 w' from (by rw [dep_eq (hval i (by rw [← h.shape]; exact hi)) (hval j (by rw [← h.shape]; exact hj))]; exact refDepends_any _ _ w1))
  have HNO := Lib.hid (fun (k j : Nat) (hk : k < n) (hj : j < k) (hh : badO zs os k j = true) => ord_no (zs := zs) (by rw [← HN2.out]; exact hk) hj hh)
  have HYES := Lib.hid (fun (hh : ∀ k, k < n → ∀ j, j < k → badO zs os k j = false) => ord_yes (zs := zs) (os := os) (by rw [← HN2.out]; exact hh))
  generalize ordB zs os = R at HNO HYES ⊢
  clear h ho hv h40 hval hp
  go_enter Try.func42, Try.ntmps42
  go_wp2
  go_loopw [5] (fun zk wr => ∃ k : Nat, k ≤ n ∧ zk = .int .i64 (k : Int) ∧ Below w.heap.size w wr ∧ Hid (∀ k', k' < k → ∀ j, j < n → k' < j → badO zs os j k' = false)) (fun zk _ => n - (intOf zk).toNat)
  case atStart => exact ⟨0, by omega, rfl, Below.refl _ _, Lib.hid fun j hj => absurd hj (by omega)⟩
  case round =>
    obtain ⟨k, hk, rfl, hb, HJ⟩ := hrel
    by_cases hlt : k < n
    · obtain ⟨b2, off2, rfl, hg2, -⟩ := (HO.out.below hb).at_ hlt
      obtain ⟨b1, off1, rfl, hg1, -⟩ := (HT.out.below hb).at_ hlt
      have hpk := HP.out k hlt
      obtain ⟨p, hpp⟩ : ∃ p, os[k]! = p := ⟨_, rfl⟩
      rw [hpp] at hpk
      have HPK := Lib.hid hpp
      clear hpp
      obtain ⟨J, rfl⟩ : ∃ J : Nat, p = (J : Int) := ⟨p.toNat, by omega⟩
      have hJ : J < n := by omega
      clear hpk
      go_wp2_with fail
      obtain ⟨wo, hwo⟩ : ∃ wo : World, wo = wr := ⟨_, rfl⟩
      rw [← hwo] at hb hg1 hg2 ⊢
      clear hwo
      go_loopw [6] (fun zj wr2 => ∃ j : Nat, k + 1 ≤ j ∧ j ≤ n ∧ zj = .int .i64 (j : Int) ∧ Below w.heap.size w wr2 ∧ Hid (∀ j', k < j' → j' < j → badO zs os j' k = false)) (fun zj _ => n - (intOf zj).toNat)
      case atStart => exact ⟨k + 1, by omega, by omega, by go_num, hb, Lib.hid fun j h1 h2 => absurd h1 (by omega)⟩
      case round =>
        clear hb hg1 hg2
        obtain ⟨j, hj0, hj, rfl, hb, HJJ⟩ := hrel
        by_cases hjk : j < n
        · obtain ⟨b5, off5, he5, hg5, hc1⟩ := (HO.out.below hb).at_ (show k < n by omega)
          injection he5 with he5
          injection he5 with he51 he52
          subst he51 he52
          obtain ⟨b5, off5, he5, -, hc2⟩ := (HO.out.below hb).at_ hjk
          injection he5 with he5
          injection he5 with he51 he52
          subst he51 he52
          have hpj := HP.out j (by omega)
          rw [HPK.out] at hc1
          obtain ⟨q, hqq⟩ : ∃ q, os[j]! = q := ⟨_, rfl⟩
          rw [hqq] at hc2 hpj
          obtain ⟨I, rfl⟩ : ∃ I : Nat, q = (I : Int) := ⟨q.toNat, by omega⟩
          have hI : I < n := by omega
          have HBD := Lib.hid (show badO zs os j k = (decide ((I : Int) < (J : Int)) && depP zs[I]! zs[J]!) by unfold badO; rw [HPK.out, hqq]; rfl)
          clear hpj hqq
          have TC1 := cell_regrown hc1
          have TC2 := cell_regrown hc2
          clear hc1 hc2
          go_wp2
          refine wp_region_quiet_below (by kernel_rfl) (by kernel_rfl) ?_
          iterate 10 (go_big_quiet_step (fail))
          refine wpQuiet_nil ?_
          intro _ hw'
          obtain ⟨⟨dq, osq⟩, hw''⟩ := hw'
          subst hw''
          replace hb := hb.trans ((below_regrown wr dq osq).mono hb.size)
          generalize Sort.grow (redrawn wr dq) osq = W4 at hb ⊢
          clear TC1 TC2
          obtain ⟨b6, off6, he6, -, ht6⟩ := (HT.out.below hb).at_ hI
          injection he6 with he6
          injection he6 with he61 he62
          subst he61 he62
          obtain ⟨b6, off6, he6, hg6, ht7⟩ := (HT.out.below hb).at_ hJ
          injection he6 with he6
          injection he6 with he61 he62
          subst he61 he62
          have HDJ := Lib.hid (HD.out I J hI hJ)
          generalize depP zs[I]! zs[J]! = B at HBD HDJ
          generalize zs[I]! = x at ht6 HDJ
          generalize zs[J]! = y at ht7 HDJ
          obtain ⟨xop, xd, xa, xb, xi, xt⟩ := x
          obtain ⟨yop, yd, ya, yb, yi, yt⟩ := y
          obtain ⟨x0, x1, x2, x3, x4, x5⟩ := ht6
          obtain ⟨y0, y1, y2, y3, y4, y5⟩ := ht7
          simp only at x0 x1 x2 x3 x4 x5 y0 y1 y2 y3 y4 y5
          have Tx0 := cell_regrown x0
          have Tx1 := cell_regrown x1
          have Tx2 := cell_regrown x2
          have Tx3 := cell_regrown x3
          have Tx4 := cell_regrown x4
          have Tx5 := cell_regrown x5
          have Ty0 := cell_regrown y0
          have Ty1 := cell_regrown y1
          have Ty2 := cell_regrown y2
          have Ty3 := cell_regrown y3
          have Ty4 := cell_regrown y4
          have Ty5 := cell_regrown y5
          clear x0 x1 x2 x3 x4 x5 y0 y1 y2 y3 y4 y5
          have Q1 := Lib.hid (show ∀ (dr : Nat) (oz : Array Obj), Calls Try.prog 38 #[aggC ⟨xop, xd, xa, xb, xi, xt⟩, aggC ⟨yop, yd, ya, yb, yi, yt⟩] (Sort.grow (redrawn W4 dr) oz) fun e w'' => e = .returned (.bool B) ∧ ∃ q : Regrown, w'' = Sort.grow (redrawn W4 q.d) q.os from fun dr oz => Calls.regrown_of (HDJ.out _))
          by_cases hIJ : I < J
          · have HBD2 := Lib.hid (show badO zs os j k = B by rw [HBD.out, decide_eq_true (show (I : Int) < (J : Int) by omega)]; rfl)
            go_wp2
            refine wp_region_quiet_below (by kernel_rfl) (by kernel_rfl) ?_
            iterate 14 (go_big_quiet_step ((go_at_call 38; with_reducible exact Q1.out _ _)))
            refine wpQuiet_nil ?_
            intro _ hw'
            obtain ⟨⟨dq, osq⟩, hw''⟩ := hw'
            subst hw''
            replace hb := hb.trans ((below_regrown W4 dq osq).mono hb.size)
            generalize Sort.grow (redrawn W4 dq) osq = W5 at hb ⊢
            clear Q1 Tx0 Tx1 Tx2 Tx3 Tx4 Tx5 Ty0 Ty1 Ty2 Ty3 Ty4 Ty5
            cases B
            · have HF := Lib.hid HBD2.out
              have HJJ2 := Lib.hid (show ∀ j', k < j' → j' < j + 1 → badO zs os j' k = false from fun j' h1 h2 => by
                by_cases hji : j' = j
                · rw [hji]; exact HF.out
                · exact HJJ.out j' h1 (by omega))
              go_wp2
              go_roundw
              case rel => exact ⟨j + 1, by omega, by omega, by go_num, hb, HJJ2⟩
              case measure => simp [intOf]; omega
            · have HE := Lib.hid (HNO.out j k hjk (by omega) HBD2.out)
              go_wp2
              go_ret
              exact ⟨ret_b HE.out.symm, hb⟩
          · have d0 : decide (I < J) = false := decide_eq_false hIJ
            have HF := Lib.hid (show badO zs os j k = false by rw [HBD.out, decide_eq_false (show ¬ (I : Int) < (J : Int) by omega)]; rfl)
            have HJJ2 := Lib.hid (show ∀ j', k < j' → j' < j + 1 → badO zs os j' k = false from fun j' h1 h2 => by
              by_cases hji : j' = j
              · rw [hji]; exact HF.out
              · exact HJJ.out j' h1 (by omega))
            go_wp2
            refine wp_region_quiet_below (by kernel_rfl) (by kernel_rfl) ?_
            iterate 14 (go_big_quiet_step ((go_at_call 38; with_reducible exact Q1.out _ _)))
            refine wpQuiet_nil ?_
            intro _ hw'
            obtain ⟨⟨dq, osq⟩, hw''⟩ := hw'
            subst hw''
            replace hb := hb.trans ((below_regrown W4 dq osq).mono hb.size)
            generalize Sort.grow (redrawn W4 dq) osq = W5 at hb ⊢
            clear Q1 Tx0 Tx1 Tx2 Tx3 Tx4 Tx5 Ty0 Ty1 Ty2 Ty3 Ty4 Ty5
            go_wp2
            go_roundw
            case rel => exact ⟨j + 1, by omega, by omega, by go_num, hb, HJJ2⟩
            case measure => simp [intOf]; omega
        · obtain rfl : j = n := by omega
          have HJ2 := Lib.hid (show ∀ k', k' < k + 1 → ∀ j', j' < j → k' < j' → badO zs os j' k' = false from fun k' hk' => by
            by_cases hki : k' = k
            · rw [hki]; exact fun j' h1 h2 => HJJ.out j' h2 h1
            · exact HJ.out k' (by omega))
          go_wp2
          go_roundw
          case rel => exact ⟨k + 1, by omega, by go_num, hb, HJ2⟩
          case measure => simp [intOf]; omega
    · obtain rfl : k = n := by omega
      have HE := Lib.hid (HYES.out (fun k' hk' j' hj' => HJ.out j' (by omega) k' hk' hj'))
      go_wp2
      go_ret
      exact ⟨ret_b HE.out.symm, hb⟩
end
end Go.Proofs.Ytjlacdnkncgpaaa
