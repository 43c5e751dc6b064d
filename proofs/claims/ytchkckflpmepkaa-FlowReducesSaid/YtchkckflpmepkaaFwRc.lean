/-
  IsReducible of the reference.
-/
import Derived.Test.YtchkckflpmepkaaFwRb
import Derived.Test.YtchkckflpmepkaaFwPb
import Derived.Test.YtchkckflpmepkaaFwRa
namespace Go.Proofs.Ytchkckflpmepkaa
open Go.RowKit

def trueC (o : Option Value) : Bool := match o with
  | some (.bool true) => true
  | _ => false
/-- How many cells of a block hold true. -/
def cntB (w : World) (B n : Nat) : Nat := ((List.range n).filter fun j => trueC (w.cell? ⟨B, j, none⟩)).length
theorem cnt_free {w : World} {B n : Nat} {s : NS} (h : BoolB w B n s) : cntB w B n + free s n = n := by
  have e : (List.range n).filter (fun j => trueC (w.cell? ⟨B, j, none⟩)) = setL s n := by
    unfold setL
    apply List.filter_congr
    intro j hj
    rw [(h.cell (List.mem_range.1 hj)).1]
    cases s j <;> rfl
  unfold cntB
  rw [e]
  exact setL_len n
section
variable {w : World} {A : Option Addr} {n c : Nat} {g : List (List Int)}
set_option maxRecDepth 100000 in
set_option maxHeartbeats 8000000 in
theorem refIsReducible_any (h : RG w A n c g) : Calls Try.prog 35 #[.slice A n c] w fun e w' => e = .returned (.tuple #[.bool (resI g), .int .i64 (valF g)]) ∧ Below w.heap.size w w' := by
  have HV := Lib.hid (refValidate_any h)
  by_cases hv : valF g = 0
  · have hG := okG_val hv
    have hM := MG_of h hv
    have hr : resI g = (freF (natG g) 11 0 (non, non)).1 := by
      unfold resI
      rw [decide_eq_true hv]
      rfl
    obtain ⟨G, hGE⟩ : ∃ G, G = natG g := ⟨_, rfl⟩
    rw [← hGE] at hG hM hr
    have n10 : n ≤ 10 := by rw [hM.1]; exact hG.2.1
    have n1 : 0 < n := by rw [hM.1]; exact hG.1
    have hcap := hM.2.1
    have hmax := hM.2.2.1
    have HC := Lib.hid (fun w1 (hb : Below w.heap.size w w1) => reach_any hG (hM.below hb) 0 n1 (-1))
    have HDO := Lib.hid (fun w1 (hb : Below w.heap.size w w1) x y (hy : y < n) => refDominates_any hG (hM.below hb) x y hy)
    have HSL := Lib.hid (fun L gb w1 => set_any L gb n n10 w1)
    have HST := Lib.hid (red_start (G := G))
    have HRS := Lib.hid (fun L v (hI : RedI G L) hv hr => red_strike hG hI (v := v) hv hr)
    have HRE := Lib.hid (fun L (hI : RedI G L) hL => red_end hG hI hM.1 hL)
    have HRB := Lib.hid (fun L v => show remB G L v = (suc G v).all fun s => !(L s && !domB G s v) from rfl)
    have HSU := Lib.hid (fun v u (hu : u ∈ suc G v) => show u < n by rw [hM.1]; exact hG.2.2.2 v u hu)
    have HMG := Lib.hid hM
    have HLS := Lib.hid (fun (L : NS) (v : Nat) (hL : L v = true) (hv : v < n) => red_less (n := n) hL hv)
    rw [hr, hv]
    rw [hv] at HV
    generalize (freF G 11 0 (non, non)).1 = Z at HRE ⊢
    generalize RedI G = I at HST HRS HRE
    generalize remB G = M at HRS HRE HRB
    generalize domB G = D at HDO HRB
    generalize wy G (-1) 0 = T at HC HST
    clear h hG hM hGE hr hv
    go_enter Try.func35, Try.ntmps35
    go_wp2_with fail
    refine HV.out.mono ?_
    rintro e w1 ⟨rfl, rfl⟩
    go_wp2_with fail
    refine (HC.out _ (Below.refl _ _)).mono ?_
    rintro e w2 ⟨gb, rfl, hB, hgb, hb⟩
    clear HC HV
    have hgl := hB.lt
    go_wp2
    go_loopw [6] (fun _ wr => ∃ L : NS, Below w.heap.size w wr ∧ BoolB wr gb n L ∧ Hid (I L)) (fun _ wr => cntB wr gb n)
    case atStart => exact ⟨T, hb, hB, HST⟩
    case round =>
      clear hb hB
      obtain ⟨L0, hb, hB, HI⟩ := hrel
      have HCN := Lib.hid (cnt_free hB)
      rename World => w3
      go_wp2
      go_loopw [6, 7] (fun zg zv wr => ∃ (v : Nat) (L : NS) (q : Bool), v ≤ n ∧ zv = .int .i64 (v : Int) ∧ zg = .bool q ∧ Below w.heap.size w wr ∧ BoolB wr gb n L ∧ Hid (I L) ∧ Hid (q = true → free L0 n < free L n) ∧ Hid (free L0 n ≤ free L n) ∧ Hid (q = false → ∀ j, j < v → L j = true → M L j = false)) (fun _ zv _ => n - (intOf zv).toNat)
      case atStart => exact ⟨0, L0, false, by omega, rfl, rfl, hb, hB, HI, Lib.hid (fun h => by cases h), Lib.hid (Nat.le_refl _), Lib.hid fun _ j hj => absurd hj (by omega)⟩
      case round =>
        clear hb hB HI
        obtain ⟨v, L, q, hvn, rfl, rfl, hb, hB, HI, HQ1, HQ0, HQ2⟩ := hrel
        by_cases hlt : v < n
        · obtain ⟨b0, off, A', n', c', rfl, hbs, hc, hr⟩ := HMG.out.at_ hlt
          have hr1 := hr.1
          have hcap' := hr.2.1
          have hmax' := hr.2.2.1
          have HR := Lib.hid hr
          have HR1 := Lib.hid hr1
          have HC0 := Lib.hid hc
          have hcL := (hB.cell hlt).1
          have hglw := hB.lt
          cases hL : L v
          · rw [hL] at hcL
            have HQ3 := Lib.hid (show q = false → ∀ j, j < v + 1 → L j = true → M L j = false from fun hq j hj hLj => by
              by_cases hjv : j = v
              · rw [hjv, hL] at hLj
                cases hLj
              · exact HQ2.out hq j (by omega) hLj)
            clear hL hr hr1 hc
            go_wp2
            go_roundw
            case rel => exact ⟨v + 1, L, q, by omega, by go_num, rfl, hb, hB, HI, HQ1, HQ0, HQ3⟩
            case measure => simp [intOf]; omega
          · rw [hL] at hcL
            have HL := Lib.hid hL
            have HB := Lib.hid hB
            have HW := Lib.hid hb
            have HMV := Lib.hid (HRB.out L v)
            have HSV := Lib.hid (HSU.out v)
            generalize suc G v = l at HR HR1 HMV HSV hr hr1
            clear hL hr hr1 hc hb hB
            rename World => wv
            go_wp2
            go_loopw [8, 9] (fun zn zk wq => ∃ k : Nat, k ≤ n' ∧ zk = .int .i64 (k : Int) ∧ zn = .bool ((l.take k).all fun s => !(L s && !D s v)) ∧ Below wv.heap.size wv wq) (fun _ zk _ => n' - (intOf zk).toNat)
            case atStart => exact ⟨0, by omega, rfl, rfl, Below.refl _ _⟩
            case round =>
              obtain ⟨k, hk, rfl, rfl, hb8⟩ := hrel
              have hbw := HW.out.trans (hb8.mono HW.out.size)
              have hcG := (hbw.cell (p := ⟨b0, off + v, none⟩) hbs).trans HC0.out
              by_cases hkl : k < n'
              · obtain ⟨bk, offk, rfl, hbk, hck0⟩ := HR.out.at_ hkl
                have hck := (hbw.cell (p := ⟨bk, offk + k, none⟩) hbk).trans hck0
                have HAT := Lib.hid (show ∀ q1, ((l.take k).all fun s => !(L s && !D s v)) = q1 → ((l.take (k + 1)).all fun s => !(L s && !D s v)) = (q1 && !(L l[k]! && !D l[k]! v)) from fun q1 h => by rw [← h]; exact all_take (p := fun s => !(L s && !D s v)) (by rw [← HR1.out]; exact hkl))
                have hxn := HSV.out _ (at_get (l := l) (q := k) (by rw [← HR1.out]; exact hkl))
                generalize l[k]! = x at hck HAT hxn
                obtain ⟨q1, hq1⟩ : ∃ q1, ((l.take k).all fun s => !(L s && !D s v)) = q1 := ⟨_, rfl⟩
                have HE := Lib.hid (HAT.out q1 hq1)
                rw [hq1]
                have hBx := HB.out.below hb8
                obtain ⟨hcx, -⟩ := hBx.cell hxn
                have hgx := hBx.lt
                clear hq1 HAT hck0
                cases hLx : L x
                · have HE2 := Lib.hid (show ((l.take (k + 1)).all fun s => !(L s && !D s v)) = q1 by rw [HE.out, hLx]; simp)
                  rw [hLx] at hcx
                  clear HE hLx hBx
                  go_wp2
                  go_roundw
                  case rel => exact ⟨k + 1, by omega, by go_num, by rw [HE2.out], hb8⟩
                  case measure => simp [intOf]; omega
                · have HC := Lib.hid (HDO.out wr hbw x v hlt)
                  cases hDx : D x v
                  · have HE2 := Lib.hid (show ((l.take (k + 1)).all fun s => !(L s && !D s v)) = false by rw [HE.out, hLx, hDx]; simp)
                    rw [hLx] at hcx
                    rw [hDx] at HC
                    clear HE hLx hBx hDx
                    go_wp2_with fail
                    refine HC.out.mono ?_
                    rintro e w9 ⟨rfl, hb9⟩
                    have hb10 := hb8.trans (hb9.mono hb8.size)
                    clear hb8 hb9 hcx hck hbw hcG
                    go_wp2
                    go_roundw
                    case rel => exact ⟨k + 1, by omega, by go_num, by rw [HE2.out], hb10⟩
                    case measure => simp [intOf]; omega
                  · have HE2 := Lib.hid (show ((l.take (k + 1)).all fun s => !(L s && !D s v)) = q1 by rw [HE.out, hLx, hDx]; simp)
                    rw [hLx] at hcx
                    rw [hDx] at HC
                    clear HE hLx hBx hDx
                    go_wp2_with fail
                    refine HC.out.mono ?_
                    rintro e w9 ⟨rfl, hb9⟩
                    have hb10 := hb8.trans (hb9.mono hb8.size)
                    clear hb8 hb9 hcx hck hbw hcG
                    go_wp2
                    go_roundw
                    case rel => exact ⟨k + 1, by omega, by go_num, by rw [HE2.out], hb10⟩
                    case measure => simp [intOf]; omega
              · obtain rfl : k = n' := by omega
                rw [HR1.out, List.take_length, ← HMV.out]
                have HBZ := Lib.hid (HB.out.below hb8)
                have HWZ := Lib.hid hbw
                have hgz := HBZ.out.lt
                obtain ⟨hcz, hfz⟩ := HBZ.out.cell hlt
                rw [HL.out] at hcz
                clear hb8 hbw
                cases hM : M L v
                · have HQ3 := Lib.hid (show q = false → ∀ j, j < v + 1 → L j = true → M L j = false from fun hq j hj hLj => by
                    by_cases hjv : j = v
                    · rw [hjv]; exact hM
                    · exact HQ2.out hq j (by omega) hLj)
                  rw [← HR1.out]
                  clear hM hcz hfz
                  go_wp2
                  go_roundw
                  case rel => exact ⟨v + 1, L, q, by omega, by go_num, rfl, HWZ.out, HBZ.out, HI, HQ1, HQ0, HQ3⟩
                  case measure => simp [intOf]; omega
                · have HI2 := Lib.hid (HRS.out L v HI.out HL.out hM)
                  have HF := Lib.hid (HLS.out L v HL.out hlt)
                  have HB2 := Lib.hid (HBZ.out.set (t := fun j => if j = v then false else L j) (D := v) false (fun j _ => rfl))
                  have HW2 := Lib.hid (HWZ.out.setCell (p := ⟨gb, v, none⟩) hgb (.bool false))
                  generalize (fun j => if j = v then false else L j) = L2 at HI2 HF HB2
                  have HF1 := Lib.hid (show free L0 n < free L2 n by have := HF.out; have := HQ0.out; omega)
                  rw [← HR1.out]
                  clear hM
                  go_wp2
                  go_roundw
                  case rel => exact ⟨v + 1, L2, true, by omega, by go_num, rfl, HW2.out, HB2.out, HI2, Lib.hid fun _ => HF1.out, Lib.hid (Nat.le_of_lt HF1.out), Lib.hid fun h => by cases h⟩
                  case measure => simp [intOf]; omega
        · obtain rfl : v = n := by omega
          cases q
          · have HZ := Lib.hid (HRE.out L HI.out (HQ2.out rfl))
            have hgl3 := hB.lt
            go_wp2_with fail
            refine (HSL.out L gb wr hB).mono ?_
            rintro e w5 ⟨v5, rfl, hown, hb5⟩
            have hb6 := hb.trans (hb5.mono hb.size)
            obtain ⟨AL, cL, rfl, hN⟩ := own_nats hown
            clear hown hN hb5 hb hB
            by_cases hz : (setL L v).length = 0
            · have HZ2 := Lib.hid (show Z = true by rw [HZ.out]; exact decide_eq_true hz)
              have e1 : (((setL L v).length : Int) == 0) = true := by simp [hz]
              rw [hz] at e1 ⊢
              go_wp2
              exact bodyPost_ret (results_tmp2 rfl _ _ _) rfl ⟨by rw [HZ2.out]; rfl, hb6⟩
            · have HZ2 := Lib.hid (show Z = false by rw [HZ.out]; exact decide_eq_false hz)
              have e1 : (((setL L v).length : Int) == 0) = false := beq_false_of_ne (by omega)
              generalize (setL L v).length = z at e1 hz
              go_wp2
              exact bodyPost_ret (results_tmp2 rfl _ _ _) rfl ⟨by rw [HZ2.out]; rfl, hb6⟩
          · have HF := Lib.hid (HQ1.out rfl)
            have HC2 := Lib.hid (cnt_free hB)
            go_wp2
            go_roundw
            case rel => exact ⟨L, hb, hB, HI⟩
            case measure => have := HF.out; have := HC2.out; have := HCN.out; omega
  · have hr : resI g = false := by
      unfold resI
      rw [decide_eq_false hv]
      rfl
    rw [hr]
    generalize valF g = X at HV hv ⊢
    have dX : (X != 0) = true := by simp [hv]
    clear h hv hr
    go_enter Try.func35, Try.ntmps35
    go_wp2_with fail
    refine HV.out.mono ?_
    rintro e w1 ⟨rfl, rfl⟩
    go_wp2
    exact bodyPost_ret (results_tmp2 rfl _ _ _) rfl ⟨rfl, Below.refl _ _⟩
end
end Go.Proofs.Ytchkckflpmepkaa
