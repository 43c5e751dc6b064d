/-
  Depends of both packages.
-/
import Derived.Test.YtjlacdnkncgpaaaTmT
import Derived.Lib.QuietBelow
namespace Go.Proofs.Ytjlacdnkncgpaaa
open Go.RowKit

/-- The pairs of an instruction with those behind it, up to a number. -/
def rowJ (f : Cod → Cod → Bool) (zs : List Cod) (i : Nat) : Nat → List (Int × Int)
  | 0 => []
  | j + 1 => if i < j ∧ f zs[i]! zs[j]! = true then rowJ f zs i j ++ [((i : Int), (j : Int))] else rowJ f zs i j
def allD (f : Cod → Cod → Bool) (zs : List Cod) : Nat → List (Int × Int)
  | 0 => []
  | i + 1 => allD f zs i ++ rowJ f zs i zs.length
/-- What Depends answers. -/
def resD (zs : List Cod) : List (Int × Int) := if valF zs = 0 then allD depP zs zs.length else []
theorem rowJ_nil (f : Cod → Cod → Bool) (zs : List Cod) (i : Nat) : ∀ j, j ≤ i + 1 → rowJ f zs i j = []
  | 0, _ => rfl
  | j + 1, h => by
    unfold rowJ
    rw [if_neg (fun hh => by have := hh.1; omega)]
    exact rowJ_nil f zs i j (by omega)
theorem rowJ_len (f : Cod → Cod → Bool) (zs : List Cod) (i : Nat) : ∀ j, (rowJ f zs i j).length ≤ j
  | 0 => Nat.le_refl _
  | j + 1 => by
    have := rowJ_len f zs i j
    unfold rowJ
    split
    · rw [List.length_append, List.length_singleton]; omega
    · omega
theorem allD_len (f : Cod → Cod → Bool) (zs : List Cod) : ∀ i, (allD f zs i).length ≤ i * zs.length
  | 0 => by simp [allD]
  | i + 1 => by
    have h1 := allD_len f zs i
    have h2 := rowJ_len f zs i zs.length
    unfold allD
    rw [List.length_append, Nat.succ_mul]
    omega
section
variable {w : World} {A : Option Addr} {n c : Nat} {zs : List Cod}
set_option maxRecDepth 100000 in
set_option maxHeartbeats 8000000 in
theorem Depends_tab (h : Tab w A n c zs) : Calls Try.prog 18 #[.slice A n c] w fun e w' => ∃ V, e = .returned (.tuple #[V, .int .i64 (valF zs)]) ∧ w'.ownsRow w.heap.size 55 2 V (resD zs).length (strV (resD zs)) ∧ Below w.heap.size w w' := by
  have HV := Lib.hid (validate_tab h)
  rcases val_cases zs with hv | hv | hv
  · obtain ⟨i0, hi, hz0, hz1, hz2⟩ := info_parts infoSt
    have HT := Lib.hid h
    have HN := Lib.hid h.shape
    have hcap := h.2.1
    obtain ⟨h40, hval⟩ := val_all hv
    have HVA := Lib.hid hval
    have n40 : n ≤ 40 := by rw [h.shape]; exact h40
    have HR := Lib.hid (show resD zs = allD depP zs n by rw [resD, if_pos hv, ← h.shape])
    rw [hv] at HV
    rw [hv]
    clear h hv h40 hval
    go_enter Try.func18, Try.ntmps18
    go_wp2_with fail
    refine HV.out.mono ?_
    rintro e w1 ⟨rfl, hb1⟩
    go_wp2_with fail
    go_loopw [5, 16] (fun vl zi wr => ∃ i : Nat, i ≤ n ∧ zi = .int .i64 (i : Int) ∧ wr.ownsRow w.heap.size 55 2 vl (allD depP zs i).length (strV (allD depP zs i)) ∧ Below w.heap.size w wr) (fun _ zi _ => n - (intOf zi).toNat)
    case atStart => exact ⟨0, by omega, rfl, World.ownsRow_nil _ _ _ _, hb1⟩
    case round =>
    clear hb1
    obtain ⟨i, hin, rfl, hown, hb⟩ := hrel
    by_cases hlt : i < n
    · obtain ⟨b0, off, rfl, hbs, ht⟩ := (HT.out.below hb).at_ hlt
      have hv1 := HVA.out i (by rw [← HN.out]; exact hlt)
      have HNX := Lib.hid (show allD depP zs (i + 1) = allD depP zs i ++ rowJ depP zs i n by rw [HN.out]; rfl)
      have HD := Lib.hid (fun (j : Nat) (hj : j < n) w1 => have hv2 : valC zs[j]! = true := HVA.out j (by rw [← HN.out]; exact hj); show Calls Try.prog 37 #[aggC zs[i]!, aggC zs[j]!] w1 fun e w' => e = .returned (.bool (depP zs[i]! zs[j]!)) ∧ Below w1.heap.size w1 w' from (depends_any _ _ w1 (val_parts hv1).1 (val_parts hv2).1))
      have HPL := Lib.hid (allD_len depP zs i)
      have HXE := Lib.hid (rfl : zs[i]! = zs[i]!)
      obtain ⟨x, hx⟩ : ∃ x, zs[i]! = x := ⟨_, rfl⟩
      rw [hx] at ht
      simp only [hx] at HD
      have HSJ := Lib.hid (show ∀ j, rowJ depP zs i (j + 1) = if i < j ∧ depP x zs[j]! = true then rowJ depP zs i j ++ [((i : Int), (j : Int))] else rowJ depP zs i j from fun j => by rw [← hx]; rfl)
      replace HXE := Lib.hid hx
      clear hv1 hx
      obtain ⟨xop, xd, xa, xb, xi, xt⟩ := x
      obtain ⟨c0, c1, c2, c3, c4, c5⟩ := ht
      simp only at c0 c1 c2 c3 c4 c5
      go_wp2_with fail
      have hX := heap_alloc_new wr (.cells #[.int .i64 xop, .int .i64 xd, .int .i64 xa, .int .i64 xb, .int .u32 xi, .int .i64 xt] 47)
      have hb1 := hb.alloc hb.size (.cells #[.int .i64 xop, .int .i64 xd, .int .i64 xa, .int .i64 xb, .int .u32 xi, .int .i64 xt] 47)
      have hown1 := hown.alloc (.cells #[.int .i64 xop, .int .i64 xd, .int .i64 xa, .int .i64 xb, .int .u32 xi, .int .i64 xt] 47)
      generalize World.alloc wr _ = W1 at hX hb1 hown1 ⊢
      generalize wr.heap.size = X at hX ⊢
      clear c0 c1 c2 c3 c4 c5 hown hb
      go_loopw [5, 8] (fun vl zj wr2 => ∃ j : Nat, i + 1 ≤ j ∧ j ≤ n ∧ zj = .int .i64 (j : Int) ∧ wr2.ownsRow w.heap.size 55 2 vl (allD depP zs i ++ rowJ depP zs i j).length (strV (allD depP zs i ++ rowJ depP zs i j)) ∧ Below w.heap.size w wr2 ∧ Hid (wr2.heap[X]? = some (.cells #[.int .i64 xop, .int .i64 xd, .int .i64 xa, .int .i64 xb, .int .u32 xi, .int .i64 xt] 47 (0, 0)))) (fun _ zj _ => n - (intOf zj).toNat)
      case atStart => exact ⟨i + 1, by omega, by omega, by go_num, by rw [rowJ_nil _ _ _ _ (by omega), List.append_nil]; exact hown1, hb1, Lib.hid hX⟩
      case round =>
        obtain ⟨j, hj1, hj2, rfl, hown2, hb2, HX⟩ := hrel
        by_cases hjn : j < n
        · have hPL : (allD depP zs i ++ rowJ depP zs i j).length ≤ 2000 := by
            rw [List.length_append]
            have h1 := HPL.out
            have h2 := rowJ_len depP zs i j
            have h3 := Nat.mul_le_mul (show i ≤ 40 by omega) (show zs.length ≤ 40 by rw [← HN.out]; exact n40)
            omega
          have HJ := Lib.hid (HSJ.out j)
          have HDJ := Lib.hid (HD.out j hjn)
          obtain ⟨x0, x1, x2, x3, x4, x5⟩ := cells6 HX.out
          obtain ⟨b5, off5, he5, -, ht5⟩ := (HT.out.below hb2).at_ hjn
          injection he5 with he5
          injection he5 with he51 he52
          subst he51 he52
          generalize depP ⟨xop, xd, xa, xb, xi, xt⟩ zs[j]! = B at HJ HDJ
          generalize zs[j]! = y at ht5 HDJ
          obtain ⟨yop, yd, ya, yb, yi, yt⟩ := y
          obtain ⟨y0, y1, y2, y3, y4, y5⟩ := ht5
          simp only at y0 y1 y2 y3 y4 y5
          have Tx0 := cell_regrown x0
          have Tx1 := cell_regrown x1
          have Tx2 := cell_regrown x2
          have Tx3 := cell_regrown x3
          have Tx4 := cell_regrown x4
          have Tx5 := cell_regrown x5
          have Ty0 := cell_regrown y0
          have Ty1 := cell_regrown y1
          have Ty2 := cell_regrown y2
          have Ty3 := cell_regrown y3
          have Ty4 := cell_regrown y4
          have Ty5 := cell_regrown y5
          clear x0 x1 x2 x3 x4 x5 y0 y1 y2 y3 y4 y5
          obtain ⟨P, hP⟩ : ∃ P, allD depP zs i ++ rowJ depP zs i j = P := ⟨_, rfl⟩
          rw [hP] at hown2 hPL
          have HPP := Lib.hid hP
          clear hP
          go_wp2
          refine wp_region_quiet_below (by kernel_rfl) (by kernel_rfl) ?_
          have Q1 := Lib.hid (show ∀ (dr : Nat) (os : Array Obj), Calls Try.prog 37 #[aggC ⟨xop, xd, xa, xb, xi, xt⟩, aggC ⟨yop, yd, ya, yb, yi, yt⟩] (Sort.grow (redrawn wr dr) os) fun e w'' => e = .returned (.bool B) ∧ ∃ p : Regrown, w'' = Sort.grow (redrawn wr p.d) p.os from fun dr os => Calls.regrown_of (HDJ.out _))
          iterate 6 (go_big_quiet_step ((go_at_call 37; with_reducible exact Q1.out _ _)))
          refine wpQuiet_nil ?_
          intro _ hw'
          obtain ⟨⟨dq, osq⟩, hw''⟩ := hw'
          subst hw''
          have hbq := below_regrown wr dq osq
          have hown3 := own_below hown2 hbq
          have hX2 := (hbq.block _ (lt_of_block HX.out)).trans HX.out
          have hb3 := hb2.trans (hbq.mono hb2.size)
          generalize Sort.grow (redrawn wr dq) osq = W5 at hown3 hb3 hX2 ⊢
          clear Tx0 Tx1 Tx2 Tx3 Tx4 Tx5 Ty0 Ty1 Ty2 Ty3 Ty4 Ty5 hbq hown2 hb2 Q1
          cases B
          · have HP := Lib.hid (show allD depP zs i ++ rowJ depP zs i (j + 1) = P by rw [HJ.out, if_neg (fun hh => by cases hh.2)]; exact HPP.out)
            go_wp2
            go_roundw
            case rel => exact ⟨j + 1, by omega, by omega, by go_num, by rw [HP.out]; exact hown3, hb3, Lib.hid hX2⟩
            case measure => simp [intOf]; omega
          · have HP := Lib.hid (show allD depP zs i ++ rowJ depP zs i (j + 1) = P ++ [((i : Int), (j : Int))] by rw [HJ.out, if_pos ⟨by omega, rfl⟩, ← List.append_assoc, HPP.out])
            go_wp2_with (at_builtin; refine wpList_append_own _ rfl _ _ 35 rfl w.heap.size 55 i0 (.agg #[.int .i64 0, .int .i64 0]) 2 16 Try.underlying35 hi hz0 hz1 hz2 rfl (by decide) _ _ _ rfl (hown3.alloc _) ⟨W5.heap.size, 0, none⟩ 1 1 [.int .i64 (i : Int), .int .i64 (j : Int)] rfl rfl ?kk1 ?kk2 ?kk3 ?kk4 ?kk5 ?_)
            case kk2 => exact ⟨rfl, rfl⟩
            case kk3 => unfold maxLen; omega
            case kk4 => omega
            case kk5 => have := hb3.size; simp; omega
            intro v7 w7 hown7 hgrow _
            have hb7 : Below w.heap.size w w7 := (hb3.alloc hb3.size (.cells #[.int .i64 (i : Int), .int .i64 (j : Int)] 55)).grown hgrow (by have := hb3.size; simp; omega) (own_base (hown3.alloc (.cells #[.int .i64 (i : Int), .int .i64 (j : Int)] 55)))
            have HX7 := Lib.hid (show w7.heap[X]? = some (.cells #[.int .i64 xop, .int .i64 xd, .int .i64 xa, .int .i64 xb, .int .u32 xi, .int .i64 xt] 47 (0, 0)) from grown_block hgrow ((heap_alloc_old W5 (.cells #[.int .i64 (i : Int), .int .i64 (j : Int)] 55) (lt_of_block hX2)).trans hX2) (own_tag hown3 hX2 (by decide)))
            have HO7 := Lib.hid (show w7.ownsRow w.heap.size 55 2 v7 (allD depP zs i ++ rowJ depP zs i (j + 1)).length (strV (allD depP zs i ++ rowJ depP zs i (j + 1))) by
              rw [HP.out, List.length_append, strV_append]
              exact hown7)
            clear hown3 hown7 hgrow hb3
            go_wp2
            go_roundw
            case rel => exact ⟨j + 1, by omega, by omega, by go_num, HO7.out, hb7, HX7⟩
            case measure => simp [intOf]; omega
        · obtain rfl : j = n := by omega
          go_wp2
          go_roundw
          case rel => exact ⟨i + 1, by omega, by go_num, by rw [HNX.out]; exact hown2, hb2⟩
          case measure => simp [intOf]; omega
    · obtain rfl : i = n := by omega
      go_wp2
      exact bodyPost_ret (v := .tuple #[u5, .int .i64 0]) (by simp [results, Try.results18, go_sem]) rfl ⟨_, rfl, by rw [HR.out]; exact hown, hb⟩
  · rw [hv] at HV
    rw [show resD zs = [] from if_neg (by omega), hv]
    clear h hv
    go_enter Try.func18, Try.ntmps18
    go_wp2_with fail
    refine HV.out.mono ?_
    rintro e w1 ⟨rfl, hb⟩
    go_wp2
    exact bodyPost_ret (v := .tuple #[.slice none 0 0, .int .i64 1]) (by simp [results, Try.results18, go_sem]) rfl ⟨_, rfl, World.ownsRow_nil _ _ _ _, hb⟩
  · rw [hv] at HV
    rw [show resD zs = [] from if_neg (by omega), hv]
    clear h hv
    go_enter Try.func18, Try.ntmps18
    go_wp2_with fail
    refine HV.out.mono ?_
    rintro e w1 ⟨rfl, hb⟩
    go_wp2
    exact bodyPost_ret (v := .tuple #[.slice none 0 0, .int .i64 3]) (by simp [results, Try.results18, go_sem]) rfl ⟨_, rfl, World.ownsRow_nil _ _ _ _, hb⟩
set_option maxRecDepth 100000 in
set_option maxHeartbeats 8000000 in
theorem refDependsTop_tab (h : Tab w A n c zs) : Calls Try.prog 19 #[.slice A n c] w fun e w' => ∃ V, e = .returned (.tuple #[V, .int .i64 (valF zs)]) ∧ w'.ownsRow w.heap.size 55 2 V (resD zs).length (strV (resD zs)) ∧ Below w.heap.size w w' := by
  have HV := Lib.hid (refValidate_tab h)
  rcases val_cases zs with hv | hv | hv
  · obtain ⟨i0, hi, hz0, hz1, hz2⟩ := info_parts infoSt
    have HT := Lib.hid h
    have HN := Lib.hid h.shape
    have hcap := h.2.1
    obtain ⟨h40, hval⟩ := val_all hv
    have HVA := Lib.hid hval
    have n40 : n ≤ 40 := by rw [h.shape]; exact h40
    have HR := Lib.hid (show resD zs = allD depP zs n by rw [resD, if_pos hv, ← h.shape])
    rw [hv] at HV
    rw [hv]
    clear h hv h40 hval
    go_enter Try.func19, Try.ntmps19
    go_wp2_with fail
    refine HV.out.mono ?_
    rintro e w1 ⟨rfl, hb1⟩
    go_wp2_with fail
    go_loopw [5, 6] (fun vl zi wr => ∃ i : Nat, i ≤ n ∧ zi = .int .i64 (i : Int) ∧ wr.ownsRow w.heap.size 55 2 vl (allD depP zs i).length (strV (allD depP zs i)) ∧ Below w.heap.size w wr) (fun _ zi _ => n - (intOf zi).toNat)
    case atStart => exact ⟨0, by omega, rfl, World.ownsRow_nil _ _ _ _, hb1⟩
    case round =>
    clear hb1
    obtain ⟨i, hin, rfl, hown, hb⟩ := hrel
    by_cases hlt : i < n
    · obtain ⟨b0, off, rfl, hbs, ht⟩ := (HT.out.below hb).at_ hlt
      have hv1 := HVA.out i (by rw [← HN.out]; exact hlt)
      have HNX := Lib.hid (show allD depP zs (i + 1) = allD depP zs i ++ rowJ depP zs i n by rw [HN.out]; rfl)
      have HD := Lib.hid (fun (j : Nat) (hj : j < n) w1 => have hv2 : valC zs[j]! = true := HVA.out j (by rw [← HN.out]; exact hj); show Calls Try.prog 38 #[aggC zs[i]!, aggC zs[j]!] w1 fun e w' => e = .returned (.bool (depP zs[i]! zs[j]!)) ∧ Below w1.heap.size w1 w' from (by rw [dep_eq hv1 hv2]; exact refDepends_any _ _ w1))
      have HPL := Lib.hid (allD_len depP zs i)
      have HXE := Lib.hid (rfl : zs[i]! = zs[i]!)
      obtain ⟨x, hx⟩ : ∃ x, zs[i]! = x := ⟨_, rfl⟩
      rw [hx] at ht
      simp only [hx] at HD
      have HSJ := Lib.hid (show ∀ j, rowJ depP zs i (j + 1) = if i < j ∧ depP x zs[j]! = true then rowJ depP zs i j ++ [((i : Int), (j : Int))] else rowJ depP zs i j from fun j => by rw [← hx]; rfl)
      replace HXE := Lib.hid hx
      clear hv1 hx
      obtain ⟨xop, xd, xa, xb, xi, xt⟩ := x
      obtain ⟨c0, c1, c2, c3, c4, c5⟩ := ht
      simp only at c0 c1 c2 c3 c4 c5
      clear c0 c1 c2 c3 c4 c5
      go_wp2_with fail
      go_loopw [5, 7] (fun vl zj wr2 => ∃ j : Nat, i + 1 ≤ j ∧ j ≤ n ∧ zj = .int .i64 (j : Int) ∧ wr2.ownsRow w.heap.size 55 2 vl (allD depP zs i ++ rowJ depP zs i j).length (strV (allD depP zs i ++ rowJ depP zs i j)) ∧ Below w.heap.size w wr2) (fun _ zj _ => n - (intOf zj).toNat)
      case atStart => exact ⟨i + 1, by omega, by omega, by go_num, by rw [rowJ_nil _ _ _ _ (by omega), List.append_nil]; exact hown, hb⟩
      case round =>
        obtain ⟨j, hj1, hj2, rfl, hown2, hb2⟩ := hrel
        by_cases hjn : j < n
        · have hPL : (allD depP zs i ++ rowJ depP zs i j).length ≤ 2000 := by
            rw [List.length_append]
            have h1 := HPL.out
            have h2 := rowJ_len depP zs i j
            have h3 := Nat.mul_le_mul (show i ≤ 40 by omega) (show zs.length ≤ 40 by rw [← HN.out]; exact n40)
            omega
          have HJ := Lib.hid (HSJ.out j)
          have HDJ := Lib.hid (HD.out j hjn)
          obtain ⟨b6, off6, he6, -, ht6⟩ := (HT.out.below hb2).at_ hlt
          injection he6 with he6
          injection he6 with he61 he62
          subst he61 he62
          rw [HXE.out] at ht6
          obtain ⟨x0, x1, x2, x3, x4, x5⟩ := ht6
          simp only at x0 x1 x2 x3 x4 x5
          obtain ⟨b5, off5, he5, -, ht5⟩ := (HT.out.below hb2).at_ hjn
          injection he5 with he5
          injection he5 with he51 he52
          subst he51 he52
          generalize depP ⟨xop, xd, xa, xb, xi, xt⟩ zs[j]! = B at HJ HDJ
          generalize zs[j]! = y at ht5 HDJ
          obtain ⟨yop, yd, ya, yb, yi, yt⟩ := y
          obtain ⟨y0, y1, y2, y3, y4, y5⟩ := ht5
          simp only at y0 y1 y2 y3 y4 y5
          have Tx0 := cell_regrown x0
          have Tx1 := cell_regrown x1
          have Tx2 := cell_regrown x2
          have Tx3 := cell_regrown x3
          have Tx4 := cell_regrown x4
          have Tx5 := cell_regrown x5
          have Ty0 := cell_regrown y0
          have Ty1 := cell_regrown y1
          have Ty2 := cell_regrown y2
          have Ty3 := cell_regrown y3
          have Ty4 := cell_regrown y4
          have Ty5 := cell_regrown y5
          clear x0 x1 x2 x3 x4 x5 y0 y1 y2 y3 y4 y5
          obtain ⟨P, hP⟩ : ∃ P, allD depP zs i ++ rowJ depP zs i j = P := ⟨_, rfl⟩
          rw [hP] at hown2 hPL
          have HPP := Lib.hid hP
          clear hP
          go_wp2
          refine wp_region_quiet_below (by kernel_rfl) (by kernel_rfl) ?_
          have Q1 := Lib.hid (show ∀ (dr : Nat) (os : Array Obj), Calls Try.prog 38 #[aggC ⟨xop, xd, xa, xb, xi, xt⟩, aggC ⟨yop, yd, ya, yb, yi, yt⟩] (Sort.grow (redrawn wr dr) os) fun e w'' => e = .returned (.bool B) ∧ ∃ p : Regrown, w'' = Sort.grow (redrawn wr p.d) p.os from fun dr os => Calls.regrown_of (HDJ.out _))
          iterate 9 (go_big_quiet_step ((go_at_call 38; with_reducible exact Q1.out _ _)))
          refine wpQuiet_nil ?_
          intro _ hw'
          obtain ⟨⟨dq, osq⟩, hw''⟩ := hw'
          subst hw''
          have hbq := below_regrown wr dq osq
          have hown3 := own_below hown2 hbq
          have hb3 := hb2.trans (hbq.mono hb2.size)
          generalize Sort.grow (redrawn wr dq) osq = W5 at hown3 hb3 ⊢
          clear Tx0 Tx1 Tx2 Tx3 Tx4 Tx5 Ty0 Ty1 Ty2 Ty3 Ty4 Ty5 hbq hown2 hb2 Q1
          cases B
          · have HP := Lib.hid (show allD depP zs i ++ rowJ depP zs i (j + 1) = P by rw [HJ.out, if_neg (fun hh => by cases hh.2)]; exact HPP.out)
            go_wp2
            go_roundw
            case rel => exact ⟨j + 1, by omega, by omega, by go_num, by rw [HP.out]; exact hown3, hb3⟩
            case measure => simp [intOf]; omega
          · have HP := Lib.hid (show allD depP zs i ++ rowJ depP zs i (j + 1) = P ++ [((i : Int), (j : Int))] by rw [HJ.out, if_pos ⟨by omega, rfl⟩, ← List.append_assoc, HPP.out])
            go_wp2_with (at_builtin; refine wpList_append_own _ rfl _ _ 35 rfl w.heap.size 55 i0 (.agg #[.int .i64 0, .int .i64 0]) 2 16 Try.underlying35 hi hz0 hz1 hz2 rfl (by decide) _ _ _ rfl (hown3.alloc _) ⟨W5.heap.size, 0, none⟩ 1 1 [.int .i64 (i : Int), .int .i64 (j : Int)] rfl rfl ?kk1 ?kk2 ?kk3 ?kk4 ?kk5 ?_)
            case kk2 => exact ⟨rfl, rfl⟩
            case kk3 => unfold maxLen; omega
            case kk4 => omega
            case kk5 => have := hb3.size; simp; omega
            intro v7 w7 hown7 hgrow _
            have hb7 : Below w.heap.size w w7 := (hb3.alloc hb3.size (.cells #[.int .i64 (i : Int), .int .i64 (j : Int)] 55)).grown hgrow (by have := hb3.size; simp; omega) (own_base (hown3.alloc (.cells #[.int .i64 (i : Int), .int .i64 (j : Int)] 55)))
            have HO7 := Lib.hid (show w7.ownsRow w.heap.size 55 2 v7 (allD depP zs i ++ rowJ depP zs i (j + 1)).length (strV (allD depP zs i ++ rowJ depP zs i (j + 1))) by
              rw [HP.out, List.length_append, strV_append]
              exact hown7)
            clear hown3 hown7 hgrow hb3
            go_wp2
            go_roundw
            case rel => exact ⟨j + 1, by omega, by omega, by go_num, HO7.out, hb7⟩
            case measure => simp [intOf]; omega
        · obtain rfl : j = n := by omega
          go_wp2
          go_roundw
          case rel => exact ⟨i + 1, by omega, by go_num, by rw [HNX.out]; exact hown2, hb2⟩
          case measure => simp [intOf]; omega
    · obtain rfl : i = n := by omega
      go_wp2
      exact bodyPost_ret (v := .tuple #[u5, .int .i64 0]) (by simp [results, Try.results19, go_sem]) rfl ⟨_, rfl, by rw [HR.out]; exact hown, hb⟩
  · rw [hv] at HV
    rw [show resD zs = [] from if_neg (by omega), hv]
    clear h hv
    go_enter Try.func19, Try.ntmps19
    go_wp2_with fail
    refine HV.out.mono ?_
    rintro e w1 ⟨rfl, hb⟩
    go_wp2
    exact bodyPost_ret (v := .tuple #[.slice none 0 0, .int .i64 1]) (by simp [results, Try.results19, go_sem]) rfl ⟨_, rfl, World.ownsRow_nil _ _ _ _, hb⟩
  · rw [hv] at HV
    rw [show resD zs = [] from if_neg (by omega), hv]
    clear h hv
    go_enter Try.func19, Try.ntmps19
    go_wp2_with fail
    refine HV.out.mono ?_
    rintro e w1 ⟨rfl, hb⟩
    go_wp2
    exact bodyPost_ret (v := .tuple #[.slice none 0 0, .int .i64 3]) (by simp [results, Try.results19, go_sem]) rfl ⟨_, rfl, World.ownsRow_nil _ _ _ _, hb⟩
end
end Go.Proofs.Ytjlacdnkncgpaaa
