/-
  widthsFit of the program.
-/
import Derived.Test.YtbohigjfdnnomaaGreatDoorTeD
namespace Go.Proofs.YtbohigjfdnnomaaGreatDoor
open Go.RowKit

/-- A block of three numbers. -/
def I3 (w : World) (B : Nat) (f : Nat → Int) : Prop := w.heap[B]? = some (.cells #[.int .i64 (f 0), .int .i64 (f 1), .int .i64 (f 2)] 97 (0, 0))
theorem I3.put {w : World} {B : Nat} {f g : Nat → Int} (h : I3 w B f) {j : Nat} (hj : j < 3) (v : Int) (hg : ∀ i, i < 3 → g i = if i = j then v else f i) : I3 (w.setCell ⟨B, j, none⟩ (.int .i64 v)) B g := by
  unfold I3 at h ⊢
  rw [hg 0 (by omega), hg 1 (by omega), hg 2 (by omega), heap_setCell_same w B j _ _ _ h]
  match j, hj with
  | 0, _ => rfl
  | 1, _ => rfl
  | 2, _ => rfl
theorem I3.cell {w : World} {B : Nat} {f : Nat → Int} (h : I3 w B f) {j : Nat} (hj : j < 3) : w.cell? ⟨B, j, none⟩ = some (.int .i64 (f j)) ∧ w.frozen? ⟨B, j, none⟩ = false := by
  unfold I3 at h
  refine ⟨?_, by simp [World.frozen?, h]⟩
  match j, hj with
  | 0, _ => simp [World.cell?, h]
  | 1, _ => simp [World.cell?, h]
  | 2, _ => simp [World.cell?, h]
theorem argN_le {op : Int} : argN op ≤ 3 := by
  unfold argN
  split
  · omega
  · split
    · omega
    · split <;> omega
theorem fit_def (T : List Nd) (x : Nd) : fitB T x = if 1 ≤ x.op ∧ x.op ≤ 13 then decide (wOf T x 0 = x.width) && decide (wOf T x 1 = x.width)
  else if x.op = 14 then decide (wOf T x 0 = wOf T x 1)
  else if x.op = 15 then decide (wOf T x 0 = 1) && (decide (wOf T x 1 = x.width) && decide (wOf T x 2 = x.width))
  else if x.op = 16 ∨ x.op = 17 then decide (wOf T x 0 < x.width)
  else if x.op = 18 then decide (x.width < wOf T x 0) else true := rfl
set_option maxRecDepth 100000 in
set_option maxHeartbeats 4000000 in
theorem fit_any {w : World} {A : Option Addr} {n c : Nat} {T : List Nd} (h : Term w A n c T) (x : Nd) (A' : Option Addr) (n' c' : Nat) (hI : Ints w A' n' c' x.args) (ho : isOpB x.op = true) (hn : (n' : Int) = argN x.op) (ha : ∀ i, i < n' → 0 ≤ x.args[i]! ∧ x.args[i]! < (n : Int)) :
    Calls Tryz.prog 52 #[.slice A n c, .agg #[.int .i64 x.op, .int .i64 x.width, .int .i64 x.flags, .slice A' n' c', .int .u32 x.imm]] w fun e w' => e = .returned (.bool (fitB T x)) ∧ Below w.heap.size w w' := by
  have H := Lib.hid h
  have HII := Lib.hid hI
  have hcap := hI.2.1
  have hmax := hI.2.2.1
  have hcapT := h.2.1
  have hmaxT := h.2.2.1
  have hn3 : n' ≤ 3 := by have := argN_le (op := x.op); omega
  have HA := Lib.hid ha
  have HW := Lib.hid (fun i => show wOf T x i = (T[(x.args[i]!).toNat]!).width from rfl)
  have HF := Lib.hid (fit_def T x)
  have HO := Lib.hid (of_decide_eq_true ho)
  have HAN := Lib.hid hn
  generalize fitB T x = F at HF ⊢
  generalize wOf T x = f at HW HF
  clear h hI ha ho hn
  obtain ⟨op, wid, fl, args, imm⟩ := x
  simp only at HII HA HW HF HO HAN ⊢
  have HAR := Lib.hid (fun w1 => termIsArithmetic_any op w1)
  have HARB := Lib.hid (show arB op = decide (1 ≤ op ∧ op ≤ 13) from rfl)
  generalize arB op = ab at HAR HARB
  go_enter Tryz.func52, Tryz.ntmps52
  go_upto_region 1 with fail
  have hx := heap_alloc_new w (.cells #[.int .i64 op, .int .i64 wid, .int .i64 fl, .slice A' n' c', .int .u32 imm] 38)
  have hb : Below w.heap.size w (w.alloc (.cells #[.int .i64 op, .int .i64 wid, .int .i64 fl, .slice A' n' c', .int .u32 imm] 38)) := (Below.refl _ _).alloc (Nat.le_refl _) _
  have hz : (w.alloc (.cells #[.int .i64 op, .int .i64 wid, .int .i64 fl, .slice A' n' c', .int .u32 imm] 38)).heap.size = w.heap.size + 1 := by simp
  generalize World.alloc w _ = W1 at hx hb hz ⊢
  go_upto_region 2 with fail
  have hI3 : I3 (W1.alloc (.cells #[.int .i64 0, .int .i64 0, .int .i64 0] 97)) (w.heap.size + 1) (fun _ => 0) := by
    unfold I3
    rw [← hz]
    exact heap_alloc_new W1 _
  replace hx := (heap_alloc_old W1 (.cells #[.int .i64 0, .int .i64 0, .int .i64 0] 97) (lt_of_block hx)).trans hx
  replace hb := hb.alloc hb.size (.cells #[.int .i64 0, .int .i64 0, .int .i64 0] 97)
  generalize World.alloc W1 _ = W2 at hx hb hI3 ⊢
  obtain ⟨-, -, -, c3, -⟩ := cells5 (x := ⟨op, wid, fl, args, imm⟩) hx
  have hBl := lt_of_block hx
  clear hz
  go_wp2
  clear c3 hBl
  go_loopw [11] (fun zi wr => ∃ i : Nat, i ≤ n' ∧ zi = .int .i64 (i : Int) ∧ Below w.heap.size w wr ∧ wr.heap[w.heap.size]? = some (.cells #[.int .i64 op, .int .i64 wid, .int .i64 fl, .slice A' n' c', .int .u32 imm] 38 (0, 0)) ∧ I3 wr (w.heap.size + 1) (fun j => if j < i then f j else 0)) (fun zi _ => n' - (intOf zi).toNat)
  case atStart => exact ⟨0, by omega, rfl, hb, hx, hI3⟩
  case round =>
    clear hb hx hI3
    obtain ⟨i, hi, rfl, hb, hx, hI3⟩ := hrel
    by_cases hlt : i < n'
    · obtain ⟨b', off', rfl, hbs', hc'⟩ := (HII.out.below hb).at_ hlt
      have hai := HA.out i hlt
      have HWI := Lib.hid (HW.out i)
      obtain ⟨p, hp⟩ : ∃ p : Nat, args[i]! = (p : Int) := ⟨(args[i]!).toNat, by omega⟩
      rw [hp] at hc' hai HWI
      rw [Int.toNat_natCast] at HWI
      obtain ⟨bT, oT, A3, n3, c3, rfl, hbT, ⟨-, t1, -, -, -⟩, -⟩ := (H.out.below hb).at_ (show p < n by omega)
      rw [← HWI.out] at t1
      obtain ⟨hcell, hfree⟩ := hI3.cell (j := i) (by omega)
      have hI4 := Lib.hid (hI3.put (g := fun j => if j < i + 1 then f j else 0) (j := i) (by omega) (f i) (fun j hj => by
        by_cases e : j = i
        · subst e
          simp
        · have : (j < i + 1) = (j < i) := by rw [eq_iff_iff]; omega
          simp [e, this]))
      have hb2 := Lib.hid (hb.setCell (p := ⟨w.heap.size + 1, i, none⟩) (show w.heap.size ≤ w.heap.size + 1 by omega) (.int .i64 (f i)))
      have hx2 := Lib.hid ((heap_setCell_other wr ⟨w.heap.size + 1, i, none⟩ w.heap.size (.int .i64 (f i)) (by simp)).trans hx)
      generalize f i = fi at t1 hI4 hb2 hx2
      clear hp hI3 hb hx
      go_wp2
      go_roundw
      case rel => exact ⟨i + 1, by omega, by go_num, hb2.out, hx2.out, hI4.out⟩
      case measure => simp [intOf]; omega
    · obtain rfl : i = n' := by omega
      obtain ⟨a0, a1, -, -, -⟩ := cells5 (x := ⟨op, wid, fl, args, imm⟩) hx
      simp only at a0 a1
      have hBl := lt_of_block hx
      have k0 := (hI3.cell (j := 0) (by omega)).1
      have k1 := (hI3.cell (j := 1) (by omega)).1
      have k2 := (hI3.cell (j := 2) (by omega)).1
      have HBB := Lib.hid hb
      have hIl := lt_of_block hI3
      clear hb hx hI3 hcap hn3 HII H hi hlt hcapT
      cases ab
      · have hna := of_decide_eq_false HARB.out.symm
        have HF1 := Lib.hid (HF.out.trans (if_neg hna))
        by_cases o14 : op = 14
        · obtain rfl : i = 2 := by have := HAN.out; rw [o14] at this; have e : argN 14 = 2 := rfl; omega
          rw [if_pos (by omega)] at k0 k1
          have HF2 := Lib.hid (HF1.out.trans (if_pos o14))
          have e1 : (op == 14) = true := by simp [o14]
          generalize f 0 = f0 at k0 HF2
          generalize f 1 = f1 at k1 HF2
          have HF3 := Lib.hid (show F = (f0 == f1) by rw [HF2.out, Bool.eq_iff_iff, decide_eq_true_iff, beq_iff_eq])
          clear hna o14 k2
          go_wp2_with fail
          refine (HAR.out _).mono ?_
          rintro e w3 ⟨rfl, rfl⟩
          go_wp2
          go_ret
          exact ⟨ret_b HF3.out.symm, HBB.out⟩
        · have e1 : (op == 14) = false := beq_false_of_ne o14
          have HF2 := Lib.hid (HF1.out.trans (if_neg o14))
          by_cases o15 : op = 15
          · obtain rfl : i = 3 := by have := HAN.out; rw [o15] at this; have e : argN 15 = 3 := rfl; omega
            rw [if_pos (by omega)] at k0 k1 k2
            have HF3 := Lib.hid (HF2.out.trans (if_pos o15))
            have e2 : (op == 15) = true := by simp [o15]
            generalize f 0 = f0 at k0 HF3
            generalize f 1 = f1 at k1 HF3
            generalize f 2 = f2 at k2 HF3
            clear hna o14 o15
            by_cases q0 : f0 = 1
            · have e3 : (f0 == 1) = true := by simp [q0]
              by_cases q1 : f1 = wid
              · have e4 : (f1 == wid) = true := by simp [q1]
                have HF4 := Lib.hid (show F = (f2 == wid) by rw [HF3.out, decide_eq_true q0, decide_eq_true q1, Bool.true_and, Bool.true_and, Bool.eq_iff_iff, decide_eq_true_iff, beq_iff_eq])
                clear q0 q1
                go_wp2_with fail
                refine (HAR.out _).mono ?_
                rintro e w3 ⟨rfl, rfl⟩
                go_wp2
                go_ret
                exact ⟨ret_b HF4.out.symm, HBB.out⟩
              · have e4 : (f1 == wid) = false := beq_false_of_ne q1
                have HF4 := Lib.hid (show F = false by rw [HF3.out, decide_eq_false q1, Bool.false_and, Bool.and_false])
                clear q0 q1
                go_wp2_with fail
                refine (HAR.out _).mono ?_
                rintro e w3 ⟨rfl, rfl⟩
                go_wp2
                go_ret
                exact ⟨ret_b HF4.out.symm, HBB.out⟩
            · have e3 : (f0 == 1) = false := beq_false_of_ne q0
              have HF4 := Lib.hid (show F = false by rw [HF3.out, decide_eq_false q0, Bool.false_and])
              clear q0
              go_wp2_with fail
              refine (HAR.out _).mono ?_
              rintro e w3 ⟨rfl, rfl⟩
              go_wp2
              go_ret
              exact ⟨ret_b HF4.out.symm, HBB.out⟩
          · have e2 : (op == 15) = false := beq_false_of_ne o15
            have HF3 := Lib.hid (HF2.out.trans (if_neg o15))
            by_cases o16 : op = 16 ∨ op = 17
            · obtain rfl : i = 1 := by have := HAN.out; unfold argN at this; rw [if_neg (by omega), if_neg o15, if_neg (by omega)] at this; omega
              rw [if_pos (by omega)] at k0
              have HF4 := Lib.hid (HF3.out.trans (if_pos o16))
              generalize f 0 = f0 at k0 HF4
              rcases o16 with o16 | o16
              · have e3 : (op == 16) = true := by simp [o16]
                clear hna o14 o15 o16 k1 k2
                go_wp2_with fail
                refine (HAR.out _).mono ?_
                rintro e w3 ⟨rfl, rfl⟩
                go_wp2
                go_ret
                exact ⟨ret_b HF4.out.symm, HBB.out⟩
              · have e3 : (op == 16) = false := by simp [o16]
                have e4 : (op == 17) = true := by simp [o16]
                clear hna o14 o15 o16 k1 k2
                go_wp2_with fail
                refine (HAR.out _).mono ?_
                rintro e w3 ⟨rfl, rfl⟩
                go_wp2
                go_ret
                exact ⟨ret_b HF4.out.symm, HBB.out⟩
            · have e3 : (op == 16) = false := beq_false_of_ne (by omega)
              have e4 : (op == 17) = false := beq_false_of_ne (by omega)
              have HF4 := Lib.hid (HF3.out.trans (if_neg o16))
              by_cases o18 : op = 18
              · obtain rfl : i = 1 := by have := HAN.out; unfold argN at this; rw [if_neg (by omega), if_neg o15, if_neg (by omega)] at this; omega
                rw [if_pos (by omega)] at k0
                have HF5 := Lib.hid (HF4.out.trans (if_pos o18))
                have e5 : (op == 18) = true := by simp [o18]
                generalize f 0 = f0 at k0 HF5
                clear hna o14 o15 o16 o18 k1 k2
                go_wp2_with fail
                refine (HAR.out _).mono ?_
                rintro e w3 ⟨rfl, rfl⟩
                go_wp2
                go_ret
                exact ⟨ret_b HF5.out.symm, HBB.out⟩
              · have HF5 := Lib.hid (HF4.out.trans (if_neg o18))
                have e5 : (op == 18) = false := beq_false_of_ne o18
                clear hna o14 o15 o16 o18 k0 k1 k2
                go_wp2_with fail
                refine (HAR.out _).mono ?_
                rintro e w3 ⟨rfl, rfl⟩
                go_wp2
                go_ret
                exact ⟨ret_b HF5.out.symm, HBB.out⟩
      · have hna := of_decide_eq_true HARB.out.symm
        have HF1 := Lib.hid (HF.out.trans (if_pos hna))
        obtain rfl : i = 2 := by have := HAN.out; rw [show argN op = 2 from if_pos (by omega)] at this; omega
        rw [if_pos (by omega)] at k0 k1
        generalize f 0 = f0 at k0 HF1
        generalize f 1 = f1 at k1 HF1
        clear hna k2
        by_cases q0 : f0 = wid
        · have e3 : (f0 == wid) = true := by simp [q0]
          have HF4 := Lib.hid (show F = (f1 == wid) by rw [HF1.out, decide_eq_true q0, Bool.true_and, Bool.eq_iff_iff, decide_eq_true_iff, beq_iff_eq])
          clear q0
          go_wp2_with fail
          refine (HAR.out _).mono ?_
          rintro e w3 ⟨rfl, rfl⟩
          go_wp2
          go_ret
          exact ⟨ret_b HF4.out.symm, HBB.out⟩
        · have e3 : (f0 == wid) = false := beq_false_of_ne q0
          have HF4 := Lib.hid (show F = false by rw [HF1.out, decide_eq_false q0, Bool.false_and])
          clear q0
          go_wp2_with fail
          refine (HAR.out _).mono ?_
          rintro e w3 ⟨rfl, rfl⟩
          go_wp2
          go_ret
          exact ⟨ret_b HF4.out.symm, HBB.out⟩
end Go.Proofs.YtbohigjfdnnomaaGreatDoor
