/-
  The reference: has, reaches, Validate.
-/
import Derived.Test.YthkaclmnbahieaaDoorRvH
namespace Go.Proofs.YthkaclmnbahieaaDoor
open Go.RowKit

theorem has_any (s : Nat) (hs : s ≤ 9) (w : World) : Calls Tryd.prog 40 #[.int .i64 (s : Int)] w fun e w' => e = .returned (.tuple #[.bool (hasD (kS s)), .bool (hasA (kS s)), .bool (hasB (kS s)), .bool (hasI (kS s))]) ∧ w' = w := by
  obtain rfl | rfl | rfl | rfl | rfl | rfl | rfl | rfl | rfl | rfl : s = 0 ∨ s = 1 ∨ s = 2 ∨ s = 3 ∨ s = 4 ∨ s = 5 ∨ s = 6 ∨ s = 7 ∨ s = 8 ∨ s = 9 := by omega
  · rw [show (((0 : Nat)) : Int) = 0 from rfl]
    go_enter Tryd.func40, Tryd.ntmps40
    go_wp2
    exact bodyPost_ret (v := .tuple #[.bool true, .bool true, .bool true, .bool false]) (by simp [results, Tryd.results40, go_sem]) rfl ⟨rfl, rfl⟩
  · rw [show (((1 : Nat)) : Int) = 1 from rfl]
    go_enter Tryd.func40, Tryd.ntmps40
    go_wp2
    exact bodyPost_ret (v := .tuple #[.bool true, .bool true, .bool false, .bool true]) (by simp [results, Tryd.results40, go_sem]) rfl ⟨rfl, rfl⟩
  · rw [show (((2 : Nat)) : Int) = 2 from rfl]
    go_enter Tryd.func40, Tryd.ntmps40
    go_wp2
    exact bodyPost_ret (v := .tuple #[.bool true, .bool true, .bool false, .bool true]) (by simp [results, Tryd.results40, go_sem]) rfl ⟨rfl, rfl⟩
  · rw [show (((3 : Nat)) : Int) = 3 from rfl]
    go_enter Tryd.func40, Tryd.ntmps40
    go_wp2
    exact bodyPost_ret (v := .tuple #[.bool true, .bool false, .bool false, .bool true]) (by simp [results, Tryd.results40, go_sem]) rfl ⟨rfl, rfl⟩
  · rw [show (((4 : Nat)) : Int) = 4 from rfl]
    go_enter Tryd.func40, Tryd.ntmps40
    go_wp2
    exact bodyPost_ret (v := .tuple #[.bool true, .bool true, .bool false, .bool true]) (by simp [results, Tryd.results40, go_sem]) rfl ⟨rfl, rfl⟩
  · rw [show (((5 : Nat)) : Int) = 5 from rfl]
    go_enter Tryd.func40, Tryd.ntmps40
    go_wp2
    exact bodyPost_ret (v := .tuple #[.bool false, .bool true, .bool true, .bool true]) (by simp [results, Tryd.results40, go_sem]) rfl ⟨rfl, rfl⟩
  · rw [show (((6 : Nat)) : Int) = 6 from rfl]
    go_enter Tryd.func40, Tryd.ntmps40
    go_wp2
    exact bodyPost_ret (v := .tuple #[.bool false, .bool true, .bool true, .bool true]) (by simp [results, Tryd.results40, go_sem]) rfl ⟨rfl, rfl⟩
  · rw [show (((7 : Nat)) : Int) = 7 from rfl]
    go_enter Tryd.func40, Tryd.ntmps40
    go_wp2
    exact bodyPost_ret (v := .tuple #[.bool true, .bool false, .bool false, .bool true]) (by simp [results, Tryd.results40, go_sem]) rfl ⟨rfl, rfl⟩
  · rw [show (((8 : Nat)) : Int) = 8 from rfl]
    go_enter Tryd.func40, Tryd.ntmps40
    go_wp2
    exact bodyPost_ret (v := .tuple #[.bool true, .bool true, .bool false, .bool true]) (by simp [results, Tryd.results40, go_sem]) rfl ⟨rfl, rfl⟩
  · rw [show (((9 : Nat)) : Int) = 9 from rfl]
    go_enter Tryd.func40, Tryd.ntmps40
    go_wp2
    exact bodyPost_ret (v := .tuple #[.bool false, .bool false, .bool false, .bool false]) (by simp [results, Tryd.results40, go_sem]) rfl ⟨rfl, rfl⟩
theorem within_sym (n lo hi : Int) (w : World) : Calls Tryd.prog 38 #[.int .i64 n, .int .i64 lo, .int .i64 hi] w fun e w' => e = .returned (.bool (decide (lo ≤ n ∧ n ≤ hi))) ∧ w = w' := (within_any n lo hi w).mono fun _ _ h => ⟨h.1, h.2.symm⟩
/-- Whether a number can be the Imm of a kind. -/
def reachB (k : Nat) (n : Int) : Bool := decide (lowT k ≤ n) && (decide (n ≤ highT k) && (!evenT k || decide (n % 2 = 0)))
set_option maxRecDepth 100000 in
theorem reaches_any (s : Nat) (h1 : 1 ≤ s) (hs : s ≤ 8) (n : Int) (w : World) : Calls Tryd.prog 42 #[.int .i64 (s : Int), .int .i64 n] w fun e w' => e = .returned (.bool (reachB (kS s) n)) ∧ w' = w := by
  have HW := Lib.hid (fun lo hi w1 => within_any n lo hi w1)
  obtain rfl | rfl | rfl | rfl | rfl | rfl | rfl | rfl : s = 1 ∨ s = 2 ∨ s = 3 ∨ s = 4 ∨ s = 5 ∨ s = 6 ∨ s = 7 ∨ s = 8 := by omega
  · rw [show (((1 : Nat)) : Int) = 1 from rfl]
    have HW2 := Lib.hid (HW.out (-2048) (2047))
    clear HW
    have hr : reachB (kS 1) n = decide ((-2048 : Int) ≤ n ∧ n ≤ 2047) := by
      show (decide ((-2048 : Int) ≤ n) && (decide (n ≤ (2047 : Int)) && (!false || decide (n % 2 = 0)))) = _
      simp
    rw [hr]
    go_enter Tryd.func42, Tryd.ntmps42
    go_wp2_with (with_reducible refine (HW2.out _).mono ?_; rintro e w' ⟨rfl, rfl⟩)
    go_ret
    exact ⟨ret_b (by simp), rfl⟩
  · rw [show (((2 : Nat)) : Int) = 2 from rfl]
    have HW2 := Lib.hid (HW.out (0) (31))
    clear HW
    have hr : reachB (kS 2) n = decide ((0 : Int) ≤ n ∧ n ≤ 31) := by
      show (decide ((0 : Int) ≤ n) && (decide (n ≤ (31 : Int)) && (!false || decide (n % 2 = 0)))) = _
      simp
    rw [hr]
    go_enter Tryd.func42, Tryd.ntmps42
    go_wp2_with (with_reducible refine (HW2.out _).mono ?_; rintro e w' ⟨rfl, rfl⟩)
    go_ret
    exact ⟨ret_b (by simp), rfl⟩
  · rw [show (((3 : Nat)) : Int) = 3 from rfl]
    have HW2 := Lib.hid (HW.out (0) (1048575))
    clear HW
    have hr : reachB (kS 3) n = decide ((0 : Int) ≤ n ∧ n ≤ 1048575) := by
      show (decide ((0 : Int) ≤ n) && (decide (n ≤ (1048575 : Int)) && (!false || decide (n % 2 = 0)))) = _
      simp
    rw [hr]
    go_enter Tryd.func42, Tryd.ntmps42
    go_wp2_with (with_reducible refine (HW2.out _).mono ?_; rintro e w' ⟨rfl, rfl⟩)
    go_ret
    exact ⟨ret_b (by simp), rfl⟩
  · rw [show (((4 : Nat)) : Int) = 4 from rfl]
    have HW2 := Lib.hid (HW.out (-2048) (2047))
    clear HW
    have hr : reachB (kS 4) n = decide ((-2048 : Int) ≤ n ∧ n ≤ 2047) := by
      show (decide ((-2048 : Int) ≤ n) && (decide (n ≤ (2047 : Int)) && (!false || decide (n % 2 = 0)))) = _
      simp
    rw [hr]
    go_enter Tryd.func42, Tryd.ntmps42
    go_wp2_with (with_reducible refine (HW2.out _).mono ?_; rintro e w' ⟨rfl, rfl⟩)
    go_ret
    exact ⟨ret_b (by simp), rfl⟩
  · rw [show (((5 : Nat)) : Int) = 5 from rfl]
    have HW2 := Lib.hid (HW.out (-2048) (2047))
    clear HW
    have hr : reachB (kS 5) n = decide ((-2048 : Int) ≤ n ∧ n ≤ 2047) := by
      show (decide ((-2048 : Int) ≤ n) && (decide (n ≤ (2047 : Int)) && (!false || decide (n % 2 = 0)))) = _
      simp
    rw [hr]
    go_enter Tryd.func42, Tryd.ntmps42
    go_wp2_with (with_reducible refine (HW2.out _).mono ?_; rintro e w' ⟨rfl, rfl⟩)
    go_ret
    exact ⟨ret_b (by simp), rfl⟩
  · rw [show (((6 : Nat)) : Int) = 6 from rfl]
    have HW2 := Lib.hid (HW.out (-4096) (4094))
    clear HW
    by_cases he : n % 2 = 0
    · have e2 : Int.tmod n 2 = 0 := (tmod2 n).2 he
      have hr : reachB (kS 6) n = decide ((-4096 : Int) ≤ n ∧ n ≤ 4094) := by
        show (decide ((-4096 : Int) ≤ n) && (decide (n ≤ (4094 : Int)) && (!true || decide (n % 2 = 0)))) = _
        rw [decide_eq_true he]
        simp
      rw [hr]
      go_enter Tryd.func42, Tryd.ntmps42
      go_wp2_with (with_reducible refine (HW2.out _).mono ?_; rintro e w' ⟨rfl, rfl⟩)
      go_ret
      exact ⟨ret_b (by simp), rfl⟩
    · have e2 : ¬ Int.tmod n 2 = 0 := fun h => he ((tmod2 n).1 h)
      have hr : reachB (kS 6) n = false := by
        show (decide ((-4096 : Int) ≤ n) && (decide (n ≤ (4094 : Int)) && (!true || decide (n % 2 = 0)))) = _
        rw [decide_eq_false he]
        simp
      rw [hr]
      clear hr he
      go_enter Tryd.func42, Tryd.ntmps42
      go_wp2_with (with_reducible refine (HW2.out _).mono ?_; rintro e w' ⟨rfl, rfl⟩)
      go_ret
      exact ⟨ret_b (by simp), rfl⟩
  · rw [show (((7 : Nat)) : Int) = 7 from rfl]
    have HW2 := Lib.hid (HW.out (-1048576) (1048574))
    clear HW
    by_cases he : n % 2 = 0
    · have e2 : Int.tmod n 2 = 0 := (tmod2 n).2 he
      have hr : reachB (kS 7) n = decide ((-1048576 : Int) ≤ n ∧ n ≤ 1048574) := by
        show (decide ((-1048576 : Int) ≤ n) && (decide (n ≤ (1048574 : Int)) && (!true || decide (n % 2 = 0)))) = _
        rw [decide_eq_true he]
        simp
      rw [hr]
      go_enter Tryd.func42, Tryd.ntmps42
      go_wp2_with (with_reducible refine (HW2.out _).mono ?_; rintro e w' ⟨rfl, rfl⟩)
      go_ret
      exact ⟨ret_b (by simp), rfl⟩
    · have e2 : ¬ Int.tmod n 2 = 0 := fun h => he ((tmod2 n).1 h)
      have hr : reachB (kS 7) n = false := by
        show (decide ((-1048576 : Int) ≤ n) && (decide (n ≤ (1048574 : Int)) && (!true || decide (n % 2 = 0)))) = _
        rw [decide_eq_false he]
        simp
      rw [hr]
      clear hr he
      go_enter Tryd.func42, Tryd.ntmps42
      go_wp2_with (with_reducible refine (HW2.out _).mono ?_; rintro e w' ⟨rfl, rfl⟩)
      go_ret
      exact ⟨ret_b (by simp), rfl⟩
  · rw [show (((8 : Nat)) : Int) = 8 from rfl]
    have HW2 := Lib.hid (HW.out (-2048) (2047))
    clear HW
    have hr : reachB (kS 8) n = decide ((-2048 : Int) ≤ n ∧ n ≤ 2047) := by
      show (decide ((-2048 : Int) ≤ n) && (decide (n ≤ (2047 : Int)) && (!false || decide (n % 2 = 0)))) = _
      simp
    rw [hr]
    go_enter Tryd.func42, Tryd.ntmps42
    go_wp2_with (with_reducible refine (HW2.out _).mono ?_; rintro e w' ⟨rfl, rfl⟩)
    go_ret
    exact ⟨ret_b (by simp), rfl⟩
theorem RA_at {i j : Nat} (hi : i < 41) (hj : j < 4) : RA[i * 4 + j]? = (rfC i)[j]? := rowsC_at (f := rfC) (k := 4) (fun _ => rfl) hi hj
set_option maxRecDepth 100000 in
set_option maxHeartbeats 8000000 in
theorem refValidate_bad (op d a b imm : Int) (w : World) (h : op < 0 ∨ 40 < op) : Calls Tryd.prog 15 #[rvA op d a b imm] w fun e w' => e = .returned (.int .i64 1) ∧ Below w.heap.size w w' := by
  have HW := Lib.hid (fun w1 => within_any op 0 40 w1)
  have e1 : decide (0 ≤ op ∧ op ≤ 40) = false := decide_eq_false (by omega)
  rw [e1] at HW
  clear e1 h
  go_enter Tryd.func15, Tryd.ntmps15
  go_wp2_with (with_reducible refine (HW.out _).mono ?_; rintro e w' ⟨rfl, rfl⟩)
  go_ret
  exact ⟨rfl, (Below.refl _ _).alloc (Nat.le_refl _) _⟩
def valR (r1 r2 r3 hi re : Bool) (imm : Int) : Int := if r1 && (r2 && (r3 && ((!hi || re) && (hi || decide (imm = 0))))) then 0 else 1
theorem valR_eq (k : Nat) (hk : k ≤ 7) (d a b imm : Int) : valI k d a b imm = valR (decide (regF (hasD k) d)) (decide (regF (hasA k) a)) (decide (regF (hasB k) b)) (hasI k) (reachB k imm) imm := by
  rw [valB_eq]
  unfold valB valR
  generalize decide (regF (hasD k) d) = r1
  generalize decide (regF (hasA k) a) = r2
  generalize decide (regF (hasB k) b) = r3
  have e : (decide (lowT k ≤ imm) && (decide (imm ≤ highT k) && (!evenT k || decide (imm % 2 = 0)))) = ((!hasI k || reachB k imm) && (hasI k || decide (imm = 0))) := by
    obtain rfl | rfl | rfl | rfl | rfl | rfl | rfl | rfl : k = 0 ∨ k = 1 ∨ k = 2 ∨ k = 3 ∨ k = 4 ∨ k = 5 ∨ k = 6 ∨ k = 7 := by omega
    all_goals simp [hasI, reachB, lowT, highT, evenT]
    all_goals (rw [Bool.eq_iff_iff]; simp; omega)
  rw [e]
set_option maxRecDepth 100000 in
set_option maxHeartbeats 8000000 in
theorem refValidate_row (i : Nat) (d a b imm : Int) (w : World) (hi : i < 41) : Calls Tryd.prog 15 #[rvA i d a b imm] w fun e w' => e = .returned (.int .i64 (valI (kT i) d a b imm)) ∧ Below w.heap.size w w' := by
  have hk := kT_le hi
  have HV := Lib.hid (valR_eq (kT i) hk d a b imm)
  have HW := Lib.hid (fun w1 => within_sym (i : Int) 0 40 w1)
  have e1 : decide ((0 : Int) ≤ (i : Int) ∧ (i : Int) ≤ 40) = true := decide_eq_true (by omega)
  rw [e1] at HW
  clear e1
  have HH := Lib.hid (fun w1 => has_any (shT i) (shT_le hi) w1)
  have HR := Lib.hid (fun h1 h2 w1 => reaches_any (shT i) h1 h2 imm w1)
  rw [kS_of hi] at HH HR
  have hI : hasI (kT i) = true → 1 ≤ shT i ∧ shT i ≤ 8 := by
    have : ∀ i, i < 41 → hasI (kT i) = true → 1 ≤ shT i ∧ shT i ≤ 8 := by decide +kernel
    exact this i hi
  have HI := Lib.hid hI
  have R1 := Lib.hid (fun w1 => refIsRegister_any d (hasD (kT i)) w1)
  have R2 := Lib.hid (fun w1 => refIsRegister_any a (hasA (kT i)) w1)
  have R3 := Lib.hid (fun w1 => refIsRegister_any b (hasB (kT i)) w1)
  have HC := Lib.hid (fun w1 => forms_any w1)
  have q0 : RA[i * 4]? = some (.int .i64 (shT i : Nat)) := RA_at hi (j := 0) (by omega)
  have hb : Below w.heap.size w (w.alloc (.cells #[.int .i64 i, .int .i64 d, .int .i64 a, .int .i64 b, .int .i64 imm] 23)) := (Below.refl _ _).alloc (Nat.le_refl _) _
  have hx := heap_alloc_new w (.cells #[.int .i64 i, .int .i64 d, .int .i64 a, .int .i64 b, .int .i64 imm] 23)
  clear hI
  go_enter Tryd.func15, Tryd.ntmps15
  go_upto_region 1 with fail
  generalize World.alloc w _ = W at hx hb ⊢
  obtain ⟨X, hX⟩ : ∃ X, X = w.heap.size := ⟨_, rfl⟩
  rw [← hX] at hx hb ⊢
  have HX := Lib.hid hX
  have lX := lt_of_block hx
  obtain ⟨x0, x1, x2, x3, x4⟩ := cells5r hx
  clear hX
  have HXX := Lib.hid hx
  clear hx
  go_upto_region 3 with (with_reducible refine (HW.out _).mono ?_; rintro e w' ⟨rfl, rfl⟩)
  clear HW
  have hne := World.new_ne W _ x0
  go_cut [3] from 4 (fun s3 wx => s3 = .int .i64 (shT i : Nat) ∧ Below W.heap.size W wx)
  case first =>
    have hi1 : (i : Int) < 41 := by omega
    have hi0 : (0 : Int) ≤ (i : Int) := by omega
    go_region_with (go_at_call 39; refine (HC.out _).mono ?_; rintro e w' ⟨rfl, rfl⟩)
    all_goals go_wp2_with fail
    all_goals go_meet
    all_goals exact ⟨rfl, drewR ((Below.refl _ _).alloc (Nat.le_refl _) _)⟩
  case rest =>
    obtain ⟨rfl, hb3⟩ := hcut
    have hx := (hb3.block X lX).trans HXX.out
    replace hb := hb.trans (hb3.mono (show X ≤ W.heap.size from Nat.le_of_lt lX))
    clear hb3 hne x0 x1 x2 x3 x4 HC q0
    obtain ⟨x0, x1, x2, x3, x4⟩ := cells5r hx
    clear hx
    generalize hasD (kT i) = bd at *
    generalize hasA (kT i) = ba at *
    generalize hasB (kT i) = bb at *
    generalize hasI (kT i) = bi at *
    generalize decide (regF bd d) = r1 at *
    generalize decide (regF ba a) = r2 at *
    generalize decide (regF bb b) = r3 at *
    generalize reachB (kT i) imm = re at *
    have fin : ∀ v, v = valI (kT i) d a b imm → Calls1 v (valI (kT i) d a b imm) w wc := fun v h => ⟨by rw [h], by rw [HX.out] at hb; exact hb⟩
    generalize shT i = sh at *
    cases r1
    · go_wp2_with (first | (with_reducible refine (HH.out _).mono ?_; rintro e w' ⟨rfl, rfl⟩) | (with_reducible refine (R1.out _).mono ?_; rintro e w' ⟨rfl, rfl⟩) | (with_reducible refine (R2.out _).mono ?_; rintro e w' ⟨rfl, rfl⟩) | (with_reducible refine (R3.out _).mono ?_; rintro e w' ⟨rfl, rfl⟩) | (with_reducible refine (HR.out _).mono ?_; rintro e w' ⟨rfl, rfl⟩))
      go_ret
      exact fin _ HV.out.symm
    · cases r2
      · go_wp2_with (first | (with_reducible refine (HH.out _).mono ?_; rintro e w' ⟨rfl, rfl⟩) | (with_reducible refine (R1.out _).mono ?_; rintro e w' ⟨rfl, rfl⟩) | (with_reducible refine (R2.out _).mono ?_; rintro e w' ⟨rfl, rfl⟩) | (with_reducible refine (R3.out _).mono ?_; rintro e w' ⟨rfl, rfl⟩) | (with_reducible refine (HR.out _).mono ?_; rintro e w' ⟨rfl, rfl⟩))
        go_ret
        exact fin _ HV.out.symm
      · cases r3
        · go_wp2_with (first | (with_reducible refine (HH.out _).mono ?_; rintro e w' ⟨rfl, rfl⟩) | (with_reducible refine (R1.out _).mono ?_; rintro e w' ⟨rfl, rfl⟩) | (with_reducible refine (R2.out _).mono ?_; rintro e w' ⟨rfl, rfl⟩) | (with_reducible refine (R3.out _).mono ?_; rintro e w' ⟨rfl, rfl⟩) | (with_reducible refine (HR.out _).mono ?_; rintro e w' ⟨rfl, rfl⟩))
          go_ret
          exact fin _ HV.out.symm
        · cases bi
          · by_cases h0 : imm = 0
            · subst h0
              go_wp2_with (first | (with_reducible refine (HH.out _).mono ?_; rintro e w' ⟨rfl, rfl⟩) | (with_reducible refine (R1.out _).mono ?_; rintro e w' ⟨rfl, rfl⟩) | (with_reducible refine (R2.out _).mono ?_; rintro e w' ⟨rfl, rfl⟩) | (with_reducible refine (R3.out _).mono ?_; rintro e w' ⟨rfl, rfl⟩) | (with_reducible refine (HR.out _).mono ?_; rintro e w' ⟨rfl, rfl⟩))
              go_ret
              exact fin _ HV.out.symm
            · go_wp2_with (first | (with_reducible refine (HH.out _).mono ?_; rintro e w' ⟨rfl, rfl⟩) | (with_reducible refine (R1.out _).mono ?_; rintro e w' ⟨rfl, rfl⟩) | (with_reducible refine (R2.out _).mono ?_; rintro e w' ⟨rfl, rfl⟩) | (with_reducible refine (R3.out _).mono ?_; rintro e w' ⟨rfl, rfl⟩) | (with_reducible refine (HR.out _).mono ?_; rintro e w' ⟨rfl, rfl⟩))
              go_ret
              exact fin _ (by rw [HV.out]; unfold valR; simp [h0])
          · replace HR := Lib.hid (HR.out (HI.out rfl).1 (HI.out rfl).2)
            cases re
            · go_wp2_with (first | (with_reducible refine (HH.out _).mono ?_; rintro e w' ⟨rfl, rfl⟩) | (with_reducible refine (R1.out _).mono ?_; rintro e w' ⟨rfl, rfl⟩) | (with_reducible refine (R2.out _).mono ?_; rintro e w' ⟨rfl, rfl⟩) | (with_reducible refine (R3.out _).mono ?_; rintro e w' ⟨rfl, rfl⟩) | (with_reducible refine (HR.out _).mono ?_; rintro e w' ⟨rfl, rfl⟩))
              go_ret
              exact fin _ HV.out.symm
            · go_wp2_with (first | (with_reducible refine (HH.out _).mono ?_; rintro e w' ⟨rfl, rfl⟩) | (with_reducible refine (R1.out _).mono ?_; rintro e w' ⟨rfl, rfl⟩) | (with_reducible refine (R2.out _).mono ?_; rintro e w' ⟨rfl, rfl⟩) | (with_reducible refine (R3.out _).mono ?_; rintro e w' ⟨rfl, rfl⟩) | (with_reducible refine (HR.out _).mono ?_; rintro e w' ⟨rfl, rfl⟩))
              go_ret
              exact fin _ HV.out.symm
end Go.Proofs.YthkaclmnbahieaaDoor
