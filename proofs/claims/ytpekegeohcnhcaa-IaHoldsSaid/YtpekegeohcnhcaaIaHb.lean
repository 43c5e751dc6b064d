/-
  Reads of the reference.
-/
import Derived.Test.YtpekegeohcnhcaaIaHa
namespace Go.Proofs.Ytpekegeohcnhcaa
open Go.RowKit

/-- Whether a condition hangs on a flag, as far as the flags below k tell. -/
def difF (C b : Int) : Nat → Bool
  | 0 => false
  | k + 1 => difF C b k || (decide ((k : Int) / b % 2 = 0) && (holdF C k != holdF C (k + b)))
def dfW (C b : Int) : Int := if difF C b 16 then b else 0
def outF (C b : Int) : Int := (if 1 < b then dfW C 1 else 0) + (if 2 < b then dfW C 2 else 0) + (if 4 < b then dfW C 4 else 0) + (if 8 < b then dfW C 8 else 0)
theorem outF_step (C b : Int) (hb : b = 1 ∨ b = 2 ∨ b = 4 ∨ b = 8) : outF C (2 * b) = outF C b + dfW C b := by
  unfold outF
  rcases hb with rfl | rfl | rfl | rfl <;> simp <;> omega
theorem dfW_bd (C b : Int) (hb : 0 ≤ b) : 0 ≤ dfW C b ∧ dfW C b ≤ b := by unfold dfW; split <;> omega
theorem outF_bd (C b : Int) : 0 ≤ outF C b ∧ outF C b ≤ 15 := by
  unfold outF
  have h1 := dfW_bd C 1 (by omega)
  have h2 := dfW_bd C 2 (by omega)
  have h4 := dfW_bd C 4 (by omega)
  have h8 := dfW_bd C 8 (by omega)
  split <;> split <;> split <;> split <;> omega
theorem outF_tbl (C : Int) (hC : isC C = true) : outF C 16 = tblR C := by
  rcases cond_cases hC with h | h | h | h | h | h | h | h | h | h | h | h | h | h <;> subst h <;> decide
set_option maxRecDepth 100000 in
set_option maxHeartbeats 4000000 in
theorem rreads_none (op d s sz imm : Int) (hv : ∀ w1, Calls Try.prog 16 #[aggI ⟨op, d, s, sz, imm⟩] w1 fun e w' => e = .returned (.int .i64 0) ∧ Below w1.heap.size w1 w') (h31 : op ≠ 31) (h29 : op ≠ 29) (h32 : op ≠ 32) (w : World) :
    Calls Try.prog 21 #[aggI ⟨op, d, s, sz, imm⟩] w fun e w' => e = .returned (.tuple #[.int .i64 0, .int .i64 0]) ∧ Below w.heap.size w w' := by
  have HV := Lib.hid hv
  clear hv
  have f1 : (op == 31) = false := beq_false_of_ne h31
  have f2 : (op == 29) = false := beq_false_of_ne h29
  have f3 : (op == 32) = false := beq_false_of_ne h32
  clear h31 h29 h32
  go_enter Try.func21, Try.ntmps21
  go_wp2_with fail
  generalize hA : World.alloc w _ = W
  have hb := below_new hA (Below.refl _ _)
  have hx := hA ▸ heap_alloc_new w _
  clear hA
  refine (HV.out _).mono ?_
  rintro e w2 ⟨rfl, hw⟩
  replace hx := (hw.block _ (lt_of_block hx)).trans hx
  replace hb := hb.trans (hw.mono hb.size)
  obtain ⟨y0, y1, y2, y3, y4⟩ := cells5 hx
  clear hx hw
  go_wp2
  exact bodyPost_ret (res2 rfl _ _) rfl ⟨rfl, hb⟩
set_option maxRecDepth 100000 in
set_option maxHeartbeats 4000000 in
theorem rreads_bad (op d s sz imm : Int) (hv : ∀ w1, Calls Try.prog 16 #[aggI ⟨op, d, s, sz, imm⟩] w1 fun e w' => e = .returned (.int .i64 1) ∧ Below w1.heap.size w1 w') (w : World) :
    Calls Try.prog 21 #[aggI ⟨op, d, s, sz, imm⟩] w fun e w' => e = .returned (.tuple #[.int .i64 0, .int .i64 1]) ∧ Below w.heap.size w w' := by
  have HV := Lib.hid hv
  clear hv
  go_enter Try.func21, Try.ntmps21
  go_wp2_with fail
  generalize hA : World.alloc w _ = W
  have hb := below_new hA (Below.refl _ _)
  clear hA
  refine (HV.out _).mono ?_
  rintro e w2 ⟨rfl, hw⟩
  replace hb := hb.trans (hw.mono hb.size)
  clear hw
  go_wp2
  exact bodyPost_ret (res2 rfl _ _) rfl ⟨rfl, hb⟩
set_option maxRecDepth 100000 in
set_option maxHeartbeats 8000000 in
theorem rreads_cond (op d s sz imm C : Int) (hv : valB ⟨op, d, s, sz, imm⟩ = true) (h1 : -9223372036854775808 ≤ imm) (h2 : imm ≤ 9223372036854775807) (hC : isC C = true) (hcase : (op = 31 ∧ C = imm) ∨ (op = 29 ∧ C = s) ∨ (op = 32 ∧ C = s)) (w : World) :
    Calls Try.prog 21 #[aggI ⟨op, d, s, sz, imm⟩] w fun e w' => e = .returned (.tuple #[.int .i64 (tblR C), .int .i64 0]) ∧ Below w.heap.size w w' := by
  have HV := Lib.hid (fun w1 => (show Calls Try.prog 16 #[aggI ⟨op, d, s, sz, imm⟩] w1 fun e w' => e = .returned (.int .i64 0) ∧ Below w1.heap.size w1 w' by
    have h := rValidate_any ⟨op, d, s, sz, imm⟩ h1 h2 w1
    unfold errI at h
    rw [hv] at h
    exact h))
  rw [← outF_tbl C hC]
  have HH := Lib.hid (fun (f : Int) (hf : 0 ≤ f ∧ f ≤ 15) w1 => rholds_at C f hC hf w1)
  have hC0 : 0 ≤ C := by unfold isC at hC; have := of_decide_eq_true hC; omega
  have hC1 : decide (C < 0) = false := decide_eq_false (by omega)
  clear hv hC h1 h2
  rcases hcase with ⟨h, h'⟩ | ⟨h, h'⟩ | ⟨h, h'⟩
  all_goals
    subst h
    have HX := Lib.hid h'
    have HY := Lib.hid h'.symm
    clear h'
    go_enter Try.func21, Try.ntmps21
    go_wp2_with fail
    generalize hA : World.alloc w _ = W
    have hb := below_new hA (Below.refl _ _)
    have hx := hA ▸ heap_alloc_new w _
    clear hA
    refine (HV.out _).mono ?_
    rintro e w2 ⟨rfl, hw⟩
    replace hx := (hw.block _ (lt_of_block hx)).trans hx
    replace hb := hb.trans (hw.mono hb.size)
    obtain ⟨y0, y1, y2, y3, y4⟩ := cells5 hx
    first | rw [HY.out] at y4 | rw [HY.out] at y2
    clear hx hw
    go_wp2_with fail
    go_loop [6, 7] (fun o b => ∃ bb : Int, (bb = 1 ∨ bb = 2 ∨ bb = 4 ∨ bb = 8 ∨ bb = 16) ∧ b = .int .i64 bb ∧ o = .int .i64 (outF C bb)) (fun _ b => (16 - intOf b).toNat)
    case atStart => exact ⟨1, .inl rfl, rfl, by unfold outF; rfl⟩
    case round =>
      obtain ⟨b, hbb, rfl, rfl⟩ := hrel
      by_cases h16 : b = 16
      · subst h16
        clear hbb
        go_wp2
        exact bodyPost_ret (res2 rfl _ _) rfl ⟨rfl, hb⟩
      · have HB4 := Lib.hid (show b = 1 ∨ b = 2 ∨ b = 4 ∨ b = 8 by omega)
        have hb8 : b ≤ 8 := by omega
        have hb1 : 1 ≤ b := by omega
        have hb0 : (b == 0) = false := beq_false_of_ne (by omega)
        have HST := Lib.hid (outF_step C b HB4.out)
        obtain ⟨ho1, ho2⟩ := outF_bd C b
        clear hbb h16
        go_wp2_with fail
        go_loop [8, 9] (fun dif f => ∃ k : Nat, k ≤ 16 ∧ f = .int .i64 k ∧ dif = .bool (difF C b k)) (fun _ f => 16 - (intOf f).toNat)
        case atStart => exact ⟨0, by omega, rfl, rfl⟩
        case round =>
          obtain ⟨k, hk, rfl, rfl⟩ := hrel
          by_cases hlt : k < 16
          · have hdv0 : 0 ≤ (k : Int) / b := Int.ediv_nonneg (by omega) (by omega)
            have hdv1 : (k : Int) / b ≤ 15 := Int.le_trans (Int.ediv_le_self _ (by omega)) (by omega)
            cases hq : decide ((k : Int) / b % 2 = 0)
            · have hq2 : ((k : Int) / b % 2 == 0) = false := by simpa using hq
              have HS := Lib.hid (show difF C b (k + 1) = difF C b k by show (difF C b k || _) = _; rw [hq]; simp)
              clear hq
              go_wp2_with fail
              go_round
              case rel => exact ⟨k + 1, by omega, by go_num, by rw [HS.out]⟩
              case measure => simp [intOf]; omega
            · have hq2 : ((k : Int) / b % 2 == 0) = true := by simpa using hq
              have hq3 := of_decide_eq_true hq
              have hkb : (k : Int) + b ≤ 15 := by rcases HB4.out with h | h | h | h <;> subst h <;> omega
              have HS := Lib.hid (show difF C b (k + 1) = (difF C b k || (holdF C k != holdF C (k + b))) by show (difF C b k || _) = _; rw [hq]; simp)
              have HA := Lib.hid (HH.out (k : Int) (by omega))
              have HB := Lib.hid (HH.out ((k : Int) + b) (by omega))
              clear hq hq3
              generalize holdF C k = ha at HA HS
              generalize holdF C (k + b) = hc at HB HS
              go_wp2_with fail
              refine (HA.out _).mono ?_
              rintro e w3 ⟨rfl, rfl⟩
              go_wp2_with fail
              refine (HB.out _).mono ?_
              rintro e w3 ⟨rfl, rfl⟩
              cases ha <;> cases hc
              all_goals
                go_wp2_with fail
                go_round
                case rel => exact ⟨k + 1, by omega, by go_num, by rw [HS.out]; simp⟩
                case measure => simp [intOf]; omega
          · obtain rfl : k = 16 := by omega
            clear hlt hk
            cases hd : difF C b 16
            · have HST2 := Lib.hid (show outF C (2 * b) = outF C b by rw [HST.out]; unfold dfW; rw [hd]; simp)
              go_wp2_with fail
              go_round
              case rel => exact ⟨2 * b, by have := HB4.out; omega, rfl, by rw [HST2.out]⟩
              case measure => simp [intOf]; omega
            · have HST2 := Lib.hid (show outF C (2 * b) = outF C b + b by rw [HST.out]; unfold dfW; rw [hd]; simp)
              go_wp2_with fail
              go_round
              case rel => exact ⟨2 * b, by have := HB4.out; omega, rfl, by rw [HST2.out]⟩
              case measure => simp [intOf]; omega
theorem rReads_any (x : Ins) (h1 : -9223372036854775808 ≤ x.imm) (h2 : x.imm ≤ 9223372036854775807) (w : World) : Calls Try.prog 21 #[aggI x] w fun e w' => e = .returned (.tuple #[.int .i64 (rdF x), .int .i64 (errI x)]) ∧ Below w.heap.size w w' := by
  obtain ⟨op, d, s, sz, imm⟩ := x
  have HV := fun w1 => rValidate_any ⟨op, d, s, sz, imm⟩ h1 h2 w1
  unfold rdF errI
  unfold errI at HV
  cases hv : valB ⟨op, d, s, sz, imm⟩
  · rw [hv] at HV
    exact rreads_bad op d s sz imm HV w
  · by_cases h31 : op = 31
    · subst h31
      exact rreads_cond 31 d s sz imm imm hv h1 h2 (val_31 hv) (.inl ⟨rfl, rfl⟩) w
    by_cases h29 : op = 29
    · subst h29
      exact rreads_cond 29 d s sz imm s hv h1 h2 (val_29 hv) (.inr (.inl ⟨rfl, rfl⟩)) w
    by_cases h32 : op = 32
    · subst h32
      exact rreads_cond 32 d s sz imm s hv h1 h2 (val_32 hv) (.inr (.inr ⟨rfl, rfl⟩)) w
    rw [if_pos rfl, if_pos rfl, if_neg h31, if_neg (by show ¬ (op = 29 ∨ op = 32); omega)]
    rw [hv] at HV
    exact rreads_none op d s sz imm HV h31 h29 h32 w
end Go.Proofs.Ytpekegeohcnhcaa
