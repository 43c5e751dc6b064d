/-
  Which instructions are right.
-/
import Derived.Test.YtjlacdnkncgpaaaTmE
namespace Go.Proofs.Ytjlacdnkncgpaaa
open Go.RowKit

def plB (a : Int) : Bool := decide (a = -1) || inB a 0 199
def rightB (x : Cod) : Bool := if x.to ≠ 0 then false else if x.op = 0 then inB x.d 0 199 && (decide (x.a = 0) && decide (x.b = 0))
  else if x.op = 1 then inB x.d 0 199 && (inB x.a 0 199 && (decide (x.b = 0) && decide (x.imm = 0)))
  else if 2 ≤ x.op ∧ x.op ≤ 17 then inB x.d 0 199 && (inB x.a 0 199 && (inB x.b 0 199 && decide (x.imm = 0)))
  else if 18 ≤ x.op ∧ x.op ≤ 20 then inB x.d 0 199 && (plB x.a && decide (x.b = 0))
  else if 21 ≤ x.op ∧ x.op ≤ 23 then decide (x.d = 0) && (plB x.a && inB x.b 0 199) else false
def valC (x : Cod) : Bool := codB x && inB x.op 0 23
theorem right_val (x : Cod) : rightB x = valC x := by
  obtain ⟨op, d, a, b, imm, to⟩ := x
  unfold rightB valC codB
  simp only
  by_cases h0 : op < 0
  · rw [if_pos (Or.inl h0), if_neg (show ¬ op = 0 by omega), if_neg (show ¬ op = 1 by omega), if_neg (show ¬ (2 ≤ op ∧ op ≤ 17) by omega), if_neg (show ¬ (18 ≤ op ∧ op ≤ 20) by omega), if_neg (show ¬ (21 ≤ op ∧ op ≤ 23) by omega)]
    simp
  by_cases h1 : 23 < op
  · rw [show inB op 0 23 = false from decide_eq_false (by omega), Bool.and_false, if_neg (show ¬ op = 0 by omega), if_neg (show ¬ op = 1 by omega), if_neg (show ¬ (2 ≤ op ∧ op ≤ 17) by omega), if_neg (show ¬ (18 ≤ op ∧ op ≤ 20) by omega), if_neg (show ¬ (21 ≤ op ∧ op ≤ 23) by omega)]
    simp
  rw [show inB op 0 23 = true from inB_iff.2 ⟨by omega, by omega⟩, Bool.and_true]
  by_cases c0 : op = 0
  · subst c0
    rw [show shF 0 = ⟨true, false, false, true, false, false⟩ from rfl, Bool.eq_iff_iff]
    simp [fldB, inB]
    omega
  by_cases c1 : op = 1
  · subst c1
    rw [show shF 1 = ⟨true, true, false, false, false, false⟩ from rfl, Bool.eq_iff_iff]
    simp [fldB, inB]
    omega
  by_cases c2 : op ≤ 17
  · rw [show shF op = ⟨true, true, true, false, false, false⟩ by unfold shF; repeat (first | rw [if_neg (by omega)] | rw [if_pos (by omega)]), if_neg c0, if_neg c1, if_pos (show 2 ≤ op ∧ op ≤ 17 by omega), Bool.eq_iff_iff]
    simp [fldB, inB]
    omega
  by_cases c3 : op ≤ 20
  · rw [show shF op = ⟨true, true, false, true, false, true⟩ by unfold shF; repeat (first | rw [if_neg (by omega)] | rw [if_pos (by omega)]), if_neg c0, if_neg c1, if_neg (show ¬ (2 ≤ op ∧ op ≤ 17) by omega), if_pos (show 18 ≤ op ∧ op ≤ 20 by omega), Bool.eq_iff_iff]
    simp [fldB, inB, plB]
    omega
  · rw [show shF op = ⟨false, true, true, true, false, true⟩ by unfold shF; repeat (first | rw [if_neg (by omega)] | rw [if_pos (by omega)]), if_neg c0, if_neg c1, if_neg (show ¬ (2 ≤ op ∧ op ≤ 17) by omega), if_neg (show ¬ (18 ≤ op ∧ op ≤ 20) by omega), if_pos (show 21 ≤ op ∧ op ≤ 23 by omega), Bool.eq_iff_iff]
    simp [fldB, inB, plB]
    omega
set_option maxRecDepth 100000 in
set_option maxHeartbeats 8000000 in
theorem right_any (x : Cod) (w : World) : Calls Try.prog 36 #[aggC x] w fun e w' => e = .returned (.bool (rightB x)) ∧ Below w.heap.size w w' := by
  obtain ⟨op, d, a, b, imm, to⟩ := x
  have HR := Lib.hid (show rightB ⟨op, d, a, b, imm, to⟩ = if to ≠ 0 then false else if op = 0 then inB d 0 199 && (decide (a = 0) && decide (b = 0))
    else if op = 1 then inB d 0 199 && (inB a 0 199 && (decide (b = 0) && decide (imm = 0)))
    else if 2 ≤ op ∧ op ≤ 17 then inB d 0 199 && (inB a 0 199 && (inB b 0 199 && decide (imm = 0)))
    else if 18 ≤ op ∧ op ≤ 20 then inB d 0 199 && (plB a && decide (b = 0))
    else if 21 ≤ op ∧ op ≤ 23 then decide (d = 0) && (plB a && inB b 0 199) else false from rfl)
  generalize rightB ⟨op, d, a, b, imm, to⟩ = R at HR ⊢
  by_cases ht : to = 0
  · have dt : (to != 0) = false := by simp [ht]
    by_cases c0 : op = 0
    · cases e0 : inB d 0 199
      · have H0 := Lib.hid e0
        have HE := Lib.hid (show R = false from HR.out.trans (by rw [if_neg (fun h => h ht), if_pos (show op = 0 by omega), e0]; simp))
        rw [HE.out]
        clear HR
        go_enter Try.func36, Try.ntmps36
        go_wp2_with (first | (go_at_call 50; ((with_reducible refine (refIsRegister_at d false _ H0.out).mono ?_); rintro e w' ⟨rfl, rfl⟩)))
        go_ret
        exact ⟨rfl, (Below.refl _ _).alloc (Nat.le_refl _) _⟩
      · have H0 := Lib.hid e0
        by_cases e1 : a = 0
        · have d1 : (a == 0) = true := by simp [e1]
          have t1 : decide (a = 0) = true := decide_eq_true e1
          by_cases e2 : b = 0
          · have d2 : (b == 0) = true := by simp [e2]
            have t2 : decide (b = 0) = true := decide_eq_true e2
            have HE := Lib.hid (show R = true from HR.out.trans (by rw [if_neg (fun h => h ht), if_pos (show op = 0 by omega), e0, t1, t2]; simp))
            rw [HE.out]
            clear HR
            clear t1 e1
            clear t2 e2
            go_enter Try.func36, Try.ntmps36
            go_wp2_with (first | (go_at_call 50; ((with_reducible refine (refIsRegister_at d true _ H0.out).mono ?_); rintro e w' ⟨rfl, rfl⟩)))
            go_ret
            exact ⟨rfl, (Below.refl _ _).alloc (Nat.le_refl _) _⟩
          · have d2 : (b == 0) = false := by simp [e2]
            have t2 : decide (b = 0) = false := decide_eq_false e2
            have HE := Lib.hid (show R = false from HR.out.trans (by rw [if_neg (fun h => h ht), if_pos (show op = 0 by omega), e0, t1, t2]; simp))
            rw [HE.out]
            clear HR
            clear t1 e1
            clear t2 e2
            go_enter Try.func36, Try.ntmps36
            go_wp2_with (first | (go_at_call 50; ((with_reducible refine (refIsRegister_at d true _ H0.out).mono ?_); rintro e w' ⟨rfl, rfl⟩)))
            go_ret
            exact ⟨rfl, (Below.refl _ _).alloc (Nat.le_refl _) _⟩
        · have d1 : (a == 0) = false := by simp [e1]
          have t1 : decide (a = 0) = false := decide_eq_false e1
          have HE := Lib.hid (show R = false from HR.out.trans (by rw [if_neg (fun h => h ht), if_pos (show op = 0 by omega), e0, t1]; simp))
          rw [HE.out]
          clear HR
          clear t1 e1
          go_enter Try.func36, Try.ntmps36
          go_wp2_with (first | (go_at_call 50; ((with_reducible refine (refIsRegister_at d true _ H0.out).mono ?_); rintro e w' ⟨rfl, rfl⟩)))
          go_ret
          exact ⟨rfl, (Below.refl _ _).alloc (Nat.le_refl _) _⟩
    by_cases c1 : op = 1
    · cases e0 : inB d 0 199
      · have H0 := Lib.hid e0
        have HE := Lib.hid (show R = false from HR.out.trans (by rw [if_neg (fun h => h ht), if_neg (show ¬ op = 0 by omega), if_pos (show op = 1 by omega), e0]; simp))
        rw [HE.out]
        clear HR
        go_enter Try.func36, Try.ntmps36
        go_wp2_with (first | (go_at_call 50; ((with_reducible refine (refIsRegister_at d false _ H0.out).mono ?_); rintro e w' ⟨rfl, rfl⟩)))
        go_ret
        exact ⟨rfl, (Below.refl _ _).alloc (Nat.le_refl _) _⟩
      · have H0 := Lib.hid e0
        cases e1 : inB a 0 199
        · have H1 := Lib.hid e1
          have HE := Lib.hid (show R = false from HR.out.trans (by rw [if_neg (fun h => h ht), if_neg (show ¬ op = 0 by omega), if_pos (show op = 1 by omega), e0, e1]; simp))
          rw [HE.out]
          clear HR
          go_enter Try.func36, Try.ntmps36
          go_wp2_with (first | (go_at_call 50; ((with_reducible refine (refIsRegister_at d true _ H0.out).mono ?_); rintro e w' ⟨rfl, rfl⟩)) | (go_at_call 50; ((with_reducible refine (refIsRegister_at a false _ H1.out).mono ?_); rintro e w' ⟨rfl, rfl⟩)))
          go_ret
          exact ⟨rfl, (Below.refl _ _).alloc (Nat.le_refl _) _⟩
        · have H1 := Lib.hid e1
          by_cases e2 : b = 0
          · have d2 : (b == 0) = true := by simp [e2]
            have t2 : decide (b = 0) = true := decide_eq_true e2
            by_cases e3 : imm = 0
            · have d3 : (imm == 0) = true := by simp [e3]
              have t3 : decide (imm = 0) = true := decide_eq_true e3
              have HE := Lib.hid (show R = true from HR.out.trans (by rw [if_neg (fun h => h ht), if_neg (show ¬ op = 0 by omega), if_pos (show op = 1 by omega), e0, e1, t2, t3]; simp))
              rw [HE.out]
              clear HR
              clear t2 e2
              clear t3 e3
              go_enter Try.func36, Try.ntmps36
              go_wp2_with (first | (go_at_call 50; ((with_reducible refine (refIsRegister_at d true _ H0.out).mono ?_); rintro e w' ⟨rfl, rfl⟩)) | (go_at_call 50; ((with_reducible refine (refIsRegister_at a true _ H1.out).mono ?_); rintro e w' ⟨rfl, rfl⟩)))
              go_ret
              exact ⟨rfl, (Below.refl _ _).alloc (Nat.le_refl _) _⟩
            · have d3 : (imm == 0) = false := by simp [e3]
              have t3 : decide (imm = 0) = false := decide_eq_false e3
              have HE := Lib.hid (show R = false from HR.out.trans (by rw [if_neg (fun h => h ht), if_neg (show ¬ op = 0 by omega), if_pos (show op = 1 by omega), e0, e1, t2, t3]; simp))
              rw [HE.out]
              clear HR
              clear t2 e2
              clear t3 e3
              go_enter Try.func36, Try.ntmps36
              go_wp2_with (first | (go_at_call 50; ((with_reducible refine (refIsRegister_at d true _ H0.out).mono ?_); rintro e w' ⟨rfl, rfl⟩)) | (go_at_call 50; ((with_reducible refine (refIsRegister_at a true _ H1.out).mono ?_); rintro e w' ⟨rfl, rfl⟩)))
              go_ret
              exact ⟨rfl, (Below.refl _ _).alloc (Nat.le_refl _) _⟩
          · have d2 : (b == 0) = false := by simp [e2]
            have t2 : decide (b = 0) = false := decide_eq_false e2
            have HE := Lib.hid (show R = false from HR.out.trans (by rw [if_neg (fun h => h ht), if_neg (show ¬ op = 0 by omega), if_pos (show op = 1 by omega), e0, e1, t2]; simp))
            rw [HE.out]
            clear HR
            clear t2 e2
            go_enter Try.func36, Try.ntmps36
            go_wp2_with (first | (go_at_call 50; ((with_reducible refine (refIsRegister_at d true _ H0.out).mono ?_); rintro e w' ⟨rfl, rfl⟩)) | (go_at_call 50; ((with_reducible refine (refIsRegister_at a true _ H1.out).mono ?_); rintro e w' ⟨rfl, rfl⟩)))
            go_ret
            exact ⟨rfl, (Below.refl _ _).alloc (Nat.le_refl _) _⟩
    by_cases c2 : op < 0
    · have HE := Lib.hid (show R = false from HR.out.trans (by rw [if_neg (fun h => h ht), if_neg (show ¬ op = 0 by omega), if_neg (show ¬ op = 1 by omega), if_neg (show ¬ (2 ≤ op ∧ op ≤ 17) by omega), if_neg (show ¬ (18 ≤ op ∧ op ≤ 20) by omega), if_neg (show ¬ (21 ≤ op ∧ op ≤ 23) by omega)]))
      rw [HE.out]
      clear HR
      have HSS := Lib.hid (show inB op 21 23 = false from decide_eq_false (by omega))
      go_enter Try.func36, Try.ntmps36
      go_wp2_with (first | (go_at_call 51; ((with_reducible refine (refIsStore_at op false _ HSS.out).mono ?_); rintro e w' ⟨rfl, rfl⟩)))
      go_ret
      exact ⟨rfl, (Below.refl _ _).alloc (Nat.le_refl _) _⟩
    have g0 : 2 ≤ op := by omega
    by_cases c3 : op ≤ 17
    · cases e0 : inB d 0 199
      · have H0 := Lib.hid e0
        have HE := Lib.hid (show R = false from HR.out.trans (by rw [if_neg (fun h => h ht), if_neg (show ¬ op = 0 by omega), if_neg (show ¬ op = 1 by omega), if_pos (show 2 ≤ op ∧ op ≤ 17 by omega), e0]; simp))
        rw [HE.out]
        clear HR
        go_enter Try.func36, Try.ntmps36
        go_wp2_with (first | (go_at_call 50; ((with_reducible refine (refIsRegister_at d false _ H0.out).mono ?_); rintro e w' ⟨rfl, rfl⟩)))
        go_ret
        exact ⟨rfl, (Below.refl _ _).alloc (Nat.le_refl _) _⟩
      · have H0 := Lib.hid e0
        cases e1 : inB a 0 199
        · have H1 := Lib.hid e1
          have HE := Lib.hid (show R = false from HR.out.trans (by rw [if_neg (fun h => h ht), if_neg (show ¬ op = 0 by omega), if_neg (show ¬ op = 1 by omega), if_pos (show 2 ≤ op ∧ op ≤ 17 by omega), e0, e1]; simp))
          rw [HE.out]
          clear HR
          go_enter Try.func36, Try.ntmps36
          go_wp2_with (first | (go_at_call 50; ((with_reducible refine (refIsRegister_at d true _ H0.out).mono ?_); rintro e w' ⟨rfl, rfl⟩)) | (go_at_call 50; ((with_reducible refine (refIsRegister_at a false _ H1.out).mono ?_); rintro e w' ⟨rfl, rfl⟩)))
          go_ret
          exact ⟨rfl, (Below.refl _ _).alloc (Nat.le_refl _) _⟩
        · have H1 := Lib.hid e1
          cases e2 : inB b 0 199
          · have H2 := Lib.hid e2
            have HE := Lib.hid (show R = false from HR.out.trans (by rw [if_neg (fun h => h ht), if_neg (show ¬ op = 0 by omega), if_neg (show ¬ op = 1 by omega), if_pos (show 2 ≤ op ∧ op ≤ 17 by omega), e0, e1, e2]; simp))
            rw [HE.out]
            clear HR
            go_enter Try.func36, Try.ntmps36
            go_wp2_with (first | (go_at_call 50; ((with_reducible refine (refIsRegister_at d true _ H0.out).mono ?_); rintro e w' ⟨rfl, rfl⟩)) | (go_at_call 50; ((with_reducible refine (refIsRegister_at a true _ H1.out).mono ?_); rintro e w' ⟨rfl, rfl⟩)) | (go_at_call 50; ((with_reducible refine (refIsRegister_at b false _ H2.out).mono ?_); rintro e w' ⟨rfl, rfl⟩)))
            go_ret
            exact ⟨rfl, (Below.refl _ _).alloc (Nat.le_refl _) _⟩
          · have H2 := Lib.hid e2
            by_cases e3 : imm = 0
            · have d3 : (imm == 0) = true := by simp [e3]
              have t3 : decide (imm = 0) = true := decide_eq_true e3
              have HE := Lib.hid (show R = true from HR.out.trans (by rw [if_neg (fun h => h ht), if_neg (show ¬ op = 0 by omega), if_neg (show ¬ op = 1 by omega), if_pos (show 2 ≤ op ∧ op ≤ 17 by omega), e0, e1, e2, t3]; simp))
              rw [HE.out]
              clear HR
              clear t3 e3
              go_enter Try.func36, Try.ntmps36
              go_wp2_with (first | (go_at_call 50; ((with_reducible refine (refIsRegister_at d true _ H0.out).mono ?_); rintro e w' ⟨rfl, rfl⟩)) | (go_at_call 50; ((with_reducible refine (refIsRegister_at a true _ H1.out).mono ?_); rintro e w' ⟨rfl, rfl⟩)) | (go_at_call 50; ((with_reducible refine (refIsRegister_at b true _ H2.out).mono ?_); rintro e w' ⟨rfl, rfl⟩)))
              go_ret
              exact ⟨rfl, (Below.refl _ _).alloc (Nat.le_refl _) _⟩
            · have d3 : (imm == 0) = false := by simp [e3]
              have t3 : decide (imm = 0) = false := decide_eq_false e3
              have HE := Lib.hid (show R = false from HR.out.trans (by rw [if_neg (fun h => h ht), if_neg (show ¬ op = 0 by omega), if_neg (show ¬ op = 1 by omega), if_pos (show 2 ≤ op ∧ op ≤ 17 by omega), e0, e1, e2, t3]; simp))
              rw [HE.out]
              clear HR
              clear t3 e3
              go_enter Try.func36, Try.ntmps36
              go_wp2_with (first | (go_at_call 50; ((with_reducible refine (refIsRegister_at d true _ H0.out).mono ?_); rintro e w' ⟨rfl, rfl⟩)) | (go_at_call 50; ((with_reducible refine (refIsRegister_at a true _ H1.out).mono ?_); rintro e w' ⟨rfl, rfl⟩)) | (go_at_call 50; ((with_reducible refine (refIsRegister_at b true _ H2.out).mono ?_); rintro e w' ⟨rfl, rfl⟩)))
              go_ret
              exact ⟨rfl, (Below.refl _ _).alloc (Nat.le_refl _) _⟩
    have g1 : 18 ≤ op := by omega
    by_cases c4 : op ≤ 20
    · cases e0 : inB d 0 199
      · have H0 := Lib.hid e0
        have HE := Lib.hid (show R = false from HR.out.trans (by rw [if_neg (fun h => h ht), if_neg (show ¬ op = 0 by omega), if_neg (show ¬ op = 1 by omega), if_neg (show ¬ (2 ≤ op ∧ op ≤ 17) by omega), if_pos (show 18 ≤ op ∧ op ≤ 20 by omega), e0]; simp))
        rw [HE.out]
        clear HR
        go_enter Try.func36, Try.ntmps36
        go_wp2_with (first | (go_at_call 50; ((with_reducible refine (refIsRegister_at d false _ H0.out).mono ?_); rintro e w' ⟨rfl, rfl⟩)))
        go_ret
        exact ⟨rfl, (Below.refl _ _).alloc (Nat.le_refl _) _⟩
      · have H0 := Lib.hid e0
        by_cases e1 : a = -1
        · have d1 : (a == -1) = true := by simp [e1]
          have t1 : plB a = true := by simp [plB, e1]
          by_cases e2 : b = 0
          · have d2 : (b == 0) = true := by simp [e2]
            have t2 : decide (b = 0) = true := decide_eq_true e2
            have HE := Lib.hid (show R = true from HR.out.trans (by rw [if_neg (fun h => h ht), if_neg (show ¬ op = 0 by omega), if_neg (show ¬ op = 1 by omega), if_neg (show ¬ (2 ≤ op ∧ op ≤ 17) by omega), if_pos (show 18 ≤ op ∧ op ≤ 20 by omega), e0, t1, t2]; simp))
            rw [HE.out]
            clear HR
            clear t1 e1
            clear t2 e2
            go_enter Try.func36, Try.ntmps36
            go_wp2_with (first | (go_at_call 50; ((with_reducible refine (refIsRegister_at d true _ H0.out).mono ?_); rintro e w' ⟨rfl, rfl⟩)))
            go_ret
            exact ⟨rfl, (Below.refl _ _).alloc (Nat.le_refl _) _⟩
          · have d2 : (b == 0) = false := by simp [e2]
            have t2 : decide (b = 0) = false := decide_eq_false e2
            have HE := Lib.hid (show R = false from HR.out.trans (by rw [if_neg (fun h => h ht), if_neg (show ¬ op = 0 by omega), if_neg (show ¬ op = 1 by omega), if_neg (show ¬ (2 ≤ op ∧ op ≤ 17) by omega), if_pos (show 18 ≤ op ∧ op ≤ 20 by omega), e0, t1, t2]; simp))
            rw [HE.out]
            clear HR
            clear t1 e1
            clear t2 e2
            go_enter Try.func36, Try.ntmps36
            go_wp2_with (first | (go_at_call 50; ((with_reducible refine (refIsRegister_at d true _ H0.out).mono ?_); rintro e w' ⟨rfl, rfl⟩)))
            go_ret
            exact ⟨rfl, (Below.refl _ _).alloc (Nat.le_refl _) _⟩
        · have d1 : (a == -1) = false := by simp [e1]
          cases g1 : inB a 0 199
          · have H1 := Lib.hid g1
            have t1 : plB a = false := by simp [plB, e1, g1]
            have HE := Lib.hid (show R = false from HR.out.trans (by rw [if_neg (fun h => h ht), if_neg (show ¬ op = 0 by omega), if_neg (show ¬ op = 1 by omega), if_neg (show ¬ (2 ≤ op ∧ op ≤ 17) by omega), if_pos (show 18 ≤ op ∧ op ≤ 20 by omega), e0, t1]; simp))
            rw [HE.out]
            clear HR
            clear t1 e1 g1
            go_enter Try.func36, Try.ntmps36
            go_wp2_with (first | (go_at_call 50; ((with_reducible refine (refIsRegister_at d true _ H0.out).mono ?_); rintro e w' ⟨rfl, rfl⟩)) | (go_at_call 50; ((with_reducible refine (refIsRegister_at a false _ H1.out).mono ?_); rintro e w' ⟨rfl, rfl⟩)))
            go_ret
            exact ⟨rfl, (Below.refl _ _).alloc (Nat.le_refl _) _⟩
          · have H1 := Lib.hid g1
            have t1 : plB a = true := by simp [plB, g1]
            by_cases e2 : b = 0
            · have d2 : (b == 0) = true := by simp [e2]
              have t2 : decide (b = 0) = true := decide_eq_true e2
              have HE := Lib.hid (show R = true from HR.out.trans (by rw [if_neg (fun h => h ht), if_neg (show ¬ op = 0 by omega), if_neg (show ¬ op = 1 by omega), if_neg (show ¬ (2 ≤ op ∧ op ≤ 17) by omega), if_pos (show 18 ≤ op ∧ op ≤ 20 by omega), e0, t1, t2]; simp))
              rw [HE.out]
              clear HR
              clear t1 e1 g1
              clear t2 e2
              go_enter Try.func36, Try.ntmps36
              go_wp2_with (first | (go_at_call 50; ((with_reducible refine (refIsRegister_at d true _ H0.out).mono ?_); rintro e w' ⟨rfl, rfl⟩)) | (go_at_call 50; ((with_reducible refine (refIsRegister_at a true _ H1.out).mono ?_); rintro e w' ⟨rfl, rfl⟩)))
              go_ret
              exact ⟨rfl, (Below.refl _ _).alloc (Nat.le_refl _) _⟩
            · have d2 : (b == 0) = false := by simp [e2]
              have t2 : decide (b = 0) = false := decide_eq_false e2
              have HE := Lib.hid (show R = false from HR.out.trans (by rw [if_neg (fun h => h ht), if_neg (show ¬ op = 0 by omega), if_neg (show ¬ op = 1 by omega), if_neg (show ¬ (2 ≤ op ∧ op ≤ 17) by omega), if_pos (show 18 ≤ op ∧ op ≤ 20 by omega), e0, t1, t2]; simp))
              rw [HE.out]
              clear HR
              clear t1 e1 g1
              clear t2 e2
              go_enter Try.func36, Try.ntmps36
              go_wp2_with (first | (go_at_call 50; ((with_reducible refine (refIsRegister_at d true _ H0.out).mono ?_); rintro e w' ⟨rfl, rfl⟩)) | (go_at_call 50; ((with_reducible refine (refIsRegister_at a true _ H1.out).mono ?_); rintro e w' ⟨rfl, rfl⟩)))
              go_ret
              exact ⟨rfl, (Below.refl _ _).alloc (Nat.le_refl _) _⟩
    have g2 : 21 ≤ op := by omega
    by_cases c5 : op ≤ 23
    · by_cases e0 : d = 0
      · have d0 : (d == 0) = true := by simp [e0]
        have t0 : decide (d = 0) = true := decide_eq_true e0
        by_cases e1 : a = -1
        · have d1 : (a == -1) = true := by simp [e1]
          have t1 : plB a = true := by simp [plB, e1]
          cases e2 : inB b 0 199
          · have H2 := Lib.hid e2
            have HE := Lib.hid (show R = false from HR.out.trans (by rw [if_neg (fun h => h ht), if_neg (show ¬ op = 0 by omega), if_neg (show ¬ op = 1 by omega), if_neg (show ¬ (2 ≤ op ∧ op ≤ 17) by omega), if_neg (show ¬ (18 ≤ op ∧ op ≤ 20) by omega), if_pos (show 21 ≤ op ∧ op ≤ 23 by omega), t0, t1, e2]; simp))
            rw [HE.out]
            clear HR
            clear t0 e0
            clear t1 e1
            have HSS := Lib.hid (show inB op 21 23 = true from inB_iff.2 ⟨by omega, by omega⟩)
            go_enter Try.func36, Try.ntmps36
            go_wp2_with (first | (go_at_call 50; ((with_reducible refine (refIsRegister_at b false _ H2.out).mono ?_); rintro e w' ⟨rfl, rfl⟩)) | (go_at_call 51; ((with_reducible refine (refIsStore_at op true _ HSS.out).mono ?_); rintro e w' ⟨rfl, rfl⟩)))
            go_ret
            exact ⟨rfl, (Below.refl _ _).alloc (Nat.le_refl _) _⟩
          · have H2 := Lib.hid e2
            have HE := Lib.hid (show R = true from HR.out.trans (by rw [if_neg (fun h => h ht), if_neg (show ¬ op = 0 by omega), if_neg (show ¬ op = 1 by omega), if_neg (show ¬ (2 ≤ op ∧ op ≤ 17) by omega), if_neg (show ¬ (18 ≤ op ∧ op ≤ 20) by omega), if_pos (show 21 ≤ op ∧ op ≤ 23 by omega), t0, t1, e2]; simp))
            rw [HE.out]
            clear HR
            clear t0 e0
            clear t1 e1
            have HSS := Lib.hid (show inB op 21 23 = true from inB_iff.2 ⟨by omega, by omega⟩)
            go_enter Try.func36, Try.ntmps36
            go_wp2_with (first | (go_at_call 50; ((with_reducible refine (refIsRegister_at b true _ H2.out).mono ?_); rintro e w' ⟨rfl, rfl⟩)) | (go_at_call 51; ((with_reducible refine (refIsStore_at op true _ HSS.out).mono ?_); rintro e w' ⟨rfl, rfl⟩)))
            go_ret
            exact ⟨rfl, (Below.refl _ _).alloc (Nat.le_refl _) _⟩
        · have d1 : (a == -1) = false := by simp [e1]
          cases g1 : inB a 0 199
          · have H1 := Lib.hid g1
            have t1 : plB a = false := by simp [plB, e1, g1]
            have HE := Lib.hid (show R = false from HR.out.trans (by rw [if_neg (fun h => h ht), if_neg (show ¬ op = 0 by omega), if_neg (show ¬ op = 1 by omega), if_neg (show ¬ (2 ≤ op ∧ op ≤ 17) by omega), if_neg (show ¬ (18 ≤ op ∧ op ≤ 20) by omega), if_pos (show 21 ≤ op ∧ op ≤ 23 by omega), t0, t1]; simp))
            rw [HE.out]
            clear HR
            clear t0 e0
            clear t1 e1 g1
            have HSS := Lib.hid (show inB op 21 23 = true from inB_iff.2 ⟨by omega, by omega⟩)
            go_enter Try.func36, Try.ntmps36
            go_wp2_with (first | (go_at_call 50; ((with_reducible refine (refIsRegister_at a false _ H1.out).mono ?_); rintro e w' ⟨rfl, rfl⟩)) | (go_at_call 51; ((with_reducible refine (refIsStore_at op true _ HSS.out).mono ?_); rintro e w' ⟨rfl, rfl⟩)))
            go_ret
            exact ⟨rfl, (Below.refl _ _).alloc (Nat.le_refl _) _⟩
          · have H1 := Lib.hid g1
            have t1 : plB a = true := by simp [plB, g1]
            cases e2 : inB b 0 199
            · have H2 := Lib.hid e2
              have HE := Lib.hid (show R = false from HR.out.trans (by rw [if_neg (fun h => h ht), if_neg (show ¬ op = 0 by omega), if_neg (show ¬ op = 1 by omega), if_neg (show ¬ (2 ≤ op ∧ op ≤ 17) by omega), if_neg (show ¬ (18 ≤ op ∧ op ≤ 20) by omega), if_pos (show 21 ≤ op ∧ op ≤ 23 by omega), t0, t1, e2]; simp))
              rw [HE.out]
              clear HR
              clear t0 e0
              clear t1 e1 g1
              have HSS := Lib.hid (show inB op 21 23 = true from inB_iff.2 ⟨by omega, by omega⟩)
              go_enter Try.func36, Try.ntmps36
              go_wp2_with (first | (go_at_call 50; ((with_reducible refine (refIsRegister_at a true _ H1.out).mono ?_); rintro e w' ⟨rfl, rfl⟩)) | (go_at_call 50; ((with_reducible refine (refIsRegister_at b false _ H2.out).mono ?_); rintro e w' ⟨rfl, rfl⟩)) | (go_at_call 51; ((with_reducible refine (refIsStore_at op true _ HSS.out).mono ?_); rintro e w' ⟨rfl, rfl⟩)))
              go_ret
              exact ⟨rfl, (Below.refl _ _).alloc (Nat.le_refl _) _⟩
            · have H2 := Lib.hid e2
              have HE := Lib.hid (show R = true from HR.out.trans (by rw [if_neg (fun h => h ht), if_neg (show ¬ op = 0 by omega), if_neg (show ¬ op = 1 by omega), if_neg (show ¬ (2 ≤ op ∧ op ≤ 17) by omega), if_neg (show ¬ (18 ≤ op ∧ op ≤ 20) by omega), if_pos (show 21 ≤ op ∧ op ≤ 23 by omega), t0, t1, e2]; simp))
              rw [HE.out]
              clear HR
              clear t0 e0
              clear t1 e1 g1
              have HSS := Lib.hid (show inB op 21 23 = true from inB_iff.2 ⟨by omega, by omega⟩)
              go_enter Try.func36, Try.ntmps36
              go_wp2_with (first | (go_at_call 50; ((with_reducible refine (refIsRegister_at a true _ H1.out).mono ?_); rintro e w' ⟨rfl, rfl⟩)) | (go_at_call 50; ((with_reducible refine (refIsRegister_at b true _ H2.out).mono ?_); rintro e w' ⟨rfl, rfl⟩)) | (go_at_call 51; ((with_reducible refine (refIsStore_at op true _ HSS.out).mono ?_); rintro e w' ⟨rfl, rfl⟩)))
              go_ret
              exact ⟨rfl, (Below.refl _ _).alloc (Nat.le_refl _) _⟩
      · have d0 : (d == 0) = false := by simp [e0]
        have t0 : decide (d = 0) = false := decide_eq_false e0
        have HE := Lib.hid (show R = false from HR.out.trans (by rw [if_neg (fun h => h ht), if_neg (show ¬ op = 0 by omega), if_neg (show ¬ op = 1 by omega), if_neg (show ¬ (2 ≤ op ∧ op ≤ 17) by omega), if_neg (show ¬ (18 ≤ op ∧ op ≤ 20) by omega), if_pos (show 21 ≤ op ∧ op ≤ 23 by omega), t0]; simp))
        rw [HE.out]
        clear HR
        clear t0 e0
        have HSS := Lib.hid (show inB op 21 23 = true from inB_iff.2 ⟨by omega, by omega⟩)
        go_enter Try.func36, Try.ntmps36
        go_wp2_with (first | (go_at_call 51; ((with_reducible refine (refIsStore_at op true _ HSS.out).mono ?_); rintro e w' ⟨rfl, rfl⟩)))
        go_ret
        exact ⟨rfl, (Below.refl _ _).alloc (Nat.le_refl _) _⟩
    have g3 : 23 < op := by omega
    have HE := Lib.hid (show R = false from HR.out.trans (by rw [if_neg (fun h => h ht), if_neg (show ¬ op = 0 by omega), if_neg (show ¬ op = 1 by omega), if_neg (show ¬ (2 ≤ op ∧ op ≤ 17) by omega), if_neg (show ¬ (18 ≤ op ∧ op ≤ 20) by omega), if_neg (show ¬ (21 ≤ op ∧ op ≤ 23) by omega)]))
    rw [HE.out]
    clear HR
    have HSS := Lib.hid (show inB op 21 23 = false from decide_eq_false (by omega))
    go_enter Try.func36, Try.ntmps36
    go_wp2_with (first | (go_at_call 51; ((with_reducible refine (refIsStore_at op false _ HSS.out).mono ?_); rintro e w' ⟨rfl, rfl⟩)))
    go_ret
    exact ⟨rfl, (Below.refl _ _).alloc (Nat.le_refl _) _⟩
  · have dt : (to != 0) = true := by simp [ht]
    have HE := Lib.hid (show R = false from HR.out.trans (by rw [if_pos ht]))
    rw [HE.out]
    clear HR
    go_enter Try.func36, Try.ntmps36
    go_wp2_with (fail)
    go_ret
    exact ⟨rfl, (Below.refl _ _).alloc (Nat.le_refl _) _⟩
end Go.Proofs.Ytjlacdnkncgpaaa
