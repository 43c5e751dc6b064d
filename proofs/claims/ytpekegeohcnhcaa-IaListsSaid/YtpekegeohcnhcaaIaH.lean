/-
  Validate, encode, Encode and Size of the program, at every instruction.
-/
import Derived.Test.YtpekegeohcnhcaaIaE
import Derived.Test.YtpekegeohcnhcaaIaG
namespace Go.Proofs.Ytpekegeohcnhcaa
open Go.RowKit

set_option maxRecDepth 100000 in
set_option maxHeartbeats 2000000 in
theorem fit6_at (op d s sz imm : Int) (B : Bool) (w : World) (h : fitB 6 ⟨op, d, s, sz, imm⟩ = B) : Calls Try.prog 52 #[aggI ⟨op, d, s, sz, imm⟩] w fun e w' => e = .returned (.bool B) ∧ Below w.heap.size w w' := by
  obtain ⟨B5, hB5⟩ : ∃ B5, fitB 5 ⟨op, d, s, sz, imm⟩ = B5 := ⟨_, rfl⟩
  obtain ⟨BL, hBL⟩ : ∃ BL, isL s = BL := ⟨_, rfl⟩
  have HB := Lib.hid (show B = (B5 && BL) by rw [← h, ← hB5, ← hBL]; rfl)
  have HC := Lib.hid (fun w1 => fit5_at op d s sz imm B5 w1 hB5)
  have HL := Lib.hid (fun w1 => hasByte_at s BL w1 hBL)
  clear h hB5 hBL
  have hx := heap_alloc_new w (.cells #[.int .i64 op, .int .i64 d, .int .i64 s, .int .i64 sz, .int .i64 imm] 23)
  cases B5
  · have HE := Lib.hid (show B = false from HB.out)
    go_enter Try.func52, Try.ntmps52
    go_wp2_with fail
    have hb : Below w.heap.size w (w.alloc (.cells #[.int .i64 op, .int .i64 d, .int .i64 s, .int .i64 sz, .int .i64 imm] 23)) := (Below.refl _ _).alloc (Nat.le_refl _) _
    generalize World.alloc w _ = W at hx hb ⊢
    refine (HC.out _).mono ?_
    rintro e w2 ⟨rfl, hb2⟩
    go_wp2
    go_ret
    exact ⟨ret_b HE.out.symm, hb.trans (hb2.mono hb.size)⟩
  · have HE := Lib.hid (show B = BL by rw [HB.out, Bool.true_and])
    go_enter Try.func52, Try.ntmps52
    go_wp2_with fail
    have hb : Below w.heap.size w (w.alloc (.cells #[.int .i64 op, .int .i64 d, .int .i64 s, .int .i64 sz, .int .i64 imm] 23)) := (Below.refl _ _).alloc (Nat.le_refl _) _
    generalize World.alloc w _ = W at hx hb ⊢
    refine (HC.out _).mono ?_
    rintro e w2 ⟨rfl, hb2⟩
    obtain ⟨-, -, x2, -, -⟩ := cells5 ((hb2.block _ (lt_of_block hx)).trans hx)
    go_wp2_with (go_at_call 93; ((with_reducible refine (HL.out _).mono ?_); rintro e w' ⟨rfl, rfl⟩))
    go_ret
    exact ⟨ret_b HE.out.symm, hb.trans (hb2.mono hb.size)⟩
theorem validate_out (x : Ins) (w : World) (h : x.op < 0 ∨ 36 < x.op) : Calls Try.prog 12 #[aggI x] w fun e w' => e = .returned (.int .i64 (if valB x then 0 else 1)) ∧ Below w.heap.size w w' := by
  have HV := Lib.hid (show valB x = false by unfold valB; rw [decide_eq_false (by omega), Bool.false_and])
  obtain ⟨op, d, s, sz, imm⟩ := x
  simp only at h
  rw [HV.out]
  by_cases h0 : op < 0
  · have d0 : decide (op < 0) = true := decide_eq_true h0
    clear h
    go_enter Try.func12, Try.ntmps12
    go_wp2
    go_ret
    exact ⟨rfl, (Below.refl _ _).alloc (Nat.le_refl _) _⟩
  · have d0 : decide (op < 0) = false := decide_eq_false h0
    have d1 : decide (36 < op) = true := decide_eq_true (by omega)
    clear h
    go_enter Try.func12, Try.ntmps12
    go_wp2
    go_ret
    exact ⟨rfl, (Below.refl _ _).alloc (Nat.le_refl _) _⟩
theorem en_f0 : Enters 57 := fun _ _ => by kernel_rfl
theorem en_f1 : Enters 55 := fun _ _ => by kernel_rfl
theorem en_f2 : Enters 43 := fun _ _ => by kernel_rfl
theorem en_f3 : Enters 45 := fun _ _ => by kernel_rfl
theorem en_f4 : Enters 47 := fun _ _ => by kernel_rfl
theorem en_f5 : Enters 49 := fun _ _ => by kernel_rfl
theorem en_f6 : Enters 52 := fun _ _ => by kernel_rfl
theorem en_f7 : Enters 59 := fun _ _ => by kernel_rfl
theorem en_f8 : Enters 61 := fun _ _ => by kernel_rfl
theorem en_f9 : Enters 62 := fun _ _ => by kernel_rfl
theorem en_f10 : Enters 64 := fun _ _ => by kernel_rfl
theorem en_f11 : Enters 66 := fun _ _ => by kernel_rfl
theorem en_w0 : Enters 58 := fun _ _ => by kernel_rfl
theorem en_w1 : Enters 68 := fun _ _ => by kernel_rfl
theorem en_w2 : Enters 44 := fun _ _ => by kernel_rfl
theorem en_w3 : Enters 56 := fun _ _ => by kernel_rfl
theorem en_w4 : Enters 54 := fun _ _ => by kernel_rfl
theorem en_w5 : Enters 46 := fun _ _ => by kernel_rfl
theorem en_w6 : Enters 48 := fun _ _ => by kernel_rfl
theorem en_w7 : Enters 51 := fun _ _ => by kernel_rfl
theorem en_w8 : Enters 50 := fun _ _ => by kernel_rfl
theorem en_w9 : Enters 53 := fun _ _ => by kernel_rfl
theorem en_w10 : Enters 60 := fun _ _ => by kernel_rfl
theorem en_w11 : Enters 63 := fun _ _ => by kernel_rfl
theorem en_w12 : Enters 65 := fun _ _ => by kernel_rfl
theorem en_w13 : Enters 67 := fun _ _ => by kernel_rfl
theorem row_0 : FmRow fmtCells 0 137 0 48 43 44 := fun _ => by kernel_rfl
theorem row_1 : FmRow fmtCells 1 184 0 48 45 46 := fun _ => by kernel_rfl
theorem row_2 : FmRow fmtCells 2 139 0 48 47 48 := fun _ => by kernel_rfl
theorem row_3 : FmRow fmtCells 3 137 0 48 49 50 := fun _ => by kernel_rfl
theorem row_4 : FmRow fmtCells 4 182 0 32 47 51 := fun _ => by kernel_rfl
theorem row_5 : FmRow fmtCells 5 183 0 32 47 51 := fun _ => by kernel_rfl
theorem row_6 : FmRow fmtCells 6 136 0 32 52 50 := fun _ => by kernel_rfl
theorem row_7 : FmRow fmtCells 7 1 0 48 43 44 := fun _ => by kernel_rfl
theorem row_8 : FmRow fmtCells 8 9 0 48 43 44 := fun _ => by kernel_rfl
theorem row_9 : FmRow fmtCells 9 33 0 48 43 44 := fun _ => by kernel_rfl
theorem row_10 : FmRow fmtCells 10 41 0 48 43 44 := fun _ => by kernel_rfl
theorem row_11 : FmRow fmtCells 11 49 0 48 43 44 := fun _ => by kernel_rfl
theorem row_12 : FmRow fmtCells 12 57 0 48 43 44 := fun _ => by kernel_rfl
theorem row_13 : FmRow fmtCells 13 133 0 48 43 44 := fun _ => by kernel_rfl
theorem row_14 : FmRow fmtCells 14 129 0 48 45 53 := fun _ => by kernel_rfl
theorem row_15 : FmRow fmtCells 15 129 1 48 45 53 := fun _ => by kernel_rfl
theorem row_16 : FmRow fmtCells 16 129 4 48 45 53 := fun _ => by kernel_rfl
theorem row_17 : FmRow fmtCells 17 129 5 48 45 53 := fun _ => by kernel_rfl
theorem row_18 : FmRow fmtCells 18 129 6 48 45 53 := fun _ => by kernel_rfl
theorem row_19 : FmRow fmtCells 19 129 7 48 45 53 := fun _ => by kernel_rfl
theorem row_20 : FmRow fmtCells 20 175 0 32 43 54 := fun _ => by kernel_rfl
theorem row_21 : FmRow fmtCells 21 211 4 48 55 56 := fun _ => by kernel_rfl
theorem row_22 : FmRow fmtCells 22 211 5 48 55 56 := fun _ => by kernel_rfl
theorem row_23 : FmRow fmtCells 23 211 7 48 55 56 := fun _ => by kernel_rfl
theorem row_24 : FmRow fmtCells 24 247 2 48 55 56 := fun _ => by kernel_rfl
theorem row_25 : FmRow fmtCells 25 247 3 48 55 56 := fun _ => by kernel_rfl
theorem row_26 : FmRow fmtCells 26 247 6 32 55 56 := fun _ => by kernel_rfl
theorem row_27 : FmRow fmtCells 27 247 7 32 55 56 := fun _ => by kernel_rfl
theorem row_28 : FmRow fmtCells 28 153 0 32 57 58 := fun _ => by kernel_rfl
theorem row_29 : FmRow fmtCells 29 144 0 32 59 60 := fun _ => by kernel_rfl
theorem row_30 : FmRow fmtCells 30 182 0 32 61 54 := fun _ => by kernel_rfl
theorem row_31 : FmRow fmtCells 31 64 0 32 62 63 := fun _ => by kernel_rfl
theorem row_32 : FmRow fmtCells 32 112 0 40 64 65 := fun _ => by kernel_rfl
theorem row_33 : FmRow fmtCells 33 235 0 40 66 67 := fun _ => by kernel_rfl
theorem row_34 : FmRow fmtCells 34 244 0 32 57 58 := fun _ => by kernel_rfl
theorem row_35 : FmRow fmtCells 35 11 0 32 57 68 := fun _ => by kernel_rfl
theorem row_36 : FmRow fmtCells 36 144 0 32 57 58 := fun _ => by kernel_rfl
theorem sz48 {sz : Int} (h : szB 48 sz = true) : sz = 32 ∨ sz = 16 := by simp [szB] at h; omega
theorem sz32 {sz : Int} (h : szB 32 sz = true) : sz = 32 := by simp [szB] at h; omega
theorem sz40 {sz : Int} (h : szB 40 sz = true) : sz = 32 ∨ sz = 8 := by simp [szB] at h; omega
theorem validate_0 (d s sz imm : Int) (w : World) : Calls Try.prog 12 #[aggI ⟨0, d, s, sz, imm⟩] w fun e w' => e = .returned (.int .i64 (if valB ⟨0, d, s, sz, imm⟩ then 0 else 1)) ∧ Below w.heap.size w w' :=
  validate_row fmtCells formats_any 0 d s sz imm 137 0 48 _ _ (fitB 2 ⟨0, d, s, sz, imm⟩) (szB 48 sz) w (by decide) (by decide) row_0 en_f2 (.inl rfl) rfl (fun hB w1 => fit2_at _ _ _ _ _ _ w1 rfl)
theorem validate_1 (d s sz imm : Int) (w : World) : Calls Try.prog 12 #[aggI ⟨1, d, s, sz, imm⟩] w fun e w' => e = .returned (.int .i64 (if valB ⟨1, d, s, sz, imm⟩ then 0 else 1)) ∧ Below w.heap.size w w' :=
  validate_row fmtCells formats_any 1 d s sz imm 184 0 48 _ _ (fitB 3 ⟨1, d, s, sz, imm⟩) (szB 48 sz) w (by decide) (by decide) row_1 en_f3 (.inl rfl) rfl (fun hB w1 => by
    rcases sz48 hB with rfl | rfl
    · exact fit3_32_at _ _ _ _ _ w1 rfl
    · exact fit3_16_at _ _ _ _ _ w1 rfl)
theorem validate_2 (d s sz imm : Int) (w : World) : Calls Try.prog 12 #[aggI ⟨2, d, s, sz, imm⟩] w fun e w' => e = .returned (.int .i64 (if valB ⟨2, d, s, sz, imm⟩ then 0 else 1)) ∧ Below w.heap.size w w' :=
  validate_row fmtCells formats_any 2 d s sz imm 139 0 48 _ _ (fitB 4 ⟨2, d, s, sz, imm⟩) (szB 48 sz) w (by decide) (by decide) row_2 en_f4 (.inl rfl) rfl (fun hB w1 => fit4_at _ _ _ _ _ _ w1 rfl)
theorem validate_3 (d s sz imm : Int) (w : World) : Calls Try.prog 12 #[aggI ⟨3, d, s, sz, imm⟩] w fun e w' => e = .returned (.int .i64 (if valB ⟨3, d, s, sz, imm⟩ then 0 else 1)) ∧ Below w.heap.size w w' :=
  validate_row fmtCells formats_any 3 d s sz imm 137 0 48 _ _ (fitB 5 ⟨3, d, s, sz, imm⟩) (szB 48 sz) w (by decide) (by decide) row_3 en_f5 (.inl rfl) rfl (fun hB w1 => fit5_at _ _ _ _ _ _ w1 rfl)
theorem validate_4 (d s sz imm : Int) (w : World) : Calls Try.prog 12 #[aggI ⟨4, d, s, sz, imm⟩] w fun e w' => e = .returned (.int .i64 (if valB ⟨4, d, s, sz, imm⟩ then 0 else 1)) ∧ Below w.heap.size w w' :=
  validate_row fmtCells formats_any 4 d s sz imm 182 0 32 _ _ (fitB 4 ⟨4, d, s, sz, imm⟩) (szB 32 sz) w (by decide) (by decide) row_4 en_f4 (.inr (.inl rfl)) rfl (fun hB w1 => fit4_at _ _ _ _ _ _ w1 rfl)
theorem validate_5 (d s sz imm : Int) (w : World) : Calls Try.prog 12 #[aggI ⟨5, d, s, sz, imm⟩] w fun e w' => e = .returned (.int .i64 (if valB ⟨5, d, s, sz, imm⟩ then 0 else 1)) ∧ Below w.heap.size w w' :=
  validate_row fmtCells formats_any 5 d s sz imm 183 0 32 _ _ (fitB 4 ⟨5, d, s, sz, imm⟩) (szB 32 sz) w (by decide) (by decide) row_5 en_f4 (.inr (.inl rfl)) rfl (fun hB w1 => fit4_at _ _ _ _ _ _ w1 rfl)
theorem validate_6 (d s sz imm : Int) (w : World) : Calls Try.prog 12 #[aggI ⟨6, d, s, sz, imm⟩] w fun e w' => e = .returned (.int .i64 (if valB ⟨6, d, s, sz, imm⟩ then 0 else 1)) ∧ Below w.heap.size w w' :=
  validate_row fmtCells formats_any 6 d s sz imm 136 0 32 _ _ (fitB 6 ⟨6, d, s, sz, imm⟩) (szB 32 sz) w (by decide) (by decide) row_6 en_f6 (.inr (.inl rfl)) rfl (fun hB w1 => fit6_at _ _ _ _ _ _ w1 rfl)
theorem validate_7 (d s sz imm : Int) (w : World) : Calls Try.prog 12 #[aggI ⟨7, d, s, sz, imm⟩] w fun e w' => e = .returned (.int .i64 (if valB ⟨7, d, s, sz, imm⟩ then 0 else 1)) ∧ Below w.heap.size w w' :=
  validate_row fmtCells formats_any 7 d s sz imm 1 0 48 _ _ (fitB 2 ⟨7, d, s, sz, imm⟩) (szB 48 sz) w (by decide) (by decide) row_7 en_f2 (.inl rfl) rfl (fun hB w1 => fit2_at _ _ _ _ _ _ w1 rfl)
theorem validate_8 (d s sz imm : Int) (w : World) : Calls Try.prog 12 #[aggI ⟨8, d, s, sz, imm⟩] w fun e w' => e = .returned (.int .i64 (if valB ⟨8, d, s, sz, imm⟩ then 0 else 1)) ∧ Below w.heap.size w w' :=
  validate_row fmtCells formats_any 8 d s sz imm 9 0 48 _ _ (fitB 2 ⟨8, d, s, sz, imm⟩) (szB 48 sz) w (by decide) (by decide) row_8 en_f2 (.inl rfl) rfl (fun hB w1 => fit2_at _ _ _ _ _ _ w1 rfl)
theorem validate_9 (d s sz imm : Int) (w : World) : Calls Try.prog 12 #[aggI ⟨9, d, s, sz, imm⟩] w fun e w' => e = .returned (.int .i64 (if valB ⟨9, d, s, sz, imm⟩ then 0 else 1)) ∧ Below w.heap.size w w' :=
  validate_row fmtCells formats_any 9 d s sz imm 33 0 48 _ _ (fitB 2 ⟨9, d, s, sz, imm⟩) (szB 48 sz) w (by decide) (by decide) row_9 en_f2 (.inl rfl) rfl (fun hB w1 => fit2_at _ _ _ _ _ _ w1 rfl)
theorem validate_10 (d s sz imm : Int) (w : World) : Calls Try.prog 12 #[aggI ⟨10, d, s, sz, imm⟩] w fun e w' => e = .returned (.int .i64 (if valB ⟨10, d, s, sz, imm⟩ then 0 else 1)) ∧ Below w.heap.size w w' :=
  validate_row fmtCells formats_any 10 d s sz imm 41 0 48 _ _ (fitB 2 ⟨10, d, s, sz, imm⟩) (szB 48 sz) w (by decide) (by decide) row_10 en_f2 (.inl rfl) rfl (fun hB w1 => fit2_at _ _ _ _ _ _ w1 rfl)
theorem validate_11 (d s sz imm : Int) (w : World) : Calls Try.prog 12 #[aggI ⟨11, d, s, sz, imm⟩] w fun e w' => e = .returned (.int .i64 (if valB ⟨11, d, s, sz, imm⟩ then 0 else 1)) ∧ Below w.heap.size w w' :=
  validate_row fmtCells formats_any 11 d s sz imm 49 0 48 _ _ (fitB 2 ⟨11, d, s, sz, imm⟩) (szB 48 sz) w (by decide) (by decide) row_11 en_f2 (.inl rfl) rfl (fun hB w1 => fit2_at _ _ _ _ _ _ w1 rfl)
theorem validate_12 (d s sz imm : Int) (w : World) : Calls Try.prog 12 #[aggI ⟨12, d, s, sz, imm⟩] w fun e w' => e = .returned (.int .i64 (if valB ⟨12, d, s, sz, imm⟩ then 0 else 1)) ∧ Below w.heap.size w w' :=
  validate_row fmtCells formats_any 12 d s sz imm 57 0 48 _ _ (fitB 2 ⟨12, d, s, sz, imm⟩) (szB 48 sz) w (by decide) (by decide) row_12 en_f2 (.inl rfl) rfl (fun hB w1 => fit2_at _ _ _ _ _ _ w1 rfl)
theorem validate_13 (d s sz imm : Int) (w : World) : Calls Try.prog 12 #[aggI ⟨13, d, s, sz, imm⟩] w fun e w' => e = .returned (.int .i64 (if valB ⟨13, d, s, sz, imm⟩ then 0 else 1)) ∧ Below w.heap.size w w' :=
  validate_row fmtCells formats_any 13 d s sz imm 133 0 48 _ _ (fitB 2 ⟨13, d, s, sz, imm⟩) (szB 48 sz) w (by decide) (by decide) row_13 en_f2 (.inl rfl) rfl (fun hB w1 => fit2_at _ _ _ _ _ _ w1 rfl)
theorem validate_14 (d s sz imm : Int) (w : World) : Calls Try.prog 12 #[aggI ⟨14, d, s, sz, imm⟩] w fun e w' => e = .returned (.int .i64 (if valB ⟨14, d, s, sz, imm⟩ then 0 else 1)) ∧ Below w.heap.size w w' :=
  validate_row fmtCells formats_any 14 d s sz imm 129 0 48 _ _ (fitB 3 ⟨14, d, s, sz, imm⟩) (szB 48 sz) w (by decide) (by decide) row_14 en_f3 (.inl rfl) rfl (fun hB w1 => by
    rcases sz48 hB with rfl | rfl
    · exact fit3_32_at _ _ _ _ _ w1 rfl
    · exact fit3_16_at _ _ _ _ _ w1 rfl)
theorem validate_15 (d s sz imm : Int) (w : World) : Calls Try.prog 12 #[aggI ⟨15, d, s, sz, imm⟩] w fun e w' => e = .returned (.int .i64 (if valB ⟨15, d, s, sz, imm⟩ then 0 else 1)) ∧ Below w.heap.size w w' :=
  validate_row fmtCells formats_any 15 d s sz imm 129 1 48 _ _ (fitB 3 ⟨15, d, s, sz, imm⟩) (szB 48 sz) w (by decide) (by decide) row_15 en_f3 (.inl rfl) rfl (fun hB w1 => by
    rcases sz48 hB with rfl | rfl
    · exact fit3_32_at _ _ _ _ _ w1 rfl
    · exact fit3_16_at _ _ _ _ _ w1 rfl)
theorem validate_16 (d s sz imm : Int) (w : World) : Calls Try.prog 12 #[aggI ⟨16, d, s, sz, imm⟩] w fun e w' => e = .returned (.int .i64 (if valB ⟨16, d, s, sz, imm⟩ then 0 else 1)) ∧ Below w.heap.size w w' :=
  validate_row fmtCells formats_any 16 d s sz imm 129 4 48 _ _ (fitB 3 ⟨16, d, s, sz, imm⟩) (szB 48 sz) w (by decide) (by decide) row_16 en_f3 (.inl rfl) rfl (fun hB w1 => by
    rcases sz48 hB with rfl | rfl
    · exact fit3_32_at _ _ _ _ _ w1 rfl
    · exact fit3_16_at _ _ _ _ _ w1 rfl)
theorem validate_17 (d s sz imm : Int) (w : World) : Calls Try.prog 12 #[aggI ⟨17, d, s, sz, imm⟩] w fun e w' => e = .returned (.int .i64 (if valB ⟨17, d, s, sz, imm⟩ then 0 else 1)) ∧ Below w.heap.size w w' :=
  validate_row fmtCells formats_any 17 d s sz imm 129 5 48 _ _ (fitB 3 ⟨17, d, s, sz, imm⟩) (szB 48 sz) w (by decide) (by decide) row_17 en_f3 (.inl rfl) rfl (fun hB w1 => by
    rcases sz48 hB with rfl | rfl
    · exact fit3_32_at _ _ _ _ _ w1 rfl
    · exact fit3_16_at _ _ _ _ _ w1 rfl)
theorem validate_18 (d s sz imm : Int) (w : World) : Calls Try.prog 12 #[aggI ⟨18, d, s, sz, imm⟩] w fun e w' => e = .returned (.int .i64 (if valB ⟨18, d, s, sz, imm⟩ then 0 else 1)) ∧ Below w.heap.size w w' :=
  validate_row fmtCells formats_any 18 d s sz imm 129 6 48 _ _ (fitB 3 ⟨18, d, s, sz, imm⟩) (szB 48 sz) w (by decide) (by decide) row_18 en_f3 (.inl rfl) rfl (fun hB w1 => by
    rcases sz48 hB with rfl | rfl
    · exact fit3_32_at _ _ _ _ _ w1 rfl
    · exact fit3_16_at _ _ _ _ _ w1 rfl)
theorem validate_19 (d s sz imm : Int) (w : World) : Calls Try.prog 12 #[aggI ⟨19, d, s, sz, imm⟩] w fun e w' => e = .returned (.int .i64 (if valB ⟨19, d, s, sz, imm⟩ then 0 else 1)) ∧ Below w.heap.size w w' :=
  validate_row fmtCells formats_any 19 d s sz imm 129 7 48 _ _ (fitB 3 ⟨19, d, s, sz, imm⟩) (szB 48 sz) w (by decide) (by decide) row_19 en_f3 (.inl rfl) rfl (fun hB w1 => by
    rcases sz48 hB with rfl | rfl
    · exact fit3_32_at _ _ _ _ _ w1 rfl
    · exact fit3_16_at _ _ _ _ _ w1 rfl)
theorem validate_20 (d s sz imm : Int) (w : World) : Calls Try.prog 12 #[aggI ⟨20, d, s, sz, imm⟩] w fun e w' => e = .returned (.int .i64 (if valB ⟨20, d, s, sz, imm⟩ then 0 else 1)) ∧ Below w.heap.size w w' :=
  validate_row fmtCells formats_any 20 d s sz imm 175 0 32 _ _ (fitB 2 ⟨20, d, s, sz, imm⟩) (szB 32 sz) w (by decide) (by decide) row_20 en_f2 (.inr (.inl rfl)) rfl (fun hB w1 => fit2_at _ _ _ _ _ _ w1 rfl)
theorem validate_21 (d s sz imm : Int) (w : World) : Calls Try.prog 12 #[aggI ⟨21, d, s, sz, imm⟩] w fun e w' => e = .returned (.int .i64 (if valB ⟨21, d, s, sz, imm⟩ then 0 else 1)) ∧ Below w.heap.size w w' :=
  validate_row fmtCells formats_any 21 d s sz imm 211 4 48 _ _ (fitB 1 ⟨21, d, s, sz, imm⟩) (szB 48 sz) w (by decide) (by decide) row_21 en_f1 (.inl rfl) rfl (fun hB w1 => fit1_at _ _ _ _ _ _ w1 rfl)
theorem validate_22 (d s sz imm : Int) (w : World) : Calls Try.prog 12 #[aggI ⟨22, d, s, sz, imm⟩] w fun e w' => e = .returned (.int .i64 (if valB ⟨22, d, s, sz, imm⟩ then 0 else 1)) ∧ Below w.heap.size w w' :=
  validate_row fmtCells formats_any 22 d s sz imm 211 5 48 _ _ (fitB 1 ⟨22, d, s, sz, imm⟩) (szB 48 sz) w (by decide) (by decide) row_22 en_f1 (.inl rfl) rfl (fun hB w1 => fit1_at _ _ _ _ _ _ w1 rfl)
theorem validate_23 (d s sz imm : Int) (w : World) : Calls Try.prog 12 #[aggI ⟨23, d, s, sz, imm⟩] w fun e w' => e = .returned (.int .i64 (if valB ⟨23, d, s, sz, imm⟩ then 0 else 1)) ∧ Below w.heap.size w w' :=
  validate_row fmtCells formats_any 23 d s sz imm 211 7 48 _ _ (fitB 1 ⟨23, d, s, sz, imm⟩) (szB 48 sz) w (by decide) (by decide) row_23 en_f1 (.inl rfl) rfl (fun hB w1 => fit1_at _ _ _ _ _ _ w1 rfl)
theorem validate_24 (d s sz imm : Int) (w : World) : Calls Try.prog 12 #[aggI ⟨24, d, s, sz, imm⟩] w fun e w' => e = .returned (.int .i64 (if valB ⟨24, d, s, sz, imm⟩ then 0 else 1)) ∧ Below w.heap.size w w' :=
  validate_row fmtCells formats_any 24 d s sz imm 247 2 48 _ _ (fitB 1 ⟨24, d, s, sz, imm⟩) (szB 48 sz) w (by decide) (by decide) row_24 en_f1 (.inl rfl) rfl (fun hB w1 => fit1_at _ _ _ _ _ _ w1 rfl)
theorem validate_25 (d s sz imm : Int) (w : World) : Calls Try.prog 12 #[aggI ⟨25, d, s, sz, imm⟩] w fun e w' => e = .returned (.int .i64 (if valB ⟨25, d, s, sz, imm⟩ then 0 else 1)) ∧ Below w.heap.size w w' :=
  validate_row fmtCells formats_any 25 d s sz imm 247 3 48 _ _ (fitB 1 ⟨25, d, s, sz, imm⟩) (szB 48 sz) w (by decide) (by decide) row_25 en_f1 (.inl rfl) rfl (fun hB w1 => fit1_at _ _ _ _ _ _ w1 rfl)
theorem validate_26 (d s sz imm : Int) (w : World) : Calls Try.prog 12 #[aggI ⟨26, d, s, sz, imm⟩] w fun e w' => e = .returned (.int .i64 (if valB ⟨26, d, s, sz, imm⟩ then 0 else 1)) ∧ Below w.heap.size w w' :=
  validate_row fmtCells formats_any 26 d s sz imm 247 6 32 _ _ (fitB 1 ⟨26, d, s, sz, imm⟩) (szB 32 sz) w (by decide) (by decide) row_26 en_f1 (.inr (.inl rfl)) rfl (fun hB w1 => fit1_at _ _ _ _ _ _ w1 rfl)
theorem validate_27 (d s sz imm : Int) (w : World) : Calls Try.prog 12 #[aggI ⟨27, d, s, sz, imm⟩] w fun e w' => e = .returned (.int .i64 (if valB ⟨27, d, s, sz, imm⟩ then 0 else 1)) ∧ Below w.heap.size w w' :=
  validate_row fmtCells formats_any 27 d s sz imm 247 7 32 _ _ (fitB 1 ⟨27, d, s, sz, imm⟩) (szB 32 sz) w (by decide) (by decide) row_27 en_f1 (.inr (.inl rfl)) rfl (fun hB w1 => fit1_at _ _ _ _ _ _ w1 rfl)
theorem validate_28 (d s sz imm : Int) (w : World) : Calls Try.prog 12 #[aggI ⟨28, d, s, sz, imm⟩] w fun e w' => e = .returned (.int .i64 (if valB ⟨28, d, s, sz, imm⟩ then 0 else 1)) ∧ Below w.heap.size w w' :=
  validate_row fmtCells formats_any 28 d s sz imm 153 0 32 _ _ (fitB 0 ⟨28, d, s, sz, imm⟩) (szB 32 sz) w (by decide) (by decide) row_28 en_f0 (.inr (.inl rfl)) rfl (fun hB w1 => fit0_at _ _ _ _ _ _ w1 rfl)
theorem validate_29 (d s sz imm : Int) (w : World) : Calls Try.prog 12 #[aggI ⟨29, d, s, sz, imm⟩] w fun e w' => e = .returned (.int .i64 (if valB ⟨29, d, s, sz, imm⟩ then 0 else 1)) ∧ Below w.heap.size w w' :=
  validate_row fmtCells formats_any 29 d s sz imm 144 0 32 _ _ (fitB 7 ⟨29, d, s, sz, imm⟩) (szB 32 sz) w (by decide) (by decide) row_29 en_f7 (.inr (.inl rfl)) rfl (fun hB w1 => fit7_at _ _ _ _ _ _ w1 rfl)
theorem validate_30 (d s sz imm : Int) (w : World) : Calls Try.prog 12 #[aggI ⟨30, d, s, sz, imm⟩] w fun e w' => e = .returned (.int .i64 (if valB ⟨30, d, s, sz, imm⟩ then 0 else 1)) ∧ Below w.heap.size w w' :=
  validate_row fmtCells formats_any 30 d s sz imm 182 0 32 _ _ (fitB 8 ⟨30, d, s, sz, imm⟩) (szB 32 sz) w (by decide) (by decide) row_30 en_f8 (.inr (.inl rfl)) rfl (fun hB w1 => fit8_at _ _ _ _ _ _ w1 rfl)
theorem validate_31 (d s sz imm : Int) (w : World) : Calls Try.prog 12 #[aggI ⟨31, d, s, sz, imm⟩] w fun e w' => e = .returned (.int .i64 (if valB ⟨31, d, s, sz, imm⟩ then 0 else 1)) ∧ Below w.heap.size w w' :=
  validate_row fmtCells formats_any 31 d s sz imm 64 0 32 _ _ (fitB 9 ⟨31, d, s, sz, imm⟩) (szB 32 sz) w (by decide) (by decide) row_31 en_f9 (.inr (.inl rfl)) rfl (fun hB w1 => fit9_at _ _ _ _ _ _ w1 rfl)
theorem validate_32 (d s sz imm : Int) (w : World) : Calls Try.prog 12 #[aggI ⟨32, d, s, sz, imm⟩] w fun e w' => e = .returned (.int .i64 (if valB ⟨32, d, s, sz, imm⟩ then 0 else 1)) ∧ Below w.heap.size w w' :=
  validate_row fmtCells formats_any 32 d s sz imm 112 0 40 _ _ (fitB 10 ⟨32, d, s, sz, imm⟩) (szB 40 sz) w (by decide) (by decide) row_32 en_f10 (.inr (.inr rfl)) rfl (fun hB w1 => by
    rcases sz40 hB with rfl | rfl
    · exact fit10_32_at _ _ _ _ _ w1 rfl
    · exact fit10_8_at _ _ _ _ _ w1 rfl)
theorem validate_33 (d s sz imm : Int) (w : World) : Calls Try.prog 12 #[aggI ⟨33, d, s, sz, imm⟩] w fun e w' => e = .returned (.int .i64 (if valB ⟨33, d, s, sz, imm⟩ then 0 else 1)) ∧ Below w.heap.size w w' :=
  validate_row fmtCells formats_any 33 d s sz imm 235 0 40 _ _ (fitB 11 ⟨33, d, s, sz, imm⟩) (szB 40 sz) w (by decide) (by decide) row_33 en_f11 (.inr (.inr rfl)) rfl (fun hB w1 => by
    rcases sz40 hB with rfl | rfl
    · exact fit11_32_at _ _ _ _ _ w1 rfl
    · exact fit11_8_at _ _ _ _ _ w1 rfl)
theorem validate_34 (d s sz imm : Int) (w : World) : Calls Try.prog 12 #[aggI ⟨34, d, s, sz, imm⟩] w fun e w' => e = .returned (.int .i64 (if valB ⟨34, d, s, sz, imm⟩ then 0 else 1)) ∧ Below w.heap.size w w' :=
  validate_row fmtCells formats_any 34 d s sz imm 244 0 32 _ _ (fitB 0 ⟨34, d, s, sz, imm⟩) (szB 32 sz) w (by decide) (by decide) row_34 en_f0 (.inr (.inl rfl)) rfl (fun hB w1 => fit0_at _ _ _ _ _ _ w1 rfl)
theorem validate_35 (d s sz imm : Int) (w : World) : Calls Try.prog 12 #[aggI ⟨35, d, s, sz, imm⟩] w fun e w' => e = .returned (.int .i64 (if valB ⟨35, d, s, sz, imm⟩ then 0 else 1)) ∧ Below w.heap.size w w' :=
  validate_row fmtCells formats_any 35 d s sz imm 11 0 32 _ _ (fitB 0 ⟨35, d, s, sz, imm⟩) (szB 32 sz) w (by decide) (by decide) row_35 en_f0 (.inr (.inl rfl)) rfl (fun hB w1 => fit0_at _ _ _ _ _ _ w1 rfl)
theorem validate_36 (d s sz imm : Int) (w : World) : Calls Try.prog 12 #[aggI ⟨36, d, s, sz, imm⟩] w fun e w' => e = .returned (.int .i64 (if valB ⟨36, d, s, sz, imm⟩ then 0 else 1)) ∧ Below w.heap.size w w' :=
  validate_row fmtCells formats_any 36 d s sz imm 144 0 32 _ _ (fitB 0 ⟨36, d, s, sz, imm⟩) (szB 32 sz) w (by decide) (by decide) row_36 en_f0 (.inr (.inl rfl)) rfl (fun hB w1 => fit0_at _ _ _ _ _ _ w1 rfl)
theorem validate_any (x : Ins) (w : World) : Calls Try.prog 12 #[aggI x] w fun e w' => e = .returned (.int .i64 (if valB x then 0 else 1)) ∧ Below w.heap.size w w' := by
  by_cases h : 0 ≤ x.op ∧ x.op ≤ 36
  · obtain ⟨op, d, s, sz, imm⟩ := x
    rcases op_cases h with rfl | rfl | rfl | rfl | rfl | rfl | rfl | rfl | rfl | rfl | rfl | rfl | rfl | rfl | rfl | rfl | rfl | rfl | rfl | rfl | rfl | rfl | rfl | rfl | rfl | rfl | rfl | rfl | rfl | rfl | rfl | rfl | rfl | rfl | rfl | rfl | rfl
    · exact validate_0 d s sz imm w
    · exact validate_1 d s sz imm w
    · exact validate_2 d s sz imm w
    · exact validate_3 d s sz imm w
    · exact validate_4 d s sz imm w
    · exact validate_5 d s sz imm w
    · exact validate_6 d s sz imm w
    · exact validate_7 d s sz imm w
    · exact validate_8 d s sz imm w
    · exact validate_9 d s sz imm w
    · exact validate_10 d s sz imm w
    · exact validate_11 d s sz imm w
    · exact validate_12 d s sz imm w
    · exact validate_13 d s sz imm w
    · exact validate_14 d s sz imm w
    · exact validate_15 d s sz imm w
    · exact validate_16 d s sz imm w
    · exact validate_17 d s sz imm w
    · exact validate_18 d s sz imm w
    · exact validate_19 d s sz imm w
    · exact validate_20 d s sz imm w
    · exact validate_21 d s sz imm w
    · exact validate_22 d s sz imm w
    · exact validate_23 d s sz imm w
    · exact validate_24 d s sz imm w
    · exact validate_25 d s sz imm w
    · exact validate_26 d s sz imm w
    · exact validate_27 d s sz imm w
    · exact validate_28 d s sz imm w
    · exact validate_29 d s sz imm w
    · exact validate_30 d s sz imm w
    · exact validate_31 d s sz imm w
    · exact validate_32 d s sz imm w
    · exact validate_33 d s sz imm w
    · exact validate_34 d s sz imm w
    · exact validate_35 d s sz imm w
    · exact validate_36 d s sz imm w
  · exact validate_out x w (by omega)
theorem les_len (sz n : Int) : (les sz n).length ≤ 4 := by
  unfold les
  split <;> simp [le2, le4]
theorem wr_len (w : Nat) (o n : Int) (x : Ins) : (wrB w o n x).length ≤ 20 := by
  have h1 := les_len x.sz x.imm
  unfold wrB
  split <;> (try split) <;> simp [le4] <;> omega
/-- What encode answers at a valid instruction. -/
abbrev EncC (x : Ins) : Prop := ∀ w, Calls Try.prog 25 #[aggI x] w fun e w' => ∃ v, e = .returned v ∧ w'.ownsRow w.heap.size 5 1 v (encF x).length (byV (encF x)) ∧ Below w.heap.size w w'
theorem encode_0 (d s sz imm : Int) (hv : valB ⟨0, d, s, sz, imm⟩ = true) : EncC ⟨0, d, s, sz, imm⟩ := by
  have hv2 : (szB 48 sz && fitB 2 ⟨0, d, s, sz, imm⟩) = true := hv
  obtain ⟨hz, hf⟩ := (Bool.and_eq_true _ _).mp hv2
  simp only [fitB, Bool.and_eq_true, decide_eq_true_eq] at hf
  obtain ⟨g1, g2, rfl⟩ := hf
  have r1 := isR_of g1
  have r2 := isR_of g2
  rcases sz48 hz with rfl | rfl
  · exact fun w => encode_row fmtCells formats_any 0 d s 32 0 137 0 48 _ _ (wrB 2 137 0 ⟨0, d, s, 32, 0⟩) w (by decide) (by decide) row_0 en_w2 (wr_pos _ _ _ _) (wr_len _ _ _ _) (fun w1 => wr2_any _ _ _ _ _ _ _ _ _ _ w1 (by decide) (by omega) (by omega))
  · exact fun w => encode_row fmtCells formats_any 0 d s 16 0 137 0 48 _ _ (wrB 2 137 0 ⟨0, d, s, 16, 0⟩) w (by decide) (by decide) row_0 en_w2 (wr_pos _ _ _ _) (wr_len _ _ _ _) (fun w1 => wr2_any _ _ _ _ _ _ _ _ _ _ w1 (by decide) (by omega) (by omega))
theorem encode_1 (d s sz imm : Int) (hv : valB ⟨1, d, s, sz, imm⟩ = true) : EncC ⟨1, d, s, sz, imm⟩ := by
  have hv2 : (szB 48 sz && fitB 3 ⟨1, d, s, sz, imm⟩) = true := hv
  obtain ⟨hz, hf⟩ := (Bool.and_eq_true _ _).mp hv2
  simp only [fitB, Bool.and_eq_true, decide_eq_true_eq] at hf
  obtain ⟨g1, rfl, g3⟩ := hf
  have r1 := isR_of g1
  rcases sz48 hz with rfl | rfl
  · have r3 : 0 ≤ imm ∧ imm < 4294967296 := g3
    exact fun w => encode_row fmtCells formats_any 1 d 0 32 imm 184 0 48 _ _ (wrB 5 184 0 ⟨1, d, 0, 32, imm⟩) w (by decide) (by decide) row_1 en_w5 (wr_pos _ _ _ _) (wr_len _ _ _ _) (fun w1 => wr5_32_any _ _ _ _ _ _ _ _ _ w1 (by decide) (by omega) (by omega) (by omega))
  · have r3 : 0 ≤ imm ∧ imm < 65536 := g3
    exact fun w => encode_row fmtCells formats_any 1 d 0 16 imm 184 0 48 _ _ (wrB 5 184 0 ⟨1, d, 0, 16, imm⟩) w (by decide) (by decide) row_1 en_w5 (wr_pos _ _ _ _) (wr_len _ _ _ _) (fun w1 => wr5_16_any _ _ _ _ _ _ _ _ _ w1 (by decide) (by omega) (by omega) (by omega))
theorem encode_2 (d s sz imm : Int) (hv : valB ⟨2, d, s, sz, imm⟩ = true) : EncC ⟨2, d, s, sz, imm⟩ := by
  have hv2 : (szB 48 sz && fitB 4 ⟨2, d, s, sz, imm⟩) = true := hv
  obtain ⟨hz, hf⟩ := (Bool.and_eq_true _ _).mp hv2
  simp only [fitB, Bool.and_eq_true, decide_eq_true_eq] at hf
  obtain ⟨g1, g2, -, g3⟩ := hf
  have r1 := isR_of g1
  have r2 := isR_of g2
  have r3 := isS_of g3
  rcases sz48 hz with rfl | rfl
  · exact fun w => encode_row fmtCells formats_any 2 d s 32 imm 139 0 48 _ _ (wrB 6 139 0 ⟨2, d, s, 32, imm⟩) w (by decide) (by decide) row_2 en_w6 (wr_pos _ _ _ _) (wr_len _ _ _ _) (fun w1 => wr6_any _ _ _ _ _ _ _ _ _ _ w1 (by decide) (by omega) (by omega) (by omega) (by omega))
  · exact fun w => encode_row fmtCells formats_any 2 d s 16 imm 139 0 48 _ _ (wrB 6 139 0 ⟨2, d, s, 16, imm⟩) w (by decide) (by decide) row_2 en_w6 (wr_pos _ _ _ _) (wr_len _ _ _ _) (fun w1 => wr6_any _ _ _ _ _ _ _ _ _ _ w1 (by decide) (by omega) (by omega) (by omega) (by omega))
theorem encode_3 (d s sz imm : Int) (hv : valB ⟨3, d, s, sz, imm⟩ = true) : EncC ⟨3, d, s, sz, imm⟩ := by
  have hv2 : (szB 48 sz && fitB 5 ⟨3, d, s, sz, imm⟩) = true := hv
  obtain ⟨hz, hf⟩ := (Bool.and_eq_true _ _).mp hv2
  simp only [fitB, Bool.and_eq_true, decide_eq_true_eq] at hf
  obtain ⟨g1, g2, -, g3⟩ := hf
  have r1 := isR_of g1
  have r2 := isR_of g2
  have r3 := isS_of g3
  rcases sz48 hz with rfl | rfl
  · exact fun w => encode_row fmtCells formats_any 3 d s 32 imm 137 0 48 _ _ (wrB 8 137 0 ⟨3, d, s, 32, imm⟩) w (by decide) (by decide) row_3 en_w8 (wr_pos _ _ _ _) (wr_len _ _ _ _) (fun w1 => wr8_any _ _ _ _ _ _ _ _ _ _ w1 (by decide) (by omega) (by omega) (by omega) (by omega))
  · exact fun w => encode_row fmtCells formats_any 3 d s 16 imm 137 0 48 _ _ (wrB 8 137 0 ⟨3, d, s, 16, imm⟩) w (by decide) (by decide) row_3 en_w8 (wr_pos _ _ _ _) (wr_len _ _ _ _) (fun w1 => wr8_any _ _ _ _ _ _ _ _ _ _ w1 (by decide) (by omega) (by omega) (by omega) (by omega))
theorem encode_4 (d s sz imm : Int) (hv : valB ⟨4, d, s, sz, imm⟩ = true) : EncC ⟨4, d, s, sz, imm⟩ := by
  have hv2 : (szB 32 sz && fitB 4 ⟨4, d, s, sz, imm⟩) = true := hv
  obtain ⟨hz, hf⟩ := (Bool.and_eq_true _ _).mp hv2
  simp only [fitB, Bool.and_eq_true, decide_eq_true_eq] at hf
  obtain ⟨g1, g2, -, g3⟩ := hf
  have r1 := isR_of g1
  have r2 := isR_of g2
  have r3 := isS_of g3
  obtain rfl := sz32 hz
  exact fun w => encode_row fmtCells formats_any 4 d s 32 imm 182 0 32 _ _ (wrB 7 182 0 ⟨4, d, s, 32, imm⟩) w (by decide) (by decide) row_4 en_w7 (wr_pos _ _ _ _) (wr_len _ _ _ _) (fun w1 => wr7_any _ _ _ _ _ _ _ _ _ _ w1 (by decide) (by omega) (by omega) (by omega) (by omega))
theorem encode_5 (d s sz imm : Int) (hv : valB ⟨5, d, s, sz, imm⟩ = true) : EncC ⟨5, d, s, sz, imm⟩ := by
  have hv2 : (szB 32 sz && fitB 4 ⟨5, d, s, sz, imm⟩) = true := hv
  obtain ⟨hz, hf⟩ := (Bool.and_eq_true _ _).mp hv2
  simp only [fitB, Bool.and_eq_true, decide_eq_true_eq] at hf
  obtain ⟨g1, g2, -, g3⟩ := hf
  have r1 := isR_of g1
  have r2 := isR_of g2
  have r3 := isS_of g3
  obtain rfl := sz32 hz
  exact fun w => encode_row fmtCells formats_any 5 d s 32 imm 183 0 32 _ _ (wrB 7 183 0 ⟨5, d, s, 32, imm⟩) w (by decide) (by decide) row_5 en_w7 (wr_pos _ _ _ _) (wr_len _ _ _ _) (fun w1 => wr7_any _ _ _ _ _ _ _ _ _ _ w1 (by decide) (by omega) (by omega) (by omega) (by omega))
theorem encode_6 (d s sz imm : Int) (hv : valB ⟨6, d, s, sz, imm⟩ = true) : EncC ⟨6, d, s, sz, imm⟩ := by
  have hv2 : (szB 32 sz && fitB 6 ⟨6, d, s, sz, imm⟩) = true := hv
  obtain ⟨hz, hf⟩ := (Bool.and_eq_true _ _).mp hv2
  simp only [fitB, Bool.and_eq_true, decide_eq_true_eq] at hf
  obtain ⟨⟨g1, -, -, g3⟩, g2⟩ := hf
  have r1 := isR_of g1
  have r2 := isL_of g2
  have r3 := isS_of g3
  obtain rfl := sz32 hz
  exact fun w => encode_row fmtCells formats_any 6 d s 32 imm 136 0 32 _ _ (wrB 8 136 0 ⟨6, d, s, 32, imm⟩) w (by decide) (by decide) row_6 en_w8 (wr_pos _ _ _ _) (wr_len _ _ _ _) (fun w1 => wr8_any _ _ _ _ _ _ _ _ _ _ w1 (by decide) (by omega) (by omega) (by omega) (by omega))
theorem encode_7 (d s sz imm : Int) (hv : valB ⟨7, d, s, sz, imm⟩ = true) : EncC ⟨7, d, s, sz, imm⟩ := by
  have hv2 : (szB 48 sz && fitB 2 ⟨7, d, s, sz, imm⟩) = true := hv
  obtain ⟨hz, hf⟩ := (Bool.and_eq_true _ _).mp hv2
  simp only [fitB, Bool.and_eq_true, decide_eq_true_eq] at hf
  obtain ⟨g1, g2, rfl⟩ := hf
  have r1 := isR_of g1
  have r2 := isR_of g2
  rcases sz48 hz with rfl | rfl
  · exact fun w => encode_row fmtCells formats_any 7 d s 32 0 1 0 48 _ _ (wrB 2 1 0 ⟨7, d, s, 32, 0⟩) w (by decide) (by decide) row_7 en_w2 (wr_pos _ _ _ _) (wr_len _ _ _ _) (fun w1 => wr2_any _ _ _ _ _ _ _ _ _ _ w1 (by decide) (by omega) (by omega))
  · exact fun w => encode_row fmtCells formats_any 7 d s 16 0 1 0 48 _ _ (wrB 2 1 0 ⟨7, d, s, 16, 0⟩) w (by decide) (by decide) row_7 en_w2 (wr_pos _ _ _ _) (wr_len _ _ _ _) (fun w1 => wr2_any _ _ _ _ _ _ _ _ _ _ w1 (by decide) (by omega) (by omega))
theorem encode_8 (d s sz imm : Int) (hv : valB ⟨8, d, s, sz, imm⟩ = true) : EncC ⟨8, d, s, sz, imm⟩ := by
  have hv2 : (szB 48 sz && fitB 2 ⟨8, d, s, sz, imm⟩) = true := hv
  obtain ⟨hz, hf⟩ := (Bool.and_eq_true _ _).mp hv2
  simp only [fitB, Bool.and_eq_true, decide_eq_true_eq] at hf
  obtain ⟨g1, g2, rfl⟩ := hf
  have r1 := isR_of g1
  have r2 := isR_of g2
  rcases sz48 hz with rfl | rfl
  · exact fun w => encode_row fmtCells formats_any 8 d s 32 0 9 0 48 _ _ (wrB 2 9 0 ⟨8, d, s, 32, 0⟩) w (by decide) (by decide) row_8 en_w2 (wr_pos _ _ _ _) (wr_len _ _ _ _) (fun w1 => wr2_any _ _ _ _ _ _ _ _ _ _ w1 (by decide) (by omega) (by omega))
  · exact fun w => encode_row fmtCells formats_any 8 d s 16 0 9 0 48 _ _ (wrB 2 9 0 ⟨8, d, s, 16, 0⟩) w (by decide) (by decide) row_8 en_w2 (wr_pos _ _ _ _) (wr_len _ _ _ _) (fun w1 => wr2_any _ _ _ _ _ _ _ _ _ _ w1 (by decide) (by omega) (by omega))
theorem encode_9 (d s sz imm : Int) (hv : valB ⟨9, d, s, sz, imm⟩ = true) : EncC ⟨9, d, s, sz, imm⟩ := by
  have hv2 : (szB 48 sz && fitB 2 ⟨9, d, s, sz, imm⟩) = true := hv
  obtain ⟨hz, hf⟩ := (Bool.and_eq_true _ _).mp hv2
  simp only [fitB, Bool.and_eq_true, decide_eq_true_eq] at hf
  obtain ⟨g1, g2, rfl⟩ := hf
  have r1 := isR_of g1
  have r2 := isR_of g2
  rcases sz48 hz with rfl | rfl
  · exact fun w => encode_row fmtCells formats_any 9 d s 32 0 33 0 48 _ _ (wrB 2 33 0 ⟨9, d, s, 32, 0⟩) w (by decide) (by decide) row_9 en_w2 (wr_pos _ _ _ _) (wr_len _ _ _ _) (fun w1 => wr2_any _ _ _ _ _ _ _ _ _ _ w1 (by decide) (by omega) (by omega))
  · exact fun w => encode_row fmtCells formats_any 9 d s 16 0 33 0 48 _ _ (wrB 2 33 0 ⟨9, d, s, 16, 0⟩) w (by decide) (by decide) row_9 en_w2 (wr_pos _ _ _ _) (wr_len _ _ _ _) (fun w1 => wr2_any _ _ _ _ _ _ _ _ _ _ w1 (by decide) (by omega) (by omega))
theorem encode_10 (d s sz imm : Int) (hv : valB ⟨10, d, s, sz, imm⟩ = true) : EncC ⟨10, d, s, sz, imm⟩ := by
  have hv2 : (szB 48 sz && fitB 2 ⟨10, d, s, sz, imm⟩) = true := hv
  obtain ⟨hz, hf⟩ := (Bool.and_eq_true _ _).mp hv2
  simp only [fitB, Bool.and_eq_true, decide_eq_true_eq] at hf
  obtain ⟨g1, g2, rfl⟩ := hf
  have r1 := isR_of g1
  have r2 := isR_of g2
  rcases sz48 hz with rfl | rfl
  · exact fun w => encode_row fmtCells formats_any 10 d s 32 0 41 0 48 _ _ (wrB 2 41 0 ⟨10, d, s, 32, 0⟩) w (by decide) (by decide) row_10 en_w2 (wr_pos _ _ _ _) (wr_len _ _ _ _) (fun w1 => wr2_any _ _ _ _ _ _ _ _ _ _ w1 (by decide) (by omega) (by omega))
  · exact fun w => encode_row fmtCells formats_any 10 d s 16 0 41 0 48 _ _ (wrB 2 41 0 ⟨10, d, s, 16, 0⟩) w (by decide) (by decide) row_10 en_w2 (wr_pos _ _ _ _) (wr_len _ _ _ _) (fun w1 => wr2_any _ _ _ _ _ _ _ _ _ _ w1 (by decide) (by omega) (by omega))
theorem encode_11 (d s sz imm : Int) (hv : valB ⟨11, d, s, sz, imm⟩ = true) : EncC ⟨11, d, s, sz, imm⟩ := by
  have hv2 : (szB 48 sz && fitB 2 ⟨11, d, s, sz, imm⟩) = true := hv
  obtain ⟨hz, hf⟩ := (Bool.and_eq_true _ _).mp hv2
  simp only [fitB, Bool.and_eq_true, decide_eq_true_eq] at hf
  obtain ⟨g1, g2, rfl⟩ := hf
  have r1 := isR_of g1
  have r2 := isR_of g2
  rcases sz48 hz with rfl | rfl
  · exact fun w => encode_row fmtCells formats_any 11 d s 32 0 49 0 48 _ _ (wrB 2 49 0 ⟨11, d, s, 32, 0⟩) w (by decide) (by decide) row_11 en_w2 (wr_pos _ _ _ _) (wr_len _ _ _ _) (fun w1 => wr2_any _ _ _ _ _ _ _ _ _ _ w1 (by decide) (by omega) (by omega))
  · exact fun w => encode_row fmtCells formats_any 11 d s 16 0 49 0 48 _ _ (wrB 2 49 0 ⟨11, d, s, 16, 0⟩) w (by decide) (by decide) row_11 en_w2 (wr_pos _ _ _ _) (wr_len _ _ _ _) (fun w1 => wr2_any _ _ _ _ _ _ _ _ _ _ w1 (by decide) (by omega) (by omega))
theorem encode_12 (d s sz imm : Int) (hv : valB ⟨12, d, s, sz, imm⟩ = true) : EncC ⟨12, d, s, sz, imm⟩ := by
  have hv2 : (szB 48 sz && fitB 2 ⟨12, d, s, sz, imm⟩) = true := hv
  obtain ⟨hz, hf⟩ := (Bool.and_eq_true _ _).mp hv2
  simp only [fitB, Bool.and_eq_true, decide_eq_true_eq] at hf
  obtain ⟨g1, g2, rfl⟩ := hf
  have r1 := isR_of g1
  have r2 := isR_of g2
  rcases sz48 hz with rfl | rfl
  · exact fun w => encode_row fmtCells formats_any 12 d s 32 0 57 0 48 _ _ (wrB 2 57 0 ⟨12, d, s, 32, 0⟩) w (by decide) (by decide) row_12 en_w2 (wr_pos _ _ _ _) (wr_len _ _ _ _) (fun w1 => wr2_any _ _ _ _ _ _ _ _ _ _ w1 (by decide) (by omega) (by omega))
  · exact fun w => encode_row fmtCells formats_any 12 d s 16 0 57 0 48 _ _ (wrB 2 57 0 ⟨12, d, s, 16, 0⟩) w (by decide) (by decide) row_12 en_w2 (wr_pos _ _ _ _) (wr_len _ _ _ _) (fun w1 => wr2_any _ _ _ _ _ _ _ _ _ _ w1 (by decide) (by omega) (by omega))
theorem encode_13 (d s sz imm : Int) (hv : valB ⟨13, d, s, sz, imm⟩ = true) : EncC ⟨13, d, s, sz, imm⟩ := by
  have hv2 : (szB 48 sz && fitB 2 ⟨13, d, s, sz, imm⟩) = true := hv
  obtain ⟨hz, hf⟩ := (Bool.and_eq_true _ _).mp hv2
  simp only [fitB, Bool.and_eq_true, decide_eq_true_eq] at hf
  obtain ⟨g1, g2, rfl⟩ := hf
  have r1 := isR_of g1
  have r2 := isR_of g2
  rcases sz48 hz with rfl | rfl
  · exact fun w => encode_row fmtCells formats_any 13 d s 32 0 133 0 48 _ _ (wrB 2 133 0 ⟨13, d, s, 32, 0⟩) w (by decide) (by decide) row_13 en_w2 (wr_pos _ _ _ _) (wr_len _ _ _ _) (fun w1 => wr2_any _ _ _ _ _ _ _ _ _ _ w1 (by decide) (by omega) (by omega))
  · exact fun w => encode_row fmtCells formats_any 13 d s 16 0 133 0 48 _ _ (wrB 2 133 0 ⟨13, d, s, 16, 0⟩) w (by decide) (by decide) row_13 en_w2 (wr_pos _ _ _ _) (wr_len _ _ _ _) (fun w1 => wr2_any _ _ _ _ _ _ _ _ _ _ w1 (by decide) (by omega) (by omega))
theorem encode_14 (d s sz imm : Int) (hv : valB ⟨14, d, s, sz, imm⟩ = true) : EncC ⟨14, d, s, sz, imm⟩ := by
  have hv2 : (szB 48 sz && fitB 3 ⟨14, d, s, sz, imm⟩) = true := hv
  obtain ⟨hz, hf⟩ := (Bool.and_eq_true _ _).mp hv2
  simp only [fitB, Bool.and_eq_true, decide_eq_true_eq] at hf
  obtain ⟨g1, rfl, g3⟩ := hf
  have r1 := isR_of g1
  rcases sz48 hz with rfl | rfl
  · have r3 : 0 ≤ imm ∧ imm < 4294967296 := g3
    cases hB : isS (sgn 2147483648 imm) 128
    · have e : wrB 9 129 0 ⟨14, d, 0, 32, imm⟩ = 129 :: (192 + 8 * 0 + d) :: le4 imm := if_neg (by rw [show isS (sgn (half 32) imm) 128 = false from hB]; decide)
      exact fun w => encode_row fmtCells formats_any 14 d 0 32 imm 129 0 48 _ _ (wrB 9 129 0 ⟨14, d, 0, 32, imm⟩) w (by decide) (by decide) row_14 en_w9 (wr_pos _ _ _ _) (wr_len _ _ _ _) (fun w1 => by rw [e]; exact wr9_32_false _ _ _ _ _ _ _ _ _ w1 (by decide) (by decide) (by omega) (by omega) (by omega) hB)
    · have e : wrB 9 129 0 ⟨14, d, 0, 32, imm⟩ = [131, 192 + 8 * 0 + d, imm % 256] := if_pos hB
      exact fun w => encode_row fmtCells formats_any 14 d 0 32 imm 129 0 48 _ _ (wrB 9 129 0 ⟨14, d, 0, 32, imm⟩) w (by decide) (by decide) row_14 en_w9 (wr_pos _ _ _ _) (wr_len _ _ _ _) (fun w1 => by rw [e]; exact wr9_32_true _ _ _ _ _ _ _ _ _ w1 (by decide) (by decide) (by omega) (by omega) (by omega) hB)
  · have r3 : 0 ≤ imm ∧ imm < 65536 := g3
    cases hB : isS (sgn 32768 imm) 128
    · have e : wrB 9 129 0 ⟨14, d, 0, 16, imm⟩ = 129 :: (192 + 8 * 0 + d) :: le2 imm := if_neg (by rw [show isS (sgn (half 16) imm) 128 = false from hB]; decide)
      exact fun w => encode_row fmtCells formats_any 14 d 0 16 imm 129 0 48 _ _ (wrB 9 129 0 ⟨14, d, 0, 16, imm⟩) w (by decide) (by decide) row_14 en_w9 (wr_pos _ _ _ _) (wr_len _ _ _ _) (fun w1 => by rw [e]; exact wr9_16_false _ _ _ _ _ _ _ _ _ w1 (by decide) (by decide) (by omega) (by omega) (by omega) hB)
    · have e : wrB 9 129 0 ⟨14, d, 0, 16, imm⟩ = [131, 192 + 8 * 0 + d, imm % 256] := if_pos hB
      exact fun w => encode_row fmtCells formats_any 14 d 0 16 imm 129 0 48 _ _ (wrB 9 129 0 ⟨14, d, 0, 16, imm⟩) w (by decide) (by decide) row_14 en_w9 (wr_pos _ _ _ _) (wr_len _ _ _ _) (fun w1 => by rw [e]; exact wr9_16_true _ _ _ _ _ _ _ _ _ w1 (by decide) (by decide) (by omega) (by omega) (by omega) hB)
theorem encode_15 (d s sz imm : Int) (hv : valB ⟨15, d, s, sz, imm⟩ = true) : EncC ⟨15, d, s, sz, imm⟩ := by
  have hv2 : (szB 48 sz && fitB 3 ⟨15, d, s, sz, imm⟩) = true := hv
  obtain ⟨hz, hf⟩ := (Bool.and_eq_true _ _).mp hv2
  simp only [fitB, Bool.and_eq_true, decide_eq_true_eq] at hf
  obtain ⟨g1, rfl, g3⟩ := hf
  have r1 := isR_of g1
  rcases sz48 hz with rfl | rfl
  · have r3 : 0 ≤ imm ∧ imm < 4294967296 := g3
    cases hB : isS (sgn 2147483648 imm) 128
    · have e : wrB 9 129 1 ⟨15, d, 0, 32, imm⟩ = 129 :: (192 + 8 * 1 + d) :: le4 imm := if_neg (by rw [show isS (sgn (half 32) imm) 128 = false from hB]; decide)
      exact fun w => encode_row fmtCells formats_any 15 d 0 32 imm 129 1 48 _ _ (wrB 9 129 1 ⟨15, d, 0, 32, imm⟩) w (by decide) (by decide) row_15 en_w9 (wr_pos _ _ _ _) (wr_len _ _ _ _) (fun w1 => by rw [e]; exact wr9_32_false _ _ _ _ _ _ _ _ _ w1 (by decide) (by decide) (by omega) (by omega) (by omega) hB)
    · have e : wrB 9 129 1 ⟨15, d, 0, 32, imm⟩ = [131, 192 + 8 * 1 + d, imm % 256] := if_pos hB
      exact fun w => encode_row fmtCells formats_any 15 d 0 32 imm 129 1 48 _ _ (wrB 9 129 1 ⟨15, d, 0, 32, imm⟩) w (by decide) (by decide) row_15 en_w9 (wr_pos _ _ _ _) (wr_len _ _ _ _) (fun w1 => by rw [e]; exact wr9_32_true _ _ _ _ _ _ _ _ _ w1 (by decide) (by decide) (by omega) (by omega) (by omega) hB)
  · have r3 : 0 ≤ imm ∧ imm < 65536 := g3
    cases hB : isS (sgn 32768 imm) 128
    · have e : wrB 9 129 1 ⟨15, d, 0, 16, imm⟩ = 129 :: (192 + 8 * 1 + d) :: le2 imm := if_neg (by rw [show isS (sgn (half 16) imm) 128 = false from hB]; decide)
      exact fun w => encode_row fmtCells formats_any 15 d 0 16 imm 129 1 48 _ _ (wrB 9 129 1 ⟨15, d, 0, 16, imm⟩) w (by decide) (by decide) row_15 en_w9 (wr_pos _ _ _ _) (wr_len _ _ _ _) (fun w1 => by rw [e]; exact wr9_16_false _ _ _ _ _ _ _ _ _ w1 (by decide) (by decide) (by omega) (by omega) (by omega) hB)
    · have e : wrB 9 129 1 ⟨15, d, 0, 16, imm⟩ = [131, 192 + 8 * 1 + d, imm % 256] := if_pos hB
      exact fun w => encode_row fmtCells formats_any 15 d 0 16 imm 129 1 48 _ _ (wrB 9 129 1 ⟨15, d, 0, 16, imm⟩) w (by decide) (by decide) row_15 en_w9 (wr_pos _ _ _ _) (wr_len _ _ _ _) (fun w1 => by rw [e]; exact wr9_16_true _ _ _ _ _ _ _ _ _ w1 (by decide) (by decide) (by omega) (by omega) (by omega) hB)
theorem encode_16 (d s sz imm : Int) (hv : valB ⟨16, d, s, sz, imm⟩ = true) : EncC ⟨16, d, s, sz, imm⟩ := by
  have hv2 : (szB 48 sz && fitB 3 ⟨16, d, s, sz, imm⟩) = true := hv
  obtain ⟨hz, hf⟩ := (Bool.and_eq_true _ _).mp hv2
  simp only [fitB, Bool.and_eq_true, decide_eq_true_eq] at hf
  obtain ⟨g1, rfl, g3⟩ := hf
  have r1 := isR_of g1
  rcases sz48 hz with rfl | rfl
  · have r3 : 0 ≤ imm ∧ imm < 4294967296 := g3
    cases hB : isS (sgn 2147483648 imm) 128
    · have e : wrB 9 129 4 ⟨16, d, 0, 32, imm⟩ = 129 :: (192 + 8 * 4 + d) :: le4 imm := if_neg (by rw [show isS (sgn (half 32) imm) 128 = false from hB]; decide)
      exact fun w => encode_row fmtCells formats_any 16 d 0 32 imm 129 4 48 _ _ (wrB 9 129 4 ⟨16, d, 0, 32, imm⟩) w (by decide) (by decide) row_16 en_w9 (wr_pos _ _ _ _) (wr_len _ _ _ _) (fun w1 => by rw [e]; exact wr9_32_false _ _ _ _ _ _ _ _ _ w1 (by decide) (by decide) (by omega) (by omega) (by omega) hB)
    · have e : wrB 9 129 4 ⟨16, d, 0, 32, imm⟩ = [131, 192 + 8 * 4 + d, imm % 256] := if_pos hB
      exact fun w => encode_row fmtCells formats_any 16 d 0 32 imm 129 4 48 _ _ (wrB 9 129 4 ⟨16, d, 0, 32, imm⟩) w (by decide) (by decide) row_16 en_w9 (wr_pos _ _ _ _) (wr_len _ _ _ _) (fun w1 => by rw [e]; exact wr9_32_true _ _ _ _ _ _ _ _ _ w1 (by decide) (by decide) (by omega) (by omega) (by omega) hB)
  · have r3 : 0 ≤ imm ∧ imm < 65536 := g3
    cases hB : isS (sgn 32768 imm) 128
    · have e : wrB 9 129 4 ⟨16, d, 0, 16, imm⟩ = 129 :: (192 + 8 * 4 + d) :: le2 imm := if_neg (by rw [show isS (sgn (half 16) imm) 128 = false from hB]; decide)
      exact fun w => encode_row fmtCells formats_any 16 d 0 16 imm 129 4 48 _ _ (wrB 9 129 4 ⟨16, d, 0, 16, imm⟩) w (by decide) (by decide) row_16 en_w9 (wr_pos _ _ _ _) (wr_len _ _ _ _) (fun w1 => by rw [e]; exact wr9_16_false _ _ _ _ _ _ _ _ _ w1 (by decide) (by decide) (by omega) (by omega) (by omega) hB)
    · have e : wrB 9 129 4 ⟨16, d, 0, 16, imm⟩ = [131, 192 + 8 * 4 + d, imm % 256] := if_pos hB
      exact fun w => encode_row fmtCells formats_any 16 d 0 16 imm 129 4 48 _ _ (wrB 9 129 4 ⟨16, d, 0, 16, imm⟩) w (by decide) (by decide) row_16 en_w9 (wr_pos _ _ _ _) (wr_len _ _ _ _) (fun w1 => by rw [e]; exact wr9_16_true _ _ _ _ _ _ _ _ _ w1 (by decide) (by decide) (by omega) (by omega) (by omega) hB)
theorem encode_17 (d s sz imm : Int) (hv : valB ⟨17, d, s, sz, imm⟩ = true) : EncC ⟨17, d, s, sz, imm⟩ := by
  have hv2 : (szB 48 sz && fitB 3 ⟨17, d, s, sz, imm⟩) = true := hv
  obtain ⟨hz, hf⟩ := (Bool.and_eq_true _ _).mp hv2
  simp only [fitB, Bool.and_eq_true, decide_eq_true_eq] at hf
  obtain ⟨g1, rfl, g3⟩ := hf
  have r1 := isR_of g1
  rcases sz48 hz with rfl | rfl
  · have r3 : 0 ≤ imm ∧ imm < 4294967296 := g3
    cases hB : isS (sgn 2147483648 imm) 128
    · have e : wrB 9 129 5 ⟨17, d, 0, 32, imm⟩ = 129 :: (192 + 8 * 5 + d) :: le4 imm := if_neg (by rw [show isS (sgn (half 32) imm) 128 = false from hB]; decide)
      exact fun w => encode_row fmtCells formats_any 17 d 0 32 imm 129 5 48 _ _ (wrB 9 129 5 ⟨17, d, 0, 32, imm⟩) w (by decide) (by decide) row_17 en_w9 (wr_pos _ _ _ _) (wr_len _ _ _ _) (fun w1 => by rw [e]; exact wr9_32_false _ _ _ _ _ _ _ _ _ w1 (by decide) (by decide) (by omega) (by omega) (by omega) hB)
    · have e : wrB 9 129 5 ⟨17, d, 0, 32, imm⟩ = [131, 192 + 8 * 5 + d, imm % 256] := if_pos hB
      exact fun w => encode_row fmtCells formats_any 17 d 0 32 imm 129 5 48 _ _ (wrB 9 129 5 ⟨17, d, 0, 32, imm⟩) w (by decide) (by decide) row_17 en_w9 (wr_pos _ _ _ _) (wr_len _ _ _ _) (fun w1 => by rw [e]; exact wr9_32_true _ _ _ _ _ _ _ _ _ w1 (by decide) (by decide) (by omega) (by omega) (by omega) hB)
  · have r3 : 0 ≤ imm ∧ imm < 65536 := g3
    cases hB : isS (sgn 32768 imm) 128
    · have e : wrB 9 129 5 ⟨17, d, 0, 16, imm⟩ = 129 :: (192 + 8 * 5 + d) :: le2 imm := if_neg (by rw [show isS (sgn (half 16) imm) 128 = false from hB]; decide)
      exact fun w => encode_row fmtCells formats_any 17 d 0 16 imm 129 5 48 _ _ (wrB 9 129 5 ⟨17, d, 0, 16, imm⟩) w (by decide) (by decide) row_17 en_w9 (wr_pos _ _ _ _) (wr_len _ _ _ _) (fun w1 => by rw [e]; exact wr9_16_false _ _ _ _ _ _ _ _ _ w1 (by decide) (by decide) (by omega) (by omega) (by omega) hB)
    · have e : wrB 9 129 5 ⟨17, d, 0, 16, imm⟩ = [131, 192 + 8 * 5 + d, imm % 256] := if_pos hB
      exact fun w => encode_row fmtCells formats_any 17 d 0 16 imm 129 5 48 _ _ (wrB 9 129 5 ⟨17, d, 0, 16, imm⟩) w (by decide) (by decide) row_17 en_w9 (wr_pos _ _ _ _) (wr_len _ _ _ _) (fun w1 => by rw [e]; exact wr9_16_true _ _ _ _ _ _ _ _ _ w1 (by decide) (by decide) (by omega) (by omega) (by omega) hB)
theorem encode_18 (d s sz imm : Int) (hv : valB ⟨18, d, s, sz, imm⟩ = true) : EncC ⟨18, d, s, sz, imm⟩ := by
  have hv2 : (szB 48 sz && fitB 3 ⟨18, d, s, sz, imm⟩) = true := hv
  obtain ⟨hz, hf⟩ := (Bool.and_eq_true _ _).mp hv2
  simp only [fitB, Bool.and_eq_true, decide_eq_true_eq] at hf
  obtain ⟨g1, rfl, g3⟩ := hf
  have r1 := isR_of g1
  rcases sz48 hz with rfl | rfl
  · have r3 : 0 ≤ imm ∧ imm < 4294967296 := g3
    cases hB : isS (sgn 2147483648 imm) 128
    · have e : wrB 9 129 6 ⟨18, d, 0, 32, imm⟩ = 129 :: (192 + 8 * 6 + d) :: le4 imm := if_neg (by rw [show isS (sgn (half 32) imm) 128 = false from hB]; decide)
      exact fun w => encode_row fmtCells formats_any 18 d 0 32 imm 129 6 48 _ _ (wrB 9 129 6 ⟨18, d, 0, 32, imm⟩) w (by decide) (by decide) row_18 en_w9 (wr_pos _ _ _ _) (wr_len _ _ _ _) (fun w1 => by rw [e]; exact wr9_32_false _ _ _ _ _ _ _ _ _ w1 (by decide) (by decide) (by omega) (by omega) (by omega) hB)
    · have e : wrB 9 129 6 ⟨18, d, 0, 32, imm⟩ = [131, 192 + 8 * 6 + d, imm % 256] := if_pos hB
      exact fun w => encode_row fmtCells formats_any 18 d 0 32 imm 129 6 48 _ _ (wrB 9 129 6 ⟨18, d, 0, 32, imm⟩) w (by decide) (by decide) row_18 en_w9 (wr_pos _ _ _ _) (wr_len _ _ _ _) (fun w1 => by rw [e]; exact wr9_32_true _ _ _ _ _ _ _ _ _ w1 (by decide) (by decide) (by omega) (by omega) (by omega) hB)
  · have r3 : 0 ≤ imm ∧ imm < 65536 := g3
    cases hB : isS (sgn 32768 imm) 128
    · have e : wrB 9 129 6 ⟨18, d, 0, 16, imm⟩ = 129 :: (192 + 8 * 6 + d) :: le2 imm := if_neg (by rw [show isS (sgn (half 16) imm) 128 = false from hB]; decide)
      exact fun w => encode_row fmtCells formats_any 18 d 0 16 imm 129 6 48 _ _ (wrB 9 129 6 ⟨18, d, 0, 16, imm⟩) w (by decide) (by decide) row_18 en_w9 (wr_pos _ _ _ _) (wr_len _ _ _ _) (fun w1 => by rw [e]; exact wr9_16_false _ _ _ _ _ _ _ _ _ w1 (by decide) (by decide) (by omega) (by omega) (by omega) hB)
    · have e : wrB 9 129 6 ⟨18, d, 0, 16, imm⟩ = [131, 192 + 8 * 6 + d, imm % 256] := if_pos hB
      exact fun w => encode_row fmtCells formats_any 18 d 0 16 imm 129 6 48 _ _ (wrB 9 129 6 ⟨18, d, 0, 16, imm⟩) w (by decide) (by decide) row_18 en_w9 (wr_pos _ _ _ _) (wr_len _ _ _ _) (fun w1 => by rw [e]; exact wr9_16_true _ _ _ _ _ _ _ _ _ w1 (by decide) (by decide) (by omega) (by omega) (by omega) hB)
theorem encode_19 (d s sz imm : Int) (hv : valB ⟨19, d, s, sz, imm⟩ = true) : EncC ⟨19, d, s, sz, imm⟩ := by
  have hv2 : (szB 48 sz && fitB 3 ⟨19, d, s, sz, imm⟩) = true := hv
  obtain ⟨hz, hf⟩ := (Bool.and_eq_true _ _).mp hv2
  simp only [fitB, Bool.and_eq_true, decide_eq_true_eq] at hf
  obtain ⟨g1, rfl, g3⟩ := hf
  have r1 := isR_of g1
  rcases sz48 hz with rfl | rfl
  · have r3 : 0 ≤ imm ∧ imm < 4294967296 := g3
    cases hB : isS (sgn 2147483648 imm) 128
    · have e : wrB 9 129 7 ⟨19, d, 0, 32, imm⟩ = 129 :: (192 + 8 * 7 + d) :: le4 imm := if_neg (by rw [show isS (sgn (half 32) imm) 128 = false from hB]; decide)
      exact fun w => encode_row fmtCells formats_any 19 d 0 32 imm 129 7 48 _ _ (wrB 9 129 7 ⟨19, d, 0, 32, imm⟩) w (by decide) (by decide) row_19 en_w9 (wr_pos _ _ _ _) (wr_len _ _ _ _) (fun w1 => by rw [e]; exact wr9_32_false _ _ _ _ _ _ _ _ _ w1 (by decide) (by decide) (by omega) (by omega) (by omega) hB)
    · have e : wrB 9 129 7 ⟨19, d, 0, 32, imm⟩ = [131, 192 + 8 * 7 + d, imm % 256] := if_pos hB
      exact fun w => encode_row fmtCells formats_any 19 d 0 32 imm 129 7 48 _ _ (wrB 9 129 7 ⟨19, d, 0, 32, imm⟩) w (by decide) (by decide) row_19 en_w9 (wr_pos _ _ _ _) (wr_len _ _ _ _) (fun w1 => by rw [e]; exact wr9_32_true _ _ _ _ _ _ _ _ _ w1 (by decide) (by decide) (by omega) (by omega) (by omega) hB)
  · have r3 : 0 ≤ imm ∧ imm < 65536 := g3
    cases hB : isS (sgn 32768 imm) 128
    · have e : wrB 9 129 7 ⟨19, d, 0, 16, imm⟩ = 129 :: (192 + 8 * 7 + d) :: le2 imm := if_neg (by rw [show isS (sgn (half 16) imm) 128 = false from hB]; decide)
      exact fun w => encode_row fmtCells formats_any 19 d 0 16 imm 129 7 48 _ _ (wrB 9 129 7 ⟨19, d, 0, 16, imm⟩) w (by decide) (by decide) row_19 en_w9 (wr_pos _ _ _ _) (wr_len _ _ _ _) (fun w1 => by rw [e]; exact wr9_16_false _ _ _ _ _ _ _ _ _ w1 (by decide) (by decide) (by omega) (by omega) (by omega) hB)
    · have e : wrB 9 129 7 ⟨19, d, 0, 16, imm⟩ = [131, 192 + 8 * 7 + d, imm % 256] := if_pos hB
      exact fun w => encode_row fmtCells formats_any 19 d 0 16 imm 129 7 48 _ _ (wrB 9 129 7 ⟨19, d, 0, 16, imm⟩) w (by decide) (by decide) row_19 en_w9 (wr_pos _ _ _ _) (wr_len _ _ _ _) (fun w1 => by rw [e]; exact wr9_16_true _ _ _ _ _ _ _ _ _ w1 (by decide) (by decide) (by omega) (by omega) (by omega) hB)
theorem encode_20 (d s sz imm : Int) (hv : valB ⟨20, d, s, sz, imm⟩ = true) : EncC ⟨20, d, s, sz, imm⟩ := by
  have hv2 : (szB 32 sz && fitB 2 ⟨20, d, s, sz, imm⟩) = true := hv
  obtain ⟨hz, hf⟩ := (Bool.and_eq_true _ _).mp hv2
  simp only [fitB, Bool.and_eq_true, decide_eq_true_eq] at hf
  obtain ⟨g1, g2, rfl⟩ := hf
  have r1 := isR_of g1
  have r2 := isR_of g2
  obtain rfl := sz32 hz
  exact fun w => encode_row fmtCells formats_any 20 d s 32 0 175 0 32 _ _ (wrB 4 175 0 ⟨20, d, s, 32, 0⟩) w (by decide) (by decide) row_20 en_w4 (wr_pos _ _ _ _) (wr_len _ _ _ _) (fun w1 => wr4_any _ _ _ _ _ _ _ _ _ _ w1 (by decide) (by omega) (by omega))
theorem encode_21 (d s sz imm : Int) (hv : valB ⟨21, d, s, sz, imm⟩ = true) : EncC ⟨21, d, s, sz, imm⟩ := by
  have hv2 : (szB 48 sz && fitB 1 ⟨21, d, s, sz, imm⟩) = true := hv
  obtain ⟨hz, hf⟩ := (Bool.and_eq_true _ _).mp hv2
  simp only [fitB, Bool.and_eq_true, decide_eq_true_eq] at hf
  obtain ⟨g1, rfl, rfl⟩ := hf
  have r1 := isR_of g1
  rcases sz48 hz with rfl | rfl
  · exact fun w => encode_row fmtCells formats_any 21 d 0 32 0 211 4 48 _ _ (wrB 3 211 4 ⟨21, d, 0, 32, 0⟩) w (by decide) (by decide) row_21 en_w3 (wr_pos _ _ _ _) (wr_len _ _ _ _) (fun w1 => wr3_any _ _ _ _ _ _ _ _ _ _ w1 (by decide) (by decide) (by omega))
  · exact fun w => encode_row fmtCells formats_any 21 d 0 16 0 211 4 48 _ _ (wrB 3 211 4 ⟨21, d, 0, 16, 0⟩) w (by decide) (by decide) row_21 en_w3 (wr_pos _ _ _ _) (wr_len _ _ _ _) (fun w1 => wr3_any _ _ _ _ _ _ _ _ _ _ w1 (by decide) (by decide) (by omega))
theorem encode_22 (d s sz imm : Int) (hv : valB ⟨22, d, s, sz, imm⟩ = true) : EncC ⟨22, d, s, sz, imm⟩ := by
  have hv2 : (szB 48 sz && fitB 1 ⟨22, d, s, sz, imm⟩) = true := hv
  obtain ⟨hz, hf⟩ := (Bool.and_eq_true _ _).mp hv2
  simp only [fitB, Bool.and_eq_true, decide_eq_true_eq] at hf
  obtain ⟨g1, rfl, rfl⟩ := hf
  have r1 := isR_of g1
  rcases sz48 hz with rfl | rfl
  · exact fun w => encode_row fmtCells formats_any 22 d 0 32 0 211 5 48 _ _ (wrB 3 211 5 ⟨22, d, 0, 32, 0⟩) w (by decide) (by decide) row_22 en_w3 (wr_pos _ _ _ _) (wr_len _ _ _ _) (fun w1 => wr3_any _ _ _ _ _ _ _ _ _ _ w1 (by decide) (by decide) (by omega))
  · exact fun w => encode_row fmtCells formats_any 22 d 0 16 0 211 5 48 _ _ (wrB 3 211 5 ⟨22, d, 0, 16, 0⟩) w (by decide) (by decide) row_22 en_w3 (wr_pos _ _ _ _) (wr_len _ _ _ _) (fun w1 => wr3_any _ _ _ _ _ _ _ _ _ _ w1 (by decide) (by decide) (by omega))
theorem encode_23 (d s sz imm : Int) (hv : valB ⟨23, d, s, sz, imm⟩ = true) : EncC ⟨23, d, s, sz, imm⟩ := by
  have hv2 : (szB 48 sz && fitB 1 ⟨23, d, s, sz, imm⟩) = true := hv
  obtain ⟨hz, hf⟩ := (Bool.and_eq_true _ _).mp hv2
  simp only [fitB, Bool.and_eq_true, decide_eq_true_eq] at hf
  obtain ⟨g1, rfl, rfl⟩ := hf
  have r1 := isR_of g1
  rcases sz48 hz with rfl | rfl
  · exact fun w => encode_row fmtCells formats_any 23 d 0 32 0 211 7 48 _ _ (wrB 3 211 7 ⟨23, d, 0, 32, 0⟩) w (by decide) (by decide) row_23 en_w3 (wr_pos _ _ _ _) (wr_len _ _ _ _) (fun w1 => wr3_any _ _ _ _ _ _ _ _ _ _ w1 (by decide) (by decide) (by omega))
  · exact fun w => encode_row fmtCells formats_any 23 d 0 16 0 211 7 48 _ _ (wrB 3 211 7 ⟨23, d, 0, 16, 0⟩) w (by decide) (by decide) row_23 en_w3 (wr_pos _ _ _ _) (wr_len _ _ _ _) (fun w1 => wr3_any _ _ _ _ _ _ _ _ _ _ w1 (by decide) (by decide) (by omega))
theorem encode_24 (d s sz imm : Int) (hv : valB ⟨24, d, s, sz, imm⟩ = true) : EncC ⟨24, d, s, sz, imm⟩ := by
  have hv2 : (szB 48 sz && fitB 1 ⟨24, d, s, sz, imm⟩) = true := hv
  obtain ⟨hz, hf⟩ := (Bool.and_eq_true _ _).mp hv2
  simp only [fitB, Bool.and_eq_true, decide_eq_true_eq] at hf
  obtain ⟨g1, rfl, rfl⟩ := hf
  have r1 := isR_of g1
  rcases sz48 hz with rfl | rfl
  · exact fun w => encode_row fmtCells formats_any 24 d 0 32 0 247 2 48 _ _ (wrB 3 247 2 ⟨24, d, 0, 32, 0⟩) w (by decide) (by decide) row_24 en_w3 (wr_pos _ _ _ _) (wr_len _ _ _ _) (fun w1 => wr3_any _ _ _ _ _ _ _ _ _ _ w1 (by decide) (by decide) (by omega))
  · exact fun w => encode_row fmtCells formats_any 24 d 0 16 0 247 2 48 _ _ (wrB 3 247 2 ⟨24, d, 0, 16, 0⟩) w (by decide) (by decide) row_24 en_w3 (wr_pos _ _ _ _) (wr_len _ _ _ _) (fun w1 => wr3_any _ _ _ _ _ _ _ _ _ _ w1 (by decide) (by decide) (by omega))
theorem encode_25 (d s sz imm : Int) (hv : valB ⟨25, d, s, sz, imm⟩ = true) : EncC ⟨25, d, s, sz, imm⟩ := by
  have hv2 : (szB 48 sz && fitB 1 ⟨25, d, s, sz, imm⟩) = true := hv
  obtain ⟨hz, hf⟩ := (Bool.and_eq_true _ _).mp hv2
  simp only [fitB, Bool.and_eq_true, decide_eq_true_eq] at hf
  obtain ⟨g1, rfl, rfl⟩ := hf
  have r1 := isR_of g1
  rcases sz48 hz with rfl | rfl
  · exact fun w => encode_row fmtCells formats_any 25 d 0 32 0 247 3 48 _ _ (wrB 3 247 3 ⟨25, d, 0, 32, 0⟩) w (by decide) (by decide) row_25 en_w3 (wr_pos _ _ _ _) (wr_len _ _ _ _) (fun w1 => wr3_any _ _ _ _ _ _ _ _ _ _ w1 (by decide) (by decide) (by omega))
  · exact fun w => encode_row fmtCells formats_any 25 d 0 16 0 247 3 48 _ _ (wrB 3 247 3 ⟨25, d, 0, 16, 0⟩) w (by decide) (by decide) row_25 en_w3 (wr_pos _ _ _ _) (wr_len _ _ _ _) (fun w1 => wr3_any _ _ _ _ _ _ _ _ _ _ w1 (by decide) (by decide) (by omega))
theorem encode_26 (d s sz imm : Int) (hv : valB ⟨26, d, s, sz, imm⟩ = true) : EncC ⟨26, d, s, sz, imm⟩ := by
  have hv2 : (szB 32 sz && fitB 1 ⟨26, d, s, sz, imm⟩) = true := hv
  obtain ⟨hz, hf⟩ := (Bool.and_eq_true _ _).mp hv2
  simp only [fitB, Bool.and_eq_true, decide_eq_true_eq] at hf
  obtain ⟨g1, rfl, rfl⟩ := hf
  have r1 := isR_of g1
  obtain rfl := sz32 hz
  exact fun w => encode_row fmtCells formats_any 26 d 0 32 0 247 6 32 _ _ (wrB 3 247 6 ⟨26, d, 0, 32, 0⟩) w (by decide) (by decide) row_26 en_w3 (wr_pos _ _ _ _) (wr_len _ _ _ _) (fun w1 => wr3_any _ _ _ _ _ _ _ _ _ _ w1 (by decide) (by decide) (by omega))
theorem encode_27 (d s sz imm : Int) (hv : valB ⟨27, d, s, sz, imm⟩ = true) : EncC ⟨27, d, s, sz, imm⟩ := by
  have hv2 : (szB 32 sz && fitB 1 ⟨27, d, s, sz, imm⟩) = true := hv
  obtain ⟨hz, hf⟩ := (Bool.and_eq_true _ _).mp hv2
  simp only [fitB, Bool.and_eq_true, decide_eq_true_eq] at hf
  obtain ⟨g1, rfl, rfl⟩ := hf
  have r1 := isR_of g1
  obtain rfl := sz32 hz
  exact fun w => encode_row fmtCells formats_any 27 d 0 32 0 247 7 32 _ _ (wrB 3 247 7 ⟨27, d, 0, 32, 0⟩) w (by decide) (by decide) row_27 en_w3 (wr_pos _ _ _ _) (wr_len _ _ _ _) (fun w1 => wr3_any _ _ _ _ _ _ _ _ _ _ w1 (by decide) (by decide) (by omega))
theorem encode_28 (d s sz imm : Int) (hv : valB ⟨28, d, s, sz, imm⟩ = true) : EncC ⟨28, d, s, sz, imm⟩ := by
  have hv2 : (szB 32 sz && fitB 0 ⟨28, d, s, sz, imm⟩) = true := hv
  obtain ⟨hz, hf⟩ := (Bool.and_eq_true _ _).mp hv2
  simp only [fitB, Bool.and_eq_true, decide_eq_true_eq] at hf
  obtain ⟨rfl, rfl, rfl⟩ := hf
  obtain rfl := sz32 hz
  exact fun w => encode_row fmtCells formats_any 28 0 0 32 0 153 0 32 _ _ (wrB 0 153 0 ⟨28, 0, 0, 32, 0⟩) w (by decide) (by decide) row_28 en_w0 (wr_pos _ _ _ _) (wr_len _ _ _ _) (fun w1 => wr0_any _ _ _ _ _ _ _ _ _ _ w1 (by decide))
theorem encode_29 (d s sz imm : Int) (hv : valB ⟨29, d, s, sz, imm⟩ = true) : EncC ⟨29, d, s, sz, imm⟩ := by
  have hv2 : (szB 32 sz && fitB 7 ⟨29, d, s, sz, imm⟩) = true := hv
  obtain ⟨hz, hf⟩ := (Bool.and_eq_true _ _).mp hv2
  simp only [fitB, Bool.and_eq_true, decide_eq_true_eq] at hf
  obtain ⟨g1, g2, rfl⟩ := hf
  have r1 := isL_of g1
  have r2 := isC_of g2
  obtain rfl := sz32 hz
  exact fun w => encode_row fmtCells formats_any 29 d s 32 0 144 0 32 _ _ (wrB 10 144 0 ⟨29, d, s, 32, 0⟩) w (by decide) (by decide) row_29 en_w10 (wr_pos _ _ _ _) (wr_len _ _ _ _) (fun w1 => wr10_any _ _ _ _ _ _ _ _ _ _ w1 (by decide) (by omega) (by omega))
theorem encode_30 (d s sz imm : Int) (hv : valB ⟨30, d, s, sz, imm⟩ = true) : EncC ⟨30, d, s, sz, imm⟩ := by
  have hv2 : (szB 32 sz && fitB 8 ⟨30, d, s, sz, imm⟩) = true := hv
  obtain ⟨hz, hf⟩ := (Bool.and_eq_true _ _).mp hv2
  simp only [fitB, Bool.and_eq_true, decide_eq_true_eq] at hf
  obtain ⟨g1, g2, rfl⟩ := hf
  have r1 := isR_of g1
  have r2 := isL_of g2
  obtain rfl := sz32 hz
  exact fun w => encode_row fmtCells formats_any 30 d s 32 0 182 0 32 _ _ (wrB 4 182 0 ⟨30, d, s, 32, 0⟩) w (by decide) (by decide) row_30 en_w4 (wr_pos _ _ _ _) (wr_len _ _ _ _) (fun w1 => wr4_any _ _ _ _ _ _ _ _ _ _ w1 (by decide) (by omega) (by omega))
theorem encode_31 (d s sz imm : Int) (hv : valB ⟨31, d, s, sz, imm⟩ = true) : EncC ⟨31, d, s, sz, imm⟩ := by
  have hv2 : (szB 32 sz && fitB 9 ⟨31, d, s, sz, imm⟩) = true := hv
  obtain ⟨hz, hf⟩ := (Bool.and_eq_true _ _).mp hv2
  simp only [fitB, Bool.and_eq_true] at hf
  obtain ⟨g1, g2, g3⟩ := hf
  have r1 := isR_of g1
  have r2 := isR_of g2
  have r3 := isC_of g3
  obtain rfl := sz32 hz
  exact fun w => encode_row fmtCells formats_any 31 d s 32 imm 64 0 32 _ _ (wrB 11 64 0 ⟨31, d, s, 32, imm⟩) w (by decide) (by decide) row_31 en_w11 (wr_pos _ _ _ _) (wr_len _ _ _ _) (fun w1 => wr11_any _ _ _ _ _ _ _ _ _ _ w1 (by decide) (by omega) (by omega) (by omega))
theorem encode_32 (d s sz imm : Int) (hv : valB ⟨32, d, s, sz, imm⟩ = true) : EncC ⟨32, d, s, sz, imm⟩ := by
  have hv2 : (szB 40 sz && fitB 10 ⟨32, d, s, sz, imm⟩) = true := hv
  obtain ⟨hz, hf⟩ := (Bool.and_eq_true _ _).mp hv2
  simp only [fitB, Bool.and_eq_true, decide_eq_true_eq] at hf
  obtain ⟨rfl, g2, g3⟩ := hf
  have r2 := isC_of g2
  rcases sz40 hz with rfl | rfl
  · have r3 : -2147483648 ≤ imm ∧ imm < 2147483648 := isS_of g3
    exact fun w => encode_row fmtCells formats_any 32 0 s 32 imm 112 0 40 _ _ (wrB 12 112 0 ⟨32, 0, s, 32, imm⟩) w (by decide) (by decide) row_32 en_w12 (wr_pos _ _ _ _) (wr_len _ _ _ _) (fun w1 => wr12_32_any _ _ _ _ _ _ _ _ _ w1 (by omega) (by omega) (by omega))
  · have r3 : -128 ≤ imm ∧ imm < 128 := isS_of g3
    exact fun w => encode_row fmtCells formats_any 32 0 s 8 imm 112 0 40 _ _ (wrB 12 112 0 ⟨32, 0, s, 8, imm⟩) w (by decide) (by decide) row_32 en_w12 (wr_pos _ _ _ _) (wr_len _ _ _ _) (fun w1 => wr12_8_any _ _ _ _ _ _ _ _ _ w1 (by decide) (by omega) (by omega) (by omega))
theorem encode_33 (d s sz imm : Int) (hv : valB ⟨33, d, s, sz, imm⟩ = true) : EncC ⟨33, d, s, sz, imm⟩ := by
  have hv2 : (szB 40 sz && fitB 11 ⟨33, d, s, sz, imm⟩) = true := hv
  obtain ⟨hz, hf⟩ := (Bool.and_eq_true _ _).mp hv2
  simp only [fitB, Bool.and_eq_true, decide_eq_true_eq] at hf
  obtain ⟨rfl, rfl, g3⟩ := hf
  rcases sz40 hz with rfl | rfl
  · have r3 : -2147483648 ≤ imm ∧ imm < 2147483648 := isS_of g3
    exact fun w => encode_row fmtCells formats_any 33 0 0 32 imm 235 0 40 _ _ (wrB 13 235 0 ⟨33, 0, 0, 32, imm⟩) w (by decide) (by decide) row_33 en_w13 (wr_pos _ _ _ _) (wr_len _ _ _ _) (fun w1 => wr13_32_any _ _ _ _ _ _ _ _ _ w1 (by omega) (by omega))
  · have r3 : -128 ≤ imm ∧ imm < 128 := isS_of g3
    exact fun w => encode_row fmtCells formats_any 33 0 0 8 imm 235 0 40 _ _ (wrB 13 235 0 ⟨33, 0, 0, 8, imm⟩) w (by decide) (by decide) row_33 en_w13 (wr_pos _ _ _ _) (wr_len _ _ _ _) (fun w1 => wr13_8_any _ _ _ _ _ _ _ _ _ w1 (by decide) (by omega) (by omega))
theorem encode_34 (d s sz imm : Int) (hv : valB ⟨34, d, s, sz, imm⟩ = true) : EncC ⟨34, d, s, sz, imm⟩ := by
  have hv2 : (szB 32 sz && fitB 0 ⟨34, d, s, sz, imm⟩) = true := hv
  obtain ⟨hz, hf⟩ := (Bool.and_eq_true _ _).mp hv2
  simp only [fitB, Bool.and_eq_true, decide_eq_true_eq] at hf
  obtain ⟨rfl, rfl, rfl⟩ := hf
  obtain rfl := sz32 hz
  exact fun w => encode_row fmtCells formats_any 34 0 0 32 0 244 0 32 _ _ (wrB 0 244 0 ⟨34, 0, 0, 32, 0⟩) w (by decide) (by decide) row_34 en_w0 (wr_pos _ _ _ _) (wr_len _ _ _ _) (fun w1 => wr0_any _ _ _ _ _ _ _ _ _ _ w1 (by decide))
theorem encode_35 (d s sz imm : Int) (hv : valB ⟨35, d, s, sz, imm⟩ = true) : EncC ⟨35, d, s, sz, imm⟩ := by
  have hv2 : (szB 32 sz && fitB 0 ⟨35, d, s, sz, imm⟩) = true := hv
  obtain ⟨hz, hf⟩ := (Bool.and_eq_true _ _).mp hv2
  simp only [fitB, Bool.and_eq_true, decide_eq_true_eq] at hf
  obtain ⟨rfl, rfl, rfl⟩ := hf
  obtain rfl := sz32 hz
  exact fun w => encode_row fmtCells formats_any 35 0 0 32 0 11 0 32 _ _ (wrB 1 11 0 ⟨35, 0, 0, 32, 0⟩) w (by decide) (by decide) row_35 en_w1 (wr_pos _ _ _ _) (wr_len _ _ _ _) (fun w1 => wr1_any _ _ _ _ _ _ _ _ _ _ w1 (by decide))
theorem encode_36 (d s sz imm : Int) (hv : valB ⟨36, d, s, sz, imm⟩ = true) : EncC ⟨36, d, s, sz, imm⟩ := by
  have hv2 : (szB 32 sz && fitB 0 ⟨36, d, s, sz, imm⟩) = true := hv
  obtain ⟨hz, hf⟩ := (Bool.and_eq_true _ _).mp hv2
  simp only [fitB, Bool.and_eq_true, decide_eq_true_eq] at hf
  obtain ⟨rfl, rfl, rfl⟩ := hf
  obtain rfl := sz32 hz
  exact fun w => encode_row fmtCells formats_any 36 0 0 32 0 144 0 32 _ _ (wrB 0 144 0 ⟨36, 0, 0, 32, 0⟩) w (by decide) (by decide) row_36 en_w0 (wr_pos _ _ _ _) (wr_len _ _ _ _) (fun w1 => wr0_any _ _ _ _ _ _ _ _ _ _ w1 (by decide))
theorem encode_any (x : Ins) (hv : valB x = true) : EncC x := by
  have h : 0 ≤ x.op ∧ x.op ≤ 36 := by
    unfold valB at hv
    exact of_decide_eq_true ((Bool.and_eq_true _ _).mp hv).1
  obtain ⟨op, d, s, sz, imm⟩ := x
  rcases op_cases h with rfl | rfl | rfl | rfl | rfl | rfl | rfl | rfl | rfl | rfl | rfl | rfl | rfl | rfl | rfl | rfl | rfl | rfl | rfl | rfl | rfl | rfl | rfl | rfl | rfl | rfl | rfl | rfl | rfl | rfl | rfl | rfl | rfl | rfl | rfl | rfl | rfl
  · exact encode_0 d s sz imm hv
  · exact encode_1 d s sz imm hv
  · exact encode_2 d s sz imm hv
  · exact encode_3 d s sz imm hv
  · exact encode_4 d s sz imm hv
  · exact encode_5 d s sz imm hv
  · exact encode_6 d s sz imm hv
  · exact encode_7 d s sz imm hv
  · exact encode_8 d s sz imm hv
  · exact encode_9 d s sz imm hv
  · exact encode_10 d s sz imm hv
  · exact encode_11 d s sz imm hv
  · exact encode_12 d s sz imm hv
  · exact encode_13 d s sz imm hv
  · exact encode_14 d s sz imm hv
  · exact encode_15 d s sz imm hv
  · exact encode_16 d s sz imm hv
  · exact encode_17 d s sz imm hv
  · exact encode_18 d s sz imm hv
  · exact encode_19 d s sz imm hv
  · exact encode_20 d s sz imm hv
  · exact encode_21 d s sz imm hv
  · exact encode_22 d s sz imm hv
  · exact encode_23 d s sz imm hv
  · exact encode_24 d s sz imm hv
  · exact encode_25 d s sz imm hv
  · exact encode_26 d s sz imm hv
  · exact encode_27 d s sz imm hv
  · exact encode_28 d s sz imm hv
  · exact encode_29 d s sz imm hv
  · exact encode_30 d s sz imm hv
  · exact encode_31 d s sz imm hv
  · exact encode_32 d s sz imm hv
  · exact encode_33 d s sz imm hv
  · exact encode_34 d s sz imm hv
  · exact encode_35 d s sz imm hv
  · exact encode_36 d s sz imm hv
end Go.Proofs.Ytpekegeohcnhcaa
