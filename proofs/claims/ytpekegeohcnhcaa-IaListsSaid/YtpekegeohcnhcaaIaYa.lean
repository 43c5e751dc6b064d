/-
  The three parts of the reference's encode, at every instruction.
-/
import Derived.Test.YtpekegeohcnhcaaIaYm
import Derived.Test.YtpekegeohcnhcaaIaRa
import Derived.Test.YtpekegeohcnhcaaIaRb
import Derived.Test.YtpekegeohcnhcaaIaRc
import Derived.Test.YtpekegeohcnhcaaIaRd
import Derived.Test.YtpekegeohcnhcaaIaRe
import Derived.Test.YtpekegeohcnhcaaIaSa
import Derived.Test.YtpekegeohcnhcaaIaSb
import Derived.Test.YtpekegeohcnhcaaIaSc
import Derived.Test.YtpekegeohcnhcaaIaSd
import Derived.Test.YtpekegeohcnhcaaIaSe
import Derived.Test.YtpekegeohcnhcaaIaUa
import Derived.Test.YtpekegeohcnhcaaIaUb
import Derived.Test.YtpekegeohcnhcaaIaUc
import Derived.Test.YtpekegeohcnhcaaIaUd
namespace Go.Proofs.Ytpekegeohcnhcaa
open Go.RowKit

theorem REnd.conv {w : World} {B B' : Bool} {L L' : List Int} {e : Ending} {w' : World} (h : REnd w B L e w') (hB : B = B') (hL : B' = true → L = L') : REnd w B' L' e w' := by
  subst hB
  obtain ⟨V, he, ho, hb⟩ := h
  exact ⟨V, he, fun hb' => hL hb' ▸ ho hb', hb⟩
def mB (x : Ins) : Bool := decide (0 ≤ x.op ∧ x.op ≤ 6) && valB x
def cB (x : Ins) : Bool := decide (7 ≤ x.op ∧ x.op ≤ 27) && valB x
def oB (x : Ins) : Bool := decide (28 ≤ x.op ∧ x.op ≤ 36) && valB x
theorem mB_in (x : Ins) (h : 0 ≤ x.op ∧ x.op ≤ 6) : valB x = mB x := by unfold mB; rw [decide_eq_true h]; rfl
theorem mB_out (x : Ins) (h : x.op < 0 ∨ 6 < x.op) : false = mB x := by unfold mB; rw [decide_eq_false (by omega)]; rfl
theorem cB_in (x : Ins) (h : 7 ≤ x.op ∧ x.op ≤ 27) : valB x = cB x := by unfold cB; rw [decide_eq_true h]; rfl
theorem cB_out (x : Ins) (h : x.op < 7 ∨ 27 < x.op) : false = cB x := by unfold cB; rw [decide_eq_false (by omega)]; rfl
theorem oB_in (x : Ins) (h : 28 ≤ x.op ∧ x.op ≤ 36) : valB x = oB x := by unfold oB; rw [decide_eq_true h]; rfl
theorem oB_out (x : Ins) (h : x.op < 28 ∨ 36 < x.op) : false = oB x := by unfold oB; rw [decide_eq_false (by omega)]; rfl
theorem mB_val {x : Ins} (h : mB x = true) : valB x = true := by unfold mB at h; exact (Bool.and_eq_true _ _ ▸ h).2
theorem cB_val {x : Ins} (h : cB x = true) : valB x = true := by unfold cB at h; exact (Bool.and_eq_true _ _ ▸ h).2
theorem oB_val {x : Ins} (h : oB x = true) : valB x = true := by unfold oB at h; exact (Bool.and_eq_true _ _ ▸ h).2
theorem val_parts (x : Ins) : (mB x || (cB x || oB x)) = valB x := by
  unfold mB cB oB
  cases hv : valB x
  · simp
  · have : 0 ≤ x.op ∧ x.op ≤ 36 := by unfold valB at hv; simp only [Bool.and_eq_true, decide_eq_true_eq] at hv; exact hv.1
    simp
    omega
theorem rMoves_any (x : Ins) (hz : x.sz = 8 ∨ x.sz = 16 ∨ x.sz = 32) (h1 : -9223372036854775808 ≤ x.imm) (h2 : x.imm ≤ 9223372036854775807) (w : World) : Calls Try.prog 40 #[aggI x] w (REnd w (mB x) (bod x)) := by
  obtain ⟨op, d, s, sz, imm⟩ := x
  replace h1 : -9223372036854775808 ≤ imm := h1
  replace h2 : imm ≤ 9223372036854775807 := h2
  replace hz : sz = 8 ∨ sz = 16 ∨ sz = 32 := hz
  by_cases h : 0 ≤ op ∧ op ≤ 6
  · obtain rfl | rfl | rfl | rfl | rfl | rfl | rfl : op = 0 ∨ op = 1 ∨ op = 2 ∨ op = 3 ∨ op = 4 ∨ op = 5 ∨ op = 6 := by omega
    · exact (mov_0 d s sz imm w h1 h2).mono fun _ _ h => h.conv ((vb_m0 _ _ _ _).trans (mB_in _ (by simp))) (fun hv => bb_m0 _ _ _ _ (mB_val hv))
    · rcases hz with rfl | rfl | rfl
      · exact (mov_1_8 d s imm w h1 h2).mono fun _ _ h => h.conv ((vb_m1_8 _ _ _).trans (mB_in _ (by simp))) (fun hv => bb_m1_8 _ _ _ (mB_val hv))
      · exact (mov_1_16 d s imm w h1 h2).mono fun _ _ h => h.conv ((vb_m1_16 _ _ _).trans (mB_in _ (by simp))) (fun hv => bb_m1_16 _ _ _ (mB_val hv))
      · exact (mov_1_32 d s imm w h1 h2).mono fun _ _ h => h.conv ((vb_m1_32 _ _ _).trans (mB_in _ (by simp))) (fun hv => bb_m1_32 _ _ _ (mB_val hv))
    · exact (mov_2 d s sz imm w h1 h2).mono fun _ _ h => h.conv ((vb_m2 _ _ _ _).trans (mB_in _ (by simp))) (fun hv => bb_m2 _ _ _ _ (mB_val hv))
    · exact (mov_3 d s sz imm w h1 h2).mono fun _ _ h => h.conv ((vb_m3 _ _ _ _).trans (mB_in _ (by simp))) (fun hv => bb_m3 _ _ _ _ (mB_val hv))
    · exact (mov_4 d s sz imm w h1 h2).mono fun _ _ h => h.conv ((vb_m4 _ _ _ _).trans (mB_in _ (by simp))) (fun hv => bb_m4 _ _ _ _ (mB_val hv))
    · exact (mov_5 d s sz imm w h1 h2).mono fun _ _ h => h.conv ((vb_m5 _ _ _ _).trans (mB_in _ (by simp))) (fun hv => bb_m5 _ _ _ _ (mB_val hv))
    · exact (mov_6 d s sz imm w h1 h2).mono fun _ _ h => h.conv ((vb_m6 _ _ _ _).trans (mB_in _ (by simp))) (fun hv => bb_m6 _ _ _ _ (mB_val hv))
  · exact (mov_none op d s sz imm w h1 h2 (by omega)).mono fun _ _ h' => h'.conv (mB_out _ (by show op < 0 ∨ 6 < op; omega)) (fun hv => by rw [← mB_out _ (by show op < 0 ∨ 6 < op; omega)] at hv; cases hv)
theorem rCounts_any (x : Ins) (hz : x.sz = 8 ∨ x.sz = 16 ∨ x.sz = 32) (h1 : -9223372036854775808 ≤ x.imm) (h2 : x.imm ≤ 9223372036854775807) (w : World) : Calls Try.prog 41 #[aggI x] w (REnd w (cB x) (bod x)) := by
  obtain ⟨op, d, s, sz, imm⟩ := x
  replace h1 : -9223372036854775808 ≤ imm := h1
  replace h2 : imm ≤ 9223372036854775807 := h2
  replace hz : sz = 8 ∨ sz = 16 ∨ sz = 32 := hz
  by_cases h : 7 ≤ op ∧ op ≤ 27
  · obtain rfl | rfl | rfl | rfl | rfl | rfl | rfl | rfl | rfl | rfl | rfl | rfl | rfl | rfl | rfl | rfl | rfl | rfl | rfl | rfl | rfl : op = 7 ∨ op = 8 ∨ op = 9 ∨ op = 10 ∨ op = 11 ∨ op = 12 ∨ op = 13 ∨ op = 14 ∨ op = 15 ∨ op = 16 ∨ op = 17 ∨ op = 18 ∨ op = 19 ∨ op = 20 ∨ op = 21 ∨ op = 22 ∨ op = 23 ∨ op = 24 ∨ op = 25 ∨ op = 26 ∨ op = 27 := by omega
    · exact (cnt_A 7 (-1) d s sz imm w h1 h2 (by omega) (fun w1 => rDigit_7 w1) 1 (fun w1 => rArith_7 w1)).mono fun _ _ h => h.conv ((vb_c7 _ _ _ _).trans (cB_in _ (by simp))) (fun hv => bb_c7 _ _ _ _ (cB_val hv))
    · exact (cnt_A 8 (-1) d s sz imm w h1 h2 (by omega) (fun w1 => rDigit_8 w1) 9 (fun w1 => rArith_8 w1)).mono fun _ _ h => h.conv ((vb_c8 _ _ _ _).trans (cB_in _ (by simp))) (fun hv => bb_c8 _ _ _ _ (cB_val hv))
    · exact (cnt_A 9 (-1) d s sz imm w h1 h2 (by omega) (fun w1 => rDigit_9 w1) 33 (fun w1 => rArith_9 w1)).mono fun _ _ h => h.conv ((vb_c9 _ _ _ _).trans (cB_in _ (by simp))) (fun hv => bb_c9 _ _ _ _ (cB_val hv))
    · exact (cnt_A 10 (-1) d s sz imm w h1 h2 (by omega) (fun w1 => rDigit_10 w1) 41 (fun w1 => rArith_10 w1)).mono fun _ _ h => h.conv ((vb_c10 _ _ _ _).trans (cB_in _ (by simp))) (fun hv => bb_c10 _ _ _ _ (cB_val hv))
    · exact (cnt_A 11 (-1) d s sz imm w h1 h2 (by omega) (fun w1 => rDigit_11 w1) 49 (fun w1 => rArith_11 w1)).mono fun _ _ h => h.conv ((vb_c11 _ _ _ _).trans (cB_in _ (by simp))) (fun hv => bb_c11 _ _ _ _ (cB_val hv))
    · exact (cnt_A 12 (-1) d s sz imm w h1 h2 (by omega) (fun w1 => rDigit_12 w1) 57 (fun w1 => rArith_12 w1)).mono fun _ _ h => h.conv ((vb_c12 _ _ _ _).trans (cB_in _ (by simp))) (fun hv => bb_c12 _ _ _ _ (cB_val hv))
    · exact (cnt_A 13 (-1) d s sz imm w h1 h2 (by omega) (fun w1 => rDigit_13 w1) 133 (fun w1 => rArith_13 w1)).mono fun _ _ h => h.conv ((vb_c13 _ _ _ _).trans (cB_in _ (by simp))) (fun hv => bb_c13 _ _ _ _ (cB_val hv))
    · rcases hz with rfl | rfl | rfl
      · exact (cnt_B_8 14 0 d s imm w h1 h2 (by omega) (fun w1 => rDigit_14 w1)).mono fun _ _ h => h.conv ((vb_c14_8 _ _ _).trans (cB_in _ (by simp))) (fun hv => bb_c14_8 _ _ _ (cB_val hv))
      · exact (cnt_B_16 14 0 d s imm w h1 h2 (by omega) (fun w1 => rDigit_14 w1) (by decide)).mono fun _ _ h => h.conv ((vb_c14_16 _ _ _).trans (cB_in _ (by simp))) (fun hv => bb_c14_16 _ _ _ (cB_val hv))
      · exact (cnt_B_32 14 0 d s imm w h1 h2 (by omega) (fun w1 => rDigit_14 w1) (by decide)).mono fun _ _ h => h.conv ((vb_c14_32 _ _ _).trans (cB_in _ (by simp))) (fun hv => bb_c14_32 _ _ _ (cB_val hv))
    · rcases hz with rfl | rfl | rfl
      · exact (cnt_B_8 15 1 d s imm w h1 h2 (by omega) (fun w1 => rDigit_15 w1)).mono fun _ _ h => h.conv ((vb_c15_8 _ _ _).trans (cB_in _ (by simp))) (fun hv => bb_c15_8 _ _ _ (cB_val hv))
      · exact (cnt_B_16 15 1 d s imm w h1 h2 (by omega) (fun w1 => rDigit_15 w1) (by decide)).mono fun _ _ h => h.conv ((vb_c15_16 _ _ _).trans (cB_in _ (by simp))) (fun hv => bb_c15_16 _ _ _ (cB_val hv))
      · exact (cnt_B_32 15 1 d s imm w h1 h2 (by omega) (fun w1 => rDigit_15 w1) (by decide)).mono fun _ _ h => h.conv ((vb_c15_32 _ _ _).trans (cB_in _ (by simp))) (fun hv => bb_c15_32 _ _ _ (cB_val hv))
    · rcases hz with rfl | rfl | rfl
      · exact (cnt_B_8 16 4 d s imm w h1 h2 (by omega) (fun w1 => rDigit_16 w1)).mono fun _ _ h => h.conv ((vb_c16_8 _ _ _).trans (cB_in _ (by simp))) (fun hv => bb_c16_8 _ _ _ (cB_val hv))
      · exact (cnt_B_16 16 4 d s imm w h1 h2 (by omega) (fun w1 => rDigit_16 w1) (by decide)).mono fun _ _ h => h.conv ((vb_c16_16 _ _ _).trans (cB_in _ (by simp))) (fun hv => bb_c16_16 _ _ _ (cB_val hv))
      · exact (cnt_B_32 16 4 d s imm w h1 h2 (by omega) (fun w1 => rDigit_16 w1) (by decide)).mono fun _ _ h => h.conv ((vb_c16_32 _ _ _).trans (cB_in _ (by simp))) (fun hv => bb_c16_32 _ _ _ (cB_val hv))
    · rcases hz with rfl | rfl | rfl
      · exact (cnt_B_8 17 5 d s imm w h1 h2 (by omega) (fun w1 => rDigit_17 w1)).mono fun _ _ h => h.conv ((vb_c17_8 _ _ _).trans (cB_in _ (by simp))) (fun hv => bb_c17_8 _ _ _ (cB_val hv))
      · exact (cnt_B_16 17 5 d s imm w h1 h2 (by omega) (fun w1 => rDigit_17 w1) (by decide)).mono fun _ _ h => h.conv ((vb_c17_16 _ _ _).trans (cB_in _ (by simp))) (fun hv => bb_c17_16 _ _ _ (cB_val hv))
      · exact (cnt_B_32 17 5 d s imm w h1 h2 (by omega) (fun w1 => rDigit_17 w1) (by decide)).mono fun _ _ h => h.conv ((vb_c17_32 _ _ _).trans (cB_in _ (by simp))) (fun hv => bb_c17_32 _ _ _ (cB_val hv))
    · rcases hz with rfl | rfl | rfl
      · exact (cnt_B_8 18 6 d s imm w h1 h2 (by omega) (fun w1 => rDigit_18 w1)).mono fun _ _ h => h.conv ((vb_c18_8 _ _ _).trans (cB_in _ (by simp))) (fun hv => bb_c18_8 _ _ _ (cB_val hv))
      · exact (cnt_B_16 18 6 d s imm w h1 h2 (by omega) (fun w1 => rDigit_18 w1) (by decide)).mono fun _ _ h => h.conv ((vb_c18_16 _ _ _).trans (cB_in _ (by simp))) (fun hv => bb_c18_16 _ _ _ (cB_val hv))
      · exact (cnt_B_32 18 6 d s imm w h1 h2 (by omega) (fun w1 => rDigit_18 w1) (by decide)).mono fun _ _ h => h.conv ((vb_c18_32 _ _ _).trans (cB_in _ (by simp))) (fun hv => bb_c18_32 _ _ _ (cB_val hv))
    · rcases hz with rfl | rfl | rfl
      · exact (cnt_B_8 19 7 d s imm w h1 h2 (by omega) (fun w1 => rDigit_19 w1)).mono fun _ _ h => h.conv ((vb_c19_8 _ _ _).trans (cB_in _ (by simp))) (fun hv => bb_c19_8 _ _ _ (cB_val hv))
      · exact (cnt_B_16 19 7 d s imm w h1 h2 (by omega) (fun w1 => rDigit_19 w1) (by decide)).mono fun _ _ h => h.conv ((vb_c19_16 _ _ _).trans (cB_in _ (by simp))) (fun hv => bb_c19_16 _ _ _ (cB_val hv))
      · exact (cnt_B_32 19 7 d s imm w h1 h2 (by omega) (fun w1 => rDigit_19 w1) (by decide)).mono fun _ _ h => h.conv ((vb_c19_32 _ _ _).trans (cB_in _ (by simp))) (fun hv => bb_c19_32 _ _ _ (cB_val hv))
    · exact (cnt_20 20 (-1) d s sz imm w h1 h2 (by omega) (fun w1 => rDigit_20 w1)).mono fun _ _ h => h.conv ((vb_c20 _ _ _ _).trans (cB_in _ (by simp))) (fun hv => bb_c20 _ _ _ _ (cB_val hv))
    · exact (cnt_C 21 4 d s sz imm w h1 h2 (by omega) (fun w1 => rDigit_21 w1) (by decide)).mono fun _ _ h => h.conv ((vb_c21 _ _ _ _).trans (cB_in _ (by simp))) (fun hv => bb_c21 _ _ _ _ (cB_val hv))
    · exact (cnt_C 22 5 d s sz imm w h1 h2 (by omega) (fun w1 => rDigit_22 w1) (by decide)).mono fun _ _ h => h.conv ((vb_c22 _ _ _ _).trans (cB_in _ (by simp))) (fun hv => bb_c22 _ _ _ _ (cB_val hv))
    · exact (cnt_C 23 7 d s sz imm w h1 h2 (by omega) (fun w1 => rDigit_23 w1) (by decide)).mono fun _ _ h => h.conv ((vb_c23 _ _ _ _).trans (cB_in _ (by simp))) (fun hv => bb_c23 _ _ _ _ (cB_val hv))
    · exact (cnt_D 24 2 d s sz imm w h1 h2 (by omega) (fun w1 => rDigit_24 w1) (by decide)).mono fun _ _ h => h.conv ((vb_c24 _ _ _ _).trans (cB_in _ (by simp))) (fun hv => bb_c24 _ _ _ _ (cB_val hv))
    · exact (cnt_D 25 3 d s sz imm w h1 h2 (by omega) (fun w1 => rDigit_25 w1) (by decide)).mono fun _ _ h => h.conv ((vb_c25 _ _ _ _).trans (cB_in _ (by simp))) (fun hv => bb_c25 _ _ _ _ (cB_val hv))
    · exact (cnt_E 26 6 d s sz imm w h1 h2 (by omega) (fun w1 => rDigit_26 w1) (by decide)).mono fun _ _ h => h.conv ((vb_c26 _ _ _ _).trans (cB_in _ (by simp))) (fun hv => bb_c26 _ _ _ _ (cB_val hv))
    · exact (cnt_E 27 7 d s sz imm w h1 h2 (by omega) (fun w1 => rDigit_27 w1) (by decide)).mono fun _ _ h => h.conv ((vb_c27 _ _ _ _).trans (cB_in _ (by simp))) (fun hv => bb_c27 _ _ _ _ (cB_val hv))
  · exact (cnt_none op d s sz imm w h1 h2 (by omega)).mono fun _ _ h' => h'.conv (cB_out _ (by show op < 7 ∨ 27 < op; omega)) (fun hv => by rw [← cB_out _ (by show op < 7 ∨ 27 < op; omega)] at hv; cases hv)
theorem rOthers_any (x : Ins) (hz : x.sz = 8 ∨ x.sz = 16 ∨ x.sz = 32) (h1 : -9223372036854775808 ≤ x.imm) (h2 : x.imm ≤ 9223372036854775807) (w : World) : Calls Try.prog 42 #[aggI x] w (REnd w (oB x) (bod x)) := by
  obtain ⟨op, d, s, sz, imm⟩ := x
  replace h1 : -9223372036854775808 ≤ imm := h1
  replace h2 : imm ≤ 9223372036854775807 := h2
  replace hz : sz = 8 ∨ sz = 16 ∨ sz = 32 := hz
  by_cases h : 28 ≤ op ∧ op ≤ 36
  · obtain rfl | rfl | rfl | rfl | rfl | rfl | rfl | rfl | rfl : op = 28 ∨ op = 29 ∨ op = 30 ∨ op = 31 ∨ op = 32 ∨ op = 33 ∨ op = 34 ∨ op = 35 ∨ op = 36 := by omega
    · exact (oth_28 d s sz imm w h1 h2).mono fun _ _ h => h.conv ((vb_o28 _ _ _ _).trans (oB_in _ (by simp))) (fun hv => bb_o28 _ _ _ _ (oB_val hv))
    · exact (oth_29 d s sz imm w h1 h2).mono fun _ _ h => h.conv ((vb_o29 _ _ _ _).trans (oB_in _ (by simp))) (fun hv => bb_o29 _ _ _ _ (oB_val hv))
    · exact (oth_30 d s sz imm w h1 h2).mono fun _ _ h => h.conv ((vb_o30 _ _ _ _).trans (oB_in _ (by simp))) (fun hv => bb_o30 _ _ _ _ (oB_val hv))
    · exact (oth_31 d s sz imm w h1 h2).mono fun _ _ h => h.conv ((vb_o31 _ _ _ _).trans (oB_in _ (by simp))) (fun hv => bb_o31 _ _ _ _ (oB_val hv))
    · by_cases hs : sz = 8
      · subst hs
        exact (oth_32_8 d s imm w h1 h2).mono fun _ _ h => h.conv ((vb_o32_8 _ _ _).trans (oB_in _ (by simp))) (fun hv => bb_o32_8 _ _ _ (oB_val hv))
      · exact (oth_32 d s sz imm w h1 h2 (beq_false_of_ne hs)).mono fun _ _ h => h.conv ((vb_o32 _ _ _ _ (beq_false_of_ne hs)).trans (oB_in _ (by simp))) (fun hv => bb_o32 _ _ _ _ (beq_false_of_ne hs) (oB_val hv))
    · by_cases hs : sz = 8
      · subst hs
        exact (oth_33_8 d s imm w h1 h2).mono fun _ _ h => h.conv ((vb_o33_8 _ _ _).trans (oB_in _ (by simp))) (fun hv => bb_o33_8 _ _ _ (oB_val hv))
      · exact (oth_33 d s sz imm w h1 h2 (beq_false_of_ne hs)).mono fun _ _ h => h.conv ((vb_o33 _ _ _ _ (beq_false_of_ne hs)).trans (oB_in _ (by simp))) (fun hv => bb_o33 _ _ _ _ (beq_false_of_ne hs) (oB_val hv))
    · exact (oth_34 d s sz imm w h1 h2).mono fun _ _ h => h.conv ((vb_o34 _ _ _ _).trans (oB_in _ (by simp))) (fun hv => bb_o34 _ _ _ _ (oB_val hv))
    · exact (oth_35 d s sz imm w h1 h2).mono fun _ _ h => h.conv ((vb_o35 _ _ _ _).trans (oB_in _ (by simp))) (fun hv => bb_o35 _ _ _ _ (oB_val hv))
    · exact (oth_36 d s sz imm w h1 h2).mono fun _ _ h => h.conv ((vb_o36 _ _ _ _).trans (oB_in _ (by simp))) (fun hv => bb_o36 _ _ _ _ (oB_val hv))
  · exact (oth_none op d s sz imm w h1 h2 (by omega)).mono fun _ _ h' => h'.conv (oB_out _ (by show op < 28 ∨ 36 < op; omega)) (fun hv => by rw [← oB_out _ (by show op < 28 ∨ 36 < op; omega)] at hv; cases hv)
end Go.Proofs.Ytpekegeohcnhcaa
