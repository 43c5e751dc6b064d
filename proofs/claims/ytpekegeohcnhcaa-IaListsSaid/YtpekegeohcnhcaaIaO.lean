/-
  The reader: instructions behind the byte 0x0f.
-/
import Derived.Test.YtpekegeohcnhcaaIaN
namespace Go.Proofs.Ytpekegeohcnhcaa
open Go.RowKit

section
variable {w0 w : World} {I X p : Nat} {A : Option Addr} {n c : Nat} {l : List Int}
set_option maxRecDepth 100000 in
set_option maxHeartbeats 4000000 in
theorem rl11 (sz : Int) (h : St w0 w I X A n c l p ⟨0, 0, 0, sz, 0⟩) (_ : p ≤ 10) : Calls Try.prog 29 #[.pointer (some ⟨I, 0, none⟩), .pointer (some ⟨X, 0, none⟩), .int .i64 11] w (Ends w0 I X A n c l (longF sz 11 l p)) := by
  have HG := Lib.hid (show longF sz 11 l p = ⟨35, 0, 0, sz, 0⟩ from by simp [longF])
  rw [HG.out]
  have HF := Lib.hid ((h.set0 (-1)).set0 35)
  obtain ⟨⟨x0, x1, x2, x3, x4⟩, f0, f1, f2, f3, f4⟩ := h.cells
  have HH := Lib.hid h
  clear h
  go_enter Try.func29, Try.ntmps29
  go_wp2
  refine bodyPost_end (results_none rfl _ _ _) rfl ?_
  exact ⟨_, rfl, HF.out⟩
set_option maxRecDepth 100000 in
set_option maxHeartbeats 4000000 in
theorem rl182_no (sz : Int) (h : St w0 w I X A n c l p ⟨0, 0, 0, sz, 0⟩) (hp : p ≤ 10) (hfar : farB (bt l p) = false) : Calls Try.prog 29 #[.pointer (some ⟨I, 0, none⟩), .pointer (some ⟨X, 0, none⟩), .int .i64 182] w (Ends w0 I X A n c l (longF sz 182 l p)) := by
  have HG := Lib.hid (show longF sz 182 l p = ⟨30, regR (bt l p), regL (bt l p), sz, farI l p⟩ from by simp [longF, hfar])
  rw [HG.out]
  obtain ⟨⟨x0, x1, x2, x3, x4⟩, f0, f1, f2, f3, f4⟩ := h.cells
  have HH := Lib.hid h
  clear h
  go_enter Try.func29, Try.ntmps29
  go_wp2_with fail
  refine (pair_any (HH.out.set0 (-1)) (by omega)).mono ?_
  rintro e w3 ⟨rfl, h3⟩
  rw [hfar]
  clear x0 x1 x2 x3 x4 f0 f1 f2 f3 f4
  obtain ⟨⟨x0, x1, x2, x3, x4⟩, f0, f1, f2, f3, f4⟩ := h3.cells
  have HF := Lib.hid (((h3.set1 (regR (bt l p))).set2 (regL (bt l p))).set0 30)
  clear h3
  go_wp2
  refine bodyPost_end (results_none rfl _ _ _) rfl ?_
  exact ⟨_, rfl, HF.out⟩
set_option maxRecDepth 100000 in
set_option maxHeartbeats 4000000 in
theorem rl182_yes (sz : Int) (h : St w0 w I X A n c l p ⟨0, 0, 0, sz, 0⟩) (hp : p ≤ 10) (hfar : farB (bt l p) = true) : Calls Try.prog 29 #[.pointer (some ⟨I, 0, none⟩), .pointer (some ⟨X, 0, none⟩), .int .i64 182] w (Ends w0 I X A n c l (longF sz 182 l p)) := by
  have HG := Lib.hid (show longF sz 182 l p = ⟨4, regR (bt l p), regL (bt l p), sz, farI l p⟩ from by simp [longF, hfar])
  rw [HG.out]
  obtain ⟨⟨x0, x1, x2, x3, x4⟩, f0, f1, f2, f3, f4⟩ := h.cells
  have HH := Lib.hid h
  clear h
  go_enter Try.func29, Try.ntmps29
  go_wp2_with fail
  refine (pair_any (HH.out.set0 (-1)) (by omega)).mono ?_
  rintro e w3 ⟨rfl, h3⟩
  rw [hfar]
  clear x0 x1 x2 x3 x4 f0 f1 f2 f3 f4
  obtain ⟨⟨x0, x1, x2, x3, x4⟩, f0, f1, f2, f3, f4⟩ := h3.cells
  have HF := Lib.hid ((((h3.set1 (regR (bt l p))).set2 (regL (bt l p))).set0 30).set0 4)
  clear h3
  go_wp2
  refine bodyPost_end (results_none rfl _ _ _) rfl ?_
  exact ⟨_, rfl, HF.out⟩
set_option maxRecDepth 100000 in
set_option maxHeartbeats 4000000 in
theorem rl183 (sz : Int) (h : St w0 w I X A n c l p ⟨0, 0, 0, sz, 0⟩) (hp : p ≤ 10) : Calls Try.prog 29 #[.pointer (some ⟨I, 0, none⟩), .pointer (some ⟨X, 0, none⟩), .int .i64 183] w (Ends w0 I X A n c l (longF sz 183 l p)) := by
  have HG := Lib.hid (show longF sz 183 l p = ⟨5, regR (bt l p), regL (bt l p), sz, farI l p⟩ from by simp [longF])
  rw [HG.out]
  obtain ⟨⟨x0, x1, x2, x3, x4⟩, f0, f1, f2, f3, f4⟩ := h.cells
  have HH := Lib.hid h
  clear h
  go_enter Try.func29, Try.ntmps29
  go_wp2_with fail
  refine (pair_any ((HH.out.set0 (-1)).set0 5) (by omega)).mono ?_
  rintro e w3 ⟨rfl, h3⟩
  clear x0 x1 x2 x3 x4 f0 f1 f2 f3 f4
  obtain ⟨⟨x0, x1, x2, x3, x4⟩, f0, f1, f2, f3, f4⟩ := h3.cells
  have HF := Lib.hid ((h3.set1 (regR (bt l p))).set2 (regL (bt l p)))
  clear h3
  go_wp2
  refine bodyPost_end (results_none rfl _ _ _) rfl ?_
  exact ⟨_, rfl, HF.out⟩
set_option maxRecDepth 100000 in
set_option maxHeartbeats 4000000 in
theorem rl175 (sz : Int) (h : St w0 w I X A n c l p ⟨0, 0, 0, sz, 0⟩) (hp : p ≤ 10) : Calls Try.prog 29 #[.pointer (some ⟨I, 0, none⟩), .pointer (some ⟨X, 0, none⟩), .int .i64 175] w (Ends w0 I X A n c l (longF sz 175 l p)) := by
  have HG := Lib.hid (show longF sz 175 l p = ⟨20, regR (bt l p), regL (bt l p), sz, farI l p⟩ from by simp [longF])
  rw [HG.out]
  obtain ⟨⟨x0, x1, x2, x3, x4⟩, f0, f1, f2, f3, f4⟩ := h.cells
  have HH := Lib.hid h
  clear h
  go_enter Try.func29, Try.ntmps29
  go_wp2_with fail
  refine (pair_any ((HH.out.set0 (-1)).set0 20) (by omega)).mono ?_
  rintro e w3 ⟨rfl, h3⟩
  clear x0 x1 x2 x3 x4 f0 f1 f2 f3 f4
  obtain ⟨⟨x0, x1, x2, x3, x4⟩, f0, f1, f2, f3, f4⟩ := h3.cells
  have HF := Lib.hid ((h3.set1 (regR (bt l p))).set2 (regL (bt l p)))
  clear h3
  go_wp2
  refine bodyPost_end (results_none rfl _ _ _) rfl ?_
  exact ⟨_, rfl, HF.out⟩
set_option maxRecDepth 100000 in
set_option maxHeartbeats 4000000 in
theorem rlset (q : Int) (sz : Int) (h : St w0 w I X A n c l p ⟨0, 0, 0, sz, 0⟩) (hp : p ≤ 10) (hq : 144 ≤ q ∧ q ≤ 159) : Calls Try.prog 29 #[.pointer (some ⟨I, 0, none⟩), .pointer (some ⟨X, 0, none⟩), .int .i64 q] w (Ends w0 I X A n c l (longF sz q l p)) := by
  have HG := Lib.hid (show longF sz q l p = ⟨29, regL (bt l p), q - 144, sz, farI l p⟩ from by unfold longF; rw [if_neg (by omega), if_neg (by omega), if_neg (by omega), if_neg (by omega), if_pos hq])
  rw [HG.out]
  have n1 : (q == 11) = false := beq_false_of_ne (by omega)
  have n2 : (q == 182) = false := beq_false_of_ne (by omega)
  have n3 : (q == 183) = false := beq_false_of_ne (by omega)
  have n4 : (q == 175) = false := beq_false_of_ne (by omega)
  have a2 : bits .and .i64 q 240 = 144 := by rw [and240 (by omega)]; omega
  have a3 : bits .and .i64 q 15 = q - 144 := by rw [show bits .and .i64 q 15 = q % 16 from i64_mask q 4 (by omega)]; omega
  obtain ⟨⟨x0, x1, x2, x3, x4⟩, f0, f1, f2, f3, f4⟩ := h.cells
  have HH := Lib.hid h
  clear h
  go_enter Try.func29, Try.ntmps29
  go_wp2_with fail
  refine (pair_any ((HH.out.set0 (-1)).set0 29) (by omega)).mono ?_
  rintro e w3 ⟨rfl, h3⟩
  clear x0 x1 x2 x3 x4 f0 f1 f2 f3 f4
  obtain ⟨⟨x0, x1, x2, x3, x4⟩, f0, f1, f2, f3, f4⟩ := h3.cells
  have HF := Lib.hid ((h3.set1 (regL (bt l p))).set2 (q - 144))
  clear h3
  go_wp2
  refine bodyPost_end (results_none rfl _ _ _) rfl ?_
  exact ⟨_, rfl, HF.out⟩
set_option maxRecDepth 100000 in
set_option maxHeartbeats 4000000 in
theorem rlmov (q : Int) (sz : Int) (h : St w0 w I X A n c l p ⟨0, 0, 0, sz, 0⟩) (hp : p ≤ 10) (hq : 64 ≤ q ∧ q ≤ 79) : Calls Try.prog 29 #[.pointer (some ⟨I, 0, none⟩), .pointer (some ⟨X, 0, none⟩), .int .i64 q] w (Ends w0 I X A n c l (longF sz q l p)) := by
  have HG := Lib.hid (show longF sz q l p = ⟨31, regR (bt l p), regL (bt l p), sz, q - 64⟩ from by unfold longF; rw [if_neg (by omega), if_neg (by omega), if_neg (by omega), if_neg (by omega), if_neg (by omega), if_pos hq])
  rw [HG.out]
  have n1 : (q == 11) = false := beq_false_of_ne (by omega)
  have n2 : (q == 182) = false := beq_false_of_ne (by omega)
  have n3 : (q == 183) = false := beq_false_of_ne (by omega)
  have n4 : (q == 175) = false := beq_false_of_ne (by omega)
  have a2 : bits .and .i64 q 240 = 64 := by rw [and240 (by omega)]; omega
  have a3 : bits .and .i64 q 15 = q - 64 := by rw [show bits .and .i64 q 15 = q % 16 from i64_mask q 4 (by omega)]; omega
  obtain ⟨⟨x0, x1, x2, x3, x4⟩, f0, f1, f2, f3, f4⟩ := h.cells
  have HH := Lib.hid h
  clear h
  go_enter Try.func29, Try.ntmps29
  go_wp2_with fail
  refine (pair_any ((HH.out.set0 (-1)).set0 31) (by omega)).mono ?_
  rintro e w3 ⟨rfl, h3⟩
  clear x0 x1 x2 x3 x4 f0 f1 f2 f3 f4
  obtain ⟨⟨x0, x1, x2, x3, x4⟩, f0, f1, f2, f3, f4⟩ := h3.cells
  have HF := Lib.hid (((h3.set1 (regR (bt l p))).set2 (regL (bt l p))).set4 (q - 64))
  clear h3
  go_wp2
  refine bodyPost_end (results_none rfl _ _ _) rfl ?_
  exact ⟨_, rfl, HF.out⟩
set_option maxRecDepth 100000 in
set_option maxHeartbeats 4000000 in
theorem rljcc (q : Int) (sz : Int) (h : St w0 w I X A n c l p ⟨0, 0, 0, sz, 0⟩) (hp : p ≤ 10) (hq : 128 ≤ q ∧ q ≤ 143) : Calls Try.prog 29 #[.pointer (some ⟨I, 0, none⟩), .pointer (some ⟨X, 0, none⟩), .int .i64 q] w (Ends w0 I X A n c l (longF sz q l p)) := by
  have HG := Lib.hid (show longF sz q l p = ⟨32, 0, q - 128, sz, sgn 2147483648 (nx4 l p)⟩ from by unfold longF; rw [if_neg (by omega), if_neg (by omega), if_neg (by omega), if_neg (by omega), if_neg (by omega), if_neg (by omega), if_pos hq])
  rw [HG.out]
  have n1 : (q == 11) = false := beq_false_of_ne (by omega)
  have n2 : (q == 182) = false := beq_false_of_ne (by omega)
  have n3 : (q == 183) = false := beq_false_of_ne (by omega)
  have n4 : (q == 175) = false := beq_false_of_ne (by omega)
  have a2 : bits .and .i64 q 240 = 128 := by rw [and240 (by omega)]; omega
  have a3 : bits .and .i64 q 15 = q - 128 := by rw [show bits .and .i64 q 15 = q % 16 from i64_mask q 4 (by omega)]; omega
  obtain ⟨⟨x0, x1, x2, x3, x4⟩, f0, f1, f2, f3, f4⟩ := h.cells
  have HH := Lib.hid h
  clear h
  go_enter Try.func29, Try.ntmps29
  go_wp2_with fail
  refine (next32_at (HH.out.set0 (-1)) (by omega)).mono ?_
  rintro e w3 ⟨rfl, h3⟩
  clear x0 x1 x2 x3 x4 f0 f1 f2 f3 f4
  obtain ⟨⟨x0, x1, x2, x3, x4⟩, f0, f1, f2, f3, f4⟩ := h3.cells
  have HF := Lib.hid (((h3.set0 32).set2 (q - 128)).set4 (sgn 2147483648 (nx4 l p)))
  clear h3
  go_wp2_with (go_at_call 70; ((with_reducible refine (signed32_any _ _).mono ?_); rintro e w' ⟨rfl, rfl⟩))
  refine bodyPost_end (results_none rfl _ _ _) rfl ?_
  exact ⟨_, rfl, HF.out⟩
set_option maxRecDepth 100000 in
set_option maxHeartbeats 4000000 in
theorem rlno (q : Int) (sz : Int) (h : St w0 w I X A n c l p ⟨0, 0, 0, sz, 0⟩) (_ : p ≤ 10) (hq : 0 ≤ q ∧ q < 256) (b1 : q ≠ 11) (b2 : q ≠ 182) (b3 : q ≠ 183) (b4 : q ≠ 175) (b5 : ¬ (144 ≤ q ∧ q ≤ 159)) (b6 : ¬ (64 ≤ q ∧ q ≤ 79)) (b7 : ¬ (128 ≤ q ∧ q ≤ 143)) : Calls Try.prog 29 #[.pointer (some ⟨I, 0, none⟩), .pointer (some ⟨X, 0, none⟩), .int .i64 q] w (Ends w0 I X A n c l (longF sz q l p)) := by
  have HG := Lib.hid (show longF sz q l p = ⟨-1, 0, 0, sz, 0⟩ from by unfold longF; rw [if_neg b1, if_neg b2, if_neg b3, if_neg b4, if_neg b5, if_neg b6, if_neg b7])
  rw [HG.out]
  have n1 : (q == 11) = false := beq_false_of_ne (by omega)
  have n2 : (q == 182) = false := beq_false_of_ne (by omega)
  have n3 : (q == 183) = false := beq_false_of_ne (by omega)
  have n4 : (q == 175) = false := beq_false_of_ne (by omega)
  have a2a : (bits .and .i64 q 240 == 144) = false := beq_false_of_ne (by rw [and240 hq]; omega)
  have a2b : (bits .and .i64 q 240 == 64) = false := beq_false_of_ne (by rw [and240 hq]; omega)
  have a2c : (bits .and .i64 q 240 == 128) = false := beq_false_of_ne (by rw [and240 hq]; omega)
  have HF := Lib.hid (h.set0 (-1))
  clear b5 b6 b7
  obtain ⟨⟨x0, x1, x2, x3, x4⟩, f0, f1, f2, f3, f4⟩ := h.cells
  have HH := Lib.hid h
  clear h
  go_enter Try.func29, Try.ntmps29
  go_wp2
  refine bodyPost_end (results_none rfl _ _ _) rfl ?_
  exact ⟨_, rfl, HF.out⟩
theorem readLong_any (q sz : Int) (h : St w0 w I X A n c l p ⟨0, 0, 0, sz, 0⟩) (hp : p ≤ 10) (hq : 0 ≤ q ∧ q < 256) : Calls Try.prog 29 #[.pointer (some ⟨I, 0, none⟩), .pointer (some ⟨X, 0, none⟩), .int .i64 q] w (Ends w0 I X A n c l (longF sz q l p)) := by
  by_cases b1 : q = 11
  · subst b1; exact rl11 sz h hp
  by_cases b2 : q = 182
  · subst b2
    cases hf : farB (bt l p)
    · exact rl182_no sz h hp hf
    · exact rl182_yes sz h hp hf
  by_cases b3 : q = 183
  · subst b3; exact rl183 sz h hp
  by_cases b4 : q = 175
  · subst b4; exact rl175 sz h hp
  by_cases b5 : 144 ≤ q ∧ q ≤ 159
  · exact rlset q sz h hp b5
  by_cases b6 : 64 ≤ q ∧ q ≤ 79
  · exact rlmov q sz h hp b6
  by_cases b7 : 128 ≤ q ∧ q ≤ 143
  · exact rljcc q sz h hp b7
  exact rlno q sz h hp hq b1 b2 b3 b4 b5 b6 b7
end
end Go.Proofs.Ytpekegeohcnhcaa
