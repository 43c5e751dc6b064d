/-
  The reader: instructions whose first byte is known.
-/
import Derived.Test.YtpekegeohcnhcaaIaL
namespace Go.Proofs.Ytpekegeohcnhcaa
open Go.RowKit

theorem a248_all : ∀ a : Fin 256, bits .and .i64 (a.val : Int) 248 = (a.val : Int) / 8 * 8 := of_decide_eq_true (by kernel_rfl)
theorem a240_all : ∀ a : Fin 256, bits .and .i64 (a.val : Int) 240 = (a.val : Int) / 16 * 16 := of_decide_eq_true (by kernel_rfl)
theorem and248 {q : Int} (h : 0 ≤ q ∧ q < 256) : bits .and .i64 q 248 = q / 8 * 8 := by
  obtain ⟨a, rfl⟩ : ∃ a : Nat, q = (a : Int) := ⟨q.toNat, by omega⟩
  exact a248_all ⟨a, by omega⟩
theorem and240 {q : Int} (h : 0 ≤ q ∧ q < 256) : bits .and .i64 q 240 = q / 16 * 16 := by
  obtain ⟨a, rfl⟩ : ∃ a : Nat, q = (a : Int) := ⟨q.toNat, by omega⟩
  exact a240_all ⟨a, by omega⟩
section
variable {w0 w : World} {I X p : Nat} {A : Option Addr} {n c : Nat} {l : List Int}
theorem grp_all (q sz : Int) (h : St w0 w I X A n c l p ⟨-1, 0, 0, sz, 0⟩) (hp : p ≤ 20) (hsz : sz = 16 ∨ sz = 32) : Calls Try.prog 72 #[.pointer (some ⟨I, 0, none⟩), .pointer (some ⟨X, 0, none⟩), .int .i64 q] w (Ends w0 I X A n c l (grpF sz q l p)) := by
  by_cases q1 : q = 129
  · subst q1
    rcases hsz with rfl | rfl
    · exact grp81_16 h hp
    · exact grp81_32 h hp
  by_cases q2 : q = 131
  · subst q2
    rcases hsz with rfl | rfl
    · exact grp83_16 h hp
    · exact grp83_32 h hp
  by_cases q3 : q = 211
  · subst q3
    exact grpd3_any sz h hp
  by_cases q4 : q = 247
  · subst q4
    exact grpf7_any sz h hp
  exact grpno_any q sz h hp q1 q2 q3 q4
set_option maxRecDepth 100000 in
set_option maxHeartbeats 4000000 in
theorem rd153 (sz : Int) (h : St w0 w I X A n c l p ⟨0, 0, 0, sz, 0⟩) (_ : p ≤ 10) : Calls Try.prog 30 #[.pointer (some ⟨I, 0, none⟩), .pointer (some ⟨X, 0, none⟩), .int .i64 153] w (Ends w0 I X A n c l (shortF sz 153 l p)) := by
  have HG := Lib.hid (show shortF sz 153 l p = ⟨28, 0, 0, sz, 0⟩ from by simp [shortF, plainF])
  rw [HG.out]
  have HV := Lib.hid (show plainF 153 = 28 from rfl)
  have a1 : bits .and .i64 153 248 = 152 := by decide
  have a2 : bits .and .i64 153 240 = 144 := by decide
  have HF := Lib.hid (h.set0 28)
  obtain ⟨⟨x0, x1, x2, x3, x4⟩, f0, f1, f2, f3, f4⟩ := h.cells
  have HH := Lib.hid h
  clear h
  go_enter Try.func30, Try.ntmps30
  go_wp2_with ((go_at_call 71; ((with_reducible refine (plain_at 153 28 HV.out _).mono ?_); rintro e w' ⟨rfl, rfl⟩)))
  refine bodyPost_end (results_none rfl _ _ _) rfl ?_
  exact ⟨_, rfl, HF.out⟩
set_option maxRecDepth 100000 in
set_option maxHeartbeats 4000000 in
theorem rd244 (sz : Int) (h : St w0 w I X A n c l p ⟨0, 0, 0, sz, 0⟩) (_ : p ≤ 10) : Calls Try.prog 30 #[.pointer (some ⟨I, 0, none⟩), .pointer (some ⟨X, 0, none⟩), .int .i64 244] w (Ends w0 I X A n c l (shortF sz 244 l p)) := by
  have HG := Lib.hid (show shortF sz 244 l p = ⟨34, 0, 0, sz, 0⟩ from by simp [shortF, plainF])
  rw [HG.out]
  have HV := Lib.hid (show plainF 244 = 34 from rfl)
  have a1 : bits .and .i64 244 248 = 240 := by decide
  have a2 : bits .and .i64 244 240 = 240 := by decide
  have HF := Lib.hid (h.set0 34)
  obtain ⟨⟨x0, x1, x2, x3, x4⟩, f0, f1, f2, f3, f4⟩ := h.cells
  have HH := Lib.hid h
  clear h
  go_enter Try.func30, Try.ntmps30
  go_wp2_with ((go_at_call 71; ((with_reducible refine (plain_at 244 34 HV.out _).mono ?_); rintro e w' ⟨rfl, rfl⟩)))
  refine bodyPost_end (results_none rfl _ _ _) rfl ?_
  exact ⟨_, rfl, HF.out⟩
set_option maxRecDepth 100000 in
set_option maxHeartbeats 4000000 in
theorem rd144 (sz : Int) (h : St w0 w I X A n c l p ⟨0, 0, 0, sz, 0⟩) (_ : p ≤ 10) : Calls Try.prog 30 #[.pointer (some ⟨I, 0, none⟩), .pointer (some ⟨X, 0, none⟩), .int .i64 144] w (Ends w0 I X A n c l (shortF sz 144 l p)) := by
  have HG := Lib.hid (show shortF sz 144 l p = ⟨36, 0, 0, sz, 0⟩ from by simp [shortF, plainF])
  rw [HG.out]
  have HV := Lib.hid (show plainF 144 = 36 from rfl)
  have a1 : bits .and .i64 144 248 = 144 := by decide
  have a2 : bits .and .i64 144 240 = 144 := by decide
  have HF := Lib.hid (h.set0 36)
  obtain ⟨⟨x0, x1, x2, x3, x4⟩, f0, f1, f2, f3, f4⟩ := h.cells
  have HH := Lib.hid h
  clear h
  go_enter Try.func30, Try.ntmps30
  go_wp2_with ((go_at_call 71; ((with_reducible refine (plain_at 144 36 HV.out _).mono ?_); rintro e w' ⟨rfl, rfl⟩)))
  refine bodyPost_end (results_none rfl _ _ _) rfl ?_
  exact ⟨_, rfl, HF.out⟩
set_option maxRecDepth 100000 in
set_option maxHeartbeats 4000000 in
theorem rd139 (sz : Int) (h : St w0 w I X A n c l p ⟨0, 0, 0, sz, 0⟩) (hp : p ≤ 10) : Calls Try.prog 30 #[.pointer (some ⟨I, 0, none⟩), .pointer (some ⟨X, 0, none⟩), .int .i64 139] w (Ends w0 I X A n c l (shortF sz 139 l p)) := by
  have HG := Lib.hid (show shortF sz 139 l p = ⟨2, regR (bt l p), regL (bt l p), sz, farI l p⟩ from by simp [shortF, plainF])
  rw [HG.out]
  have HV := Lib.hid (show plainF 139 = -1 from rfl)
  have a1 : bits .and .i64 139 248 = 136 := by decide
  have a2 : bits .and .i64 139 240 = 128 := by decide
  obtain ⟨⟨x0, x1, x2, x3, x4⟩, f0, f1, f2, f3, f4⟩ := h.cells
  have HH := Lib.hid h
  clear h
  go_enter Try.func30, Try.ntmps30
  go_wp2_with ((go_at_call 71; ((with_reducible refine (plain_at 139 (-1) HV.out _).mono ?_); rintro e w' ⟨rfl, rfl⟩)))
  refine (pair_any ((HH.out.set0 (-1)).set0 2) (by omega)).mono ?_
  rintro e w3 ⟨rfl, h3⟩
  clear x0 x1 x2 x3 x4 f0 f1 f2 f3 f4
  obtain ⟨⟨x0, x1, x2, x3, x4⟩, f0, f1, f2, f3, f4⟩ := h3.cells
  have HF := Lib.hid ((h3.set1 (regR (bt l p))).set2 (regL (bt l p)))
  clear h3
  go_wp2
  refine bodyPost_end (results_none rfl _ _ _) rfl ?_
  exact ⟨_, rfl, HF.out⟩
set_option maxRecDepth 100000 in
set_option maxHeartbeats 4000000 in
theorem rd136 (sz : Int) (h : St w0 w I X A n c l p ⟨0, 0, 0, sz, 0⟩) (hp : p ≤ 10) : Calls Try.prog 30 #[.pointer (some ⟨I, 0, none⟩), .pointer (some ⟨X, 0, none⟩), .int .i64 136] w (Ends w0 I X A n c l (shortF sz 136 l p)) := by
  have HG := Lib.hid (show shortF sz 136 l p = ⟨6, regL (bt l p), regR (bt l p), sz, farI l p⟩ from by simp [shortF, plainF])
  rw [HG.out]
  have HV := Lib.hid (show plainF 136 = -1 from rfl)
  have a1 : bits .and .i64 136 248 = 136 := by decide
  have a2 : bits .and .i64 136 240 = 128 := by decide
  obtain ⟨⟨x0, x1, x2, x3, x4⟩, f0, f1, f2, f3, f4⟩ := h.cells
  have HH := Lib.hid h
  clear h
  go_enter Try.func30, Try.ntmps30
  go_wp2_with ((go_at_call 71; ((with_reducible refine (plain_at 136 (-1) HV.out _).mono ?_); rintro e w' ⟨rfl, rfl⟩)))
  refine (pair_any ((HH.out.set0 (-1)).set0 6) (by omega)).mono ?_
  rintro e w3 ⟨rfl, h3⟩
  clear x0 x1 x2 x3 x4 f0 f1 f2 f3 f4
  obtain ⟨⟨x0, x1, x2, x3, x4⟩, f0, f1, f2, f3, f4⟩ := h3.cells
  have HF := Lib.hid ((h3.set2 (regR (bt l p))).set1 (regL (bt l p)))
  clear h3
  go_wp2
  refine bodyPost_end (results_none rfl _ _ _) rfl ?_
  exact ⟨_, rfl, HF.out⟩
set_option maxRecDepth 100000 in
set_option maxHeartbeats 4000000 in
theorem rd137_no (sz : Int) (h : St w0 w I X A n c l p ⟨0, 0, 0, sz, 0⟩) (hp : p ≤ 10) (hfar : farB (bt l p) = false) : Calls Try.prog 30 #[.pointer (some ⟨I, 0, none⟩), .pointer (some ⟨X, 0, none⟩), .int .i64 137] w (Ends w0 I X A n c l (shortF sz 137 l p)) := by
  have HG := Lib.hid (show shortF sz 137 l p = ⟨0, regL (bt l p), regR (bt l p), sz, farI l p⟩ from by simp [shortF, plainF, hfar])
  rw [HG.out]
  have HV := Lib.hid (show plainF 137 = -1 from rfl)
  have a1 : bits .and .i64 137 248 = 136 := by decide
  have a2 : bits .and .i64 137 240 = 128 := by decide
  obtain ⟨⟨x0, x1, x2, x3, x4⟩, f0, f1, f2, f3, f4⟩ := h.cells
  have HH := Lib.hid h
  clear h
  go_enter Try.func30, Try.ntmps30
  go_wp2_with ((go_at_call 71; ((with_reducible refine (plain_at 137 (-1) HV.out _).mono ?_); rintro e w' ⟨rfl, rfl⟩)))
  refine (pair_any (HH.out.set0 (-1)) (by omega)).mono ?_
  rintro e w3 ⟨rfl, h3⟩
  rw [hfar]
  clear x0 x1 x2 x3 x4 f0 f1 f2 f3 f4
  obtain ⟨⟨x0, x1, x2, x3, x4⟩, f0, f1, f2, f3, f4⟩ := h3.cells
  have HF := Lib.hid (((h3.set2 (regR (bt l p))).set1 (regL (bt l p))).set0 0)
  clear h3
  go_wp2
  refine bodyPost_end (results_none rfl _ _ _) rfl ?_
  exact ⟨_, rfl, HF.out⟩
set_option maxRecDepth 100000 in
set_option maxHeartbeats 4000000 in
theorem rd137_yes (sz : Int) (h : St w0 w I X A n c l p ⟨0, 0, 0, sz, 0⟩) (hp : p ≤ 10) (hfar : farB (bt l p) = true) : Calls Try.prog 30 #[.pointer (some ⟨I, 0, none⟩), .pointer (some ⟨X, 0, none⟩), .int .i64 137] w (Ends w0 I X A n c l (shortF sz 137 l p)) := by
  have HG := Lib.hid (show shortF sz 137 l p = ⟨3, regL (bt l p), regR (bt l p), sz, farI l p⟩ from by simp [shortF, plainF, hfar])
  rw [HG.out]
  have HV := Lib.hid (show plainF 137 = -1 from rfl)
  have a1 : bits .and .i64 137 248 = 136 := by decide
  have a2 : bits .and .i64 137 240 = 128 := by decide
  obtain ⟨⟨x0, x1, x2, x3, x4⟩, f0, f1, f2, f3, f4⟩ := h.cells
  have HH := Lib.hid h
  clear h
  go_enter Try.func30, Try.ntmps30
  go_wp2_with ((go_at_call 71; ((with_reducible refine (plain_at 137 (-1) HV.out _).mono ?_); rintro e w' ⟨rfl, rfl⟩)))
  refine (pair_any (HH.out.set0 (-1)) (by omega)).mono ?_
  rintro e w3 ⟨rfl, h3⟩
  rw [hfar]
  clear x0 x1 x2 x3 x4 f0 f1 f2 f3 f4
  obtain ⟨⟨x0, x1, x2, x3, x4⟩, f0, f1, f2, f3, f4⟩ := h3.cells
  have HF := Lib.hid ((((h3.set2 (regR (bt l p))).set1 (regL (bt l p))).set0 0).set0 3)
  clear h3
  go_wp2
  refine bodyPost_end (results_none rfl _ _ _) rfl ?_
  exact ⟨_, rfl, HF.out⟩
set_option maxRecDepth 100000 in
set_option maxHeartbeats 4000000 in
theorem rd1 (sz : Int) (h : St w0 w I X A n c l p ⟨0, 0, 0, sz, 0⟩) (hp : p ≤ 10) : Calls Try.prog 30 #[.pointer (some ⟨I, 0, none⟩), .pointer (some ⟨X, 0, none⟩), .int .i64 1] w (Ends w0 I X A n c l (shortF sz 1 l p)) := by
  have HG := Lib.hid (show shortF sz 1 l p = ⟨7, regL (bt l p), regR (bt l p), sz, farI l p⟩ from by simp [shortF, plainF])
  rw [HG.out]
  have HV := Lib.hid (show plainF 1 = 7 from rfl)
  have a1 : bits .and .i64 1 248 = 0 := by decide
  have a2 : bits .and .i64 1 240 = 0 := by decide
  obtain ⟨⟨x0, x1, x2, x3, x4⟩, f0, f1, f2, f3, f4⟩ := h.cells
  have HH := Lib.hid h
  clear h
  go_enter Try.func30, Try.ntmps30
  go_wp2_with ((go_at_call 71; ((with_reducible refine (plain_at 1 7 HV.out _).mono ?_); rintro e w' ⟨rfl, rfl⟩)))
  refine (pair_any (HH.out.set0 7) (by omega)).mono ?_
  rintro e w3 ⟨rfl, h3⟩
  clear x0 x1 x2 x3 x4 f0 f1 f2 f3 f4
  obtain ⟨⟨x0, x1, x2, x3, x4⟩, f0, f1, f2, f3, f4⟩ := h3.cells
  have HF := Lib.hid ((h3.set2 (regR (bt l p))).set1 (regL (bt l p)))
  clear h3
  go_wp2
  refine bodyPost_end (results_none rfl _ _ _) rfl ?_
  exact ⟨_, rfl, HF.out⟩
set_option maxRecDepth 100000 in
set_option maxHeartbeats 4000000 in
theorem rd9 (sz : Int) (h : St w0 w I X A n c l p ⟨0, 0, 0, sz, 0⟩) (hp : p ≤ 10) : Calls Try.prog 30 #[.pointer (some ⟨I, 0, none⟩), .pointer (some ⟨X, 0, none⟩), .int .i64 9] w (Ends w0 I X A n c l (shortF sz 9 l p)) := by
  have HG := Lib.hid (show shortF sz 9 l p = ⟨8, regL (bt l p), regR (bt l p), sz, farI l p⟩ from by simp [shortF, plainF])
  rw [HG.out]
  have HV := Lib.hid (show plainF 9 = 8 from rfl)
  have a1 : bits .and .i64 9 248 = 8 := by decide
  have a2 : bits .and .i64 9 240 = 0 := by decide
  obtain ⟨⟨x0, x1, x2, x3, x4⟩, f0, f1, f2, f3, f4⟩ := h.cells
  have HH := Lib.hid h
  clear h
  go_enter Try.func30, Try.ntmps30
  go_wp2_with ((go_at_call 71; ((with_reducible refine (plain_at 9 8 HV.out _).mono ?_); rintro e w' ⟨rfl, rfl⟩)))
  refine (pair_any (HH.out.set0 8) (by omega)).mono ?_
  rintro e w3 ⟨rfl, h3⟩
  clear x0 x1 x2 x3 x4 f0 f1 f2 f3 f4
  obtain ⟨⟨x0, x1, x2, x3, x4⟩, f0, f1, f2, f3, f4⟩ := h3.cells
  have HF := Lib.hid ((h3.set2 (regR (bt l p))).set1 (regL (bt l p)))
  clear h3
  go_wp2
  refine bodyPost_end (results_none rfl _ _ _) rfl ?_
  exact ⟨_, rfl, HF.out⟩
set_option maxRecDepth 100000 in
set_option maxHeartbeats 4000000 in
theorem rd33 (sz : Int) (h : St w0 w I X A n c l p ⟨0, 0, 0, sz, 0⟩) (hp : p ≤ 10) : Calls Try.prog 30 #[.pointer (some ⟨I, 0, none⟩), .pointer (some ⟨X, 0, none⟩), .int .i64 33] w (Ends w0 I X A n c l (shortF sz 33 l p)) := by
  have HG := Lib.hid (show shortF sz 33 l p = ⟨9, regL (bt l p), regR (bt l p), sz, farI l p⟩ from by simp [shortF, plainF])
  rw [HG.out]
  have HV := Lib.hid (show plainF 33 = 9 from rfl)
  have a1 : bits .and .i64 33 248 = 32 := by decide
  have a2 : bits .and .i64 33 240 = 32 := by decide
  obtain ⟨⟨x0, x1, x2, x3, x4⟩, f0, f1, f2, f3, f4⟩ := h.cells
  have HH := Lib.hid h
  clear h
  go_enter Try.func30, Try.ntmps30
  go_wp2_with ((go_at_call 71; ((with_reducible refine (plain_at 33 9 HV.out _).mono ?_); rintro e w' ⟨rfl, rfl⟩)))
  refine (pair_any (HH.out.set0 9) (by omega)).mono ?_
  rintro e w3 ⟨rfl, h3⟩
  clear x0 x1 x2 x3 x4 f0 f1 f2 f3 f4
  obtain ⟨⟨x0, x1, x2, x3, x4⟩, f0, f1, f2, f3, f4⟩ := h3.cells
  have HF := Lib.hid ((h3.set2 (regR (bt l p))).set1 (regL (bt l p)))
  clear h3
  go_wp2
  refine bodyPost_end (results_none rfl _ _ _) rfl ?_
  exact ⟨_, rfl, HF.out⟩
set_option maxRecDepth 100000 in
set_option maxHeartbeats 4000000 in
theorem rd41 (sz : Int) (h : St w0 w I X A n c l p ⟨0, 0, 0, sz, 0⟩) (hp : p ≤ 10) : Calls Try.prog 30 #[.pointer (some ⟨I, 0, none⟩), .pointer (some ⟨X, 0, none⟩), .int .i64 41] w (Ends w0 I X A n c l (shortF sz 41 l p)) := by
  have HG := Lib.hid (show shortF sz 41 l p = ⟨10, regL (bt l p), regR (bt l p), sz, farI l p⟩ from by simp [shortF, plainF])
  rw [HG.out]
  have HV := Lib.hid (show plainF 41 = 10 from rfl)
  have a1 : bits .and .i64 41 248 = 40 := by decide
  have a2 : bits .and .i64 41 240 = 32 := by decide
  obtain ⟨⟨x0, x1, x2, x3, x4⟩, f0, f1, f2, f3, f4⟩ := h.cells
  have HH := Lib.hid h
  clear h
  go_enter Try.func30, Try.ntmps30
  go_wp2_with ((go_at_call 71; ((with_reducible refine (plain_at 41 10 HV.out _).mono ?_); rintro e w' ⟨rfl, rfl⟩)))
  refine (pair_any (HH.out.set0 10) (by omega)).mono ?_
  rintro e w3 ⟨rfl, h3⟩
  clear x0 x1 x2 x3 x4 f0 f1 f2 f3 f4
  obtain ⟨⟨x0, x1, x2, x3, x4⟩, f0, f1, f2, f3, f4⟩ := h3.cells
  have HF := Lib.hid ((h3.set2 (regR (bt l p))).set1 (regL (bt l p)))
  clear h3
  go_wp2
  refine bodyPost_end (results_none rfl _ _ _) rfl ?_
  exact ⟨_, rfl, HF.out⟩
set_option maxRecDepth 100000 in
set_option maxHeartbeats 4000000 in
theorem rd49 (sz : Int) (h : St w0 w I X A n c l p ⟨0, 0, 0, sz, 0⟩) (hp : p ≤ 10) : Calls Try.prog 30 #[.pointer (some ⟨I, 0, none⟩), .pointer (some ⟨X, 0, none⟩), .int .i64 49] w (Ends w0 I X A n c l (shortF sz 49 l p)) := by
  have HG := Lib.hid (show shortF sz 49 l p = ⟨11, regL (bt l p), regR (bt l p), sz, farI l p⟩ from by simp [shortF, plainF])
  rw [HG.out]
  have HV := Lib.hid (show plainF 49 = 11 from rfl)
  have a1 : bits .and .i64 49 248 = 48 := by decide
  have a2 : bits .and .i64 49 240 = 48 := by decide
  obtain ⟨⟨x0, x1, x2, x3, x4⟩, f0, f1, f2, f3, f4⟩ := h.cells
  have HH := Lib.hid h
  clear h
  go_enter Try.func30, Try.ntmps30
  go_wp2_with ((go_at_call 71; ((with_reducible refine (plain_at 49 11 HV.out _).mono ?_); rintro e w' ⟨rfl, rfl⟩)))
  refine (pair_any (HH.out.set0 11) (by omega)).mono ?_
  rintro e w3 ⟨rfl, h3⟩
  clear x0 x1 x2 x3 x4 f0 f1 f2 f3 f4
  obtain ⟨⟨x0, x1, x2, x3, x4⟩, f0, f1, f2, f3, f4⟩ := h3.cells
  have HF := Lib.hid ((h3.set2 (regR (bt l p))).set1 (regL (bt l p)))
  clear h3
  go_wp2
  refine bodyPost_end (results_none rfl _ _ _) rfl ?_
  exact ⟨_, rfl, HF.out⟩
set_option maxRecDepth 100000 in
set_option maxHeartbeats 4000000 in
theorem rd57 (sz : Int) (h : St w0 w I X A n c l p ⟨0, 0, 0, sz, 0⟩) (hp : p ≤ 10) : Calls Try.prog 30 #[.pointer (some ⟨I, 0, none⟩), .pointer (some ⟨X, 0, none⟩), .int .i64 57] w (Ends w0 I X A n c l (shortF sz 57 l p)) := by
  have HG := Lib.hid (show shortF sz 57 l p = ⟨12, regL (bt l p), regR (bt l p), sz, farI l p⟩ from by simp [shortF, plainF])
  rw [HG.out]
  have HV := Lib.hid (show plainF 57 = 12 from rfl)
  have a1 : bits .and .i64 57 248 = 56 := by decide
  have a2 : bits .and .i64 57 240 = 48 := by decide
  obtain ⟨⟨x0, x1, x2, x3, x4⟩, f0, f1, f2, f3, f4⟩ := h.cells
  have HH := Lib.hid h
  clear h
  go_enter Try.func30, Try.ntmps30
  go_wp2_with ((go_at_call 71; ((with_reducible refine (plain_at 57 12 HV.out _).mono ?_); rintro e w' ⟨rfl, rfl⟩)))
  refine (pair_any (HH.out.set0 12) (by omega)).mono ?_
  rintro e w3 ⟨rfl, h3⟩
  clear x0 x1 x2 x3 x4 f0 f1 f2 f3 f4
  obtain ⟨⟨x0, x1, x2, x3, x4⟩, f0, f1, f2, f3, f4⟩ := h3.cells
  have HF := Lib.hid ((h3.set2 (regR (bt l p))).set1 (regL (bt l p)))
  clear h3
  go_wp2
  refine bodyPost_end (results_none rfl _ _ _) rfl ?_
  exact ⟨_, rfl, HF.out⟩
set_option maxRecDepth 100000 in
set_option maxHeartbeats 4000000 in
theorem rd133 (sz : Int) (h : St w0 w I X A n c l p ⟨0, 0, 0, sz, 0⟩) (hp : p ≤ 10) : Calls Try.prog 30 #[.pointer (some ⟨I, 0, none⟩), .pointer (some ⟨X, 0, none⟩), .int .i64 133] w (Ends w0 I X A n c l (shortF sz 133 l p)) := by
  have HG := Lib.hid (show shortF sz 133 l p = ⟨13, regL (bt l p), regR (bt l p), sz, farI l p⟩ from by simp [shortF, plainF])
  rw [HG.out]
  have HV := Lib.hid (show plainF 133 = 13 from rfl)
  have a1 : bits .and .i64 133 248 = 128 := by decide
  have a2 : bits .and .i64 133 240 = 128 := by decide
  obtain ⟨⟨x0, x1, x2, x3, x4⟩, f0, f1, f2, f3, f4⟩ := h.cells
  have HH := Lib.hid h
  clear h
  go_enter Try.func30, Try.ntmps30
  go_wp2_with ((go_at_call 71; ((with_reducible refine (plain_at 133 13 HV.out _).mono ?_); rintro e w' ⟨rfl, rfl⟩)))
  refine (pair_any (HH.out.set0 13) (by omega)).mono ?_
  rintro e w3 ⟨rfl, h3⟩
  clear x0 x1 x2 x3 x4 f0 f1 f2 f3 f4
  obtain ⟨⟨x0, x1, x2, x3, x4⟩, f0, f1, f2, f3, f4⟩ := h3.cells
  have HF := Lib.hid ((h3.set2 (regR (bt l p))).set1 (regL (bt l p)))
  clear h3
  go_wp2
  refine bodyPost_end (results_none rfl _ _ _) rfl ?_
  exact ⟨_, rfl, HF.out⟩
set_option maxRecDepth 100000 in
set_option maxHeartbeats 4000000 in
theorem rdmov_16 (q : Int) (h : St w0 w I X A n c l p ⟨0, 0, 0, 16, 0⟩) (hp : p ≤ 10) (hq : 184 ≤ q ∧ q ≤ 191) : Calls Try.prog 30 #[.pointer (some ⟨I, 0, none⟩), .pointer (some ⟨X, 0, none⟩), .int .i64 q] w (Ends w0 I X A n c l (shortF 16 q l p)) := by
  have HV := Lib.hid (show plainF q = -1 by unfold plainF; repeat (first | rw [if_neg (by omega)]))
  have HG := Lib.hid (show shortF 16 q l p = ⟨1, q - 184, 0, 16, nx2 l p⟩ from by unfold shortF; rw [HV.out, if_neg (by decide), if_pos hq]; rfl)
  rw [HG.out]
  have a1 : bits .and .i64 q 248 = 184 := by rw [and248 (by omega)]; omega
  have a3 : bits .and .i64 q 7 = q - 184 := by rw [show bits .and .i64 q 7 = q % 8 from i64_mask q 3 (by omega)]; omega
  obtain ⟨⟨x0, x1, x2, x3, x4⟩, f0, f1, f2, f3, f4⟩ := h.cells
  have HH := Lib.hid h
  clear h
  go_enter Try.func30, Try.ntmps30
  go_wp2_with ((go_at_call 71; ((with_reducible refine (plain_at q (-1) HV.out _).mono ?_); rintro e w' ⟨rfl, rfl⟩)))
  refine (next16_at (HH.out.set0 (-1)) (by omega)).mono ?_
  rintro e w3 ⟨rfl, h3⟩
  clear x0 x1 x2 x3 x4 f0 f1 f2 f3 f4
  obtain ⟨⟨x0, x1, x2, x3, x4⟩, f0, f1, f2, f3, f4⟩ := h3.cells
  have HF := Lib.hid (((h3.set0 1).set1 (q - 184)).set4 (nx2 l p))
  clear h3
  go_wp2
  refine bodyPost_end (results_none rfl _ _ _) rfl ?_
  exact ⟨_, rfl, HF.out⟩
set_option maxRecDepth 100000 in
set_option maxHeartbeats 4000000 in
theorem rdmov_32 (q : Int) (h : St w0 w I X A n c l p ⟨0, 0, 0, 32, 0⟩) (hp : p ≤ 10) (hq : 184 ≤ q ∧ q ≤ 191) : Calls Try.prog 30 #[.pointer (some ⟨I, 0, none⟩), .pointer (some ⟨X, 0, none⟩), .int .i64 q] w (Ends w0 I X A n c l (shortF 32 q l p)) := by
  have HV := Lib.hid (show plainF q = -1 by unfold plainF; repeat (first | rw [if_neg (by omega)]))
  have HG := Lib.hid (show shortF 32 q l p = ⟨1, q - 184, 0, 32, nx4 l p⟩ from by unfold shortF; rw [HV.out, if_neg (by decide), if_pos hq]; rfl)
  rw [HG.out]
  have a1 : bits .and .i64 q 248 = 184 := by rw [and248 (by omega)]; omega
  have a3 : bits .and .i64 q 7 = q - 184 := by rw [show bits .and .i64 q 7 = q % 8 from i64_mask q 3 (by omega)]; omega
  obtain ⟨⟨x0, x1, x2, x3, x4⟩, f0, f1, f2, f3, f4⟩ := h.cells
  have HH := Lib.hid h
  clear h
  go_enter Try.func30, Try.ntmps30
  go_wp2_with ((go_at_call 71; ((with_reducible refine (plain_at q (-1) HV.out _).mono ?_); rintro e w' ⟨rfl, rfl⟩)))
  refine (next32_at (HH.out.set0 (-1)) (by omega)).mono ?_
  rintro e w3 ⟨rfl, h3⟩
  clear x0 x1 x2 x3 x4 f0 f1 f2 f3 f4
  obtain ⟨⟨x0, x1, x2, x3, x4⟩, f0, f1, f2, f3, f4⟩ := h3.cells
  have HF := Lib.hid (((h3.set0 1).set1 (q - 184)).set4 (nx4 l p))
  clear h3
  go_wp2
  refine bodyPost_end (results_none rfl _ _ _) rfl ?_
  exact ⟨_, rfl, HF.out⟩
set_option maxRecDepth 100000 in
set_option maxHeartbeats 4000000 in
theorem rdjcc (q : Int) (sz : Int) (h : St w0 w I X A n c l p ⟨0, 0, 0, sz, 0⟩) (hp : p ≤ 10) (hq : 112 ≤ q ∧ q ≤ 127) : Calls Try.prog 30 #[.pointer (some ⟨I, 0, none⟩), .pointer (some ⟨X, 0, none⟩), .int .i64 q] w (Ends w0 I X A n c l (shortF sz q l p)) := by
  have HV := Lib.hid (show plainF q = -1 by unfold plainF; repeat (first | rw [if_neg (by omega)]))
  have HG := Lib.hid (show shortF sz q l p = ⟨32, 0, q - 112, 8, sgn 128 (bt l p)⟩ from by unfold shortF; rw [HV.out, if_neg (by decide), if_neg (by omega), if_neg (by omega), if_neg (by omega), if_neg (by omega), if_pos hq])
  rw [HG.out]
  have a1 : bits .and .i64 q 248 ≠ 184 := by rw [and248 (by omega)]; omega
  have a1b : (bits .and .i64 q 248 == 184) = false := beq_false_of_ne a1
  have a2 : bits .and .i64 q 240 = 112 := by rw [and240 (by omega)]; omega
  have a3 : bits .and .i64 q 15 = q - 112 := by rw [show bits .and .i64 q 15 = q % 16 from i64_mask q 4 (by omega)]; omega
  have n1 : (q == 139) = false := beq_false_of_ne (by omega)
  have n2 : (q == 136) = false := beq_false_of_ne (by omega)
  have n3 : (q == 137) = false := beq_false_of_ne (by omega)
  obtain ⟨⟨x0, x1, x2, x3, x4⟩, f0, f1, f2, f3, f4⟩ := h.cells
  have HH := Lib.hid h
  clear h
  go_enter Try.func30, Try.ntmps30
  go_wp2_with ((go_at_call 71; ((with_reducible refine (plain_at q (-1) HV.out _).mono ?_); rintro e w' ⟨rfl, rfl⟩)))
  refine (next8_at (HH.out.set0 (-1)) (by omega)).mono ?_
  rintro e w3 ⟨rfl, h3⟩
  clear x0 x1 x2 x3 x4 f0 f1 f2 f3 f4
  obtain ⟨⟨x0, x1, x2, x3, x4⟩, f0, f1, f2, f3, f4⟩ := h3.cells
  have HF := Lib.hid ((((h3.set0 32).set2 (q - 112)).set3 8).set4 (sgn 128 (bt l p)))
  clear h3
  go_wp2_with (go_at_call 70; ((with_reducible refine (signed8_any _ _).mono ?_); rintro e w' ⟨rfl, rfl⟩))
  refine bodyPost_end (results_none rfl _ _ _) rfl ?_
  exact ⟨_, rfl, HF.out⟩
set_option maxRecDepth 100000 in
set_option maxHeartbeats 4000000 in
theorem rd235 (sz : Int) (h : St w0 w I X A n c l p ⟨0, 0, 0, sz, 0⟩) (hp : p ≤ 10) : Calls Try.prog 30 #[.pointer (some ⟨I, 0, none⟩), .pointer (some ⟨X, 0, none⟩), .int .i64 235] w (Ends w0 I X A n c l (shortF sz 235 l p)) := by
  have HG := Lib.hid (show shortF sz 235 l p = ⟨33, 0, 0, 8, sgn 128 (bt l p)⟩ from by simp [shortF, plainF])
  rw [HG.out]
  have HV := Lib.hid (show plainF 235 = -1 from rfl)
  have a1 : bits .and .i64 235 248 = 232 := by decide
  have a2 : bits .and .i64 235 240 = 224 := by decide
  obtain ⟨⟨x0, x1, x2, x3, x4⟩, f0, f1, f2, f3, f4⟩ := h.cells
  have HH := Lib.hid h
  clear h
  go_enter Try.func30, Try.ntmps30
  go_wp2_with ((go_at_call 71; ((with_reducible refine (plain_at 235 (-1) HV.out _).mono ?_); rintro e w' ⟨rfl, rfl⟩)))
  refine (next8_at (HH.out.set0 (-1)) (by omega)).mono ?_
  rintro e w3 ⟨rfl, h3⟩
  clear x0 x1 x2 x3 x4 f0 f1 f2 f3 f4
  obtain ⟨⟨x0, x1, x2, x3, x4⟩, f0, f1, f2, f3, f4⟩ := h3.cells
  have HF := Lib.hid (((h3.set0 33).set3 8).set4 (sgn 128 (bt l p)))
  clear h3
  go_wp2_with (go_at_call 70; ((with_reducible refine (signed8_any _ _).mono ?_); rintro e w' ⟨rfl, rfl⟩))
  refine bodyPost_end (results_none rfl _ _ _) rfl ?_
  exact ⟨_, rfl, HF.out⟩
set_option maxRecDepth 100000 in
set_option maxHeartbeats 4000000 in
theorem rd233 (sz : Int) (h : St w0 w I X A n c l p ⟨0, 0, 0, sz, 0⟩) (hp : p ≤ 10) : Calls Try.prog 30 #[.pointer (some ⟨I, 0, none⟩), .pointer (some ⟨X, 0, none⟩), .int .i64 233] w (Ends w0 I X A n c l (shortF sz 233 l p)) := by
  have HG := Lib.hid (show shortF sz 233 l p = ⟨33, 0, 0, sz, sgn 2147483648 (nx4 l p)⟩ from by simp [shortF, plainF])
  rw [HG.out]
  have HV := Lib.hid (show plainF 233 = -1 from rfl)
  have a1 : bits .and .i64 233 248 = 232 := by decide
  have a2 : bits .and .i64 233 240 = 224 := by decide
  obtain ⟨⟨x0, x1, x2, x3, x4⟩, f0, f1, f2, f3, f4⟩ := h.cells
  have HH := Lib.hid h
  clear h
  go_enter Try.func30, Try.ntmps30
  go_wp2_with ((go_at_call 71; ((with_reducible refine (plain_at 233 (-1) HV.out _).mono ?_); rintro e w' ⟨rfl, rfl⟩)))
  refine (next32_at (HH.out.set0 (-1)) (by omega)).mono ?_
  rintro e w3 ⟨rfl, h3⟩
  clear x0 x1 x2 x3 x4 f0 f1 f2 f3 f4
  obtain ⟨⟨x0, x1, x2, x3, x4⟩, f0, f1, f2, f3, f4⟩ := h3.cells
  have HF := Lib.hid ((h3.set0 33).set4 (sgn 2147483648 (nx4 l p)))
  clear h3
  go_wp2_with (go_at_call 70; ((with_reducible refine (signed32_any _ _).mono ?_); rintro e w' ⟨rfl, rfl⟩))
  refine bodyPost_end (results_none rfl _ _ _) rfl ?_
  exact ⟨_, rfl, HF.out⟩
set_option maxRecDepth 100000 in
set_option maxHeartbeats 4000000 in
theorem rdgroup (q : Int) (sz : Int) (h : St w0 w I X A n c l p ⟨0, 0, 0, sz, 0⟩) (hp : p ≤ 10) (hq : 0 ≤ q ∧ q < 256) (hpl : plainF q = -1) (b1 : ¬ (184 ≤ q ∧ q ≤ 191)) (b2 : q ≠ 139) (b3 : q ≠ 136) (b4 : q ≠ 137) (b5 : ¬ (112 ≤ q ∧ q ≤ 127)) (b6 : q ≠ 235) (b7 : q ≠ 233) (hsz : sz = 16 ∨ sz = 32) : Calls Try.prog 30 #[.pointer (some ⟨I, 0, none⟩), .pointer (some ⟨X, 0, none⟩), .int .i64 q] w (Ends w0 I X A n c l (shortF sz q l p)) := by
  have HG := Lib.hid (show shortF sz q l p = grpF sz q l p from by unfold shortF; rw [hpl, if_neg (by decide), if_neg b1, if_neg b2, if_neg b3, if_neg b4, if_neg b5, if_neg b6, if_neg b7, if_neg (by decide)])
  rw [HG.out]
  have HV := Lib.hid hpl
  have a1b : (bits .and .i64 q 248 == 184) = false := beq_false_of_ne (by rw [and248 hq]; omega)
  have a2b : (bits .and .i64 q 240 == 112) = false := beq_false_of_ne (by rw [and240 hq]; omega)
  have n1 : (q == 139) = false := beq_false_of_ne b2
  have n2 : (q == 136) = false := beq_false_of_ne b3
  have n3 : (q == 137) = false := beq_false_of_ne b4
  have n4 : (q == 235) = false := beq_false_of_ne b6
  have n5 : (q == 233) = false := beq_false_of_ne b7
  have HSZ := Lib.hid hsz
  clear hpl b1 b5 hsz
  obtain ⟨⟨x0, x1, x2, x3, x4⟩, f0, f1, f2, f3, f4⟩ := h.cells
  have HH := Lib.hid h
  clear h
  go_enter Try.func30, Try.ntmps30
  go_wp2_with ((go_at_call 71; ((with_reducible refine (plain_at q (-1) HV.out _).mono ?_); rintro e w' ⟨rfl, rfl⟩)))
  refine (grp_all q sz (HH.out.set0 (-1)) (by omega) HSZ.out).mono ?_
  rintro e w3 ⟨p3, rfl, h3⟩
  have HF := Lib.hid h3
  clear h3
  go_wp2
  refine bodyPost_end (results_none rfl _ _ _) rfl ?_
  exact ⟨_, rfl, HF.out⟩
theorem plain_cases (q : Int) : plainF q = -1 ∨ q = 1 ∨ q = 9 ∨ q = 33 ∨ q = 41 ∨ q = 49 ∨ q = 57 ∨ q = 133 ∨ q = 153 ∨ q = 244 ∨ q = 144 := by
  unfold plainF
  by_cases h1 : q = 1
  · simp [h1]
  by_cases h9 : q = 9
  · simp [h9]
  by_cases h33 : q = 33
  · simp [h33]
  by_cases h41 : q = 41
  · simp [h41]
  by_cases h49 : q = 49
  · simp [h49]
  by_cases h57 : q = 57
  · simp [h57]
  by_cases h133 : q = 133
  · simp [h133]
  by_cases h153 : q = 153
  · simp [h153]
  by_cases h244 : q = 244
  · simp [h244]
  by_cases h144 : q = 144
  · simp [h144]
  simp [h1, h9, h33, h41, h49, h57, h133, h153, h244, h144]
theorem read_any (q sz : Int) (h : St w0 w I X A n c l p ⟨0, 0, 0, sz, 0⟩) (hp : p ≤ 10) (hq : 0 ≤ q ∧ q < 256) (hsz : sz = 16 ∨ sz = 32) : Calls Try.prog 30 #[.pointer (some ⟨I, 0, none⟩), .pointer (some ⟨X, 0, none⟩), .int .i64 q] w (Ends w0 I X A n c l (shortF sz q l p)) := by
  rcases plain_cases q with hpl | rfl | rfl | rfl | rfl | rfl | rfl | rfl | rfl | rfl | rfl
  · by_cases b1 : 184 ≤ q ∧ q ≤ 191
    · rcases hsz with rfl | rfl
      · exact rdmov_16 q h hp b1
      · exact rdmov_32 q h hp b1
    by_cases b2 : q = 139
    · subst b2; exact rd139 sz h hp
    by_cases b3 : q = 136
    · subst b3; exact rd136 sz h hp
    by_cases b4 : q = 137
    · subst b4
      cases hf : farB (bt l p)
      · exact rd137_no sz h hp hf
      · exact rd137_yes sz h hp hf
    by_cases b5 : 112 ≤ q ∧ q ≤ 127
    · exact rdjcc q sz h hp b5
    by_cases b6 : q = 235
    · subst b6; exact rd235 sz h hp
    by_cases b7 : q = 233
    · subst b7; exact rd233 sz h hp
    exact rdgroup q sz h hp hq hpl b1 b2 b3 b4 b5 b6 b7 hsz
  · exact rd1 sz h hp
  · exact rd9 sz h hp
  · exact rd33 sz h hp
  · exact rd41 sz h hp
  · exact rd49 sz h hp
  · exact rd57 sz h hp
  · exact rd133 sz h hp
  · exact rd153 sz h hp
  · exact rd244 sz h hp
  · exact rd144 sz h hp
end
end Go.Proofs.Ytpekegeohcnhcaa
