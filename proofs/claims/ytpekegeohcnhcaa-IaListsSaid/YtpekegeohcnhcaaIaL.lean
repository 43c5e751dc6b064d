/-
  The reader: instructions that a number in place of a register tells.
-/
import Derived.Test.YtpekegeohcnhcaaIaK
namespace Go.Proofs.Ytpekegeohcnhcaa
open Go.RowKit

theorem idx_81_0 (w : World) : (Instr.index 71 (.agg #[.int .i64 14, .int .i64 15, .int .i64 (-1), .int .i64 (-1), .int .i64 16, .int .i64 17, .int .i64 18, .int .i64 19]) (.int .i64 0)).run Try.prog w = .ok (.int .i64 14) w := by kernel_rfl
theorem idx_81_1 (w : World) : (Instr.index 71 (.agg #[.int .i64 14, .int .i64 15, .int .i64 (-1), .int .i64 (-1), .int .i64 16, .int .i64 17, .int .i64 18, .int .i64 19]) (.int .i64 1)).run Try.prog w = .ok (.int .i64 15) w := by kernel_rfl
theorem idx_81_2 (w : World) : (Instr.index 71 (.agg #[.int .i64 14, .int .i64 15, .int .i64 (-1), .int .i64 (-1), .int .i64 16, .int .i64 17, .int .i64 18, .int .i64 19]) (.int .i64 2)).run Try.prog w = .ok (.int .i64 (-1)) w := by kernel_rfl
theorem idx_81_3 (w : World) : (Instr.index 71 (.agg #[.int .i64 14, .int .i64 15, .int .i64 (-1), .int .i64 (-1), .int .i64 16, .int .i64 17, .int .i64 18, .int .i64 19]) (.int .i64 3)).run Try.prog w = .ok (.int .i64 (-1)) w := by kernel_rfl
theorem idx_81_4 (w : World) : (Instr.index 71 (.agg #[.int .i64 14, .int .i64 15, .int .i64 (-1), .int .i64 (-1), .int .i64 16, .int .i64 17, .int .i64 18, .int .i64 19]) (.int .i64 4)).run Try.prog w = .ok (.int .i64 16) w := by kernel_rfl
theorem idx_81_5 (w : World) : (Instr.index 71 (.agg #[.int .i64 14, .int .i64 15, .int .i64 (-1), .int .i64 (-1), .int .i64 16, .int .i64 17, .int .i64 18, .int .i64 19]) (.int .i64 5)).run Try.prog w = .ok (.int .i64 17) w := by kernel_rfl
theorem idx_81_6 (w : World) : (Instr.index 71 (.agg #[.int .i64 14, .int .i64 15, .int .i64 (-1), .int .i64 (-1), .int .i64 16, .int .i64 17, .int .i64 18, .int .i64 19]) (.int .i64 6)).run Try.prog w = .ok (.int .i64 18) w := by kernel_rfl
theorem idx_81_7 (w : World) : (Instr.index 71 (.agg #[.int .i64 14, .int .i64 15, .int .i64 (-1), .int .i64 (-1), .int .i64 16, .int .i64 17, .int .i64 18, .int .i64 19]) (.int .i64 7)).run Try.prog w = .ok (.int .i64 19) w := by kernel_rfl
theorem idx_81 (r : Int) (h : 0 ≤ r ∧ r < 8) (w : World) : (Instr.index 71 (.agg #[.int .i64 14, .int .i64 15, .int .i64 (-1), .int .i64 (-1), .int .i64 16, .int .i64 17, .int .i64 18, .int .i64 19]) (.int .i64 r)).run Try.prog w = .ok (.int .i64 (g81 r)) w := by
  have hr : r = 0 ∨ r = 1 ∨ r = 2 ∨ r = 3 ∨ r = 4 ∨ r = 5 ∨ r = 6 ∨ r = 7 := by omega
  rcases hr with rfl | rfl | rfl | rfl | rfl | rfl | rfl | rfl
  · exact idx_81_0 w
  · exact idx_81_1 w
  · exact idx_81_2 w
  · exact idx_81_3 w
  · exact idx_81_4 w
  · exact idx_81_5 w
  · exact idx_81_6 w
  · exact idx_81_7 w
theorem idx_d3_0 (w : World) : (Instr.index 71 (.agg #[.int .i64 (-1), .int .i64 (-1), .int .i64 (-1), .int .i64 (-1), .int .i64 21, .int .i64 22, .int .i64 (-1), .int .i64 23]) (.int .i64 0)).run Try.prog w = .ok (.int .i64 (-1)) w := by kernel_rfl
theorem idx_d3_1 (w : World) : (Instr.index 71 (.agg #[.int .i64 (-1), .int .i64 (-1), .int .i64 (-1), .int .i64 (-1), .int .i64 21, .int .i64 22, .int .i64 (-1), .int .i64 23]) (.int .i64 1)).run Try.prog w = .ok (.int .i64 (-1)) w := by kernel_rfl
theorem idx_d3_2 (w : World) : (Instr.index 71 (.agg #[.int .i64 (-1), .int .i64 (-1), .int .i64 (-1), .int .i64 (-1), .int .i64 21, .int .i64 22, .int .i64 (-1), .int .i64 23]) (.int .i64 2)).run Try.prog w = .ok (.int .i64 (-1)) w := by kernel_rfl
theorem idx_d3_3 (w : World) : (Instr.index 71 (.agg #[.int .i64 (-1), .int .i64 (-1), .int .i64 (-1), .int .i64 (-1), .int .i64 21, .int .i64 22, .int .i64 (-1), .int .i64 23]) (.int .i64 3)).run Try.prog w = .ok (.int .i64 (-1)) w := by kernel_rfl
theorem idx_d3_4 (w : World) : (Instr.index 71 (.agg #[.int .i64 (-1), .int .i64 (-1), .int .i64 (-1), .int .i64 (-1), .int .i64 21, .int .i64 22, .int .i64 (-1), .int .i64 23]) (.int .i64 4)).run Try.prog w = .ok (.int .i64 21) w := by kernel_rfl
theorem idx_d3_5 (w : World) : (Instr.index 71 (.agg #[.int .i64 (-1), .int .i64 (-1), .int .i64 (-1), .int .i64 (-1), .int .i64 21, .int .i64 22, .int .i64 (-1), .int .i64 23]) (.int .i64 5)).run Try.prog w = .ok (.int .i64 22) w := by kernel_rfl
theorem idx_d3_6 (w : World) : (Instr.index 71 (.agg #[.int .i64 (-1), .int .i64 (-1), .int .i64 (-1), .int .i64 (-1), .int .i64 21, .int .i64 22, .int .i64 (-1), .int .i64 23]) (.int .i64 6)).run Try.prog w = .ok (.int .i64 (-1)) w := by kernel_rfl
theorem idx_d3_7 (w : World) : (Instr.index 71 (.agg #[.int .i64 (-1), .int .i64 (-1), .int .i64 (-1), .int .i64 (-1), .int .i64 21, .int .i64 22, .int .i64 (-1), .int .i64 23]) (.int .i64 7)).run Try.prog w = .ok (.int .i64 23) w := by kernel_rfl
theorem idx_d3 (r : Int) (h : 0 ≤ r ∧ r < 8) (w : World) : (Instr.index 71 (.agg #[.int .i64 (-1), .int .i64 (-1), .int .i64 (-1), .int .i64 (-1), .int .i64 21, .int .i64 22, .int .i64 (-1), .int .i64 23]) (.int .i64 r)).run Try.prog w = .ok (.int .i64 (gd3 r)) w := by
  have hr : r = 0 ∨ r = 1 ∨ r = 2 ∨ r = 3 ∨ r = 4 ∨ r = 5 ∨ r = 6 ∨ r = 7 := by omega
  rcases hr with rfl | rfl | rfl | rfl | rfl | rfl | rfl | rfl
  · exact idx_d3_0 w
  · exact idx_d3_1 w
  · exact idx_d3_2 w
  · exact idx_d3_3 w
  · exact idx_d3_4 w
  · exact idx_d3_5 w
  · exact idx_d3_6 w
  · exact idx_d3_7 w
theorem idx_f7_0 (w : World) : (Instr.index 71 (.agg #[.int .i64 (-1), .int .i64 (-1), .int .i64 24, .int .i64 25, .int .i64 (-1), .int .i64 (-1), .int .i64 26, .int .i64 27]) (.int .i64 0)).run Try.prog w = .ok (.int .i64 (-1)) w := by kernel_rfl
theorem idx_f7_1 (w : World) : (Instr.index 71 (.agg #[.int .i64 (-1), .int .i64 (-1), .int .i64 24, .int .i64 25, .int .i64 (-1), .int .i64 (-1), .int .i64 26, .int .i64 27]) (.int .i64 1)).run Try.prog w = .ok (.int .i64 (-1)) w := by kernel_rfl
theorem idx_f7_2 (w : World) : (Instr.index 71 (.agg #[.int .i64 (-1), .int .i64 (-1), .int .i64 24, .int .i64 25, .int .i64 (-1), .int .i64 (-1), .int .i64 26, .int .i64 27]) (.int .i64 2)).run Try.prog w = .ok (.int .i64 24) w := by kernel_rfl
theorem idx_f7_3 (w : World) : (Instr.index 71 (.agg #[.int .i64 (-1), .int .i64 (-1), .int .i64 24, .int .i64 25, .int .i64 (-1), .int .i64 (-1), .int .i64 26, .int .i64 27]) (.int .i64 3)).run Try.prog w = .ok (.int .i64 25) w := by kernel_rfl
theorem idx_f7_4 (w : World) : (Instr.index 71 (.agg #[.int .i64 (-1), .int .i64 (-1), .int .i64 24, .int .i64 25, .int .i64 (-1), .int .i64 (-1), .int .i64 26, .int .i64 27]) (.int .i64 4)).run Try.prog w = .ok (.int .i64 (-1)) w := by kernel_rfl
theorem idx_f7_5 (w : World) : (Instr.index 71 (.agg #[.int .i64 (-1), .int .i64 (-1), .int .i64 24, .int .i64 25, .int .i64 (-1), .int .i64 (-1), .int .i64 26, .int .i64 27]) (.int .i64 5)).run Try.prog w = .ok (.int .i64 (-1)) w := by kernel_rfl
theorem idx_f7_6 (w : World) : (Instr.index 71 (.agg #[.int .i64 (-1), .int .i64 (-1), .int .i64 24, .int .i64 25, .int .i64 (-1), .int .i64 (-1), .int .i64 26, .int .i64 27]) (.int .i64 6)).run Try.prog w = .ok (.int .i64 26) w := by kernel_rfl
theorem idx_f7_7 (w : World) : (Instr.index 71 (.agg #[.int .i64 (-1), .int .i64 (-1), .int .i64 24, .int .i64 25, .int .i64 (-1), .int .i64 (-1), .int .i64 26, .int .i64 27]) (.int .i64 7)).run Try.prog w = .ok (.int .i64 27) w := by kernel_rfl
theorem idx_f7 (r : Int) (h : 0 ≤ r ∧ r < 8) (w : World) : (Instr.index 71 (.agg #[.int .i64 (-1), .int .i64 (-1), .int .i64 24, .int .i64 25, .int .i64 (-1), .int .i64 (-1), .int .i64 26, .int .i64 27]) (.int .i64 r)).run Try.prog w = .ok (.int .i64 (gf7 r)) w := by
  have hr : r = 0 ∨ r = 1 ∨ r = 2 ∨ r = 3 ∨ r = 4 ∨ r = 5 ∨ r = 6 ∨ r = 7 := by omega
  rcases hr with rfl | rfl | rfl | rfl | rfl | rfl | rfl | rfl
  · exact idx_f7_0 w
  · exact idx_f7_1 w
  · exact idx_f7_2 w
  · exact idx_f7_3 w
  · exact idx_f7_4 w
  · exact idx_f7_5 w
  · exact idx_f7_6 w
  · exact idx_f7_7 w
theorem regR_bd (m : Int) : 0 ≤ regR m ∧ regR m < 8 := by unfold regR; omega
theorem St.setP {w0 w : World} {I X : Nat} {A : Option Addr} {n c : Nat} {l : List Int} {p : Nat} {x : Ins} (h : St w0 w I X A n c l p x) (q : Nat) (v : Int) (hv : v = (q : Int)) : St w0 (w.setCell ⟨I, 1, none⟩ (.int .i64 v)) I X A n c l q x := by
  subst hv
  have hk : KeepI I w (w.setCell ⟨I, 1, none⟩ (.int .i64 (q : Int))) := (KeepI.refl I w).set 1 _
  exact h.next hk (set_at1 h.inp _)
theorem St.drew {w0 w : World} {I X : Nat} {A : Option Addr} {n c : Nat} {l : List Int} {p : Nat} {x : Ins} (h : St w0 w I X A n c l p x) : St w0 w.drew I X A n c l p x :=
  ⟨⟨h.keep.os, h.keep.tape, h.keep.output, h.keep.size, h.keep.block⟩, h.inp, h.ins, h.byt.below (drewR (Below.refl _ _)), h.ne⟩
section
variable {w0 w : World} {I X p : Nat} {A : Option Addr} {n c : Nat} {l : List Int}
def Ends (w0 : World) (I X : Nat) (A : Option Addr) (n c : Nat) (l : List Int) (x : Ins) (e : Ending) (w' : World) : Prop := ∃ p', e = .returned (.tuple #[]) ∧ St w0 w' I X A n c l p' x
set_option maxRecDepth 100000 in
set_option maxHeartbeats 4000000 in
theorem grp81_16 (h : St w0 w I X A n c l p ⟨-1, 0, 0, 16, 0⟩) (hp : p ≤ 20) : Calls Try.prog 72 #[.pointer (some ⟨I, 0, none⟩), .pointer (some ⟨X, 0, none⟩), .int .i64 129] w (Ends w0 I X A n c l (grpF 16 129 l p)) := by
  have HG := Lib.hid (show grpF 16 129 l p = ⟨g81 (regR (bt l p)), regL (bt l p), 0, 16, nx2 l (aft l p)⟩ from by unfold grpF; rw [if_pos rfl]; rfl)
  rw [HG.out]
  have HP := Lib.hid (pair_any h (by omega))
  have hrb := regR_bd (bt l p)
  have hidx := idx_81 (regR (bt l p)) hrb
  have haf : aft l p ≤ p + 5 := by unfold aft; split <;> omega
  obtain ⟨r, hr⟩ : ∃ r, regR (bt l p) = r := ⟨_, rfl⟩
  rw [hr] at HP hrb hidx ⊢
  have HR := Lib.hid hr
  clear h hr
  generalize farB (bt l p) = fb at HP
  generalize regL (bt l p) = dl at HP ⊢
  go_enter Try.func72, Try.ntmps72
  go_wp2_with fail
  refine HP.out.mono ?_
  rintro e w2 ⟨rfl, h2⟩
  have HT := Lib.hid (h2.set1 dl)
  obtain ⟨⟨x0, x1, x2, x3, x4⟩, f0, f1, f2, f3, f4⟩ := h2.cells
  have HT2 := Lib.hid h2
  clear h2 HP
  go_wp2_with fail
  refine (next16_at ((HT2.out.set1 dl).set0 (g81 r)) (by omega)).mono ?_
  rintro e w3 ⟨rfl, h3⟩
  clear x0 x1 x2 x3 x4 f0 f1 f2 f3 f4
  obtain ⟨⟨x0, x1, x2, x3, x4⟩, f0, f1, f2, f3, f4⟩ := h3.cells
  have HF := Lib.hid (h3.set4 (nx2 l (aft l p)))
  clear h3
  go_wp2
  refine bodyPost_end (results_none rfl _ _ _) rfl ?_
  exact ⟨_, rfl, HF.out⟩
set_option maxRecDepth 100000 in
set_option maxHeartbeats 4000000 in
theorem grp83_16 (h : St w0 w I X A n c l p ⟨-1, 0, 0, 16, 0⟩) (hp : p ≤ 20) : Calls Try.prog 72 #[.pointer (some ⟨I, 0, none⟩), .pointer (some ⟨X, 0, none⟩), .int .i64 131] w (Ends w0 I X A n c l (grpF 16 131 l p)) := by
  have HG := Lib.hid (show grpF 16 131 l p = ⟨g81 (regR (bt l p)), regL (bt l p), 0, 16, sgn 128 (bt l (aft l p)) % 65536⟩ from by unfold grpF; rw [if_neg (by decide), if_pos rfl]; rfl)
  rw [HG.out]
  have HP := Lib.hid (pair_any h (by omega))
  have hrb := regR_bd (bt l p)
  have hidx := idx_81 (regR (bt l p)) hrb
  have haf : aft l p ≤ p + 5 := by unfold aft; split <;> omega
  obtain ⟨r, hr⟩ : ∃ r, regR (bt l p) = r := ⟨_, rfl⟩
  rw [hr] at HP hrb hidx ⊢
  have HR := Lib.hid hr
  clear h hr
  generalize farB (bt l p) = fb at HP
  generalize regL (bt l p) = dl at HP ⊢
  go_enter Try.func72, Try.ntmps72
  go_wp2_with fail
  refine HP.out.mono ?_
  rintro e w2 ⟨rfl, h2⟩
  have HT := Lib.hid (h2.set1 dl)
  obtain ⟨⟨x0, x1, x2, x3, x4⟩, f0, f1, f2, f3, f4⟩ := h2.cells
  have HT2 := Lib.hid h2
  clear h2 HP
  go_wp2_with fail
  refine (next16_at ((HT2.out.set1 dl).set0 (g81 r)) (by omega)).mono ?_
  rintro e w3 ⟨rfl, h3⟩
  clear x0 x1 x2 x3 x4 f0 f1 f2 f3 f4
  obtain ⟨⟨x0, x1, x2, x3, x4⟩, f0, f1, f2, f3, f4⟩ := h3.cells
  have H3 := Lib.hid (h3.set4 (nx2 l (aft l p)))
  clear h3
  generalize nx2 l (aft l p) = v at H3 ⊢
  go_upto_region 8 with fail
  generalize World.setCell w3 _ _ = W4 at H3 ⊢
  clear f0 f1 f2 f3 f4 x0 x1 x2 x3 x4
  obtain ⟨⟨-, -, -, x3, -⟩, -⟩ := H3.out.cells
  obtain ⟨i0, i1, j0, j1⟩ := cells2 H3.out.inp
  go_still_tail 12, (by kernel_rfl)
  change wpList _ _ _ _ _ (World.drew _)
  clear i0 i1 j0 j1 x3
  have H4 := Lib.hid H3.out.drew
  generalize World.drew _ = W5 at H4 ⊢
  obtain ⟨i0, i1, j0, j1⟩ := cells2 H4.out.inp
  go_upto_region 9 with fail
  have H5 := Lib.hid (H4.out.setP (aft l p) ((aft l p : Nat) : Int) rfl)
  rw [show (((aft l p : Nat) : Int) + 2 - 2) = ((aft l p : Nat) : Int) by omega]
  generalize World.setCell W5 _ _ = W6 at H5 ⊢
  clear i0 i1 j0 j1
  obtain ⟨⟨-, -, -, x3, -⟩, -⟩ := H5.out.cells
  have a9 : bits .and .i64 (sgn 128 (bt l (aft l p))) 65535 = sgn 128 (bt l (aft l p)) % 65536 := i64_mask _ 16 (by omega)
  have HV := Lib.hid (show bits .and .i64 (sgn 128 (bt l (aft l p))) (IntKind.i64.wrap 65535) = sgn 128 (bt l (aft l p)) % 65536 by rw [show IntKind.i64.wrap 65535 = 65535 by decide]; exact a9)
  have hv1 : IntKind.i64.wrap 65536 = 65536 := by decide
  have hv2 : IntKind.i64.wrap (65536 - 1) = 65535 := by decide
  have HN8 := Lib.hid (next8_at H5.out (by omega))
  have HN9 := Lib.hid (next8_at H5.out.drew (by omega))
  go_region_held3 (fun W' => W'.cell? ⟨X, 3, none⟩ = some (.int .i64 16)) (first | exact x3 | exact (h7 : St _ _ _ _ _ _ _ _ _ _).cells.1.2.2.2.1 | exact H5.out.drew.cells.1.2.2.2.1 | exact h7.drew.cells.1.2.2.2.1 | exact (h7.set4 _).cells.1.2.2.2.1 | exact (h7.set4 _).drew.cells.1.2.2.2.1) (first | (go_at_call 28; (with_reducible refine HN8.out.mono ?_); rintro e w7 ⟨rfl, h7⟩; have y4 := h7.cells.1.2.2.2.2; have g4 := h7.cells.2.2.2.2.2) | (go_at_call 28; (with_reducible refine HN9.out.mono ?_); rintro e w7 ⟨rfl, h7⟩; have y4 := h7.cells.1.2.2.2.2; have g4 := h7.cells.2.2.2.2.2) | (go_at_call 70; (with_reducible refine (signed8_any _ _).mono ?_); rintro e w' ⟨rfl, rfl⟩))
  all_goals go_wp2
  all_goals refine bodyPost_end (results_none rfl _ _ _) rfl ?_
  all_goals first
    | exact ⟨_, rfl, h7.set4 _⟩
    | exact ⟨_, rfl, (h7.set4 _).drew⟩
    | (rw [HV.out]; exact ⟨_, rfl, h7.set4 _⟩)
    | (rw [HV.out]; exact ⟨_, rfl, (h7.set4 _).drew⟩)
set_option maxRecDepth 100000 in
set_option maxHeartbeats 4000000 in
theorem grp81_32 (h : St w0 w I X A n c l p ⟨-1, 0, 0, 32, 0⟩) (hp : p ≤ 20) : Calls Try.prog 72 #[.pointer (some ⟨I, 0, none⟩), .pointer (some ⟨X, 0, none⟩), .int .i64 129] w (Ends w0 I X A n c l (grpF 32 129 l p)) := by
  have HG := Lib.hid (show grpF 32 129 l p = ⟨g81 (regR (bt l p)), regL (bt l p), 0, 32, nx4 l (aft l p)⟩ from by unfold grpF; rw [if_pos rfl]; rfl)
  rw [HG.out]
  have HP := Lib.hid (pair_any h (by omega))
  have hrb := regR_bd (bt l p)
  have hidx := idx_81 (regR (bt l p)) hrb
  have haf : aft l p ≤ p + 5 := by unfold aft; split <;> omega
  obtain ⟨r, hr⟩ : ∃ r, regR (bt l p) = r := ⟨_, rfl⟩
  rw [hr] at HP hrb hidx ⊢
  have HR := Lib.hid hr
  clear h hr
  generalize farB (bt l p) = fb at HP
  generalize regL (bt l p) = dl at HP ⊢
  go_enter Try.func72, Try.ntmps72
  go_wp2_with fail
  refine HP.out.mono ?_
  rintro e w2 ⟨rfl, h2⟩
  have HT := Lib.hid (h2.set1 dl)
  obtain ⟨⟨x0, x1, x2, x3, x4⟩, f0, f1, f2, f3, f4⟩ := h2.cells
  have HT2 := Lib.hid h2
  clear h2 HP
  go_wp2_with fail
  refine (next32_at ((HT2.out.set1 dl).set0 (g81 r)) (by omega)).mono ?_
  rintro e w3 ⟨rfl, h3⟩
  clear x0 x1 x2 x3 x4 f0 f1 f2 f3 f4
  obtain ⟨⟨x0, x1, x2, x3, x4⟩, f0, f1, f2, f3, f4⟩ := h3.cells
  have HF := Lib.hid (h3.set4 (nx4 l (aft l p)))
  clear h3
  go_wp2
  refine bodyPost_end (results_none rfl _ _ _) rfl ?_
  exact ⟨_, rfl, HF.out⟩
set_option maxRecDepth 100000 in
set_option maxHeartbeats 4000000 in
theorem grp83_32 (h : St w0 w I X A n c l p ⟨-1, 0, 0, 32, 0⟩) (hp : p ≤ 20) : Calls Try.prog 72 #[.pointer (some ⟨I, 0, none⟩), .pointer (some ⟨X, 0, none⟩), .int .i64 131] w (Ends w0 I X A n c l (grpF 32 131 l p)) := by
  have HG := Lib.hid (show grpF 32 131 l p = ⟨g81 (regR (bt l p)), regL (bt l p), 0, 32, sgn 128 (bt l (aft l p)) % 4294967296⟩ from by unfold grpF; rw [if_neg (by decide), if_pos rfl]; rfl)
  rw [HG.out]
  have HP := Lib.hid (pair_any h (by omega))
  have hrb := regR_bd (bt l p)
  have hidx := idx_81 (regR (bt l p)) hrb
  have haf : aft l p ≤ p + 5 := by unfold aft; split <;> omega
  obtain ⟨r, hr⟩ : ∃ r, regR (bt l p) = r := ⟨_, rfl⟩
  rw [hr] at HP hrb hidx ⊢
  have HR := Lib.hid hr
  clear h hr
  generalize farB (bt l p) = fb at HP
  generalize regL (bt l p) = dl at HP ⊢
  go_enter Try.func72, Try.ntmps72
  go_wp2_with fail
  refine HP.out.mono ?_
  rintro e w2 ⟨rfl, h2⟩
  have HT := Lib.hid (h2.set1 dl)
  obtain ⟨⟨x0, x1, x2, x3, x4⟩, f0, f1, f2, f3, f4⟩ := h2.cells
  have HT2 := Lib.hid h2
  clear h2 HP
  go_wp2_with fail
  refine (next32_at ((HT2.out.set1 dl).set0 (g81 r)) (by omega)).mono ?_
  rintro e w3 ⟨rfl, h3⟩
  clear x0 x1 x2 x3 x4 f0 f1 f2 f3 f4
  obtain ⟨⟨x0, x1, x2, x3, x4⟩, f0, f1, f2, f3, f4⟩ := h3.cells
  have H3 := Lib.hid (h3.set4 (nx4 l (aft l p)))
  clear h3
  generalize nx4 l (aft l p) = v at H3 ⊢
  go_upto_region 8 with fail
  generalize World.setCell w3 _ _ = W4 at H3 ⊢
  clear f0 f1 f2 f3 f4 x0 x1 x2 x3 x4
  obtain ⟨⟨-, -, -, x3, -⟩, -⟩ := H3.out.cells
  obtain ⟨i0, i1, j0, j1⟩ := cells2 H3.out.inp
  go_still_tail 12, (by kernel_rfl)
  change wpList _ _ _ _ _ (World.drew _)
  clear i0 i1 j0 j1 x3
  have H4 := Lib.hid H3.out.drew
  generalize World.drew _ = W5 at H4 ⊢
  obtain ⟨i0, i1, j0, j1⟩ := cells2 H4.out.inp
  go_upto_region 9 with fail
  have H5 := Lib.hid (H4.out.setP (aft l p) ((aft l p : Nat) : Int) rfl)
  rw [show (((aft l p : Nat) : Int) + 4 - 4) = ((aft l p : Nat) : Int) by omega]
  generalize World.setCell W5 _ _ = W6 at H5 ⊢
  clear i0 i1 j0 j1
  obtain ⟨⟨-, -, -, x3, -⟩, -⟩ := H5.out.cells
  have a9 : bits .and .i64 (sgn 128 (bt l (aft l p))) 4294967295 = sgn 128 (bt l (aft l p)) % 4294967296 := i64_mask _ 32 (by omega)
  have HV := Lib.hid (show bits .and .i64 (sgn 128 (bt l (aft l p))) (IntKind.i64.wrap 4294967295) = sgn 128 (bt l (aft l p)) % 4294967296 by rw [show IntKind.i64.wrap 4294967295 = 4294967295 by decide]; exact a9)
  have hv1 : IntKind.i64.wrap 4294967296 = 4294967296 := by decide
  have hv2 : IntKind.i64.wrap (4294967296 - 1) = 4294967295 := by decide
  have HN8 := Lib.hid (next8_at H5.out (by omega))
  have HN9 := Lib.hid (next8_at H5.out.drew (by omega))
  go_region_held3 (fun W' => W'.cell? ⟨X, 3, none⟩ = some (.int .i64 32)) (first | exact x3 | exact (h7 : St _ _ _ _ _ _ _ _ _ _).cells.1.2.2.2.1 | exact H5.out.drew.cells.1.2.2.2.1 | exact h7.drew.cells.1.2.2.2.1 | exact (h7.set4 _).cells.1.2.2.2.1 | exact (h7.set4 _).drew.cells.1.2.2.2.1) (first | (go_at_call 28; (with_reducible refine HN8.out.mono ?_); rintro e w7 ⟨rfl, h7⟩; have y4 := h7.cells.1.2.2.2.2; have g4 := h7.cells.2.2.2.2.2) | (go_at_call 28; (with_reducible refine HN9.out.mono ?_); rintro e w7 ⟨rfl, h7⟩; have y4 := h7.cells.1.2.2.2.2; have g4 := h7.cells.2.2.2.2.2) | (go_at_call 70; (with_reducible refine (signed8_any _ _).mono ?_); rintro e w' ⟨rfl, rfl⟩))
  all_goals go_wp2
  all_goals refine bodyPost_end (results_none rfl _ _ _) rfl ?_
  all_goals first
    | exact ⟨_, rfl, h7.set4 _⟩
    | exact ⟨_, rfl, (h7.set4 _).drew⟩
    | (rw [HV.out]; exact ⟨_, rfl, h7.set4 _⟩)
    | (rw [HV.out]; exact ⟨_, rfl, (h7.set4 _).drew⟩)
set_option maxRecDepth 100000 in
set_option maxHeartbeats 4000000 in
theorem grpd3_any (sz : Int) (h : St w0 w I X A n c l p ⟨-1, 0, 0, sz, 0⟩) (hp : p ≤ 20) : Calls Try.prog 72 #[.pointer (some ⟨I, 0, none⟩), .pointer (some ⟨X, 0, none⟩), .int .i64 211] w (Ends w0 I X A n c l (grpF sz 211 l p)) := by
  have HG := Lib.hid (show grpF sz 211 l p = ⟨gd3 (regR (bt l p)), regL (bt l p), 0, sz, farI l p⟩ from by unfold grpF; rw [if_neg (by decide), if_neg (by decide), if_pos rfl])
  rw [HG.out]
  have HP := Lib.hid (pair_any h (by omega))
  have hrb := regR_bd (bt l p)
  have hidx := idx_d3 (regR (bt l p)) hrb
  have haf : aft l p ≤ p + 5 := by unfold aft; split <;> omega
  obtain ⟨r, hr⟩ : ∃ r, regR (bt l p) = r := ⟨_, rfl⟩
  rw [hr] at HP hrb hidx ⊢
  have HR := Lib.hid hr
  clear h hr
  generalize farB (bt l p) = fb at HP
  generalize regL (bt l p) = dl at HP ⊢
  go_enter Try.func72, Try.ntmps72
  go_wp2_with fail
  refine HP.out.mono ?_
  rintro e w2 ⟨rfl, h2⟩
  have HT := Lib.hid (h2.set1 dl)
  obtain ⟨⟨x0, x1, x2, x3, x4⟩, f0, f1, f2, f3, f4⟩ := h2.cells
  have HT2 := Lib.hid h2
  clear h2 HP
  have HF := Lib.hid ((HT2.out.set1 dl).set0 (gd3 r))
  go_wp2
  refine bodyPost_end (results_none rfl _ _ _) rfl ?_
  exact ⟨_, rfl, HF.out⟩
set_option maxRecDepth 100000 in
set_option maxHeartbeats 4000000 in
theorem grpf7_any (sz : Int) (h : St w0 w I X A n c l p ⟨-1, 0, 0, sz, 0⟩) (hp : p ≤ 20) : Calls Try.prog 72 #[.pointer (some ⟨I, 0, none⟩), .pointer (some ⟨X, 0, none⟩), .int .i64 247] w (Ends w0 I X A n c l (grpF sz 247 l p)) := by
  have HG := Lib.hid (show grpF sz 247 l p = ⟨gf7 (regR (bt l p)), regL (bt l p), 0, sz, farI l p⟩ from by unfold grpF; rw [if_neg (by decide), if_neg (by decide), if_neg (by decide), if_pos rfl])
  rw [HG.out]
  have HP := Lib.hid (pair_any h (by omega))
  have hrb := regR_bd (bt l p)
  have hidx := idx_f7 (regR (bt l p)) hrb
  have haf : aft l p ≤ p + 5 := by unfold aft; split <;> omega
  obtain ⟨r, hr⟩ : ∃ r, regR (bt l p) = r := ⟨_, rfl⟩
  rw [hr] at HP hrb hidx ⊢
  have HR := Lib.hid hr
  clear h hr
  generalize farB (bt l p) = fb at HP
  generalize regL (bt l p) = dl at HP ⊢
  go_enter Try.func72, Try.ntmps72
  go_wp2_with fail
  refine HP.out.mono ?_
  rintro e w2 ⟨rfl, h2⟩
  have HT := Lib.hid (h2.set1 dl)
  obtain ⟨⟨x0, x1, x2, x3, x4⟩, f0, f1, f2, f3, f4⟩ := h2.cells
  have HT2 := Lib.hid h2
  clear h2 HP
  have HF := Lib.hid ((HT2.out.set1 dl).set0 (gf7 r))
  go_wp2
  refine bodyPost_end (results_none rfl _ _ _) rfl ?_
  exact ⟨_, rfl, HF.out⟩
set_option maxRecDepth 100000 in
set_option maxHeartbeats 4000000 in
theorem grpno_any (q : Int) (sz : Int) (h : St w0 w I X A n c l p ⟨-1, 0, 0, sz, 0⟩) (hp : p ≤ 20) (q1 : q ≠ 129) (q2 : q ≠ 131) (q3 : q ≠ 211) (q4 : q ≠ 247) : Calls Try.prog 72 #[.pointer (some ⟨I, 0, none⟩), .pointer (some ⟨X, 0, none⟩), .int .i64 q] w (Ends w0 I X A n c l (grpF sz q l p)) := by
  have HG := Lib.hid (show grpF sz q l p = ⟨-1, regL (bt l p), 0, sz, farI l p⟩ from by unfold grpF; rw [if_neg q1, if_neg q2, if_neg q3, if_neg q4])
  rw [HG.out]
  have HP := Lib.hid (pair_any h (by omega))
  have hrb := regR_bd (bt l p)
  have d1 : (q == 129) = false := beq_false_of_ne q1
  have d2 : (q == 131) = false := beq_false_of_ne q2
  have d3 : (q == 211) = false := beq_false_of_ne q3
  have d4 : (q == 247) = false := beq_false_of_ne q4
  have haf : aft l p ≤ p + 5 := by unfold aft; split <;> omega
  obtain ⟨r, hr⟩ : ∃ r, regR (bt l p) = r := ⟨_, rfl⟩
  rw [hr] at HP hrb
  have HR := Lib.hid hr
  clear h hr
  generalize farB (bt l p) = fb at HP
  generalize regL (bt l p) = dl at HP ⊢
  go_enter Try.func72, Try.ntmps72
  go_wp2_with fail
  refine HP.out.mono ?_
  rintro e w2 ⟨rfl, h2⟩
  have HT := Lib.hid (h2.set1 dl)
  obtain ⟨⟨x0, x1, x2, x3, x4⟩, f0, f1, f2, f3, f4⟩ := h2.cells
  have HT2 := Lib.hid h2
  clear h2 HP
  have HF := Lib.hid (HT2.out.set1 dl)
  go_wp2
  refine bodyPost_end (results_none rfl _ _ _) rfl ?_
  exact ⟨_, rfl, HF.out⟩
end
end Go.Proofs.Ytpekegeohcnhcaa
