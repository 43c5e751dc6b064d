/-
  execute of the program: operations over registers. execute of the program: operations with a number, lui. execute of the program: branches, the jump. execute of the program: the jump to a register, the end.
-/
import Derived.Test.YthkaclmnbahieaaDoorRvZg
import Derived.StillTailTactics
import Derived.BigQuiet
namespace Go.Proofs.YthkaclmnbahieaaDoor
open Go.RowKit

theorem KeepI.drewN {I : Nat} {a b : World} (h : KeepI I a b) (n : Nat) : KeepI I a (b.drewN n) := ⟨h.os, h.tape, h.output, h.size, h.block⟩
section
variable {w : World} {G : Nat} {R : Nat → Nat} {fl : Int} {at_ fin : Nat} {mem : Value}
set_option maxRecDepth 100000 in
set_option maxHeartbeats 4000000 in
theorem exec_alu (h : MacC w G R fl at_ mem fin) (hR : ∀ j, R j < 4294967296) (op d a b : Nat) (imm : Int) (hop : op ≤ 14) (hd : d < 32) (ha : a < 32) (hb : b < 32) :
    Calls Tryd.prog 70 #[.pointer (some ⟨G, 0, none⟩), rvA op d a b imm] w fun e w' => e = .returned (.bool true) ∧ MacC w' G (setRF R d (aluF op (R a) (R b))) fl ((at_ + 4) % 4294967296) mem fin ∧ KeepI G w w' := by
  have hb0 : Below w.heap.size w (w.alloc (.cells #[.int .i64 op, .int .i64 d, .int .i64 a, .int .i64 b, .int .i64 imm] 23)) := (Below.refl _ _).alloc (Nat.le_refl _) _
  have hx := heap_alloc_new w (.cells #[.int .i64 op, .int .i64 d, .int .i64 a, .int .i64 b, .int .i64 imm] 23)
  have h0 := h.below hb0
  have HR := Lib.hid hR
  have HK := Lib.hid (KeepI.of_below (I := G) hb0)
  clear h hb0 hR
  go_enter Tryd.func70, Tryd.ntmps70
  go_upto_region 1 with fail
  generalize World.alloc w _ = W at hx h0 HK ⊢
  generalize w.heap.size = X at hx ⊢
  obtain ⟨x0, x1, x2, x3, x4⟩ := cells5r hx
  have HM := Lib.hid h0
  obtain ⟨c0, -, c33, -, -⟩ := h0.cells
  have ca := c0 a ha
  have cb := c0 b hb
  clear c0 hx h0
  obtain ⟨va, hva⟩ : ∃ v, v = R a := ⟨_, rfl⟩
  obtain ⟨vb, hvb⟩ : ∃ v, v = R b := ⟨_, rfl⟩
  have la : va < 4294967296 := hva ▸ HR.out a
  have lb : vb < 4294967296 := hvb ▸ HR.out b
  rw [← hva] at ca
  rw [← hvb] at cb
  have HV := Lib.hid (And.intro hva hvb)
  clear hva hvb HR
  have ia : (a : Int) < 32 := by omega
  have ib : (b : Int) < 32 := by omega
  have io : (op : Int) ≤ 14 := by omega
  clear ha hb
  go_quiet (fail)
  go_wp2_with fail
  replace x0 : (W.drewN nq).cell? _ = _ := x0
  replace x1 : (W.drewN nq).cell? _ = _ := x1
  replace HM := Lib.hid (HM.out.drewN nq)
  replace HK := Lib.hid (HK.out.drewN nq)
  clear x2 x3 x4 ca cb c33
  generalize W.drewN nq = W1 at x0 x1 HM HK ⊢
  rw [show ((at_ : Int) + 4) % 4294967296 = (((at_ + 4) % 4294967296 : Nat) : Int) by omega]
  obtain ⟨N, hN⟩ : ∃ N, N = (at_ + 4) % 4294967296 := ⟨_, rfl⟩
  rw [← hN]
  have HN := Lib.hid hN
  clear hN
  go_still_tail 8, (by kernel_rfl)
  still_call (alu_all op va vb hop la lb _)
  repeat still_step
  refine wpStill_nil ?_
  change wpList _ _ _ _ _ _
  go_wp2_with fail
  refine (set_mac (HM.out.drewN 1) d hd _).mono ?_
  rintro e w2 ⟨rfl, hM2, hK2⟩
  have HK2 := Lib.hid ((HK.out.drewN 1).trans hK2)
  obtain ⟨-, -, c33, -, -⟩ := hM2.cells
  have f33 := hM2.free 33
  have HM2 := Lib.hid hM2
  clear hM2 hK2 x0 x1
  go_wp2
  refine bodyPost_ret (v := .bool true) (by simp [results, Tryd.results70, go_sem]) rfl ⟨rfl, ?_, HK2.out.set 33 _⟩
  rw [← HV.out.1, ← HV.out.2, ← HN.out]
  exact HM2.out.setAt N
end
end Go.Proofs.YthkaclmnbahieaaDoor

namespace Go.Proofs.YthkaclmnbahieaaDoor
open Go.RowKit

section
variable {w : World} {G : Nat} {R : Nat → Nat} {fl : Int} {at_ fin : Nat} {mem : Value}
set_option maxRecDepth 100000 in
set_option maxHeartbeats 4000000 in
theorem exec_imm (h : MacC w G R fl at_ mem fin) (hR : ∀ j, R j < 4294967296) (_ : at_ < 4294967296) (op d a b : Nat) (imm : Int) (hop : 15 ≤ op ∧ op ≤ 23) (hd : d < 32) (ha : a < 32) (hb : b < 32) :
    Calls Tryd.prog 70 #[.pointer (some ⟨G, 0, none⟩), rvA op d a b imm] w fun e w' => e = .returned (.bool true) ∧ MacC w' G (setRF R d (aluF (opF op) (R a) (wr32 imm))) fl ((at_ + 4) % 4294967296) mem fin ∧ KeepI G w w' := by
  have hb0 : Below w.heap.size w (w.alloc (.cells #[.int .i64 op, .int .i64 d, .int .i64 a, .int .i64 b, .int .i64 imm] 23)) := (Below.refl _ _).alloc (Nat.le_refl _) _
  have hx := heap_alloc_new w (.cells #[.int .i64 op, .int .i64 d, .int .i64 a, .int .i64 b, .int .i64 imm] 23)
  have h0 := h.below hb0
  have HR := Lib.hid hR
  have HK := Lib.hid (KeepI.of_below (I := G) hb0)
  clear h hb0 hR
  go_enter Tryd.func70, Tryd.ntmps70
  go_upto_region 1 with fail
  generalize World.alloc w _ = W at hx h0 HK ⊢
  generalize w.heap.size = X at hx ⊢
  obtain ⟨x0, x1, x2, x3, x4⟩ := cells5r hx
  have HM := Lib.hid h0
  obtain ⟨c0, -, c33, -, -⟩ := h0.cells
  have ca := c0 a ha
  have cb := c0 b hb
  clear c0 hx h0
  obtain ⟨va, hva⟩ : ∃ v, v = R a := ⟨_, rfl⟩
  obtain ⟨vb, hvb⟩ : ∃ v, v = R b := ⟨_, rfl⟩
  have la : va < 4294967296 := hva ▸ HR.out a
  have lb : vb < 4294967296 := hvb ▸ HR.out b
  rw [← hva] at ca
  rw [← hvb] at cb
  have HV := Lib.hid (And.intro hva hvb)
  clear hva hvb HR
  have ia : (a : Int) < 32 := by omega
  have ib : (b : Int) < 32 := by omega
  have io : (op : Int) ≤ 23 := by omega
  have io2 : (14 : Int) < (op : Int) := by omega
  have HO := Lib.hid (show opF op = plF op from if_neg (by omega))
  clear ha hb
  go_quiet (fail)
  replace x0 : (W.drewN nq).cell? _ = _ := x0
  replace x1 : (W.drewN nq).cell? _ = _ := x1
  replace c33 : (W.drewN nq).cell? _ = _ := c33
  have f33 := HM.out.free 33
  replace f33 : (W.drewN nq).frozen? _ = _ := f33
  have f35 := HM.out.free 35
  replace f35 : (W.drewN nq).frozen? _ = _ := f35
  replace HM := Lib.hid (HM.out.drewN nq)
  replace HK := Lib.hid (HK.out.drewN nq)
  clear x2 x3 x4 ca cb
  generalize W.drewN nq = W1 at x0 x1 c33 f33 f35 HM HK ⊢
  rw [← wr32_cast imm]
  obtain ⟨I, hI⟩ : ∃ I, I = wr32 imm := ⟨_, rfl⟩
  rw [← hI]
  have lI : I < 4294967296 := hI ▸ wr32_lt imm
  have HI := Lib.hid hI
  clear hI
  obtain ⟨N, hN⟩ : ∃ N, N = (at_ + 4) % 4294967296 := ⟨_, rfl⟩
  have eN : ((at_ : Int) + 4) % 4294967296 = (N : Int) := by omega
  have lN : N < 4294967296 := by omega
  have HN := Lib.hid hN
  clear hN
  have HP : plF op ≤ 14 := by
    unfold plF
    repeat (first | omega | split)
  go_wp2_with fail
  rw [eN]
  go_still_tail 9, (by kernel_rfl)
  still_call (plain_any op hop _)
  repeat still_step
  still_call (alu_all (plF op) va I HP la lI _)
  repeat still_step
  refine wpStill_nil ?_
  change wpList _ _ _ _ _ _
  go_wp2_with fail
  refine (set_mac (HM.out.drewN 1) d hd _).mono ?_
  rintro e w2 ⟨rfl, hM2, hK2⟩
  have HK2 := Lib.hid ((HK.out.drewN 1).trans hK2)
  obtain ⟨-, -, c33', -, -⟩ := hM2.cells
  have f33' := hM2.free 33
  have HM2 := Lib.hid hM2
  clear hM2 hK2 x0 x1 c33 f33 f35
  go_wp2
  refine bodyPost_ret (v := .bool true) (by simp [results, Tryd.results70, go_sem]) rfl ⟨rfl, ?_, HK2.out.set 33 _⟩
  rw [← HV.out.1, ← HI.out, ← HN.out, HO.out]
  exact HM2.out.setAt N
set_option maxRecDepth 100000 in
set_option maxHeartbeats 4000000 in
theorem exec_lui (h : MacC w G R fl at_ mem fin) (hR : ∀ j, R j < 4294967296) (_ : at_ < 4294967296) (d a b : Nat) (imm : Int) (hd : d < 32) (ha : a < 32) (hb : b < 32) :
    Calls Tryd.prog 70 #[.pointer (some ⟨G, 0, none⟩), rvA 24 d a b imm] w fun e w' => e = .returned (.bool true) ∧ MacC w' G (setRF R d (wr32 (wr32 imm * 4096))) fl ((at_ + 4) % 4294967296) mem fin ∧ KeepI G w w' := by
  have hb0 : Below w.heap.size w (w.alloc (.cells #[.int .i64 24, .int .i64 d, .int .i64 a, .int .i64 b, .int .i64 imm] 23)) := (Below.refl _ _).alloc (Nat.le_refl _) _
  have hx := heap_alloc_new w (.cells #[.int .i64 24, .int .i64 d, .int .i64 a, .int .i64 b, .int .i64 imm] 23)
  have h0 := h.below hb0
  have HR := Lib.hid hR
  have HK := Lib.hid (KeepI.of_below (I := G) hb0)
  clear h hb0 hR
  go_enter Tryd.func70, Tryd.ntmps70
  go_upto_region 1 with fail
  generalize World.alloc w _ = W at hx h0 HK ⊢
  generalize w.heap.size = X at hx ⊢
  obtain ⟨x0, x1, x2, x3, x4⟩ := cells5r hx
  have HM := Lib.hid h0
  obtain ⟨c0, -, c33, -, -⟩ := h0.cells
  have ca := c0 a ha
  have cb := c0 b hb
  clear c0 hx h0
  obtain ⟨va, hva⟩ : ∃ v, v = R a := ⟨_, rfl⟩
  obtain ⟨vb, hvb⟩ : ∃ v, v = R b := ⟨_, rfl⟩
  have la : va < 4294967296 := hva ▸ HR.out a
  have lb : vb < 4294967296 := hvb ▸ HR.out b
  rw [← hva] at ca
  rw [← hvb] at cb
  have HV := Lib.hid (And.intro hva hvb)
  clear hva hvb HR
  have ia : (a : Int) < 32 := by omega
  have ib : (b : Int) < 32 := by omega
  clear ha hb
  go_quiet (fail)
  replace x0 : (W.drewN nq).cell? _ = _ := x0
  replace x1 : (W.drewN nq).cell? _ = _ := x1
  replace c33 : (W.drewN nq).cell? _ = _ := c33
  have f33 := HM.out.free 33
  replace f33 : (W.drewN nq).frozen? _ = _ := f33
  have f35 := HM.out.free 35
  replace f35 : (W.drewN nq).frozen? _ = _ := f35
  replace HM := Lib.hid (HM.out.drewN nq)
  replace HK := Lib.hid (HK.out.drewN nq)
  clear x2 x3 x4 ca cb
  generalize W.drewN nq = W1 at x0 x1 c33 f33 f35 HM HK ⊢
  rw [← wr32_cast imm]
  obtain ⟨I, hI⟩ : ∃ I, I = wr32 imm := ⟨_, rfl⟩
  rw [← hI]
  have lI : I < 4294967296 := hI ▸ wr32_lt imm
  have HI := Lib.hid hI
  clear hI
  obtain ⟨N, hN⟩ : ∃ N, N = (at_ + 4) % 4294967296 := ⟨_, rfl⟩
  have eN : ((at_ : Int) + 4) % 4294967296 = (N : Int) := by omega
  have lN : N < 4294967296 := by omega
  have HN := Lib.hid hN
  clear hN
  go_wp2_with fail
  rw [eN, ← wr32_cast]
  refine (set_mac (HM.out.drewN 0) d hd _).mono ?_
  rintro e w2 ⟨rfl, hM2, hK2⟩
  have HK2 := Lib.hid ((HK.out.drewN 0).trans hK2)
  obtain ⟨-, -, c33', -, -⟩ := hM2.cells
  have f33' := hM2.free 33
  have HM2 := Lib.hid hM2
  clear hM2 hK2 x0 x1 c33 f33 f35
  go_wp2
  refine bodyPost_ret (v := .bool true) (by simp [results, Tryd.results70, go_sem]) rfl ⟨rfl, ?_, HK2.out.set 33 _⟩
  rw [← HI.out, ← HN.out]
  exact HM2.out.setAt N
end
end Go.Proofs.YthkaclmnbahieaaDoor

namespace Go.Proofs.YthkaclmnbahieaaDoor
open Go.RowKit

section
variable {w : World} {G : Nat} {R : Nat → Nat} {fl : Int} {at_ fin : Nat} {mem : Value}
set_option maxRecDepth 100000 in
set_option maxHeartbeats 4000000 in
theorem exec_branch_no (h : MacC w G R fl at_ mem fin) (hR : ∀ j, R j < 4294967296) (_ : at_ < 4294967296) (op d a b : Nat) (imm : Int) (hop : 31 ≤ op ∧ op ≤ 36) (_ : d < 32) (ha : a < 32) (hb : b < 32) (hgo : goF op (R a) (R b) = false) :
    Calls Tryd.prog 70 #[.pointer (some ⟨G, 0, none⟩), rvA op d a b imm] w fun e w' => e = .returned (.bool true) ∧ MacC w' G R fl ((at_ + 4) % 4294967296) mem fin ∧ KeepI G w w' := by
  have hb0 : Below w.heap.size w (w.alloc (.cells #[.int .i64 op, .int .i64 d, .int .i64 a, .int .i64 b, .int .i64 imm] 23)) := (Below.refl _ _).alloc (Nat.le_refl _) _
  have hx := heap_alloc_new w (.cells #[.int .i64 op, .int .i64 d, .int .i64 a, .int .i64 b, .int .i64 imm] 23)
  have h0 := h.below hb0
  have HR := Lib.hid hR
  have HK := Lib.hid (KeepI.of_below (I := G) hb0)
  clear h hb0 hR
  go_enter Tryd.func70, Tryd.ntmps70
  go_upto_region 1 with fail
  generalize World.alloc w _ = W at hx h0 HK ⊢
  generalize w.heap.size = X at hx ⊢
  obtain ⟨x0, x1, x2, x3, x4⟩ := cells5r hx
  have HM := Lib.hid h0
  obtain ⟨c0, -, c33, -, -⟩ := h0.cells
  have ca := c0 a ha
  have cb := c0 b hb
  clear c0 hx h0
  obtain ⟨va, hva⟩ : ∃ v, v = R a := ⟨_, rfl⟩
  obtain ⟨vb, hvb⟩ : ∃ v, v = R b := ⟨_, rfl⟩
  have la : va < 4294967296 := hva ▸ HR.out a
  have lb : vb < 4294967296 := hvb ▸ HR.out b
  rw [← hva] at ca
  rw [← hvb] at cb
  have HV := Lib.hid (And.intro hva hvb)
  clear hva hvb HR
  have ia : (a : Int) < 32 := by omega
  have ib : (b : Int) < 32 := by omega
  have io : (op : Int) ≤ 36 := by omega
  have io2 : (30 : Int) < (op : Int) := by omega
  have HGo := Lib.hid (show goF op va vb = false by rw [HV.out.1, HV.out.2]; exact hgo)
  clear hgo
  clear ha hb
  go_quiet (fail)
  replace x0 : (W.drewN nq).cell? _ = _ := x0
  replace x1 : (W.drewN nq).cell? _ = _ := x1
  replace c33 : (W.drewN nq).cell? _ = _ := c33
  have f33 := HM.out.free 33
  replace f33 : (W.drewN nq).frozen? _ = _ := f33
  have f35 := HM.out.free 35
  replace f35 : (W.drewN nq).frozen? _ = _ := f35
  replace HM := Lib.hid (HM.out.drewN nq)
  replace HK := Lib.hid (HK.out.drewN nq)
  clear x2 x3 x4 ca cb
  generalize W.drewN nq = W1 at x0 x1 c33 f33 f35 HM HK ⊢
  rw [← wr32_cast imm]
  obtain ⟨I, hI⟩ : ∃ I, I = wr32 imm := ⟨_, rfl⟩
  rw [← hI]
  have lI : I < 4294967296 := hI ▸ wr32_lt imm
  have HI := Lib.hid hI
  clear hI
  obtain ⟨N, hN⟩ : ∃ N, N = (at_ + 4) % 4294967296 := ⟨_, rfl⟩
  have eN : ((at_ : Int) + 4) % 4294967296 = (N : Int) := by omega
  have lN : N < 4294967296 := by omega
  have HN := Lib.hid hN
  clear hN
  obtain ⟨T, hT⟩ : ∃ T, T = (at_ + I) % 4294967296 := ⟨_, rfl⟩
  have eT : ((at_ : Int) + (I : Int)) % 4294967296 = (T : Int) := by omega
  have HT := Lib.hid hT
  clear hT
  go_wp2_with fail
  rw [eN]
  refine (taken_any op va vb hop la lb _).mono ?_
  rintro e w2 ⟨rfl, rfl⟩
  rw [HGo.out]
  go_wp2
  refine bodyPost_ret (v := .bool true) (by simp [results, Tryd.results70, go_sem]) rfl ⟨rfl, ?_, HK.out.set 33 _⟩
  rw [← HN.out]
  exact HM.out.setAt N
set_option maxRecDepth 100000 in
set_option maxHeartbeats 4000000 in
theorem exec_branch_yes (h : MacC w G R fl at_ mem fin) (hR : ∀ j, R j < 4294967296) (_ : at_ < 4294967296) (op d a b : Nat) (imm : Int) (hop : 31 ≤ op ∧ op ≤ 36) (_ : d < 32) (ha : a < 32) (hb : b < 32) (hgo : goF op (R a) (R b) = true) :
    Calls Tryd.prog 70 #[.pointer (some ⟨G, 0, none⟩), rvA op d a b imm] w fun e w' => e = .returned (.bool true) ∧ MacC w' G R fl ((at_ + wr32 imm) % 4294967296) mem fin ∧ KeepI G w w' := by
  have hb0 : Below w.heap.size w (w.alloc (.cells #[.int .i64 op, .int .i64 d, .int .i64 a, .int .i64 b, .int .i64 imm] 23)) := (Below.refl _ _).alloc (Nat.le_refl _) _
  have hx := heap_alloc_new w (.cells #[.int .i64 op, .int .i64 d, .int .i64 a, .int .i64 b, .int .i64 imm] 23)
  have h0 := h.below hb0
  have HR := Lib.hid hR
  have HK := Lib.hid (KeepI.of_below (I := G) hb0)
  clear h hb0 hR
  go_enter Tryd.func70, Tryd.ntmps70
  go_upto_region 1 with fail
  generalize World.alloc w _ = W at hx h0 HK ⊢
  generalize w.heap.size = X at hx ⊢
  obtain ⟨x0, x1, x2, x3, x4⟩ := cells5r hx
  have HM := Lib.hid h0
  obtain ⟨c0, -, c33, -, -⟩ := h0.cells
  have ca := c0 a ha
  have cb := c0 b hb
  clear c0 hx h0
  obtain ⟨va, hva⟩ : ∃ v, v = R a := ⟨_, rfl⟩
  obtain ⟨vb, hvb⟩ : ∃ v, v = R b := ⟨_, rfl⟩
  have la : va < 4294967296 := hva ▸ HR.out a
  have lb : vb < 4294967296 := hvb ▸ HR.out b
  rw [← hva] at ca
  rw [← hvb] at cb
  have HV := Lib.hid (And.intro hva hvb)
  clear hva hvb HR
  have ia : (a : Int) < 32 := by omega
  have ib : (b : Int) < 32 := by omega
  have io : (op : Int) ≤ 36 := by omega
  have io2 : (30 : Int) < (op : Int) := by omega
  have HGo := Lib.hid (show goF op va vb = true by rw [HV.out.1, HV.out.2]; exact hgo)
  clear hgo
  clear ha hb
  go_quiet (fail)
  replace x0 : (W.drewN nq).cell? _ = _ := x0
  replace x1 : (W.drewN nq).cell? _ = _ := x1
  replace c33 : (W.drewN nq).cell? _ = _ := c33
  have f33 := HM.out.free 33
  replace f33 : (W.drewN nq).frozen? _ = _ := f33
  have f35 := HM.out.free 35
  replace f35 : (W.drewN nq).frozen? _ = _ := f35
  replace HM := Lib.hid (HM.out.drewN nq)
  replace HK := Lib.hid (HK.out.drewN nq)
  clear x2 x3 x4 ca cb
  generalize W.drewN nq = W1 at x0 x1 c33 f33 f35 HM HK ⊢
  rw [← wr32_cast imm]
  obtain ⟨I, hI⟩ : ∃ I, I = wr32 imm := ⟨_, rfl⟩
  rw [← hI]
  have lI : I < 4294967296 := hI ▸ wr32_lt imm
  have HI := Lib.hid hI
  clear hI
  obtain ⟨N, hN⟩ : ∃ N, N = (at_ + 4) % 4294967296 := ⟨_, rfl⟩
  have eN : ((at_ : Int) + 4) % 4294967296 = (N : Int) := by omega
  have lN : N < 4294967296 := by omega
  have HN := Lib.hid hN
  clear hN
  obtain ⟨T, hT⟩ : ∃ T, T = (at_ + I) % 4294967296 := ⟨_, rfl⟩
  have eT : ((at_ : Int) + (I : Int)) % 4294967296 = (T : Int) := by omega
  have HT := Lib.hid hT
  clear hT
  go_wp2_with fail
  rw [eN]
  refine (taken_any op va vb hop la lb _).mono ?_
  rintro e w2 ⟨rfl, rfl⟩
  rw [HGo.out]
  go_wp2
  refine bodyPost_ret (v := .bool true) (by simp [results, Tryd.results70, go_sem]) rfl ⟨rfl, ?_, HK.out.set 33 _⟩
  rw [← HI.out, ← HT.out]
  exact HM.out.setAt T
set_option maxRecDepth 100000 in
set_option maxHeartbeats 4000000 in
theorem exec_jal (h : MacC w G R fl at_ mem fin) (hR : ∀ j, R j < 4294967296) (_ : at_ < 4294967296) (d a b : Nat) (imm : Int) (hd : d < 32) (ha : a < 32) (hb : b < 32) :
    Calls Tryd.prog 70 #[.pointer (some ⟨G, 0, none⟩), rvA 37 d a b imm] w fun e w' => e = .returned (.bool true) ∧ MacC w' G (setRF R d ((at_ + 4) % 4294967296)) fl ((at_ + wr32 imm) % 4294967296) mem fin ∧ KeepI G w w' := by
  have hb0 : Below w.heap.size w (w.alloc (.cells #[.int .i64 37, .int .i64 d, .int .i64 a, .int .i64 b, .int .i64 imm] 23)) := (Below.refl _ _).alloc (Nat.le_refl _) _
  have hx := heap_alloc_new w (.cells #[.int .i64 37, .int .i64 d, .int .i64 a, .int .i64 b, .int .i64 imm] 23)
  have h0 := h.below hb0
  have HR := Lib.hid hR
  have HK := Lib.hid (KeepI.of_below (I := G) hb0)
  clear h hb0 hR
  go_enter Tryd.func70, Tryd.ntmps70
  go_upto_region 1 with fail
  generalize World.alloc w _ = W at hx h0 HK ⊢
  generalize w.heap.size = X at hx ⊢
  obtain ⟨x0, x1, x2, x3, x4⟩ := cells5r hx
  have HM := Lib.hid h0
  obtain ⟨c0, -, c33, -, -⟩ := h0.cells
  have ca := c0 a ha
  have cb := c0 b hb
  clear c0 hx h0
  obtain ⟨va, hva⟩ : ∃ v, v = R a := ⟨_, rfl⟩
  obtain ⟨vb, hvb⟩ : ∃ v, v = R b := ⟨_, rfl⟩
  have la : va < 4294967296 := hva ▸ HR.out a
  have lb : vb < 4294967296 := hvb ▸ HR.out b
  rw [← hva] at ca
  rw [← hvb] at cb
  have HV := Lib.hid (And.intro hva hvb)
  clear hva hvb HR
  have ia : (a : Int) < 32 := by omega
  have ib : (b : Int) < 32 := by omega
  clear ha hb
  go_quiet (fail)
  replace x0 : (W.drewN nq).cell? _ = _ := x0
  replace x1 : (W.drewN nq).cell? _ = _ := x1
  replace c33 : (W.drewN nq).cell? _ = _ := c33
  have f33 := HM.out.free 33
  replace f33 : (W.drewN nq).frozen? _ = _ := f33
  have f35 := HM.out.free 35
  replace f35 : (W.drewN nq).frozen? _ = _ := f35
  replace HM := Lib.hid (HM.out.drewN nq)
  replace HK := Lib.hid (HK.out.drewN nq)
  clear x2 x3 x4 ca cb
  generalize W.drewN nq = W1 at x0 x1 c33 f33 f35 HM HK ⊢
  rw [← wr32_cast imm]
  obtain ⟨I, hI⟩ : ∃ I, I = wr32 imm := ⟨_, rfl⟩
  rw [← hI]
  have lI : I < 4294967296 := hI ▸ wr32_lt imm
  have HI := Lib.hid hI
  clear hI
  obtain ⟨N, hN⟩ : ∃ N, N = (at_ + 4) % 4294967296 := ⟨_, rfl⟩
  have eN : ((at_ : Int) + 4) % 4294967296 = (N : Int) := by omega
  have lN : N < 4294967296 := by omega
  have HN := Lib.hid hN
  clear hN
  obtain ⟨T, hT⟩ : ∃ T, T = (at_ + I) % 4294967296 := ⟨_, rfl⟩
  have eT : ((at_ : Int) + (I : Int)) % 4294967296 = (T : Int) := by omega
  have HT := Lib.hid hT
  clear hT
  go_wp2_with fail
  rw [eN]
  refine (set_mac (HM.out) d hd _).mono ?_
  rintro e w2 ⟨rfl, hM2, hK2⟩
  have HK2 := Lib.hid ((HK.out).trans hK2)
  obtain ⟨-, -, c33', -, -⟩ := hM2.cells
  have f33' := hM2.free 33
  have HM2 := Lib.hid hM2
  clear hM2 hK2 x0 x1 c33 f33 f35
  go_wp2
  refine bodyPost_ret (v := .bool true) (by simp [results, Tryd.results70, go_sem]) rfl ⟨rfl, ?_, HK2.out.set 33 _⟩
  rw [← HI.out, ← HT.out, ← HN.out]
  exact HM2.out.setAt T
end
end Go.Proofs.YthkaclmnbahieaaDoor

namespace Go.Proofs.YthkaclmnbahieaaDoor
open Go.RowKit

theorem u32_even (x : Nat) (hx : x < 4294967296) : bits .andNot .u32 (x : Int) 1 = ((x / 2 * 2 : Nat) : Int) := by
  have e : x &&& 4294967294 = x / 2 * 2 := by
    apply Nat.eq_of_testBit_eq
    intro i
    rw [Nat.testBit_and]
    rcases i with _ | i
    · simp
    · rw [Nat.testBit_succ, Nat.testBit_succ, Nat.testBit_succ, show 4294967294 / 2 = 2 ^ 31 - 1 from rfl, Nat.testBit_two_pow_sub_one, show x / 2 * 2 / 2 = x / 2 by omega]
      by_cases h : i < 31
      · rw [decide_eq_true h, Bool.and_true]
      · rw [decide_eq_false h, Bool.and_false]
        exact (Nat.testBit_lt_two_pow (Nat.lt_of_lt_of_le (show x / 2 < 2 ^ 31 by omega) (Nat.pow_le_pow_right (by omega) (by omega)))).symm
  show IntKind.u32.wrap ((BitVec.ofInt 32 (x : Int) &&& ~~~ BitVec.ofInt 32 1).toNat : Int) = _
  rw [BitVec.toNat_and, BitVec.toNat_ofInt, show (~~~ BitVec.ofInt 32 1).toNat = 4294967294 from rfl, show ((x : Int) % ((2 ^ 32 : Nat) : Int)).toNat = x by omega, e]
  show ((x / 2 * 2 : Nat) : Int) % 4294967296 = _
  omega
section
variable {w : World} {G : Nat} {R : Nat → Nat} {fl : Int} {at_ fin : Nat} {mem : Value}
set_option maxRecDepth 100000 in
set_option maxHeartbeats 4000000 in
theorem exec_jalr (h : MacC w G R fl at_ mem fin) (hR : ∀ j, R j < 4294967296) (_ : at_ < 4294967296) (d a b : Nat) (imm : Int) (hd : d < 32) (ha : a < 32) (hb : b < 32) :
    Calls Tryd.prog 70 #[.pointer (some ⟨G, 0, none⟩), rvA 38 d a b imm] w fun e w' => e = .returned (.bool true) ∧ MacC w' G (setRF R d ((at_ + 4) % 4294967296)) fl ((R a + wr32 imm) % 4294967296 / 2 * 2) mem fin ∧ KeepI G w w' := by
  have hb0 : Below w.heap.size w (w.alloc (.cells #[.int .i64 38, .int .i64 d, .int .i64 a, .int .i64 b, .int .i64 imm] 23)) := (Below.refl _ _).alloc (Nat.le_refl _) _
  have hx := heap_alloc_new w (.cells #[.int .i64 38, .int .i64 d, .int .i64 a, .int .i64 b, .int .i64 imm] 23)
  have h0 := h.below hb0
  have HR := Lib.hid hR
  have HK := Lib.hid (KeepI.of_below (I := G) hb0)
  clear h hb0 hR
  go_enter Tryd.func70, Tryd.ntmps70
  go_upto_region 1 with fail
  generalize World.alloc w _ = W at hx h0 HK ⊢
  generalize w.heap.size = X at hx ⊢
  obtain ⟨x0, x1, x2, x3, x4⟩ := cells5r hx
  have HM := Lib.hid h0
  obtain ⟨c0, -, c33, -, -⟩ := h0.cells
  have ca := c0 a ha
  have cb := c0 b hb
  clear c0 hx h0
  obtain ⟨va, hva⟩ : ∃ v, v = R a := ⟨_, rfl⟩
  obtain ⟨vb, hvb⟩ : ∃ v, v = R b := ⟨_, rfl⟩
  have la : va < 4294967296 := hva ▸ HR.out a
  have lb : vb < 4294967296 := hvb ▸ HR.out b
  rw [← hva] at ca
  rw [← hvb] at cb
  have HV := Lib.hid (And.intro hva hvb)
  clear hva hvb HR
  have ia : (a : Int) < 32 := by omega
  have ib : (b : Int) < 32 := by omega
  clear ha hb
  go_quiet (fail)
  replace x0 : (W.drewN nq).cell? _ = _ := x0
  replace x1 : (W.drewN nq).cell? _ = _ := x1
  replace c33 : (W.drewN nq).cell? _ = _ := c33
  have f33 := HM.out.free 33
  replace f33 : (W.drewN nq).frozen? _ = _ := f33
  have f35 := HM.out.free 35
  replace f35 : (W.drewN nq).frozen? _ = _ := f35
  replace HM := Lib.hid (HM.out.drewN nq)
  replace HK := Lib.hid (HK.out.drewN nq)
  clear x2 x3 x4 ca cb
  generalize W.drewN nq = W1 at x0 x1 c33 f33 f35 HM HK ⊢
  rw [← wr32_cast imm]
  obtain ⟨I, hI⟩ : ∃ I, I = wr32 imm := ⟨_, rfl⟩
  rw [← hI]
  have lI : I < 4294967296 := hI ▸ wr32_lt imm
  have HI := Lib.hid hI
  clear hI
  obtain ⟨N, hN⟩ : ∃ N, N = (at_ + 4) % 4294967296 := ⟨_, rfl⟩
  have eN : ((at_ : Int) + 4) % 4294967296 = (N : Int) := by omega
  have lN : N < 4294967296 := by omega
  have HN := Lib.hid hN
  clear hN
  obtain ⟨T, hT⟩ : ∃ T, T = (va + I) % 4294967296 / 2 * 2 := ⟨_, rfl⟩
  have eT : bits .andNot .u32 (((va : Int) + (I : Int)) % 4294967296) 1 = (T : Int) := by
    rw [show ((va : Int) + (I : Int)) % 4294967296 = (((va + I) % 4294967296 : Nat) : Int) by omega, u32_even _ (by omega), hT]
  have HT := Lib.hid hT
  clear hT
  go_wp2_with fail
  rw [eN]
  refine (set_mac (HM.out) d hd _).mono ?_
  rintro e w2 ⟨rfl, hM2, hK2⟩
  have HK2 := Lib.hid ((HK.out).trans hK2)
  obtain ⟨-, -, c33', -, -⟩ := hM2.cells
  have f33' := hM2.free 33
  have HM2 := Lib.hid hM2
  clear hM2 hK2 x0 x1 c33 f33 f35
  go_wp2
  refine bodyPost_ret (v := .bool true) (by simp [results, Tryd.results70, go_sem]) rfl ⟨rfl, ?_, HK2.out.set 33 _⟩
  rw [← HI.out, ← HV.out.1, ← HT.out, ← HN.out]
  exact HM2.out.setAt T
set_option maxRecDepth 100000 in
set_option maxHeartbeats 4000000 in
theorem exec_ecall (h : MacC w G R fl at_ mem fin) (hR : ∀ j, R j < 4294967296) (_ : at_ < 4294967296) (d a b : Nat) (imm : Int) (_ : d < 32) (ha : a < 32) (hb : b < 32) :
    Calls Tryd.prog 70 #[.pointer (some ⟨G, 0, none⟩), rvA 39 d a b imm] w fun e w' => e = .returned (.bool true) ∧ MacC w' G R fl at_ mem 2 ∧ KeepI G w w' := by
  have hb0 : Below w.heap.size w (w.alloc (.cells #[.int .i64 39, .int .i64 d, .int .i64 a, .int .i64 b, .int .i64 imm] 23)) := (Below.refl _ _).alloc (Nat.le_refl _) _
  have hx := heap_alloc_new w (.cells #[.int .i64 39, .int .i64 d, .int .i64 a, .int .i64 b, .int .i64 imm] 23)
  have h0 := h.below hb0
  have HR := Lib.hid hR
  have HK := Lib.hid (KeepI.of_below (I := G) hb0)
  clear h hb0 hR
  go_enter Tryd.func70, Tryd.ntmps70
  go_upto_region 1 with fail
  generalize World.alloc w _ = W at hx h0 HK ⊢
  generalize w.heap.size = X at hx ⊢
  obtain ⟨x0, x1, x2, x3, x4⟩ := cells5r hx
  have HM := Lib.hid h0
  obtain ⟨c0, -, c33, -, -⟩ := h0.cells
  have ca := c0 a ha
  have cb := c0 b hb
  clear c0 hx h0
  obtain ⟨va, hva⟩ : ∃ v, v = R a := ⟨_, rfl⟩
  obtain ⟨vb, hvb⟩ : ∃ v, v = R b := ⟨_, rfl⟩
  have la : va < 4294967296 := hva ▸ HR.out a
  have lb : vb < 4294967296 := hvb ▸ HR.out b
  rw [← hva] at ca
  rw [← hvb] at cb
  have HV := Lib.hid (And.intro hva hvb)
  clear hva hvb HR
  have ia : (a : Int) < 32 := by omega
  have ib : (b : Int) < 32 := by omega
  clear ha hb
  go_quiet (fail)
  replace x0 : (W.drewN nq).cell? _ = _ := x0
  replace x1 : (W.drewN nq).cell? _ = _ := x1
  replace c33 : (W.drewN nq).cell? _ = _ := c33
  have f33 := HM.out.free 33
  replace f33 : (W.drewN nq).frozen? _ = _ := f33
  have f35 := HM.out.free 35
  replace f35 : (W.drewN nq).frozen? _ = _ := f35
  replace HM := Lib.hid (HM.out.drewN nq)
  replace HK := Lib.hid (HK.out.drewN nq)
  clear x2 x3 x4 ca cb
  generalize W.drewN nq = W1 at x0 x1 c33 f33 f35 HM HK ⊢
  rw [← wr32_cast imm]
  obtain ⟨I, hI⟩ : ∃ I, I = wr32 imm := ⟨_, rfl⟩
  rw [← hI]
  have lI : I < 4294967296 := hI ▸ wr32_lt imm
  have HI := Lib.hid hI
  clear hI
  obtain ⟨N, hN⟩ : ∃ N, N = (at_ + 4) % 4294967296 := ⟨_, rfl⟩
  have eN : ((at_ : Int) + 4) % 4294967296 = (N : Int) := by omega
  have lN : N < 4294967296 := by omega
  have HN := Lib.hid hN
  clear hN
  obtain ⟨-, -, -, -, c35⟩ := HM.out.cells
  go_wp2_with fail
  exact bodyPost_ret (v := .bool true) (by simp [results, Tryd.results70, go_sem]) rfl ⟨rfl, (HM.out.setFin 2).setAt at_, (HK.out.set 35 _).set 33 _⟩
set_option maxRecDepth 100000 in
set_option maxHeartbeats 4000000 in
theorem exec_ebreak (h : MacC w G R fl at_ mem fin) (hR : ∀ j, R j < 4294967296) (_ : at_ < 4294967296) (d a b : Nat) (imm : Int) (_ : d < 32) (ha : a < 32) (hb : b < 32) :
    Calls Tryd.prog 70 #[.pointer (some ⟨G, 0, none⟩), rvA 40 d a b imm] w fun e w' => e = .returned (.bool true) ∧ MacC w' G R fl at_ mem 1 ∧ KeepI G w w' := by
  have hb0 : Below w.heap.size w (w.alloc (.cells #[.int .i64 40, .int .i64 d, .int .i64 a, .int .i64 b, .int .i64 imm] 23)) := (Below.refl _ _).alloc (Nat.le_refl _) _
  have hx := heap_alloc_new w (.cells #[.int .i64 40, .int .i64 d, .int .i64 a, .int .i64 b, .int .i64 imm] 23)
  have h0 := h.below hb0
  have HR := Lib.hid hR
  have HK := Lib.hid (KeepI.of_below (I := G) hb0)
  clear h hb0 hR
  go_enter Tryd.func70, Tryd.ntmps70
  go_upto_region 1 with fail
  generalize World.alloc w _ = W at hx h0 HK ⊢
  generalize w.heap.size = X at hx ⊢
  obtain ⟨x0, x1, x2, x3, x4⟩ := cells5r hx
  have HM := Lib.hid h0
  obtain ⟨c0, -, c33, -, -⟩ := h0.cells
  have ca := c0 a ha
  have cb := c0 b hb
  clear c0 hx h0
  obtain ⟨va, hva⟩ : ∃ v, v = R a := ⟨_, rfl⟩
  obtain ⟨vb, hvb⟩ : ∃ v, v = R b := ⟨_, rfl⟩
  have la : va < 4294967296 := hva ▸ HR.out a
  have lb : vb < 4294967296 := hvb ▸ HR.out b
  rw [← hva] at ca
  rw [← hvb] at cb
  have HV := Lib.hid (And.intro hva hvb)
  clear hva hvb HR
  have ia : (a : Int) < 32 := by omega
  have ib : (b : Int) < 32 := by omega
  clear ha hb
  go_quiet (fail)
  replace x0 : (W.drewN nq).cell? _ = _ := x0
  replace x1 : (W.drewN nq).cell? _ = _ := x1
  replace c33 : (W.drewN nq).cell? _ = _ := c33
  have f33 := HM.out.free 33
  replace f33 : (W.drewN nq).frozen? _ = _ := f33
  have f35 := HM.out.free 35
  replace f35 : (W.drewN nq).frozen? _ = _ := f35
  replace HM := Lib.hid (HM.out.drewN nq)
  replace HK := Lib.hid (HK.out.drewN nq)
  clear x2 x3 x4 ca cb
  generalize W.drewN nq = W1 at x0 x1 c33 f33 f35 HM HK ⊢
  rw [← wr32_cast imm]
  obtain ⟨I, hI⟩ : ∃ I, I = wr32 imm := ⟨_, rfl⟩
  rw [← hI]
  have lI : I < 4294967296 := hI ▸ wr32_lt imm
  have HI := Lib.hid hI
  clear hI
  obtain ⟨N, hN⟩ : ∃ N, N = (at_ + 4) % 4294967296 := ⟨_, rfl⟩
  have eN : ((at_ : Int) + 4) % 4294967296 = (N : Int) := by omega
  have lN : N < 4294967296 := by omega
  have HN := Lib.hid hN
  clear hN
  obtain ⟨-, -, -, -, c35⟩ := HM.out.cells
  go_wp2_with fail
  exact bodyPost_ret (v := .bool true) (by simp [results, Tryd.results70, go_sem]) rfl ⟨rfl, (HM.out.setFin 1).setAt at_, (HK.out.set 35 _).set 33 _⟩
end
end Go.Proofs.YthkaclmnbahieaaDoor
