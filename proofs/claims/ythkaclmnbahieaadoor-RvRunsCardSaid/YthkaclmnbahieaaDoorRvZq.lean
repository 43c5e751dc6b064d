/-
  execute of the program as a function. step of the program. step of the program as a function.
-/
import Derived.Test.YthkaclmnbahieaaDoorRvZn
namespace Go.Proofs.YthkaclmnbahieaaDoor
open Go.RowKit

/-- A machine as a state: registers, place, how it ended, memory. -/
structure Mst where
  R : Nat → Nat
  pc : Nat
  fin : Nat
  l : List Int
/-- What an instruction does; false: a fault. -/
def exF (op d a b : Nat) (imm : Int) (s : Mst) : Bool × Mst :=
  if op ≤ 14 then (true, ⟨setRF s.R d (aluF op (s.R a) (s.R b)), (s.pc + 4) % 4294967296, s.fin, s.l⟩)
  else if op ≤ 23 then (true, ⟨setRF s.R d (aluF (opF op) (s.R a) (wr32 imm)), (s.pc + 4) % 4294967296, s.fin, s.l⟩)
  else if op = 24 then (true, ⟨setRF s.R d (wr32 (wr32 imm * 4096)), (s.pc + 4) % 4294967296, s.fin, s.l⟩)
  else if op ≤ 30 then
    (if (s.R a + wr32 imm) % 4294967296 + szF op ≤ s.l.length then
      (if op ≤ 27 then (true, ⟨setRF s.R d (ldF s.l ((s.R a + wr32 imm) % 4294967296) (szF op)), (s.pc + 4) % 4294967296, s.fin, s.l⟩)
      else (true, ⟨s.R, (s.pc + 4) % 4294967296, s.fin, stF s.l ((s.R a + wr32 imm) % 4294967296) (s.R b) (szF op)⟩))
    else (false, s))
  else if op ≤ 36 then (true, ⟨s.R, if goF op (s.R a) (s.R b) = true then (s.pc + wr32 imm) % 4294967296 else (s.pc + 4) % 4294967296, s.fin, s.l⟩)
  else if op = 37 then (true, ⟨setRF s.R d ((s.pc + 4) % 4294967296), (s.pc + wr32 imm) % 4294967296, s.fin, s.l⟩)
  else if op = 38 then (true, ⟨setRF s.R d ((s.pc + 4) % 4294967296), (s.R a + wr32 imm) % 4294967296 / 2 * 2, s.fin, s.l⟩)
  else if op = 39 then (true, ⟨s.R, s.pc, 2, s.l⟩)
  else (true, ⟨s.R, s.pc, 1, s.l⟩)
/-- A machine with a memory of its own in memory. -/
structure MchA (w : World) (G M n c : Nat) (fl : Int) (s : Mst) : Prop where
  mac : MacC w G s.R fl s.pc (.slice (some ⟨M, 0, none⟩) n c) s.fin
  mem : MemC w M n c s.l
  reg : ∀ j, s.R j < 4294967296
  pcl : s.pc < 4294967296
  ne : G ≠ M
  few : n ≤ 40000
theorem setRF_lt {R : Nat → Nat} (hR : ∀ j, R j < 4294967296) (d x : Nat) (hx : x < 4294967296) : ∀ j, setRF R d x j < 4294967296 := by
  intro j
  unfold setRF putR
  split
  · exact hR j
  · dsimp only
    split
    · exact hx
    · exact hR j
section
variable {w w' : World} {G M n c : Nat} {fl : Int} {s : Mst}
theorem MchA.upd (h : MchA w G M n c fl s) {R : Nat → Nat} {pc fin : Nat} (hm : MacC w' G R fl pc (.slice (some ⟨M, 0, none⟩) n c) fin) (hk : KeepI G w w') (hR : ∀ j, R j < 4294967296) (hp : pc < 4294967296) : MchA w' G M n c fl ⟨R, pc, fin, s.l⟩ := ⟨hm, h.mem.keep hk (Ne.symm h.ne), hR, hp, h.ne, h.few⟩
theorem ldF_lt (h : MchA w G M n c fl s) (P k : Nat) (hk : 1 ≤ k ∧ k ≤ 4) (hp : P + k ≤ n) : ldF s.l P k < 4294967296 := by
  have h1 := numP_lt (byt_part h.mem.byt P k hk.1 hp).2.2.2.1 k (Nat.le_refl k)
  exact Nat.lt_of_lt_of_le h1 (Nat.pow_le_pow_right (n := 2) (by omega) (show 8 * k ≤ 32 by omega))
theorem exec_any (h : MchA w G M n c fl s) (op d a b : Nat) (imm : Int) (hop : op ≤ 40) (hd : d < 32) (ha : a < 32) (hb : b < 32) :
    Calls Tryd.prog 70 #[.pointer (some ⟨G, 0, none⟩), rvA op d a b imm] w fun e w' => e = .returned (.bool (exF op d a b imm s).1) ∧ MchA w' G M n c fl (exF op d a b imm s).2 ∧ Keep2 G M w w' := by
  have lN : (s.pc + 4) % 4294967296 < 4294967296 := Nat.mod_lt _ (by omega)
  have lT : (s.pc + wr32 imm) % 4294967296 < 4294967296 := Nat.mod_lt _ (by omega)
  have ln := h.mem.len
  by_cases h1 : op ≤ 14
  · have E : exF op d a b imm s = (true, ⟨setRF s.R d (aluF op (s.R a) (s.R b)), (s.pc + 4) % 4294967296, s.fin, s.l⟩) := if_pos h1
    rw [E]
    refine (exec_alu h.mac h.reg op d a b imm h1 hd ha hb).mono ?_
    rintro e w' ⟨rfl, hm, hk⟩
    exact ⟨rfl, h.upd hm hk (setRF_lt h.reg _ _ (aluF_lt _ _ _ (h.reg _) (h.reg _))) lN, Keep2.of_keep hk⟩
  by_cases h2 : op ≤ 23
  · have E : exF op d a b imm s = (true, ⟨setRF s.R d (aluF (opF op) (s.R a) (wr32 imm)), (s.pc + 4) % 4294967296, s.fin, s.l⟩) := (if_neg h1).trans (if_pos h2)
    rw [E]
    refine (exec_imm h.mac h.reg h.pcl op d a b imm (by omega) hd ha hb).mono ?_
    rintro e w' ⟨rfl, hm, hk⟩
    exact ⟨rfl, h.upd hm hk (setRF_lt h.reg _ _ (aluF_lt _ _ _ (h.reg _) (wr32_lt _))) lN, Keep2.of_keep hk⟩
  by_cases h3 : op = 24
  · subst h3
    have E : exF 24 d a b imm s = (true, ⟨setRF s.R d (wr32 (wr32 imm * 4096)), (s.pc + 4) % 4294967296, s.fin, s.l⟩) := rfl
    rw [E]
    refine (exec_lui h.mac h.reg h.pcl d a b imm hd ha hb).mono ?_
    rintro e w' ⟨rfl, hm, hk⟩
    exact ⟨rfl, h.upd hm hk (setRF_lt h.reg _ _ (wr32_lt _)) lN, Keep2.of_keep hk⟩
  by_cases h4 : op ≤ 30
  · by_cases hp : (s.R a + wr32 imm) % 4294967296 + szF op ≤ s.l.length
    · by_cases h5 : op ≤ 27
      · have E : exF op d a b imm s = (true, ⟨setRF s.R d (ldF s.l ((s.R a + wr32 imm) % 4294967296) (szF op)), (s.pc + 4) % 4294967296, s.fin, s.l⟩) := (if_neg h1).trans ((if_neg h2).trans ((if_neg h3).trans ((if_pos h4).trans ((if_pos hp).trans (if_pos h5)))))
        rw [E]
        refine (exec_load h.mac h.reg h.pcl op d a b imm (by omega) hd ha hb h.mem h.ne h.few (by omega)).mono ?_
        rintro e w' ⟨rfl, hm, hk⟩
        exact ⟨rfl, h.upd hm hk (setRF_lt h.reg _ _ (ldF_lt h _ _ (szF_lim op) (by omega))) lN, Keep2.of_keep hk⟩
      · have E : exF op d a b imm s = (true, ⟨s.R, (s.pc + 4) % 4294967296, s.fin, stF s.l ((s.R a + wr32 imm) % 4294967296) (s.R b) (szF op)⟩) := (if_neg h1).trans ((if_neg h2).trans ((if_neg h3).trans ((if_pos h4).trans ((if_pos hp).trans (if_neg h5)))))
        rw [E]
        refine (exec_store h.mac h.reg h.pcl op d a b imm (by omega) hd ha hb h.mem h.ne h.few (by omega)).mono ?_
        rintro e w' ⟨rfl, hm, hM, hk⟩
        exact ⟨rfl, ⟨hm, hM, h.reg, lN, h.ne, h.few⟩, hk⟩
    · have E : exF op d a b imm s = (false, s) := (if_neg h1).trans ((if_neg h2).trans ((if_neg h3).trans ((if_pos h4).trans (if_neg hp))))
      rw [E]
      refine (exec_mem_no h.mac h.reg h.pcl op d a b imm (by omega) hd ha hb h.few (by omega)).mono ?_
      rintro e w' ⟨rfl, hm, hk⟩
      exact ⟨rfl, h.upd hm hk h.reg h.pcl, Keep2.of_keep hk⟩
  by_cases h6 : op ≤ 36
  · have E : exF op d a b imm s = (true, ⟨s.R, if goF op (s.R a) (s.R b) = true then (s.pc + wr32 imm) % 4294967296 else (s.pc + 4) % 4294967296, s.fin, s.l⟩) := (if_neg h1).trans ((if_neg h2).trans ((if_neg h3).trans ((if_neg h4).trans (if_pos h6))))
    rw [E]
    rcases hg : goF op (s.R a) (s.R b) with _ | _
    · rw [if_neg (by decide)]
      refine (exec_branch_no h.mac h.reg h.pcl op d a b imm (by omega) hd ha hb hg).mono ?_
      rintro e w' ⟨rfl, hm, hk⟩
      exact ⟨rfl, h.upd hm hk h.reg lN, Keep2.of_keep hk⟩
    · rw [if_pos rfl]
      refine (exec_branch_yes h.mac h.reg h.pcl op d a b imm (by omega) hd ha hb hg).mono ?_
      rintro e w' ⟨rfl, hm, hk⟩
      exact ⟨rfl, h.upd hm hk h.reg lT, Keep2.of_keep hk⟩
  obtain rfl | rfl | rfl | rfl : op = 37 ∨ op = 38 ∨ op = 39 ∨ op = 40 := by omega
  · have E : exF 37 d a b imm s = (true, ⟨setRF s.R d ((s.pc + 4) % 4294967296), (s.pc + wr32 imm) % 4294967296, s.fin, s.l⟩) := rfl
    rw [E]
    refine (exec_jal h.mac h.reg h.pcl d a b imm hd ha hb).mono ?_
    rintro e w' ⟨rfl, hm, hk⟩
    exact ⟨rfl, h.upd hm hk (setRF_lt h.reg _ _ lN) lT, Keep2.of_keep hk⟩
  · have E : exF 38 d a b imm s = (true, ⟨setRF s.R d ((s.pc + 4) % 4294967296), (s.R a + wr32 imm) % 4294967296 / 2 * 2, s.fin, s.l⟩) := rfl
    rw [E]
    refine (exec_jalr h.mac h.reg h.pcl d a b imm hd ha hb).mono ?_
    rintro e w' ⟨rfl, hm, hk⟩
    exact ⟨rfl, h.upd hm hk (setRF_lt h.reg _ _ lN) (by omega), Keep2.of_keep hk⟩
  · have E : exF 39 d a b imm s = (true, ⟨s.R, s.pc, 2, s.l⟩) := rfl
    rw [E]
    refine (exec_ecall h.mac h.reg h.pcl d a b imm hd ha hb).mono ?_
    rintro e w' ⟨rfl, hm, hk⟩
    exact ⟨rfl, h.upd hm hk h.reg h.pcl, Keep2.of_keep hk⟩
  · have E : exF 40 d a b imm s = (true, ⟨s.R, s.pc, 1, s.l⟩) := rfl
    rw [E]
    refine (exec_ebreak h.mac h.reg h.pcl d a b imm hd ha hb).mono ?_
    rintro e w' ⟨rfl, hm, hk⟩
    exact ⟨rfl, h.upd hm hk h.reg h.pcl, Keep2.of_keep hk⟩
end
end Go.Proofs.YthkaclmnbahieaaDoor

namespace Go.Proofs.YthkaclmnbahieaaDoor
open Go.RowKit

section
variable {w : World} {G M n c : Nat} {R : Nat → Nat} {fl : Int} {at_ fin : Nat} {A : Option Addr}
set_option maxRecDepth 100000 in
set_option maxHeartbeats 4000000 in
theorem step_far (h : MacC w G R fl at_ (.slice A n c) fin) (hat : at_ < 4294967296) (hn : n ≤ 40000) (hno : n < at_ + 4) (K : Nat) : Calls Tryd.prog 58 #[.pointer (some ⟨G, 0, none⟩), .map (some K)] w fun e w' => e = .returned (.tuple #[]) ∧ MacC w' G R fl at_ (.slice A n c) 3 ∧ KeepI G w w' := by
  have HB := Lib.hid (bytes_no h at_ hat 4 (by decide) hn hno)
  obtain ⟨-, -, c33, -, c35⟩ := h.cells
  have f35 := h.free 35
  have HN := Lib.hid (And.intro (h.setFin 3) ((KeepI.refl G w).set 35 (.int .i64 ((3 : Nat) : Int))))
  clear h
  go_enter Tryd.func58, Tryd.ntmps58
  go_wp2_with fail
  refine HB.out.mono ?_
  rintro e w2 ⟨rfl, rfl⟩
  go_wp2
  exact bodyPost_ret (v := .tuple #[]) (by simp [results, Tryd.results58, go_sem]) rfl ⟨rfl, HN.out.1, HN.out.2⟩
set_option maxRecDepth 100000 in
set_option maxHeartbeats 4000000 in
theorem step_odd (h : MacC w G R fl at_ (.slice (some ⟨M, 0, none⟩) n c) fin) (hn : n ≤ 40000) (hc : n ≤ c) (hno : at_ + 4 ≤ n) (hodd : ¬ at_ % 4 = 0) (K : Nat) : Calls Tryd.prog 58 #[.pointer (some ⟨G, 0, none⟩), .map (some K)] w fun e w' => e = .returned (.tuple #[]) ∧ MacC w' G R fl at_ (.slice (some ⟨M, 0, none⟩) n c) 3 ∧ KeepI G w w' := by
  have HB := Lib.hid (bytes_yes h at_ 4 (by decide) (by decide) hn hc hno)
  obtain ⟨-, -, c33, -, c35⟩ := h.cells
  have f35 := h.free 35
  have HN := Lib.hid (And.intro (h.setFin 3) ((KeepI.refl G w).set 35 (.int .i64 ((3 : Nat) : Int))))
  have d4 : ((at_ : Int) % 4 != 0) = true := bne_iff_ne.mpr (by omega)
  have d5 : ((at_ : Int) % 4 == 0) = false := beq_eq_false_iff_ne.mpr (by omega)
  clear h
  go_enter Tryd.func58, Tryd.ntmps58
  go_wp2_with fail
  refine HB.out.mono ?_
  rintro e w2 ⟨rfl, rfl⟩
  go_wp2
  exact bodyPost_ret (v := .tuple #[]) (by simp [results, Tryd.results58, go_sem]) rfl ⟨rfl, HN.out.1, HN.out.2⟩
end
section
variable {w : World} {G M n c : Nat} {fl : Int} {s : Mst}
set_option maxRecDepth 100000 in
set_option maxHeartbeats 4000000 in
theorem step_not (h : MchA w G M n c fl s) (hL : Laid w) (K : Nat) (hK : MapN w K 41) (hno : s.pc + 4 ≤ n) (heven : s.pc % 4 = 0) (hF : decF (ldF s.l s.pc 4) = none) : Calls Tryd.prog 58 #[.pointer (some ⟨G, 0, none⟩), .map (some K)] w fun e w' => e = .returned (.tuple #[]) ∧ MchA w' G M n c fl ⟨s.R, s.pc, 3, s.l⟩ ∧ Keep2 G M w w' := by
  have HY := Lib.hid (bytes_yes h.mac s.pc 4 (by decide) (by decide) h.few h.mem.cap hno)
  have hbp := byt_part h.mem.byt s.pc 4 (by decide) hno
  rw [Nat.zero_add] at hbp
  have HNu := Lib.hid (callsSym (number_any hbp (by decide)))
  clear hbp
  have hlt := ldF_lt h s.pc 4 (by decide) hno
  have HD := Lib.hid (decode_any (ldF s.l s.pc 4) K hlt w hL hK)
  rw [hF, show decV none = .tuple #[.agg #[.int .i64 0, .int .i64 0, .int .i64 0, .int .i64 0, .int .i64 0], .bool false] from rfl] at HD
  unfold ldF at HD hlt
  have H := Lib.hid h
  obtain ⟨-, -, c33, -, -⟩ := h.mac.cells
  have d4 : ((s.pc : Int) % 4 != 0) = false := bne_eq_false_iff_eq.mpr (by omega)
  have d5 : ((s.pc : Int) % 4 == 0) = true := beq_iff_eq.mpr (by omega)
  generalize numP ((s.l.drop s.pc).take 4) 4 = N at HNu HD
  obtain ⟨pc, hpc⟩ : ∃ p, p = s.pc := ⟨_, rfl⟩
  rw [← hpc] at HY HNu c33 d4 d5
  have HPC := Lib.hid hpc
  clear h hF hlt hpc hno heven hL hK
  go_enter Tryd.func58, Tryd.ntmps58
  go_wp2_with fail
  refine HY.out.mono ?_
  rintro e w2 ⟨rfl, rfl⟩
  go_wp2_with fail
  refine HNu.out.mono ?_
  rintro e w2 ⟨rfl, rfl⟩
  go_wp2_with fail
  refine HD.out.mono ?_
  rintro e w3 ⟨rfl, hb3⟩
  have h3 := H.out.mac.below hb3
  have HK := Lib.hid (Keep2.of_keep (KeepI.of_below (I := G) hb3) : Keep2 G M _ _)
  have hm3 := H.out.mem.below hb3
  have hba : Below w3.heap.size w3 (w3.alloc (.cells #[.int .i64 0, .int .i64 0, .int .i64 0, .int .i64 0, .int .i64 0] 23)) := (Below.refl _ _).alloc (Nat.le_refl _) _
  have h4 := h3.below hba
  have hm4 := hm3.below hba
  replace HK := Lib.hid (HK.out.trans (Keep2.of_keep (KeepI.of_below (I := G) hba)))
  clear c33 h3 hm3 hba hb3
  go_upto_region 4 with fail
  generalize World.alloc w3 _ = W at h4 hm4 HK ⊢
  obtain ⟨-, -, -, -, c35⟩ := h4.cells
  have f35 := h4.free 35
  have HM := Lib.hid (And.intro h4 hm4)
  clear h4 hm4
  go_wp2
  refine bodyPost_end (v := .tuple #[]) (by simp [results, Tryd.results58, go_sem]) rfl ⟨rfl, ?_, HK.out.setG 35 _⟩
  exact ⟨HM.out.1.setFin 3, HM.out.2.block (heap_setCell_other _ ⟨G, 35, none⟩ M _ (Ne.symm H.out.ne)), H.out.reg, H.out.pcl, H.out.ne, H.out.few⟩
set_option maxRecDepth 100000 in
set_option maxHeartbeats 4000000 in
theorem step_yes (h : MchA w G M n c fl s) (hL : Laid w) (K : Nat) (hK : MapN w K 41) (hno : s.pc + 4 ≤ n) (heven : s.pc % 4 = 0) (op d a b : Nat) (imm : Int) (hF : decF (ldF s.l s.pc 4) = some ⟨op, d, a, b, imm⟩) (hop : op ≤ 40) (hd : d < 32) (ha : a < 32) (hb : b < 32) (t : Mst) (hE : exF op d a b imm s = (true, t)) : Calls Tryd.prog 58 #[.pointer (some ⟨G, 0, none⟩), .map (some K)] w fun e w' => e = .returned (.tuple #[]) ∧ MchA w' G M n c fl t ∧ Keep2 G M w w' := by
  have HY := Lib.hid (bytes_yes h.mac s.pc 4 (by decide) (by decide) h.few h.mem.cap hno)
  have hbp := byt_part h.mem.byt s.pc 4 (by decide) hno
  rw [Nat.zero_add] at hbp
  have HNu := Lib.hid (callsSym (number_any hbp (by decide)))
  clear hbp
  have hlt := ldF_lt h s.pc 4 (by decide) hno
  have HD := Lib.hid (decode_any (ldF s.l s.pc 4) K hlt w hL hK)
  rw [hF, show decV (some ⟨op, d, a, b, imm⟩) = .tuple #[.agg #[.int .i64 op, .int .i64 d, .int .i64 a, .int .i64 b, .int .i64 imm], .bool true] from rfl] at HD
  unfold ldF at HD hlt
  have H := Lib.hid h
  obtain ⟨-, -, c33, -, -⟩ := h.mac.cells
  have d4 : ((s.pc : Int) % 4 != 0) = false := bne_eq_false_iff_eq.mpr (by omega)
  have d5 : ((s.pc : Int) % 4 == 0) = true := beq_iff_eq.mpr (by omega)
  generalize numP ((s.l.drop s.pc).take 4) 4 = N at HNu HD
  obtain ⟨pc, hpc⟩ : ∃ p, p = s.pc := ⟨_, rfl⟩
  rw [← hpc] at HY HNu c33 d4 d5
  have HPC := Lib.hid hpc
  clear h hF hlt hpc hno heven hL hK
  go_enter Tryd.func58, Tryd.ntmps58
  go_wp2_with fail
  refine HY.out.mono ?_
  rintro e w2 ⟨rfl, rfl⟩
  go_wp2_with fail
  refine HNu.out.mono ?_
  rintro e w2 ⟨rfl, rfl⟩
  go_wp2_with fail
  refine HD.out.mono ?_
  rintro e w3 ⟨rfl, hb3⟩
  have h3 := H.out.mac.below hb3
  have HK := Lib.hid (Keep2.of_keep (KeepI.of_below (I := G) hb3) : Keep2 G M _ _)
  have hm3 := H.out.mem.below hb3
  have hba : Below w3.heap.size w3 (w3.alloc (.cells #[.int .i64 op, .int .i64 d, .int .i64 a, .int .i64 b, .int .i64 imm] 23)) := (Below.refl _ _).alloc (Nat.le_refl _) _
  have h4 := h3.below hba
  have hm4 := hm3.below hba
  replace HK := Lib.hid (HK.out.trans (Keep2.of_keep (KeepI.of_below (I := G) hba)))
  have hx := heap_alloc_new w3 (.cells #[.int .i64 op, .int .i64 d, .int .i64 a, .int .i64 b, .int .i64 imm] 23)
  clear c33 h3 hm3 hba hb3
  go_upto_region 4 with fail
  generalize World.alloc w3 _ = W at h4 hm4 HK hx ⊢
  generalize w3.heap.size = X at hx ⊢
  obtain ⟨x0, x1, x2, x3, x4⟩ := cells5r hx
  have HM := Lib.hid (show MchA W G M n c fl s from ⟨h4, hm4, H.out.reg, H.out.pcl, H.out.ne, H.out.few⟩)
  have HX := Lib.hid (exec_any HM.out op d a b imm hop hd ha hb)
  rw [hE] at HX
  clear h4 hm4 hx hE hop hd ha hb
  go_wp2_with fail
  refine HX.out.mono ?_
  rintro e w4 ⟨rfl, hM4, hK4⟩
  have HK4 := Lib.hid (HK.out.trans hK4)
  have HM4 := Lib.hid hM4
  clear hM4 hK4
  go_wp2
  exact bodyPost_end (v := .tuple #[]) (by simp [results, Tryd.results58, go_sem]) rfl ⟨rfl, HM4.out, HK4.out⟩
set_option maxRecDepth 100000 in
set_option maxHeartbeats 4000000 in
theorem step_bad (h : MchA w G M n c fl s) (hL : Laid w) (K : Nat) (hK : MapN w K 41) (hno : s.pc + 4 ≤ n) (heven : s.pc % 4 = 0) (op d a b : Nat) (imm : Int) (hF : decF (ldF s.l s.pc 4) = some ⟨op, d, a, b, imm⟩) (hop : op ≤ 40) (hd : d < 32) (ha : a < 32) (hb : b < 32) (t : Mst) (hE : exF op d a b imm s = (false, t)) : Calls Tryd.prog 58 #[.pointer (some ⟨G, 0, none⟩), .map (some K)] w fun e w' => e = .returned (.tuple #[]) ∧ MchA w' G M n c fl ⟨t.R, t.pc, 3, t.l⟩ ∧ Keep2 G M w w' := by
  have HY := Lib.hid (bytes_yes h.mac s.pc 4 (by decide) (by decide) h.few h.mem.cap hno)
  have hbp := byt_part h.mem.byt s.pc 4 (by decide) hno
  rw [Nat.zero_add] at hbp
  have HNu := Lib.hid (callsSym (number_any hbp (by decide)))
  clear hbp
  have hlt := ldF_lt h s.pc 4 (by decide) hno
  have HD := Lib.hid (decode_any (ldF s.l s.pc 4) K hlt w hL hK)
  rw [hF, show decV (some ⟨op, d, a, b, imm⟩) = .tuple #[.agg #[.int .i64 op, .int .i64 d, .int .i64 a, .int .i64 b, .int .i64 imm], .bool true] from rfl] at HD
  unfold ldF at HD hlt
  have H := Lib.hid h
  obtain ⟨-, -, c33, -, -⟩ := h.mac.cells
  have d4 : ((s.pc : Int) % 4 != 0) = false := bne_eq_false_iff_eq.mpr (by omega)
  have d5 : ((s.pc : Int) % 4 == 0) = true := beq_iff_eq.mpr (by omega)
  generalize numP ((s.l.drop s.pc).take 4) 4 = N at HNu HD
  obtain ⟨pc, hpc⟩ : ∃ p, p = s.pc := ⟨_, rfl⟩
  rw [← hpc] at HY HNu c33 d4 d5
  have HPC := Lib.hid hpc
  clear h hF hlt hpc hno heven hL hK
  go_enter Tryd.func58, Tryd.ntmps58
  go_wp2_with fail
  refine HY.out.mono ?_
  rintro e w2 ⟨rfl, rfl⟩
  go_wp2_with fail
  refine HNu.out.mono ?_
  rintro e w2 ⟨rfl, rfl⟩
  go_wp2_with fail
  refine HD.out.mono ?_
  rintro e w3 ⟨rfl, hb3⟩
  have h3 := H.out.mac.below hb3
  have HK := Lib.hid (Keep2.of_keep (KeepI.of_below (I := G) hb3) : Keep2 G M _ _)
  have hm3 := H.out.mem.below hb3
  have hba : Below w3.heap.size w3 (w3.alloc (.cells #[.int .i64 op, .int .i64 d, .int .i64 a, .int .i64 b, .int .i64 imm] 23)) := (Below.refl _ _).alloc (Nat.le_refl _) _
  have h4 := h3.below hba
  have hm4 := hm3.below hba
  replace HK := Lib.hid (HK.out.trans (Keep2.of_keep (KeepI.of_below (I := G) hba)))
  have hx := heap_alloc_new w3 (.cells #[.int .i64 op, .int .i64 d, .int .i64 a, .int .i64 b, .int .i64 imm] 23)
  clear c33 h3 hm3 hba hb3
  go_upto_region 4 with fail
  generalize World.alloc w3 _ = W at h4 hm4 HK hx ⊢
  generalize w3.heap.size = X at hx ⊢
  obtain ⟨x0, x1, x2, x3, x4⟩ := cells5r hx
  have HM := Lib.hid (show MchA W G M n c fl s from ⟨h4, hm4, H.out.reg, H.out.pcl, H.out.ne, H.out.few⟩)
  have HX := Lib.hid (exec_any HM.out op d a b imm hop hd ha hb)
  rw [hE] at HX
  clear h4 hm4 hx hE hop hd ha hb
  go_wp2_with fail
  refine HX.out.mono ?_
  rintro e w4 ⟨rfl, hM4, hK4⟩
  have HK4 := Lib.hid (HK.out.trans hK4)
  obtain ⟨-, -, -, -, c35⟩ := hM4.mac.cells
  have f35 := hM4.mac.free 35
  have HM4 := Lib.hid hM4
  clear hM4 hK4
  go_wp2
  refine bodyPost_end (v := .tuple #[]) (by simp [results, Tryd.results58, go_sem]) rfl ⟨rfl, ?_, HK4.out.setG 35 _⟩
  exact ⟨HM4.out.mac.setFin 3, HM4.out.mem.block (heap_setCell_other _ ⟨G, 35, none⟩ M _ (Ne.symm H.out.ne)), HM4.out.reg, HM4.out.pcl, H.out.ne, H.out.few⟩
end
end Go.Proofs.YthkaclmnbahieaaDoor

namespace Go.Proofs.YthkaclmnbahieaaDoor
open Go.RowKit

theorem regF_nat {h : Bool} {x : Int} (hx : regF h x) : ((x.toNat : Nat) : Int) = x ∧ x.toNat < 32 := by
  rcases hx with rfl | ⟨-, h1, h2⟩
  · decide
  · omega
/-- What one instruction makes of a machine that runs. -/
def stepF (s : Mst) : Mst :=
  if s.pc + 4 ≤ s.l.length ∧ s.pc % 4 = 0 then
    (match decF (ldF s.l s.pc 4) with
    | none => ⟨s.R, s.pc, 3, s.l⟩
    | some x => if (exF x.op.toNat x.d.toNat x.a.toNat x.b.toNat x.imm s).1 = true then (exF x.op.toNat x.d.toNat x.a.toNat x.b.toNat x.imm s).2 else ⟨(exF x.op.toNat x.d.toNat x.a.toNat x.b.toNat x.imm s).2.R, (exF x.op.toNat x.d.toNat x.a.toNat x.b.toNat x.imm s).2.pc, 3, (exF x.op.toNat x.d.toNat x.a.toNat x.b.toNat x.imm s).2.l⟩)
  else ⟨s.R, s.pc, 3, s.l⟩
section
variable {w : World} {G M n c : Nat} {fl : Int} {s : Mst}
theorem step_any (h : MchA w G M n c fl s) (hL : Laid w) (K : Nat) (hK : MapN w K 41) : Calls Tryd.prog 58 #[.pointer (some ⟨G, 0, none⟩), .map (some K)] w fun e w' => e = .returned (.tuple #[]) ∧ MchA w' G M n c fl (stepF s) ∧ Keep2 G M w w' := by
  have hl := h.mem.len
  have stop : ∀ w', MacC w' G s.R fl s.pc (.slice (some ⟨M, 0, none⟩) n c) 3 → KeepI G w w' → MchA w' G M n c fl ⟨s.R, s.pc, 3, s.l⟩ ∧ Keep2 G M w w' := fun w' hm hk => ⟨h.upd hm hk h.reg h.pcl, Keep2.of_keep hk⟩
  by_cases h1 : s.pc + 4 ≤ s.l.length
  · by_cases h2 : s.pc % 4 = 0
    · have hlt := ldF_lt h s.pc 4 (by decide) (by omega)
      rcases hF : decF (ldF s.l s.pc 4) with _ | x
      · have E : stepF s = ⟨s.R, s.pc, 3, s.l⟩ := by
          unfold stepF
          rw [if_pos ⟨h1, h2⟩, hF]
        rw [E]
        exact step_not h hL K hK (by omega) h2 hF
      · obtain ⟨⟨v1, v2, vd, va, vb, -⟩, -⟩ := dec_some hlt hF
        have E : stepF s = if (exF x.op.toNat x.d.toNat x.a.toNat x.b.toNat x.imm s).1 = true then (exF x.op.toNat x.d.toNat x.a.toNat x.b.toNat x.imm s).2 else ⟨(exF x.op.toNat x.d.toNat x.a.toNat x.b.toNat x.imm s).2.R, (exF x.op.toNat x.d.toNat x.a.toNat x.b.toNat x.imm s).2.pc, 3, (exF x.op.toNat x.d.toNat x.a.toNat x.b.toNat x.imm s).2.l⟩ := by
          unfold stepF
          rw [if_pos ⟨h1, h2⟩, hF]
        rw [E]
        have hd := regF_nat vd
        have ha := regF_nat va
        have hb := regF_nat vb
        have ho : ((x.op.toNat : Nat) : Int) = x.op := by omega
        have hF' : decF (ldF s.l s.pc 4) = some ⟨(x.op.toNat : Nat), (x.d.toNat : Nat), (x.a.toNat : Nat), (x.b.toNat : Nat), x.imm⟩ := by rw [ho, hd.1, ha.1, hb.1, hF]
        rcases hE : exF x.op.toNat x.d.toNat x.a.toNat x.b.toNat x.imm s with ⟨_ | _, t⟩
        · exact step_bad h hL K hK (by omega) h2 _ _ _ _ x.imm hF' (by omega) hd.2 ha.2 hb.2 t hE
        · exact step_yes h hL K hK (by omega) h2 _ _ _ _ x.imm hF' (by omega) hd.2 ha.2 hb.2 t hE
    · have E : stepF s = ⟨s.R, s.pc, 3, s.l⟩ := if_neg (fun x => h2 x.2)
      rw [E]
      refine (step_odd h.mac h.few h.mem.cap (by omega) h2 K).mono ?_
      rintro e w' ⟨rfl, hm, hk⟩
      exact ⟨rfl, stop w' hm hk⟩
  · have E : stepF s = ⟨s.R, s.pc, 3, s.l⟩ := if_neg (fun x => h1 x.1)
    rw [E]
    refine (step_far h.mac h.pcl h.few (by omega) K).mono ?_
    rintro e w' ⟨rfl, hm, hk⟩
    exact ⟨rfl, stop w' hm hk⟩
end
end Go.Proofs.YthkaclmnbahieaaDoor
