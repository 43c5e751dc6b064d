/-
  The reference's step as a function; asked at any machine.
-/
import Derived.Test.YthkaclmnbahieaaDoorRvSc
import Derived.Test.YthkaclmnbahieaaDoorRvSd
import Derived.Test.YthkaclmnbahieaaDoorRvSe
import Derived.Test.YthkaclmnbahieaaDoorRvSf
import Derived.Test.YthkaclmnbahieaaDoorRvSn
namespace Go.Proofs.YthkaclmnbahieaaDoor
open Go.RowKit

theorem stepF_stop (s : Mst) (h : ¬ (s.pc + 4 ≤ s.l.length ∧ s.pc % 4 = 0)) : stepF s = ⟨s.R, s.pc, 3, s.l⟩ := if_neg h
theorem stepF_none (s : Mst) (h1 : s.pc + 4 ≤ s.l.length) (h2 : s.pc % 4 = 0) (hF : decF (ldF s.l s.pc 4) = none) : stepF s = ⟨s.R, s.pc, 3, s.l⟩ := by
  unfold stepF
  rw [if_pos ⟨h1, h2⟩, hF]
section
variable {w : World} {MC : Array Value} {R : Nat → Nat} {fl : Int} {pc M n c : Nat} {l : List Int}
theorem rstep_any (h : MachV MC R fl pc (.slice (some ⟨M, 0, none⟩) n c) 0) (hM : MemC w M n c l) (hpc : pc < 4294967296) (hn : n ≤ 40000) (h0 : R 0 = 0) (hR : ∀ j, R j < 4294967296) :
    Calls Tryd.prog 60 #[.agg MC] w fun e w' => ∃ MC', e = .returned (.agg MC') ∧ MachV MC' (stepF ⟨R, pc, 0, l⟩).R fl (stepF ⟨R, pc, 0, l⟩).pc (.slice (some ⟨M, 0, none⟩) n c) (stepF ⟨R, pc, 0, l⟩).fin ∧ MemC w' M n c (stepF ⟨R, pc, 0, l⟩).l ∧ KeepI M w w' := by
  have hl := hM.len
  by_cases h1 : pc + 4 ≤ n ∧ pc % 4 = 0
  · obtain ⟨h1, h2⟩ := h1
    rcases hF : decF (ldF l pc 4) with _ | ⟨op, d, a, b, imm⟩
    · rw [stepF_none ⟨R, pc, 0, l⟩ (by rw [← hl]; exact h1) h2 hF]
      exact rstep_n h hM h1 h2 hn hF
    · have hlt : ldF l pc 4 < 4294967296 := by
        have q1 := numP_lt (byt_part hM.byt pc 4 (by decide) h1).2.2.2.1 4 (by decide)
        have q2 : numP ((l.drop pc).take 4) 4 = ldF l pc 4 := rfl
        omega
      obtain ⟨⟨v1, v2, vd, va, vb, -⟩, -⟩ := dec_some hlt hF
      have hd := regF_nat vd
      have ha := regF_nat va
      have hb := regF_nat vb
      dsimp only at v1 v2 hd ha hb
      have ho : ((op.toNat : Nat) : Int) = op := by omega
      have hF' : decF (ldF l pc 4) = some ⟨(op.toNat : Nat), (d.toNat : Nat), (a.toNat : Nat), (b.toNat : Nat), imm⟩ := by rw [ho, hd.1, ha.1, hb.1, hF]
      by_cases c1 : op.toNat ≤ 23
      · exact rstep_c h hM h1 h2 hn h0 hR _ _ _ _ imm hF' c1 hd.2 ha.2 hb.2
      by_cases c2 : op.toNat ≤ 27
      · exact rstep_d h hM h1 h2 hn h0 hR _ _ _ _ imm hF' (by omega) hd.2 ha.2 hb.2
      by_cases c3 : op.toNat ≤ 30
      · exact rstep_e h hM h1 h2 hn h0 hR _ _ _ _ imm hF' (by omega) hd.2 ha.2 hb.2
      · exact rstep_f h hM h1 h2 hn h0 hR _ _ _ _ imm hF' (by omega) hd.2 ha.2 hb.2
  · rw [stepF_stop ⟨R, pc, 0, l⟩ (by rw [← hl]; exact h1)]
    refine (rstep_fault h hpc hn (by omega)).mono ?_
    rintro e w' ⟨MC', rfl, hV, hb⟩
    exact ⟨MC', rfl, hV, hM.below hb, KeepI.of_below hb⟩
end
section
variable {MC : Array Value} {R : Nat → Nat} {fl : Int} {at_ : Nat} {fin : Int} {A : Option Addr} {n c : Nat}
theorem MachV.toI {k : Nat} {mem : Value} (h : MachV MC R fl at_ mem k) : MachI MC R fl at_ mem (k : Int) := ⟨h.size, h.reg, h.flg, h.plc, h.mem, h.fin⟩
set_option maxRecDepth 100000 in
set_option maxHeartbeats 4000000 in
theorem askedI (h : MachI MC R fl at_ (.slice A n c) fin) (w : World) : Calls Tryd.prog 59 #[.agg MC] w fun e w' => e = .returned (.int .i64 (askM n (R 0) : Nat)) ∧ Below w.heap.size w w' := by
  have hb0 : Below w.heap.size w (w.alloc (.cells MC 52)) := (Below.refl _ _).alloc (Nat.le_refl _) _
  have hB := heap_alloc_new w (.cells MC 52)
  have HB0 := Lib.hid hb0
  obtain ⟨c0, -, -, c34, -⟩ := h.cells hB
  have cR := c0 0 (by omega)
  obtain ⟨r, hr⟩ : ∃ r, r = R 0 := ⟨_, rfl⟩
  rw [← hr] at cR ⊢
  clear h hb0 hB c0 hr
  by_cases h1 : 32768 < n
  · have d1 : decide ((n : Int) > 32768) = true := decide_eq_true (by omega)
    have HE := Lib.hid (show askM n r = 1 from if_pos (Or.inl h1))
    go_enter Tryd.func59, Tryd.ntmps59
    go_upto_region 1 with fail
    generalize World.alloc w _ = W0 at HB0 cR c34 ⊢
    go_wp2
    exact bodyPost_ret (v := .int .i64 1) (by simp [results, Tryd.results59, go_sem]) rfl ⟨by rw [HE.out]; rfl, HB0.out⟩
  · have d1 : decide ((n : Int) > 32768) = false := decide_eq_false (by omega)
    by_cases h2 : r = 0
    · subst h2
      have HE := Lib.hid (show askM n 0 = 0 from if_neg (by omega))
      go_enter Tryd.func59, Tryd.ntmps59
      go_upto_region 1 with fail
      generalize World.alloc w _ = W0 at HB0 cR c34 ⊢
      go_wp2
      exact bodyPost_ret (v := .int .i64 0) (by simp [results, Tryd.results59, go_sem]) rfl ⟨by rw [HE.out]; rfl, HB0.out⟩
    · have d2 : ((r : Int) == 0) = false := beq_eq_false_iff_ne.mpr (by omega)
      have d3 : ((r : Int) != 0) = true := bne_iff_ne.mpr (by omega)
      have HE := Lib.hid (show askM n r = 1 from if_pos (Or.inr h2))
      go_enter Tryd.func59, Tryd.ntmps59
      go_upto_region 1 with fail
      generalize World.alloc w _ = W0 at HB0 cR c34 ⊢
      go_wp2
      exact bodyPost_ret (v := .int .i64 1) (by simp [results, Tryd.results59, go_sem]) rfl ⟨by rw [HE.out]; rfl, HB0.out⟩
end
end Go.Proofs.YthkaclmnbahieaaDoor
