/-
  What a step returns, of both; two machines that are the same.
-/
import Derived.Test.YthkaclmnbahieaaDoorRvSh
namespace Go.Proofs.YthkaclmnbahieaaDoor
open Go.RowKit

/-- What a step returns. -/
structure SR where
  err : Nat
  R : Nat → Nat
  fl : Int
  pc : Nat
  fin : Nat
  L : List Int
def zeroS (e : Nat) : SR := ⟨e, fun _ => 0, 0, 0, 0, []⟩
def resF (R : Nat → Nat) (fl : Int) (pc : Nat) (fin : Int) (l : List Int) : SR :=
  if 32768 < l.length ∨ R 0 ≠ 0 then zeroS 1
  else if fin ≠ 0 then zeroS 9
  else ⟨0, (stepF ⟨R, pc, 0, l⟩).R, fl, (stepF ⟨R, pc, 0, l⟩).pc, (stepF ⟨R, pc, 0, l⟩).fin, (stepF ⟨R, pc, 0, l⟩).l⟩
/-- A machine that a call made. -/
def Res (base : Nat) (w' : World) (MC : Array Value) (r : SR) : Prop :=
  ∃ A c, MachV MC r.R r.fl r.pc (.slice A r.L.length c) r.fin ∧ (r.L.length = 0 ∨ ∃ g, A = some ⟨g, 0, none⟩ ∧ base ≤ g ∧ MemC w' g r.L.length c r.L)
theorem mach_zero : MachV zeroMC (fun _ => 0) 0 0 (.slice none 0 0) 0 := by
  refine ⟨rfl, fun j hj => ?_, rfl, rfl, rfl, rfl⟩
  have h1 : zeroMC.toList.take 32 = List.replicate 32 (.int .u32 ((0 : Nat) : Int)) := rfl
  have h2 := congrArg (·[j]?) h1
  simp only [List.getElem?_take, hj, if_true, List.getElem?_replicate] at h2
  rw [← Array.getElem?_toList]
  exact h2
theorem Res.zero (base : Nat) (w' : World) (e : Nat) : Res base w' zeroMC (zeroS e) := ⟨none, 0, mach_zero, .inl rfl⟩
theorem Res.below {base : Nat} {w' w2 : World} {MC : Array Value} {r : SR} (h : Res base w' MC r) (hb : Below w'.heap.size w' w2) : Res base w2 MC r := by
  obtain ⟨A, c, hV, h | ⟨g, rfl, hg, hM⟩⟩ := h
  · exact ⟨A, c, hV, .inl h⟩
  · exact ⟨_, c, hV, .inr ⟨g, rfl, hg, hM.below hb⟩⟩
theorem conv_of {A : Option Addr} {n c : Nat} {L : List Int} {w : World} (hn : n = L.length) (h : n = 0 ∨ ∃ g, A = some ⟨g, 0, none⟩ ∧ MemC w g n c L) : (convert 35 9 (.slice A n c)).run Tryd.prog w = .ok (.string (strI L)) w := by
  rcases h with h | ⟨g, rfl, hM⟩
  · subst h
    obtain rfl : L = [] := List.eq_nil_of_length_eq_zero hn.symm
    exact str_nil A c w
  · exact str_conv hM.byt
section
variable {w : World} {MC : Array Value} {R : Nat → Nat} {fl : Int} {pc n c : Nat} {fin : Int} {A : Option Addr} {l : List Int}
theorem askM_cases (n r : Nat) : (askM n r = 1 ∧ (32768 < n ∨ r ≠ 0)) ∨ (askM n r = 0 ∧ ¬ (32768 < n ∨ r ≠ 0)) := by
  unfold askM
  split
  · exact .inl ⟨rfl, by assumption⟩
  · exact .inr ⟨rfl, by assumption⟩
theorem step_res (h : MachI MC R fl pc (.slice A n c) fin) (hB : Byn w A n c l) (hR : ∀ j, R j < 4294967296) (hpc : pc < 4294967296) (hL : Laid w) :
    Calls Tryd.prog 30 #[.agg MC] w fun e w' => ∃ MC', e = .returned (.tuple #[.agg MC', .int .i64 ((resF R fl pc fin l).err : Nat)]) ∧ Res w.heap.size w' MC' (resF R fl pc fin l) ∧ Below w.heap.size w w' := by
  have hln := hB.1.1
  unfold resF
  by_cases hk : 32768 < n ∨ R 0 ≠ 0
  · rw [if_pos (by rw [← hln]; exact hk)]
    by_cases hf : fin = 0
    · subst hf
      refine (Step_bad h.zero 1 (if_pos hk) (by decide)).mono ?_
      rintro e w' ⟨rfl, hb⟩
      exact ⟨_, rfl, Res.zero _ _ _, hb⟩
    · refine (Step_end h hf 1 (if_pos hk) (by decide)).mono ?_
      rintro e w' ⟨rfl, hb⟩
      exact ⟨_, rfl, Res.zero _ _ _, hb⟩
  · rw [if_neg (by rw [← hln]; exact hk)]
    by_cases hf : fin = 0
    · subst hf
      rw [if_neg (by simp)]
      obtain ⟨hn2, h0⟩ : n ≤ 32768 ∧ R 0 = 0 := by omega
      by_cases hn0 : n = 0
      · subst hn0
        have hl : l = [] := List.eq_nil_of_length_eq_zero hln.symm
        subst hl
        rw [stepF_stop ⟨R, pc, 0, []⟩ (by simp)]
        refine (Step_none h.zero hB.2 h0 hpc hL).mono ?_
        rintro e w' ⟨MC', A', c', rfl, hV, hb⟩
        exact ⟨MC', rfl, ⟨A', c', hV, .inl rfl⟩, hb⟩
      · have hlen := (stepF_keep ⟨R, pc, 0, l⟩).2.1
        refine (Step_some h.zero hB.1 (by omega) hn2 h0 hR hpc hL).mono ?_
        rintro e w' ⟨MC', g, c', rfl, hV, hM, hg, hb⟩
        have e1 : (stepF ⟨R, pc, 0, l⟩).l.length = n := by rw [hln]; exact hlen
        exact ⟨MC', rfl, ⟨_, c', by rw [e1]; exact hV, .inr ⟨g, rfl, hg, by rw [e1]; exact hM⟩⟩, hb⟩
    · rw [if_pos hf]
      refine (Step_end h hf 9 (if_neg hk) (by decide)).mono ?_
      rintro e w' ⟨rfl, hb⟩
      exact ⟨_, rfl, Res.zero _ _ _, hb⟩
theorem rstep_res (h : MachI MC R fl pc (.slice A n c) fin) (hB : Byn w A n c l) (hR : ∀ j, R j < 4294967296) (hpc : pc < 4294967296) :
    Calls Tryd.prog 31 #[.agg MC] w fun e w' => ∃ MC', e = .returned (.tuple #[.agg MC', .int .i64 ((resF R fl pc fin l).err : Nat)]) ∧ Res w.heap.size w' MC' (resF R fl pc fin l) ∧ Below w.heap.size w w' := by
  have hln := hB.1.1
  unfold resF
  rcases askM_cases n (R 0) with ⟨ha, hk⟩ | ⟨ha, hk⟩
  · rw [if_pos (by rw [← hln]; exact hk)]
    refine (RStep_ask h ha).mono ?_
    rintro e w' ⟨rfl, hb⟩
    exact ⟨_, rfl, Res.zero _ _ _, hb⟩
  · rw [if_neg (by rw [← hln]; exact hk)]
    by_cases hf : fin = 0
    · subst hf
      rw [if_neg (by simp)]
      obtain ⟨hn2, h0⟩ : n ≤ 32768 ∧ R 0 = 0 := by omega
      by_cases hn0 : n = 0
      · subst hn0
        have hl : l = [] := List.eq_nil_of_length_eq_zero hln.symm
        subst hl
        rw [stepF_stop ⟨R, pc, 0, []⟩ (by simp)]
        refine (RStep_none h hB.2 ha hpc).mono ?_
        rintro e w' ⟨MC', A', c', rfl, hV, hb⟩
        exact ⟨MC', rfl, ⟨A', c', hV, .inl rfl⟩, hb⟩
      · have hlen := (stepF_keep ⟨R, pc, 0, l⟩).2.1
        refine (RStep_some h ha hB.1 (by omega) hn2 h0 hR hpc).mono ?_
        rintro e w' ⟨MC', g, c', rfl, hV, hM, hg, hb⟩
        have e1 : (stepF ⟨R, pc, 0, l⟩).l.length = n := by rw [hln]; exact hlen
        exact ⟨MC', rfl, ⟨_, c', by rw [e1]; exact hV, .inr ⟨g, rfl, hg, by rw [e1]; exact hM⟩⟩, hb⟩
    · rw [if_pos hf]
      refine (RStep_end h ha hf).mono ?_
      rintro e w' ⟨rfl, hb⟩
      exact ⟨_, rfl, Res.zero _ _ _, hb⟩
end
section
variable {w : World} {M1 M2 : Array Value} {R : Nat → Nat} {fl : Int} {pc n1 n2 c1 c2 fin : Nat} {A1 A2 : Option Addr} {L : List Int}
set_option maxRecDepth 100000 in
set_option maxHeartbeats 2000000 in
theorem sameM_yes (h1 : MachV M1 R fl pc (.slice A1 n1 c1) fin) (h2 : MachV M2 R fl pc (.slice A2 n2 c2) fin) (S : ByteArray)
    (q1 : ∀ w1, Below w.heap.size w w1 → (convert 35 9 (.slice A1 n1 c1)).run Tryd.prog w1 = .ok (.string S) w1) (q2 : ∀ w1, Below w.heap.size w w1 → (convert 35 9 (.slice A2 n2 c2)).run Tryd.prog w1 = .ok (.string S) w1) :
    Calls Tryd.prog 32 #[.agg M1, .agg M2] w fun e w' => e = .returned (.bool true) ∧ Below w.heap.size w w' := by
  have hb1 : Below w.heap.size w (w.alloc (.cells M1 52)) := (Below.refl _ _).alloc (Nat.le_refl _) _
  have hx := heap_alloc_new w (.cells M1 52)
  go_enter Tryd.func32, Tryd.ntmps32
  go_upto_region 1 with fail
  have hy : ((w.alloc (.cells M1 52)).alloc (.cells M2 52)).heap[w.heap.size + 1]? = some (.cells M2 52 (0, 0)) := by
    have q := heap_alloc_new (w.alloc (.cells M1 52)) (.cells M2 52)
    rw [show (w.alloc (.cells M1 52)).heap.size = w.heap.size + 1 from Array.size_push ..] at q
    exact q
  have hba : Below (w.alloc (.cells M1 52)).heap.size (w.alloc (.cells M1 52)) ((w.alloc (.cells M1 52)).alloc (.cells M2 52)) := (Below.refl _ _).alloc (Nat.le_refl _) _
  replace hx := (hba.block _ (lt_of_block hx)).trans hx
  have hbb : Below w.heap.size w ((w.alloc (.cells M1 52)).alloc (.cells M2 52)) := hb1.trans (hba.mono hb1.size)
  have e1 := q1 _ hbb
  have e2 := q2 _ hbb
  generalize World.alloc (World.alloc w _) _ = W at hx hy hbb e1 e2 ⊢
  have HB := Lib.hid hbb
  generalize w.heap.size = X at hx hy ⊢
  obtain ⟨-, a32, a33, a34, a35⟩ := (h1.mac hx).cells
  obtain ⟨-, b32, b33, b34, b35⟩ := (h2.mac hy).cells
  have l3 := eq_regs_yes (R := R) (S := R) (fun _ _ => rfl) W
  have HX := Lib.hid hx
  have HY := Lib.hid hy
  have H1 := Lib.hid h1
  have H2 := Lib.hid h2
  clear hx hy h1 h2 hb1 hba hbb q1 q2
  go_wp2_with (first | (refine wpList_regs_g rfl _ rfl X rfl H1.out.reg HX.out ?_) | (refine wpList_regs_g rfl _ rfl (X + 1) rfl H2.out.reg HY.out ?_))
  go_ret
  exact ⟨rfl, HB.out⟩
end
end Go.Proofs.YthkaclmnbahieaaDoor
