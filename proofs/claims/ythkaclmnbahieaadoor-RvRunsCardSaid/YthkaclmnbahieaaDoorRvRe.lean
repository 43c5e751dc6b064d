/-
  Run of the reference.
-/
import Derived.Test.YthkaclmnbahieaaDoorRvRd
namespace Go.Proofs.YthkaclmnbahieaaDoor
open Go.RowKit

theorem ldF_bd {l : List Int} (h : isBy l) {P k : Nat} (hk : k ≤ 4) (hp : P + k ≤ l.length) : ldF l P k < 4294967296 := by
  have hL : isBy ((l.drop P).take k) := fun x hx => h x (List.mem_of_mem_drop (List.mem_of_mem_take hx))
  have hl : ((l.drop P).take k).length = k := by simp; omega
  have h1 := numP_lt (l := (l.drop P).take k) (n := k) (fun j hj => by
    have hj2 : j < ((l.drop P).take k).length := by omega
    have e : ((l.drop P).take k)[j]! = ((l.drop P).take k)[j] := by
      rw [getElem!_pos ((l.drop P).take k) j hj2]
    rw [e]
    exact hL _ (List.getElem_mem _)) k (Nat.le_refl _)
  have h2 : numP ((l.drop P).take k) k = ldF l P k := rfl
  have h3 : 2 ^ (8 * k) ≤ 2 ^ 32 := Nat.pow_le_pow_right (by omega) (by omega)
  omega
/-- Words stay words. -/
structure Bd (s : Mst) : Prop where
  reg : ∀ j, s.R j < 4294967296
  pc : s.pc < 4294967296
  by_ : isBy s.l
theorem exF_bd (op d a b : Nat) (imm : Int) {s : Mst} (h : Bd s) : Bd (exF op d a b imm s).2 := by
  have hb := exF_by op d a b imm s h.by_
  have lN : (s.pc + 4) % 4294967296 < 4294967296 := Nat.mod_lt _ (by omega)
  have lT : (s.pc + wr32 imm) % 4294967296 < 4294967296 := Nat.mod_lt _ (by omega)
  suffices q : (∀ j, (exF op d a b imm s).2.R j < 4294967296) ∧ (exF op d a b imm s).2.pc < 4294967296 from ⟨q.1, q.2, hb⟩
  clear hb
  unfold exF
  split
  · exact ⟨setRF_lt h.reg _ _ (aluF_lt _ _ _ (h.reg _) (h.reg _)), lN⟩
  split
  · exact ⟨setRF_lt h.reg _ _ (aluF_lt _ _ _ (h.reg _) (wr32_lt _)), lN⟩
  split
  · exact ⟨setRF_lt h.reg _ _ (wr32_lt _), lN⟩
  split
  · split
    · rename_i hp
      split
      · exact ⟨setRF_lt h.reg _ _ (ldF_bd h.by_ (szF_lim op).2 hp), lN⟩
      · exact ⟨h.reg, lN⟩
    · exact ⟨h.reg, h.pc⟩
  split
  · refine ⟨h.reg, ?_⟩
    dsimp only
    split
    · exact lT
    · exact lN
  split
  · exact ⟨setRF_lt h.reg _ _ lN, lT⟩
  split
  · refine ⟨setRF_lt h.reg _ _ lN, ?_⟩
    dsimp only
    omega
  split
  · exact ⟨h.reg, h.pc⟩
  · exact ⟨h.reg, h.pc⟩
theorem stepF_bd {s : Mst} (h : Bd s) : Bd (stepF s) := by
  unfold stepF
  split
  · split
    · exact ⟨h.reg, h.pc, h.by_⟩
    · rename_i x _
      have q := exF_bd x.op.toNat x.d.toNat x.a.toNat x.b.toNat x.imm h
      split
      · exact q
      · exact ⟨q.reg, q.pc, q.by_⟩
  · exact ⟨h.reg, h.pc, h.by_⟩
section
variable {w : World} {MC : Array Value} {R : Nat → Nat} {fl : Int} {pc n c : Nat} {fin : Int} {A : Option Addr} {l : List Int}
set_option maxRecDepth 100000 in
set_option maxHeartbeats 2000000 in
theorem RRun_arg (h : MachI MC R fl pc (.slice A n c) fin) (most : Int) (E : Nat) (hE : askM n (R 0) = E) (hbad : E = 1 ∨ (E = 0 ∧ ¬ (0 ≤ most ∧ most ≤ 200000))) :
    Calls Tryd.prog 34 #[.agg MC, .int .i64 most] w fun e w' => e = .returned (.tuple #[.agg zeroMC, .int .i64 0, .int .i64 1]) ∧ Below w.heap.size w w' := by
  have hc := fun w1 => askedI h w1
  rw [hE] at hc
  have HWi := Lib.hid (fun w1 => within_sym most 0 200000 w1)
  clear hE
  have hb0 : Below w.heap.size w (w.alloc (.cells MC 52)) := (Below.refl _ _).alloc (Nat.le_refl _) _
  have hx := heap_alloc_new w (.cells MC 52)
  have HCk := Lib.hid (fun w1 => hc w1)
  have hs := h.size
  clear hc
  have HH := Lib.hid h
  go_enter Tryd.func34, Tryd.ntmps34
  go_upto_region 1 with fail
  have hy : ((w.alloc (.cells MC 52)).alloc (.cells zeroMC 52)).heap[w.heap.size + 1]? = some (.cells zeroMC 52 (0, 0)) := by
    have q := heap_alloc_new (w.alloc (.cells MC 52)) (.cells zeroMC 52)
    rw [show (w.alloc (.cells MC 52)).heap.size = w.heap.size + 1 from Array.size_push ..] at q
    exact q
  have hba : Below (w.alloc (.cells MC 52)).heap.size (w.alloc (.cells MC 52)) ((w.alloc (.cells MC 52)).alloc (.cells zeroMC 52)) := (Below.refl _ _).alloc (Nat.le_refl _) _
  replace hx := (hba.block _ (lt_of_block hx)).trans hx
  have hbb : Below w.heap.size w ((w.alloc (.cells MC 52)).alloc (.cells zeroMC 52)) := hb0.trans (hba.mono hb0.size)
  generalize World.alloc (World.alloc w _) _ = W at hx hy hbb ⊢
  clear hb0 hba h
  obtain ⟨X, hX⟩ : ∃ X, X = w.heap.size := ⟨_, rfl⟩
  rw [← hX] at hx hy ⊢
  have HW := Lib.hid hbb
  have HXe := Lib.hid hX
  clear hbb hX
  go_wp2_with (refine wpList_load_row rfl _ _ rfl X rfl 52 MC (0, 0) _ hx Tryd.underlying52 rfl (infoMs hs) ?_)
  refine (HCk.out _).mono ?_
  rintro e w3 ⟨rfl, hb3⟩
  replace hx := (hb3.block _ (lt_of_block hx)).trans hx
  replace hy := (hb3.block _ (lt_of_block hy)).trans hy
  replace HW := Lib.hid (HW.out.trans (hb3.mono HW.out.size))
  clear hb3
  clear hx
  rcases hbad with rfl | ⟨rfl, h2⟩
  · rw [show ((1 : Nat) : Int) = 1 from rfl]
    go_wp2_with (refine wpList_store_row rfl _ _ _ rfl (X + 1) zeroMC rfl rfl 52 _ hy size_zero rfl one_zero ?_)
    have rr := setRow_heap _ (X + 1) _ zeroMC 52 (0, 0) hy
    refine bodyPost_ret (res3c rfl _ _ (X + 1) zeroMC rfl (loadMc _ (X + 1) zeroMC rfl rr)) rfl ⟨rfl, bel_setRow HW.out (show w.heap.size ≤ X + 1 by rw [HXe.out]; exact Nat.le_succ _) zeroMC⟩
  · rw [show ((0 : Nat) : Int) = 0 from rfl]
    rw [decide_eq_false h2] at HWi
    clear h2
    go_wp2_with fail
    refine (HWi.out _).mono ?_
    rintro e w4 ⟨rfl, rfl⟩
    go_wp2_with (refine wpList_store_row rfl _ _ _ rfl (X + 1) zeroMC rfl rfl 52 _ hy size_zero rfl one_zero ?_)
    have rr := setRow_heap _ (X + 1) _ zeroMC 52 (0, 0) hy
    refine bodyPost_ret (res3c rfl _ _ (X + 1) zeroMC rfl (loadMc _ (X + 1) zeroMC rfl rr)) rfl ⟨rfl, bel_setRow HW.out (show w.heap.size ≤ X + 1 by rw [HXe.out]; exact Nat.le_succ _) zeroMC⟩
set_option maxRecDepth 100000 in
set_option maxHeartbeats 2000000 in
theorem RRun_end (h : MachI MC R fl pc (.slice A n c) fin) (most : Int) (hE : askM n (R 0) = 0) (hf : fin ≠ 0) (hm : 0 ≤ most ∧ most ≤ 200000) :
    Calls Tryd.prog 34 #[.agg MC, .int .i64 most] w fun e w' => e = .returned (.tuple #[.agg zeroMC, .int .i64 0, .int .i64 9]) ∧ Below w.heap.size w w' := by
  have hc := fun w1 => askedI h w1
  rw [hE] at hc
  have d1 : (fin != 0) = true := bne_iff_ne.mpr hf
  have d2 : (fin == 0) = false := beq_eq_false_iff_ne.mpr hf
  have HWi := Lib.hid (fun w1 => within_sym most 0 200000 w1)
  rw [decide_eq_true hm] at HWi
  clear hE hm hf
  have hb0 : Below w.heap.size w (w.alloc (.cells MC 52)) := (Below.refl _ _).alloc (Nat.le_refl _) _
  have hx := heap_alloc_new w (.cells MC 52)
  have HCk := Lib.hid (fun w1 => hc w1)
  have hs := h.size
  clear hc
  have HH := Lib.hid h
  go_enter Tryd.func34, Tryd.ntmps34
  go_upto_region 1 with fail
  have hy : ((w.alloc (.cells MC 52)).alloc (.cells zeroMC 52)).heap[w.heap.size + 1]? = some (.cells zeroMC 52 (0, 0)) := by
    have q := heap_alloc_new (w.alloc (.cells MC 52)) (.cells zeroMC 52)
    rw [show (w.alloc (.cells MC 52)).heap.size = w.heap.size + 1 from Array.size_push ..] at q
    exact q
  have hba : Below (w.alloc (.cells MC 52)).heap.size (w.alloc (.cells MC 52)) ((w.alloc (.cells MC 52)).alloc (.cells zeroMC 52)) := (Below.refl _ _).alloc (Nat.le_refl _) _
  replace hx := (hba.block _ (lt_of_block hx)).trans hx
  have hbb : Below w.heap.size w ((w.alloc (.cells MC 52)).alloc (.cells zeroMC 52)) := hb0.trans (hba.mono hb0.size)
  generalize World.alloc (World.alloc w _) _ = W at hx hy hbb ⊢
  clear hb0 hba h
  obtain ⟨X, hX⟩ : ∃ X, X = w.heap.size := ⟨_, rfl⟩
  rw [← hX] at hx hy ⊢
  have HW := Lib.hid hbb
  have HXe := Lib.hid hX
  clear hbb hX
  go_wp2_with (refine wpList_load_row rfl _ _ rfl X rfl 52 MC (0, 0) _ hx Tryd.underlying52 rfl (infoMs hs) ?_)
  refine (HCk.out _).mono ?_
  rintro e w3 ⟨rfl, hb3⟩
  replace hx := (hb3.block _ (lt_of_block hx)).trans hx
  replace hy := (hb3.block _ (lt_of_block hy)).trans hy
  replace HW := Lib.hid (HW.out.trans (hb3.mono HW.out.size))
  clear hb3
  obtain ⟨-, -, -, -, c35⟩ := HH.out.cells hx
  clear hx
  rw [show ((0 : Nat) : Int) = 0 from rfl]
  go_wp2_with fail
  refine (HWi.out _).mono ?_
  rintro e w4 ⟨rfl, rfl⟩
  go_wp2_with (refine wpList_store_row rfl _ _ _ rfl (X + 1) zeroMC rfl rfl 52 _ hy size_zero rfl one_zero ?_)
  have rr := setRow_heap _ (X + 1) _ zeroMC 52 (0, 0) hy
  refine bodyPost_ret (res3c rfl _ _ (X + 1) zeroMC rfl (loadMc _ (X + 1) zeroMC rfl rr)) rfl ⟨rfl, bel_setRow HW.out (show w.heap.size ≤ X + 1 by rw [HXe.out]; exact Nat.le_succ _) zeroMC⟩
set_option maxRecDepth 100000 in
set_option maxHeartbeats 2000000 in
theorem RRun_some (h : MachI MC R fl pc (.slice A n c) 0) (hE : askM n (R 0) = 0) (hB : Byt w A n c l) (hp : 0 < n) (hn : n ≤ 32768) (h0 : R 0 = 0) (hR : ∀ j, R j < 4294967296) (hpc : pc < 4294967296) (m : Nat) (hm : m ≤ 200000) (N : Nat) (T : Mst) (hT : runT m ⟨R, pc, 0, l⟩ = (N, T)) :
    Calls Tryd.prog 34 #[.agg MC, .int .i64 (m : Int)] w fun e w' => ∃ MC' g c', e = .returned (.tuple #[.agg MC', .int .i64 (N : Int), .int .i64 0]) ∧ MachV MC' T.R fl T.pc (.slice (some ⟨g, 0, none⟩) n c') (endF T) ∧ MemC w' g n c' T.l ∧ w.heap.size ≤ g ∧ Below w.heap.size w w' := by
  have hc := fun w1 => askedI h w1
  rw [hE] at hc
  have HWi := Lib.hid (fun w1 => within_sym (m : Int) 0 200000 w1)
  rw [decide_eq_true (show (0 : Int) ≤ (m : Int) ∧ (m : Int) ≤ 200000 by omega)] at HWi
  have HT := Lib.hid hT
  have HRp := Lib.hid (And.intro hR hpc)
  have HBw := Lib.hid hB
  have H0 := Lib.hid h0
  have Hm := Lib.hid hm
  clear hE hT hR hpc hB hm h0
  have hb0 : Below w.heap.size w (w.alloc (.cells MC 52)) := (Below.refl _ _).alloc (Nat.le_refl _) _
  have hx := heap_alloc_new w (.cells MC 52)
  have HCk := Lib.hid (fun w1 => hc w1)
  have hs := h.size
  clear hc
  have HH := Lib.hid h
  go_enter Tryd.func34, Tryd.ntmps34
  go_upto_region 1 with fail
  have hy : ((w.alloc (.cells MC 52)).alloc (.cells zeroMC 52)).heap[w.heap.size + 1]? = some (.cells zeroMC 52 (0, 0)) := by
    have q := heap_alloc_new (w.alloc (.cells MC 52)) (.cells zeroMC 52)
    rw [show (w.alloc (.cells MC 52)).heap.size = w.heap.size + 1 from Array.size_push ..] at q
    exact q
  have hba : Below (w.alloc (.cells MC 52)).heap.size (w.alloc (.cells MC 52)) ((w.alloc (.cells MC 52)).alloc (.cells zeroMC 52)) := (Below.refl _ _).alloc (Nat.le_refl _) _
  replace hx := (hba.block _ (lt_of_block hx)).trans hx
  have hbb : Below w.heap.size w ((w.alloc (.cells MC 52)).alloc (.cells zeroMC 52)) := hb0.trans (hba.mono hb0.size)
  generalize World.alloc (World.alloc w _) _ = W at hx hy hbb ⊢
  clear hb0 hba h
  obtain ⟨X, hX⟩ : ∃ X, X = w.heap.size := ⟨_, rfl⟩
  rw [← hX] at hx hy ⊢
  have HW := Lib.hid hbb
  have HXe := Lib.hid hX
  clear hbb hX
  go_wp2_with (refine wpList_load_row rfl _ _ rfl X rfl 52 MC (0, 0) _ hx Tryd.underlying52 rfl (infoMs hs) ?_)
  refine (HCk.out _).mono ?_
  rintro e w3 ⟨rfl, hb3⟩
  replace hx := (hb3.block _ (lt_of_block hx)).trans hx
  replace hy := (hb3.block _ (lt_of_block hy)).trans hy
  replace HW := Lib.hid (HW.out.trans (hb3.mono HW.out.size))
  clear hb3
  rw [show ((0 : Nat) : Int) = 0 from rfl]
  have HB := Lib.hid (HBw.out.below HW.out)
  obtain ⟨-, -, -, c34, c35⟩ := HH.out.cells hx
  go_wp2_with fail
  refine (HWi.out _).mono ?_
  rintro e w4 ⟨rfl, rfl⟩
  go_upto_region 7 with fail
  have hE0 := empty_own w3 w3.heap.size (Nat.le_refl _)
  have hba : Below w3.heap.size w3 (w3.alloc (.cells #[] 5)) := (Below.refl _ _).alloc (Nat.le_refl _) _
  have hBa := HB.out.below hba
  have hx4 := (hba.block _ (lt_of_block hx)).trans hx
  obtain ⟨-, -, -, c34, -⟩ := HH.out.cells hx4
  go_wp2_with (at_builtin; refine append_clone rfl _ _ rfl w3.heap.size _ rfl hE0 A n c l rfl hBa hp (by omega) hba.size ?_)
  intro v5 w5 ho5 hgr
  have hb5 := hgr w3 hba (Nat.le_refl _)
  have hln := HB.out.1
  rw [hln] at ho5
  obtain ⟨g, c', rfl, hg, hM⟩ := memC_own ho5 HB.out.isBy (by omega)
  rw [← hln] at hM ⊢
  have hXg : X ≠ g := by
    have := lt_of_block hx
    omega
  have hYg : X + 1 ≠ g := by
    have := lt_of_block hy
    omega
  have hgw : w.heap.size ≤ g := Nat.le_trans HW.out.size hg
  replace hx := (hb5.block _ (lt_of_block hx)).trans hx
  replace hy := (hb5.block _ (lt_of_block hy)).trans hy
  replace HW := Lib.hid (HW.out.trans (hb5.mono HW.out.size))
  have hmac := HH.out.zero.mac hx
  obtain ⟨-, -, -, c34, -⟩ := hmac.cells
  have f34 := hmac.free 34
  have h5 := hmac.setMem (.slice (some ⟨g, 0, none⟩) n c')
  have hM5 : MemC (w5.setCell ⟨X, 34, none⟩ (.slice (some ⟨g, 0, none⟩) n c')) g n c' l := hM.block (heap_setCell_other _ ⟨X, 34, none⟩ g _ (Ne.symm hXg))
  have hy5 := (heap_setCell_other w5 ⟨X, 34, none⟩ (X + 1) (.slice (some ⟨g, 0, none⟩) n c') (show X + 1 ≠ X by omega)).trans hy
  have hW5 : Below w.heap.size w (w5.setCell ⟨X, 34, none⟩ (.slice (some ⟨g, 0, none⟩) n c')) := HW.out.setCell (show w.heap.size ≤ X by rw [HXe.out]; exact Nat.le_refl _) _
  have HS := Lib.hid (And.intro h5 (And.intro hM5 (And.intro hy5 (And.intro hW5 (And.intro (Ne.symm (Ne.symm hYg)) hgw)))))
  have HXg := Lib.hid hXg
  have HBl := Lib.hid HB.out.isBy
  clear hx hy hmac hM h5 hM5 hy5 hW5 hXg hYg hgw hg hb5 hgr ho5 hBa hE0 hba hln hx4 c35
  go_upto_region 8 with fail
  clear c34 f34 HW HCk HB HWi
  generalize World.setCell w5 _ _ = W5 at HS ⊢
  go_loopw [8] (fun zi wr => ∃ (k : Nat) (s : Mst), k ≤ m ∧ zi = .int .i64 (k : Int) ∧ k + (runT (m - k) s).1 = N ∧ (runT (m - k) s).2 = T ∧ MacC wr X s.R fl s.pc (.slice (some ⟨g, 0, none⟩) n c') s.fin ∧ MemC wr g n c' s.l ∧ Bd s ∧ s.R 0 = 0 ∧ Keep2 X g W5 wr) (fun zi wr => (m - (intOf zi).toNat) + finZ wr X)
  case atStart => exact ⟨0, _, by omega, rfl, by rw [Nat.sub_zero, HT.out]; omega, by rw [Nat.sub_zero, HT.out], HS.out.1, HS.out.2.1, ⟨HRp.out.1, HRp.out.2, HBl.out⟩, H0.out, Keep2.refl _ _ _⟩
  case round =>
    obtain ⟨k, s, hk, rfl, hN, hTe, hm, hmm, hbd, hs0, hkp⟩ := hrel
    have hX1 : w.heap.size ≤ X := by
      rw [HXe.out]
      exact Nat.le_refl _
    have hbw := HS.out.2.2.2.1.trans (hkp.below hX1 HS.out.2.2.2.2.2 HS.out.2.2.2.1.size)
    obtain ⟨-, -, -, -, c35⟩ := hm.cells
    have hz := finZ_of c35
    by_cases hc : k < m ∧ s.fin = 0
    · obtain ⟨hk1, hf⟩ := hc
      obtain ⟨MCs, hxs, hss, hrs⟩ := hm.ex
      rw [hf] at c35 hrs
      have hVs : MachV MCs s.R fl s.pc (.slice (some ⟨g, 0, none⟩) n c') 0 := ⟨hss, hrs.1, hrs.2.1, hrs.2.2.1, hrs.2.2.2.1, hrs.2.2.2.2⟩
      have i1 : (k : Int) < (m : Int) := by omega
      have hst : (⟨s.R, s.pc, 0, s.l⟩ : Mst) = s := by rw [← hf]
      have hC := rstep_any hVs hmm hbd.pc (by omega) hs0 hbd.reg
      rw [hst] at hC
      have HC := Lib.hid hC
      rw [if_pos hf] at hz
      have hyr := (hkp.block _ (lt_of_block HS.out.2.2.1) (show X + 1 ≠ X by omega) HS.out.2.2.2.2.1).trans HS.out.2.2.1
      have HA := Lib.hid (And.intro hN (And.intro hTe (And.intro hkp (And.intro hz (And.intro hf (And.intro hk1 (And.intro hbd hs0)))))))
      clear hN hTe hm hmm hkp hbw hz hf hrs hVs hst hC hyr hbd hs0
      rw [show ((0 : Nat) : Int) = 0 from rfl] at c35
      go_wp2_with (refine wpList_load_row rfl _ _ rfl X rfl 52 MCs (0, 0) _ hxs Tryd.underlying52 rfl (infoMs hss) ?_)
      refine HC.out.mono ?_
      rintro e w8 ⟨MC8, rfl, hV8, hM8, hk8⟩
      have hx8 := (hk8.block X (lt_of_block hxs) HXg.out).trans hxs
      have hs8 := hV8.size
      have hone8 := one_mach hV8
      have hx9 := setRow_heap _ X _ MC8 52 (0, 0) hx8
      have hm9 := hV8.mac hx9
      have hM9 : MemC (w8.setRow X MC8) g n c' (stepF s).l := hM8.block (setRow_other _ X g MC8 (Ne.symm HXg.out))
      have hk9 : Keep2 X g wr (w8.setRow X MC8) := ⟨hk8.os, hk8.tape, hk8.output, by simpa using hk8.size, fun j hj hn1 hn2 => (setRow_other w8 X j MC8 hn1).trans (hk8.block j hj hn2)⟩
      have HM9 := Lib.hid (And.intro hm9 (And.intro hM9 hk9))
      clear hV8 hM8 hk8 hx9 hm9 hM9 hk9 c35 HC
      go_upto_region 10 with (refine wpList_store_row rfl _ _ _ rfl X MC8 rfl rfl 52 _ hx8 (infoMs hs8) (by first | rw [hs8, hss] | rw [hss, hs8]) hone8 ?_)
      clear hx8 hs8 hone8 hxs hss
      generalize World.setRow w8 _ _ = W9 at HM9 ⊢
      obtain ⟨hm8, hM8, hk8⟩ := HM9.out
      obtain ⟨-, -, -, -, c35'⟩ := hm8.cells
      have hz8 := finZ_of c35'
      obtain ⟨hN, hTe, hkp, hz, hf, hk1, hbd, hs0⟩ := HA.out
      have hmk : m - k = (m - (k + 1)) + 1 := by omega
      rw [hmk] at hN hTe
      have hkp8 := hkp.trans hk8
      have hbd8 := stepF_bd hbd
      have hs08 := (kept_step s).zero hs0
      clear hk8 hkp
      by_cases h3 : (stepF s).fin = 3
      · have hz80 : finZ W9 X = 0 := hz8.trans (if_neg (by omega))
        rw [h3] at c35'
        rw [runT_fault hf h3] at hN hTe
        have hne : ¬ (stepF s).fin = 0 := by omega
        have HG := Lib.hid (And.intro hN (And.intro hTe (And.intro hm8 (And.intro hkp8 (And.intro hz (And.intro hz80 hne))))))
        have HG2 := Lib.hid (And.intro hM8 (And.intro hbd8 hs08))
        rw [show ((3 : Nat) : Int) = 3 from rfl] at c35'
        clear hN hTe hm8 hkp8 hz hz8 hmk h3 hf HA hz80 hne hM8 hbd8 hs08 hbd hs0 HM9
        go_wp2_with fail
        go_roundw
        case rel => exact ⟨k, stepF s, hk, rfl, by rw [runT_stop HG.out.2.2.2.2.2.2]; exact HG.out.1, by rw [runT_stop HG.out.2.2.2.2.2.2]; exact HG.out.2.1, HG.out.2.2.1, HG2.out.1, HG2.out.2.1, HG2.out.2.2, HG.out.2.2.2.1⟩
        case measure =>
          have q1 := HG.out.2.2.2.2.1
          have q2 := HG.out.2.2.2.2.2.1
          rw [q1, q2]
          omega
      · have hz81 : finZ W9 X ≤ 1 := by
          rw [hz8]
          split <;> omega
        rw [runT_go hf h3] at hN hTe
        have i3 : (((stepF s).fin : Int) != 3) = true := bne_iff_ne.mpr (by omega)
        have i4 : (((stepF s).fin : Int) == 3) = false := beq_eq_false_iff_ne.mpr (by omega)
        have HG := Lib.hid (And.intro hN (And.intro hTe (And.intro hm8 (And.intro hkp8 (And.intro hz (And.intro hz81 hk1))))))
        have HG2 := Lib.hid (And.intro hM8 (And.intro hbd8 hs08))
        clear hN hTe hm8 hkp8 hz hz8 hmk h3 hf HA hz81 hM8 hbd8 hs08 hbd hs0 HM9
        have k1 := Hm.out
        go_wp2_with fail
        go_roundw
        case rel => exact ⟨k + 1, stepF s, by omega, by go_num, by have q := HG.out.1; omega, HG.out.2.1, HG.out.2.2.1, HG2.out.1, HG2.out.2.1, HG2.out.2.2, HG.out.2.2.2.1⟩
        case measure =>
          have q1 := HG.out.2.2.2.2.1
          have q2 := HG.out.2.2.2.2.2.1
          have q3 := HG.out.2.2.2.2.2.2
          rw [q1]
          simp only [intOf]
          omega
    · rw [runT_end hk hc] at hN hTe
      dsimp only at hN hTe
      subst hTe
      have hNk : k = N := by omega
      subst hNk
      have hy9 := (hkp.block _ (lt_of_block HS.out.2.2.1) (show X + 1 ≠ X by omega) HS.out.2.2.2.2.1).trans HS.out.2.2.1
      have f35 := hm.free 35
      by_cases hf : s.fin = 0
      · have hk2 : ¬ (k : Int) < (m : Int) := by omega
        have h9 := hm.setFin 4
        have hm9 : MemC (wr.setCell ⟨X, 35, none⟩ (.int .i64 ((4 : Nat) : Int))) g n c' s.l := hmm.block (heap_setCell_other _ ⟨X, 35, none⟩ g _ (Ne.symm HXg.out))
        have hb9 : Below w.heap.size w (wr.setCell ⟨X, 35, none⟩ (.int .i64 ((4 : Nat) : Int))) := hbw.setCell (p := ⟨X, 35, none⟩) hX1 _
        have hy10 := (heap_setCell_other wr ⟨X, 35, none⟩ (X + 1) (.int .i64 ((4 : Nat) : Int)) (show X + 1 ≠ X by omega)).trans hy9
        have hEn : endF s = 4 := if_pos hf
        rw [hf] at c35
        rw [show ((4 : Nat) : Int) = 4 from rfl] at h9 hm9 hb9 hy10
        rw [show ((0 : Nat) : Int) = 0 from rfl] at c35
        have HE := Lib.hid (And.intro h9 (And.intro hm9 (And.intro hb9 (And.intro hy10 hEn))))
        clear hN hm hmm hkp hbw hz hc hf h9 hm9 hb9 hy9 hy10 hEn hX1 hbd hs0
        go_upto_region 14 with fail
        clear c35 f35 hk2
        generalize World.setCell wr _ _ = W9 at HE ⊢
        obtain ⟨h9, hm9, hb9, hy10, hEn⟩ := HE.out
        obtain ⟨MC9, hx9, hs9, hr9⟩ := h9.ex
        have hV9 : MachV MC9 s.R fl s.pc (.slice (some ⟨g, 0, none⟩) n c') (endF s) := by
          rw [hEn]
          exact ⟨hs9, hr9.1, hr9.2.1, hr9.2.2.1, hr9.2.2.2.1, hr9.2.2.2.2⟩
        have hone := one_mach hV9
        have HV9 := Lib.hid hV9
        have HQ := Lib.hid (And.intro hm9 hb9)
        clear h9 hm9 hb9 hr9 hV9 hEn
        go_wp2_with (first | (refine wpList_load_row rfl _ _ rfl X rfl 52 MC9 (0, 0) _ hx9 Tryd.underlying52 rfl (infoMs hs9) ?_) | (refine wpList_store_row rfl _ _ _ rfl (X + 1) MC9 rfl rfl 52 _ hy10 (infoMs hs9) (by rw [hs9]; rfl) hone ?_))
        have rr := setRow_heap _ (X + 1) _ MC9 52 (0, 0) hy10
        refine bodyPost_ret (res3c rfl _ _ (X + 1) MC9 rfl (loadMc _ (X + 1) MC9 hs9 rr)) rfl ⟨MC9, g, c', rfl, HV9.out, HQ.out.1.block (setRow_other _ (X + 1) g MC9 (Ne.symm HS.out.2.2.2.2.1)), HS.out.2.2.2.2.2, bel_setRow HQ.out.2 (show w.heap.size ≤ X + 1 by rw [HXe.out]; exact Nat.le_succ _) MC9⟩
      · have i5 : ((s.fin : Int) == 0) = false := beq_eq_false_iff_ne.mpr (by omega)
        have hEn : endF s = s.fin := if_neg hf
        clear hN hkp hz hc hf hX1 hbd hs0
        by_cases hk2 : k < m
        · have i7 : (k : Int) < (m : Int) := by omega
          have HE := Lib.hid (And.intro hm (And.intro hmm (And.intro hbw (And.intro hy9 hEn))))
          clear hEn hm hmm hbw hy9 hk2
          go_upto_region 14 with fail
          clear c35 f35 i5 i7
          obtain ⟨h9, hm9, hb9, hy10, hEn⟩ := HE.out
          generalize wr = W9 at h9 hm9 hb9 hy10 ⊢
          obtain ⟨MC9, hx9, hs9, hr9⟩ := h9.ex
          have hV9 : MachV MC9 s.R fl s.pc (.slice (some ⟨g, 0, none⟩) n c') (endF s) := by
            rw [hEn]
            exact ⟨hs9, hr9.1, hr9.2.1, hr9.2.2.1, hr9.2.2.2.1, hr9.2.2.2.2⟩
          have hone := one_mach hV9
          have HV9 := Lib.hid hV9
          have HQ := Lib.hid (And.intro hm9 hb9)
          clear h9 hm9 hb9 hr9 hV9 hEn
          go_wp2_with (first | (refine wpList_load_row rfl _ _ rfl X rfl 52 MC9 (0, 0) _ hx9 Tryd.underlying52 rfl (infoMs hs9) ?_) | (refine wpList_store_row rfl _ _ _ rfl (X + 1) MC9 rfl rfl 52 _ hy10 (infoMs hs9) (by rw [hs9]; rfl) hone ?_))
          have rr := setRow_heap _ (X + 1) _ MC9 52 (0, 0) hy10
          refine bodyPost_ret (res3c rfl _ _ (X + 1) MC9 rfl (loadMc _ (X + 1) MC9 hs9 rr)) rfl ⟨MC9, g, c', rfl, HV9.out, HQ.out.1.block (setRow_other _ (X + 1) g MC9 (Ne.symm HS.out.2.2.2.2.1)), HS.out.2.2.2.2.2, bel_setRow HQ.out.2 (show w.heap.size ≤ X + 1 by rw [HXe.out]; exact Nat.le_succ _) MC9⟩
        · have i7 : ¬ (k : Int) < (m : Int) := by omega
          have HE := Lib.hid (And.intro hm (And.intro hmm (And.intro hbw (And.intro hy9 hEn))))
          clear hEn hm hmm hbw hy9 hk2
          go_upto_region 14 with fail
          clear c35 f35 i5 i7
          obtain ⟨h9, hm9, hb9, hy10, hEn⟩ := HE.out
          generalize wr = W9 at h9 hm9 hb9 hy10 ⊢
          obtain ⟨MC9, hx9, hs9, hr9⟩ := h9.ex
          have hV9 : MachV MC9 s.R fl s.pc (.slice (some ⟨g, 0, none⟩) n c') (endF s) := by
            rw [hEn]
            exact ⟨hs9, hr9.1, hr9.2.1, hr9.2.2.1, hr9.2.2.2.1, hr9.2.2.2.2⟩
          have hone := one_mach hV9
          have HV9 := Lib.hid hV9
          have HQ := Lib.hid (And.intro hm9 hb9)
          clear h9 hm9 hb9 hr9 hV9 hEn
          go_wp2_with (first | (refine wpList_load_row rfl _ _ rfl X rfl 52 MC9 (0, 0) _ hx9 Tryd.underlying52 rfl (infoMs hs9) ?_) | (refine wpList_store_row rfl _ _ _ rfl (X + 1) MC9 rfl rfl 52 _ hy10 (infoMs hs9) (by rw [hs9]; rfl) hone ?_))
          have rr := setRow_heap _ (X + 1) _ MC9 52 (0, 0) hy10
          refine bodyPost_ret (res3c rfl _ _ (X + 1) MC9 rfl (loadMc _ (X + 1) MC9 hs9 rr)) rfl ⟨MC9, g, c', rfl, HV9.out, HQ.out.1.block (setRow_other _ (X + 1) g MC9 (Ne.symm HS.out.2.2.2.2.1)), HS.out.2.2.2.2.2, bel_setRow HQ.out.2 (show w.heap.size ≤ X + 1 by rw [HXe.out]; exact Nat.le_succ _) MC9⟩
end
end Go.Proofs.YthkaclmnbahieaaDoor
