/-
  Step of the reference.
-/
import Derived.Test.YthkaclmnbahieaaDoorRvSg
namespace Go.Proofs.YthkaclmnbahieaaDoor
open Go.RowKit

section
variable {w : World} {MC : Array Value} {R : Nat → Nat} {fl : Int} {pc n c : Nat} {fin : Int} {A : Option Addr} {l : List Int}
set_option maxRecDepth 100000 in
set_option maxHeartbeats 2000000 in
theorem RStep_ask (h : MachI MC R fl pc (.slice A n c) fin) (hZ : askM n (R 0) = 1) :
    Calls Tryd.prog 31 #[.agg MC] w fun e w' => e = .returned (.tuple #[.agg zeroMC, .int .i64 1]) ∧ Below w.heap.size w w' := by
  have hb0 : Below w.heap.size w (w.alloc (.cells MC 52)) := (Below.refl _ _).alloc (Nat.le_refl _) _
  have hx := heap_alloc_new w (.cells MC 52)
  have HCk := Lib.hid (fun w1 => askedI h w1)
  rw [hZ] at HCk
  have hs := h.size
  have HH := Lib.hid h
  go_enter Tryd.func31, Tryd.ntmps31
  go_upto_region 1 with fail
  have hy : ((w.alloc (.cells MC 52)).alloc (.cells zeroMC 52)).heap[w.heap.size + 1]? = some (.cells zeroMC 52 (0, 0)) := by
    have q := heap_alloc_new (w.alloc (.cells MC 52)) (.cells zeroMC 52)
    rw [show (w.alloc (.cells MC 52)).heap.size = w.heap.size + 1 from Array.size_push ..] at q
    exact q
  have hba : Below (w.alloc (.cells MC 52)).heap.size (w.alloc (.cells MC 52)) ((w.alloc (.cells MC 52)).alloc (.cells zeroMC 52)) := (Below.refl _ _).alloc (Nat.le_refl _) _
  replace hx := (hba.block _ (lt_of_block hx)).trans hx
  have hbb : Below w.heap.size w ((w.alloc (.cells MC 52)).alloc (.cells zeroMC 52)) := hb0.trans (hba.mono hb0.size)
  generalize World.alloc (World.alloc w _) _ = W at hx hy hbb ⊢
  clear hb0 hba h hZ
  obtain ⟨X, hX⟩ : ∃ X, X = w.heap.size := ⟨_, rfl⟩
  rw [← hX] at hx hy ⊢
  have HW := Lib.hid hbb
  have HXe := Lib.hid hX
  clear hbb hX
  go_wp2_with (refine wpList_load_row rfl _ _ rfl X rfl 52 MC (0, 0) _ hx Tryd.underlying52 rfl (infoMs hs) ?_)
  refine (HCk.out _).mono ?_
  rintro e w3 ⟨rfl, hb3⟩
  replace hx := (hb3.block _ (lt_of_block hx)).trans hx
  replace hy := (hb3.block _ (lt_of_block hy)).trans hy
  replace HW := Lib.hid (HW.out.trans (hb3.mono HW.out.size))
  clear hb3 hx
  go_wp2_with (refine wpList_store_row rfl _ _ _ rfl (X + 1) zeroMC rfl rfl 52 _ hy size_zero rfl one_zero ?_)
  have rr := setRow_heap _ (X + 1) _ zeroMC 52 (0, 0) hy
  refine bodyPost_ret (res2c rfl _ _ (X + 1) zeroMC rfl (loadMc _ (X + 1) zeroMC rfl rr)) rfl ⟨rfl, bel_setRow HW.out (show w.heap.size ≤ X + 1 by rw [HXe.out]; exact Nat.le_succ _) zeroMC⟩
set_option maxRecDepth 100000 in
set_option maxHeartbeats 2000000 in
theorem RStep_end (h : MachI MC R fl pc (.slice A n c) fin) (hZ : askM n (R 0) = 0) (hf : fin ≠ 0) :
    Calls Tryd.prog 31 #[.agg MC] w fun e w' => e = .returned (.tuple #[.agg zeroMC, .int .i64 9]) ∧ Below w.heap.size w w' := by
  have d1 : (fin != 0) = true := bne_iff_ne.mpr hf
  have d2 : (fin == 0) = false := beq_eq_false_iff_ne.mpr hf
  have hb0 : Below w.heap.size w (w.alloc (.cells MC 52)) := (Below.refl _ _).alloc (Nat.le_refl _) _
  have hx := heap_alloc_new w (.cells MC 52)
  have HCk := Lib.hid (fun w1 => askedI h w1)
  rw [hZ] at HCk
  have hs := h.size
  have HH := Lib.hid h
  go_enter Tryd.func31, Tryd.ntmps31
  go_upto_region 1 with fail
  have hy : ((w.alloc (.cells MC 52)).alloc (.cells zeroMC 52)).heap[w.heap.size + 1]? = some (.cells zeroMC 52 (0, 0)) := by
    have q := heap_alloc_new (w.alloc (.cells MC 52)) (.cells zeroMC 52)
    rw [show (w.alloc (.cells MC 52)).heap.size = w.heap.size + 1 from Array.size_push ..] at q
    exact q
  have hba : Below (w.alloc (.cells MC 52)).heap.size (w.alloc (.cells MC 52)) ((w.alloc (.cells MC 52)).alloc (.cells zeroMC 52)) := (Below.refl _ _).alloc (Nat.le_refl _) _
  replace hx := (hba.block _ (lt_of_block hx)).trans hx
  have hbb : Below w.heap.size w ((w.alloc (.cells MC 52)).alloc (.cells zeroMC 52)) := hb0.trans (hba.mono hb0.size)
  generalize World.alloc (World.alloc w _) _ = W at hx hy hbb ⊢
  clear hb0 hba h hZ
  obtain ⟨X, hX⟩ : ∃ X, X = w.heap.size := ⟨_, rfl⟩
  rw [← hX] at hx hy ⊢
  have HW := Lib.hid hbb
  have HXe := Lib.hid hX
  clear hbb hX hf
  go_wp2_with (refine wpList_load_row rfl _ _ rfl X rfl 52 MC (0, 0) _ hx Tryd.underlying52 rfl (infoMs hs) ?_)
  refine (HCk.out _).mono ?_
  rintro e w3 ⟨rfl, hb3⟩
  replace hx := (hb3.block _ (lt_of_block hx)).trans hx
  replace hy := (hb3.block _ (lt_of_block hy)).trans hy
  replace HW := Lib.hid (HW.out.trans (hb3.mono HW.out.size))
  obtain ⟨-, -, -, -, c35⟩ := HH.out.cells hx
  clear hb3
  go_wp2_with (refine wpList_store_row rfl _ _ _ rfl (X + 1) zeroMC rfl rfl 52 _ hy size_zero rfl one_zero ?_)
  have rr := setRow_heap _ (X + 1) _ zeroMC 52 (0, 0) hy
  refine bodyPost_ret (res2c rfl _ _ (X + 1) zeroMC rfl (loadMc _ (X + 1) zeroMC rfl rr)) rfl ⟨rfl, bel_setRow HW.out (show w.heap.size ≤ X + 1 by rw [HXe.out]; exact Nat.le_succ _) zeroMC⟩
set_option maxRecDepth 100000 in
set_option maxHeartbeats 2000000 in
theorem RStep_some (h : MachI MC R fl pc (.slice A n c) 0) (hZ : askM n (R 0) = 0) (hB : Byt w A n c l) (hp : 0 < n) (hn : n ≤ 32768) (h0 : R 0 = 0) (hR : ∀ j, R j < 4294967296) (hpc : pc < 4294967296) :
    Calls Tryd.prog 31 #[.agg MC] w fun e w' => ∃ MC' g c', e = .returned (.tuple #[.agg MC', .int .i64 0]) ∧ MachV MC' (stepF ⟨R, pc, 0, l⟩).R fl (stepF ⟨R, pc, 0, l⟩).pc (.slice (some ⟨g, 0, none⟩) n c') (stepF ⟨R, pc, 0, l⟩).fin ∧ MemC w' g n c' (stepF ⟨R, pc, 0, l⟩).l ∧ w.heap.size ≤ g ∧ Below w.heap.size w w' := by
  have hb0 : Below w.heap.size w (w.alloc (.cells MC 52)) := (Below.refl _ _).alloc (Nat.le_refl _) _
  have hx := heap_alloc_new w (.cells MC 52)
  have HCk := Lib.hid (fun w1 => askedI h w1)
  rw [hZ] at HCk
  have hs := h.size
  have HH := Lib.hid h
  go_enter Tryd.func31, Tryd.ntmps31
  go_upto_region 1 with fail
  have hy : ((w.alloc (.cells MC 52)).alloc (.cells zeroMC 52)).heap[w.heap.size + 1]? = some (.cells zeroMC 52 (0, 0)) := by
    have q := heap_alloc_new (w.alloc (.cells MC 52)) (.cells zeroMC 52)
    rw [show (w.alloc (.cells MC 52)).heap.size = w.heap.size + 1 from Array.size_push ..] at q
    exact q
  have hba : Below (w.alloc (.cells MC 52)).heap.size (w.alloc (.cells MC 52)) ((w.alloc (.cells MC 52)).alloc (.cells zeroMC 52)) := (Below.refl _ _).alloc (Nat.le_refl _) _
  replace hx := (hba.block _ (lt_of_block hx)).trans hx
  have hbb : Below w.heap.size w ((w.alloc (.cells MC 52)).alloc (.cells zeroMC 52)) := hb0.trans (hba.mono hb0.size)
  generalize World.alloc (World.alloc w _) _ = W at hx hy hbb ⊢
  clear hb0 hba h hZ
  obtain ⟨X, hX⟩ : ∃ X, X = w.heap.size := ⟨_, rfl⟩
  rw [← hX] at hx hy ⊢
  have HW := Lib.hid hbb
  have HXe := Lib.hid hX
  have HB := Lib.hid (hB.below hbb)
  clear hbb hX hB
  go_wp2_with (refine wpList_load_row rfl _ _ rfl X rfl 52 MC (0, 0) _ hx Tryd.underlying52 rfl (infoMs hs) ?_)
  refine (HCk.out _).mono ?_
  rintro e w3 ⟨rfl, hb3⟩
  replace hx := (hb3.block _ (lt_of_block hx)).trans hx
  replace hy := (hb3.block _ (lt_of_block hy)).trans hy
  replace HW := Lib.hid (HW.out.trans (hb3.mono HW.out.size))
  replace HB := Lib.hid (HB.out.below hb3)
  obtain ⟨-, -, -, c34, c35⟩ := HH.out.cells hx
  clear hb3
  go_upto_region 6 with fail
  have hE0 := empty_own w3 w3.heap.size (Nat.le_refl _)
  have hba : Below w3.heap.size w3 (w3.alloc (.cells #[] 5)) := (Below.refl _ _).alloc (Nat.le_refl _) _
  have hBa := HB.out.below hba
  have hx4 := (hba.block _ (lt_of_block hx)).trans hx
  obtain ⟨-, -, -, c34, -⟩ := HH.out.cells hx4
  go_wp2_with (at_builtin; refine append_clone rfl _ _ rfl w3.heap.size _ rfl hE0 A n c l rfl hBa hp (by omega) hba.size ?_)
  intro v5 w5 ho5 hgr
  have hb5 := hgr w3 hba (Nat.le_refl _)
  have hln := HB.out.1
  rw [hln] at ho5
  obtain ⟨g, c', rfl, hg, hM⟩ := memC_own ho5 HB.out.isBy (by omega)
  rw [← hln] at hM ⊢
  have hXg : X ≠ g := by
    have := lt_of_block hx
    omega
  have hYg : X + 1 ≠ g := by
    have := lt_of_block hy
    omega
  have hgw : w.heap.size ≤ g := Nat.le_trans HW.out.size hg
  replace hx := (hb5.block _ (lt_of_block hx)).trans hx
  replace hy := (hb5.block _ (lt_of_block hy)).trans hy
  replace HW := Lib.hid (HW.out.trans (hb5.mono HW.out.size))
  have hmac := HH.out.zero.mac hx
  obtain ⟨-, -, -, c34, -⟩ := hmac.cells
  have f34 := hmac.free 34
  have h5 := hmac.setMem (.slice (some ⟨g, 0, none⟩) n c')
  have hM5 : MemC (w5.setCell ⟨X, 34, none⟩ (.slice (some ⟨g, 0, none⟩) n c')) g n c' l := hM.block (heap_setCell_other _ ⟨X, 34, none⟩ g _ (Ne.symm hXg))
  have hy5 := (heap_setCell_other w5 ⟨X, 34, none⟩ (X + 1) (.slice (some ⟨g, 0, none⟩) n c') (show X + 1 ≠ X by omega)).trans hy
  have hW5 : Below w.heap.size w (w5.setCell ⟨X, 34, none⟩ (.slice (some ⟨g, 0, none⟩) n c')) := HW.out.setCell (show w.heap.size ≤ X by rw [HXe.out]; exact Nat.le_refl _) _
  have HF := Lib.hid (And.intro h5 (And.intro hM5 (And.intro hy5 (And.intro hW5 (And.intro hXg (And.intro hYg hgw))))))
  clear hx hy hmac hM h5 hM5 hy5 hW5 hXg hYg hgw hg hb5 hgr ho5 hBa hE0 hba hln hx4 c35
  go_upto_region 7 with fail
  clear c34 f34 HW HCk
  generalize World.setCell w5 _ _ = W5 at HF ⊢
  obtain ⟨h5, hM5, hy5, hW5, hXg, hYg, hgw⟩ := HF.out
  obtain ⟨MC5, hx5, hs5, hr5⟩ := h5.ex
  have hV5 : MachV MC5 R fl pc (.slice (some ⟨g, 0, none⟩) n c') 0 := ⟨hs5, hr5.1, hr5.2.1, hr5.2.2.1, hr5.2.2.2.1, hr5.2.2.2.2⟩
  have HS := Lib.hid (rstep_any hV5 hM5 hpc (by omega) h0 hR)
  clear h5 hM5 hy5 hW5 hXg hYg hgw hr5 hV5 h0 hR hpc
  go_wp2_with (refine wpList_load_row rfl _ _ rfl X rfl 52 MC5 (0, 0) _ hx5 Tryd.underlying52 rfl (infoMs hs5) ?_)
  refine HS.out.mono ?_
  rintro e w7 ⟨MC7, rfl, hV7, hM7, hk7⟩
  obtain ⟨h5, hM5, hy5, hW5, hXg, hYg, hgw⟩ := HF.out
  have hy7 := (hk7.block _ (lt_of_block hy5) hYg).trans hy5
  have hW7 := hW5.trans (hk7.below hgw hW5.size)
  have hone := one_mach hV7
  have hs7 := hV7.size
  have HV7 := Lib.hid hV7
  have HE := Lib.hid (And.intro hM7 (And.intro hW7 (And.intro hgw hYg)))
  clear h5 hM5 hy5 hW5 hXg hYg hgw hx5 hs5 hV7 hM7 hk7 hW7 HS HF
  go_wp2_with (refine wpList_store_row rfl _ _ _ rfl (X + 1) MC7 rfl rfl 52 _ hy7 (infoMs hs7) (by rw [hs7]; rfl) hone ?_)
  have rr := setRow_heap _ (X + 1) _ MC7 52 (0, 0) hy7
  refine bodyPost_ret (res2c rfl _ _ (X + 1) MC7 rfl (loadMc _ (X + 1) MC7 hs7 rr)) rfl ⟨MC7, g, c', rfl, HV7.out, HE.out.1.block (setRow_other _ (X + 1) g MC7 (Ne.symm HE.out.2.2.2)), HE.out.2.2.1, bel_setRow HE.out.2.1 (show w.heap.size ≤ X + 1 by rw [HXe.out]; exact Nat.le_succ _) MC7⟩
set_option maxRecDepth 100000 in
set_option maxHeartbeats 2000000 in
theorem RStep_none0 (h : MachI MC R fl pc (.slice none 0 0) 0) (hZ : askM 0 (R 0) = 0) (hpc : pc < 4294967296) :
    Calls Tryd.prog 31 #[.agg MC] w fun e w' => ∃ MC' A' c', e = .returned (.tuple #[.agg MC', .int .i64 0]) ∧ MachV MC' R fl pc (.slice A' 0 c') 3 ∧ Below w.heap.size w w' := by
  have hb0 : Below w.heap.size w (w.alloc (.cells MC 52)) := (Below.refl _ _).alloc (Nat.le_refl _) _
  have hx := heap_alloc_new w (.cells MC 52)
  have HCk := Lib.hid (fun w1 => askedI h w1)
  rw [hZ] at HCk
  have hs := h.size
  have HH := Lib.hid h
  go_enter Tryd.func31, Tryd.ntmps31
  go_upto_region 1 with fail
  have hy : ((w.alloc (.cells MC 52)).alloc (.cells zeroMC 52)).heap[w.heap.size + 1]? = some (.cells zeroMC 52 (0, 0)) := by
    have q := heap_alloc_new (w.alloc (.cells MC 52)) (.cells zeroMC 52)
    rw [show (w.alloc (.cells MC 52)).heap.size = w.heap.size + 1 from Array.size_push ..] at q
    exact q
  have hba : Below (w.alloc (.cells MC 52)).heap.size (w.alloc (.cells MC 52)) ((w.alloc (.cells MC 52)).alloc (.cells zeroMC 52)) := (Below.refl _ _).alloc (Nat.le_refl _) _
  replace hx := (hba.block _ (lt_of_block hx)).trans hx
  have hbb : Below w.heap.size w ((w.alloc (.cells MC 52)).alloc (.cells zeroMC 52)) := hb0.trans (hba.mono hb0.size)
  generalize World.alloc (World.alloc w _) _ = W at hx hy hbb ⊢
  clear hb0 hba h hZ
  obtain ⟨X, hX⟩ : ∃ X, X = w.heap.size := ⟨_, rfl⟩
  rw [← hX] at hx hy ⊢
  have HW := Lib.hid hbb
  have HXe := Lib.hid hX
  clear hbb hX
  go_wp2_with (refine wpList_load_row rfl _ _ rfl X rfl 52 MC (0, 0) _ hx Tryd.underlying52 rfl (infoMs hs) ?_)
  refine (HCk.out _).mono ?_
  rintro e w3 ⟨rfl, hb3⟩
  replace hx := (hb3.block _ (lt_of_block hx)).trans hx
  replace hy := (hb3.block _ (lt_of_block hy)).trans hy
  replace HW := Lib.hid (HW.out.trans (hb3.mono HW.out.size))
  obtain ⟨-, -, -, c34, c35⟩ := HH.out.cells hx
  clear hb3
  go_upto_region 6 with fail
  have hba : Below w3.heap.size w3 (w3.alloc (.cells #[] 5)) := (Below.refl _ _).alloc (Nat.le_refl _) _
  have hx4 := (hba.block _ (lt_of_block hx)).trans hx
  have hy4 := (hba.block _ (lt_of_block hy)).trans hy
  have hmac := HH.out.zero.mac hx4
  have f34 := hmac.free 34
  have HW4 := Lib.hid (HW.out.trans (hba.mono HW.out.size))
  have h5 := hmac.setMem (.slice (some ⟨w3.heap.size, 0, none⟩) 0 0)
  have hy5 := (heap_setCell_other (w3.alloc (.cells #[] 5)) ⟨X, 34, none⟩ (X + 1) (.slice (some ⟨w3.heap.size, 0, none⟩) 0 0) (show X + 1 ≠ X by omega)).trans hy4
  have hW5 : Below w.heap.size w ((w3.alloc (.cells #[] 5)).setCell ⟨X, 34, none⟩ (.slice (some ⟨w3.heap.size, 0, none⟩) 0 0)) := HW4.out.setCell (show w.heap.size ≤ X by rw [HXe.out]; exact Nat.le_refl _) _
  have HF := Lib.hid (And.intro h5 (And.intro hy5 hW5))
  obtain ⟨-, -, -, c34, -⟩ := hmac.cells
  clear hx hy hx4 hy4 hmac h5 hy5 hW5 hba HW4 c35
  go_upto_region 7 with fail
  clear c34 f34 HW HCk
  generalize World.setCell _ _ _ = W5 at HF ⊢
  generalize w3.heap.size = g at HF ⊢
  obtain ⟨h5, hy5, hW5⟩ := HF.out
  obtain ⟨MC5, hx5, hs5, hr5⟩ := h5.ex
  have hV5 : MachV MC5 R fl pc (.slice (some ⟨g, 0, none⟩) 0 0) 0 := ⟨hs5, hr5.1, hr5.2.1, hr5.2.2.1, hr5.2.2.2.1, hr5.2.2.2.2⟩
  have HS := Lib.hid (rstep_fault (w := W5) hV5 hpc (by omega) (by omega))
  clear h5 hy5 hW5 hr5 hV5 hpc
  go_wp2_with (refine wpList_load_row rfl _ _ rfl X rfl 52 MC5 (0, 0) _ hx5 Tryd.underlying52 rfl (infoMs hs5) ?_)
  refine HS.out.mono ?_
  rintro e w7 ⟨MC7, rfl, hV7, hb7⟩
  obtain ⟨h5, hy5, hW5⟩ := HF.out
  have hy7 := (hb7.block _ (lt_of_block hy5)).trans hy5
  have hW7 := hW5.trans (hb7.mono hW5.size)
  have hone := one_mach hV7
  have hs7 := hV7.size
  have HV7 := Lib.hid hV7
  have HE := Lib.hid hW7
  clear h5 hy5 hW5 hx5 hs5 hV7 hb7 hW7 HS HF
  go_wp2_with (refine wpList_store_row rfl _ _ _ rfl (X + 1) MC7 rfl rfl 52 _ hy7 (infoMs hs7) (by rw [hs7]; rfl) hone ?_)
  have rr := setRow_heap _ (X + 1) _ MC7 52 (0, 0) hy7
  refine bodyPost_ret (res2c rfl _ _ (X + 1) MC7 rfl (loadMc _ (X + 1) MC7 hs7 rr)) rfl ⟨MC7, _, _, rfl, HV7.out, bel_setRow HE.out (show w.heap.size ≤ X + 1 by rw [HXe.out]; exact Nat.le_succ _) MC7⟩
set_option maxRecDepth 100000 in
set_option maxHeartbeats 2000000 in
theorem RStep_none1 {ad : Addr} (h : MachI MC R fl pc (.slice (some ad) 0 c) 0) (hZ : askM 0 (R 0) = 0) (hpc : pc < 4294967296) :
    Calls Tryd.prog 31 #[.agg MC] w fun e w' => ∃ MC' A' c', e = .returned (.tuple #[.agg MC', .int .i64 0]) ∧ MachV MC' R fl pc (.slice A' 0 c') 3 ∧ Below w.heap.size w w' := by
  have hb0 : Below w.heap.size w (w.alloc (.cells MC 52)) := (Below.refl _ _).alloc (Nat.le_refl _) _
  have hx := heap_alloc_new w (.cells MC 52)
  have HCk := Lib.hid (fun w1 => askedI h w1)
  rw [hZ] at HCk
  have hs := h.size
  have HH := Lib.hid h
  go_enter Tryd.func31, Tryd.ntmps31
  go_upto_region 1 with fail
  have hy : ((w.alloc (.cells MC 52)).alloc (.cells zeroMC 52)).heap[w.heap.size + 1]? = some (.cells zeroMC 52 (0, 0)) := by
    have q := heap_alloc_new (w.alloc (.cells MC 52)) (.cells zeroMC 52)
    rw [show (w.alloc (.cells MC 52)).heap.size = w.heap.size + 1 from Array.size_push ..] at q
    exact q
  have hba : Below (w.alloc (.cells MC 52)).heap.size (w.alloc (.cells MC 52)) ((w.alloc (.cells MC 52)).alloc (.cells zeroMC 52)) := (Below.refl _ _).alloc (Nat.le_refl _) _
  replace hx := (hba.block _ (lt_of_block hx)).trans hx
  have hbb : Below w.heap.size w ((w.alloc (.cells MC 52)).alloc (.cells zeroMC 52)) := hb0.trans (hba.mono hb0.size)
  generalize World.alloc (World.alloc w _) _ = W at hx hy hbb ⊢
  clear hb0 hba h hZ
  obtain ⟨X, hX⟩ : ∃ X, X = w.heap.size := ⟨_, rfl⟩
  rw [← hX] at hx hy ⊢
  have HW := Lib.hid hbb
  have HXe := Lib.hid hX
  clear hbb hX
  go_wp2_with (refine wpList_load_row rfl _ _ rfl X rfl 52 MC (0, 0) _ hx Tryd.underlying52 rfl (infoMs hs) ?_)
  refine (HCk.out _).mono ?_
  rintro e w3 ⟨rfl, hb3⟩
  replace hx := (hb3.block _ (lt_of_block hx)).trans hx
  replace hy := (hb3.block _ (lt_of_block hy)).trans hy
  replace HW := Lib.hid (HW.out.trans (hb3.mono HW.out.size))
  obtain ⟨-, -, -, c34, c35⟩ := HH.out.cells hx
  clear hb3
  go_upto_region 6 with fail
  have hba : Below w3.heap.size w3 (w3.alloc (.cells #[] 5)) := (Below.refl _ _).alloc (Nat.le_refl _) _
  have hx4 := (hba.block _ (lt_of_block hx)).trans hx
  have hy4 := (hba.block _ (lt_of_block hy)).trans hy
  have hmac := HH.out.zero.mac hx4
  have f34 := hmac.free 34
  have HW4 := Lib.hid (HW.out.trans (hba.mono HW.out.size))
  have h5 := hmac.setMem (.slice (some ⟨w3.heap.size, 0, none⟩) 0 0)
  have hy5 := (heap_setCell_other (w3.alloc (.cells #[] 5)) ⟨X, 34, none⟩ (X + 1) (.slice (some ⟨w3.heap.size, 0, none⟩) 0 0) (show X + 1 ≠ X by omega)).trans hy4
  have hW5 : Below w.heap.size w ((w3.alloc (.cells #[] 5)).setCell ⟨X, 34, none⟩ (.slice (some ⟨w3.heap.size, 0, none⟩) 0 0)) := HW4.out.setCell (show w.heap.size ≤ X by rw [HXe.out]; exact Nat.le_refl _) _
  have HF := Lib.hid (And.intro h5 (And.intro hy5 hW5))
  obtain ⟨-, -, -, c34, -⟩ := hmac.cells
  clear hx hy hx4 hy4 hmac h5 hy5 hW5 hba HW4 c35
  go_upto_region 7 with fail
  clear c34 f34 HW HCk
  generalize World.setCell _ _ _ = W5 at HF ⊢
  generalize w3.heap.size = g at HF ⊢
  obtain ⟨h5, hy5, hW5⟩ := HF.out
  obtain ⟨MC5, hx5, hs5, hr5⟩ := h5.ex
  have hV5 : MachV MC5 R fl pc (.slice (some ⟨g, 0, none⟩) 0 0) 0 := ⟨hs5, hr5.1, hr5.2.1, hr5.2.2.1, hr5.2.2.2.1, hr5.2.2.2.2⟩
  have HS := Lib.hid (rstep_fault (w := W5) hV5 hpc (by omega) (by omega))
  clear h5 hy5 hW5 hr5 hV5 hpc
  go_wp2_with (refine wpList_load_row rfl _ _ rfl X rfl 52 MC5 (0, 0) _ hx5 Tryd.underlying52 rfl (infoMs hs5) ?_)
  refine HS.out.mono ?_
  rintro e w7 ⟨MC7, rfl, hV7, hb7⟩
  obtain ⟨h5, hy5, hW5⟩ := HF.out
  have hy7 := (hb7.block _ (lt_of_block hy5)).trans hy5
  have hW7 := hW5.trans (hb7.mono hW5.size)
  have hone := one_mach hV7
  have hs7 := hV7.size
  have HV7 := Lib.hid hV7
  have HE := Lib.hid hW7
  clear h5 hy5 hW5 hx5 hs5 hV7 hb7 hW7 HS HF
  go_wp2_with (refine wpList_store_row rfl _ _ _ rfl (X + 1) MC7 rfl rfl 52 _ hy7 (infoMs hs7) (by rw [hs7]; rfl) hone ?_)
  have rr := setRow_heap _ (X + 1) _ MC7 52 (0, 0) hy7
  refine bodyPost_ret (res2c rfl _ _ (X + 1) MC7 rfl (loadMc _ (X + 1) MC7 hs7 rr)) rfl ⟨MC7, _, _, rfl, HV7.out, bel_setRow HE.out (show w.heap.size ≤ X + 1 by rw [HXe.out]; exact Nat.le_succ _) MC7⟩
theorem RStep_none (h : MachI MC R fl pc (.slice A 0 c) 0) (hA : A = none → c = 0) (hZ : askM 0 (R 0) = 0) (hpc : pc < 4294967296) :
    Calls Tryd.prog 31 #[.agg MC] w fun e w' => ∃ MC' A' c', e = .returned (.tuple #[.agg MC', .int .i64 0]) ∧ MachV MC' R fl pc (.slice A' 0 c') 3 ∧ Below w.heap.size w w' := by
  rcases A with _ | ad
  · rw [hA rfl] at h
    exact RStep_none0 h hZ hpc
  · exact RStep_none1 h hZ hpc
end
end Go.Proofs.YthkaclmnbahieaaDoor
