/-
  slices.Clone of bytes: a memory of its own. Step of the program. Step of the program: errors. slices.Clone of no bytes; Step of the program where the memory is empty.
-/
import Derived.Test.YthkaclmnbahieaaDoorRvZq
namespace Go.Proofs.YthkaclmnbahieaaDoor
open Go.RowKit

theorem memC_own {w : World} {base : Nat} {v : Value} {l : List Int} (h : w.ownsRow base 5 1 v l.length (byV l)) (hl : isBy l) (hp : 0 < l.length) : ∃ g c, v = .slice (some ⟨g, 0, none⟩) l.length c ∧ base ≤ g ∧ MemC w g l.length c l := by
  have h0 := h
  have hb := own_base h
  have hj : ∀ j, j < l.length → 0 ≤ l[j]! ∧ l[j]! < 256 := fun j hj => by
    have := hl l[j] (List.getElem_mem hj)
    simpa [hj] using this
  rcases h.2 with ⟨rfl, h1⟩ | ⟨g, cap, cur, rfl, _, hh, h2, h3, _⟩
  · omega
  · have hc : ∀ j, j < l.length → cur[j]? = some (.int .u8 l[j]!) := fun j hjl => by
      have := h0.cells (g := g) rfl j (.int .u8 l[j]!) (by simp [byV, hjl])
      have e2 : (⟨g, 0, none⟩ : Addr).add j = ⟨g, j, none⟩ := by
        unfold Addr.add
        split
        · rename_i e
          rw [e]
        · simp
      rw [e2] at this
      simpa [World.cell?, hh] using this
    refine ⟨g, cap, rfl, hb g rfl, ⟨rfl, h2, by unfold maxLen at h3; omega, hj, cur, _, hh, ?_, hc⟩⟩
    by_cases e : l.length ≤ cur.size
    · exact e
    · exfalso
      have := hc (l.length - 1) (by omega)
      rw [Array.getElem?_eq_none (by omega)] at this
      cases this
theorem append_clone {w : World} {ops : Array Oper} {rest : List Oper} {o : Oper} {a : Act} {Q : Exit → Act → World → Prop} (hgd : o.guard = none) (s x : Operand)
    (ho : o.op = .call { callee := .builtin .append, args := #[s, x], argTypes := #[35, 35] })
    (base : Nat) (v : Value) (hs : a.eval s = v) (hown : w.ownsRow base 5 1 v 0 []) (A : Option Addr) (n c : Nat) (l : List Int) (hx : a.eval x = .slice A n c) (hB : Byt w A n c l) (hp : 0 < n)
    (hn : n ≤ 40000) (hbase : base ≤ w.heap.size)
    (h : ∀ v' w', w'.ownsRow base 5 1 v' n (byV l) → (∀ w0, Below w0.heap.size w0 w → w0.heap.size ≤ base → Below w0.heap.size w0 w') → wpList Tryd.prog ops Q rest (a.put o.dst v') w') : wpList Tryd.prog ops Q (o :: rest) a w := by
  obtain ⟨i0, hi, hz0, hz1, hz2⟩ := info_parts infoBy
  obtain ⟨ad, hA, hnews⟩ := byt_news hB hp
  subst hA
  refine wpList_append_own w hgd s x 35 ho base 5 i0 (.int .u8 0) 1 1 Tryd.underlying35 hi hz0 hz1 hz2 rfl (by decide) v 0 [] hs hown ad n c (byV l) hx (by rw [byV_length, Nat.mul_one]; exact hB.1.symm) hnews (byV_one _) (by unfold maxLen; omega) (by omega) hbase ?_
  intro v' w' h1 hgr _
  rw [Nat.zero_add, List.nil_append] at h1
  exact h v' w' h1 (fun w0 hb hle => hb.grown hgr hb.size (fun g hg => Nat.le_trans hle (own_base hown g hg)))
theorem empty_own (w : World) (base : Nat) (hb : base ≤ w.heap.size) : (w.alloc (.cells #[] 5)).ownsRow base 5 1 (.slice (some ⟨w.heap.size, 0, none⟩) 0 0) 0 [] :=
  ⟨by simp, .inr ⟨w.heap.size, 0, _, rfl, hb, heap_alloc_new w _, Nat.le_refl _, by unfold maxLen; omega, by simp, by simp⟩⟩
set_option maxRecDepth 100000 in
set_option maxHeartbeats 4000000 in
theorem clone_some {w : World} {A : Option Addr} {n c : Nat} {l : List Int} (hB : Byt w A n c l) (hp : 0 < n) (hn : n ≤ 40000) :
    Calls Tryd.prog 57 #[.slice A n c] w fun e w' => ∃ g c', e = .returned (.slice (some ⟨g, 0, none⟩) n c') ∧ w.heap.size ≤ g ∧ MemC w' g n c' l ∧ Below w.heap.size w w' := by
  have HB := Lib.hid hB
  obtain ⟨ad, hA, -⟩ := byt_news hB hp
  subst hA
  clear hB
  have hE : ∀ w0, (binOp .eql 35 (.slice (some ad) n c) (.slice none 0 0)).run Tryd.prog w0 = .ok (.bool false) w0 := fun w0 => by kernel_rfl
  have hE0 := empty_own w w.heap.size (Nat.le_refl _)
  have hb0 : Below w.heap.size w (w.alloc (.cells #[] 5)) := (Below.refl _ _).alloc (Nat.le_refl _) _
  have hBa := HB.out.below hb0
  go_enter Tryd.func57, Tryd.ntmps57
  go_wp2_with (at_builtin; refine append_clone rfl _ _ rfl w.heap.size _ rfl hE0 (some ad) n c l rfl hBa hp hn hb0.size ?_)
  intro v5 w5 ho5 hgr
  have hb5 := hgr w hb0 (Nat.le_refl _)
  have hln := HB.out.1
  rw [hln] at ho5
  obtain ⟨g, c', rfl, hg, hM⟩ := memC_own ho5 HB.out.isBy (by omega)
  rw [← hln] at hM
  rw [← hln]
  have HR := Lib.hid (And.intro hg (And.intro hM hb5))
  clear hg hM hb5 hgr ho5 hBa hE0 hb0 hln
  go_wp2
  go_ret
  exact ⟨g, c', rfl, HR.out⟩
end Go.Proofs.YthkaclmnbahieaaDoor

namespace Go.Proofs.YthkaclmnbahieaaDoor
open Go.RowKit

abbrev zeroMC : Array Value := #[.int .u32 0, .int .u32 0, .int .u32 0, .int .u32 0, .int .u32 0, .int .u32 0, .int .u32 0, .int .u32 0, .int .u32 0, .int .u32 0, .int .u32 0, .int .u32 0, .int .u32 0, .int .u32 0, .int .u32 0, .int .u32 0, .int .u32 0, .int .u32 0, .int .u32 0, .int .u32 0, .int .u32 0, .int .u32 0, .int .u32 0, .int .u32 0, .int .u32 0, .int .u32 0, .int .u32 0, .int .u32 0, .int .u32 0, .int .u32 0, .int .u32 0, .int .u32 0, .int .i64 0, .int .u32 0, .slice none 0 0, .int .i64 0]
theorem infoMc : (Tryd.prog.info? 52).map (fun i => (i.zero, i.size, i.bytes)) = some (some (.agg zeroMC), 36, 176) := by kernel_rfl
theorem loadMc (w : World) (g : Nat) (MC : Array Value) (hs : MC.size = 36) (h : w.heap[g]? = some (.cells MC 52 (0, 0))) : (loadVar 52 ⟨g, 0, none⟩).run Tryd.prog w = .ok (.agg MC) w :=
  run_loadVar_row w g 52 52 _ (0, 0) _ h Tryd.underlying52 rfl (by rw [hs]; kernel_rfl)
theorem one_mach {MC : Array Value} {R : Nat → Nat} {fl : Int} {at_ fin : Nat} {A : Option Addr} {n c : Nat} (h : MachV MC R fl at_ (.slice A n c) fin) : MC.all (·.oneCell') = true := by
  rw [Array.all_eq_true]
  intro i hi
  have hs := h.size
  have key : ∀ v : Value, MC[i]? = some v → v.oneCell' = true → (MC[i]).oneCell' = true := by
    intro v hv ho
    rw [Array.getElem?_eq_getElem hi] at hv
    rw [Option.some.inj hv]
    exact ho
  by_cases h1 : i < 32
  · exact key _ (h.reg i h1) rfl
  · obtain rfl | rfl | rfl | rfl : i = 32 ∨ i = 33 ∨ i = 34 ∨ i = 35 := by omega
    · exact key _ h.flg rfl
    · exact key _ h.plc rfl
    · exact key _ h.mem rfl
    · exact key _ h.fin rfl
section
variable {w : World} {MC : Array Value} {R : Nat → Nat} {fl : Int} {pc n c : Nat} {A : Option Addr} {l : List Int}
set_option maxRecDepth 100000 in
set_option maxHeartbeats 4000000 in
theorem Step_some (h : MachV MC R fl pc (.slice A n c) 0) (hB : Byt w A n c l) (hp : 0 < n) (hn : n ≤ 32768) (h0 : R 0 = 0) (hR : ∀ j, R j < 4294967296) (hpc : pc < 4294967296) (hL : Laid w) :
    Calls Tryd.prog 30 #[.agg MC] w fun e w' => ∃ MC' g c', e = .returned (.tuple #[.agg MC', .int .i64 0]) ∧ MachV MC' (stepF ⟨R, pc, 0, l⟩).R fl (stepF ⟨R, pc, 0, l⟩).pc (.slice (some ⟨g, 0, none⟩) n c') (stepF ⟨R, pc, 0, l⟩).fin ∧ MemC w' g n c' (stepF ⟨R, pc, 0, l⟩).l ∧ w.heap.size ≤ g ∧ Below w.heap.size w w' := by
  have hb0 : Below w.heap.size w (w.alloc (.cells MC 52)) := (Below.refl _ _).alloc (Nat.le_refl _) _
  have hx := heap_alloc_new w (.cells MC 52)
  have HCk := Lib.hid (fun w1 => check_any h w1)
  rw [show chkM n (R 0) 0 = 0 by unfold chkM; rw [if_neg (by omega), if_neg (by omega)]] at HCk
  have hs := h.size
  have hmac := h.mac hx
  go_enter Tryd.func30, Tryd.ntmps30
  go_upto_region 1 with fail
  have hy : ((w.alloc (.cells MC 52)).alloc (.cells zeroMC 52)).heap[w.heap.size + 1]? = some (.cells zeroMC 52 (0, 0)) := by
    have q := heap_alloc_new (w.alloc (.cells MC 52)) (.cells zeroMC 52)
    rw [show (w.alloc (.cells MC 52)).heap.size = w.heap.size + 1 from Array.size_push ..] at q
    exact q
  have hba : Below (w.alloc (.cells MC 52)).heap.size (w.alloc (.cells MC 52)) ((w.alloc (.cells MC 52)).alloc (.cells zeroMC 52)) := (Below.refl _ _).alloc (Nat.le_refl _) _
  replace hx := (hba.block _ (lt_of_block hx)).trans hx
  have hbb : Below w.heap.size w ((w.alloc (.cells MC 52)).alloc (.cells zeroMC 52)) := hb0.trans (hba.mono hb0.size)
  generalize World.alloc (World.alloc w _) _ = W at hx hy hbb ⊢
  clear hb0 hba hmac
  obtain ⟨X, hX⟩ : ∃ X, X = w.heap.size := ⟨_, rfl⟩
  rw [← hX] at hx hy ⊢
  have HW := Lib.hid hbb
  have HXe := Lib.hid hX
  have HL0 := Lib.hid hL
  have HH := Lib.hid h
  replace hB := hB.below hbb
  clear hbb hX
  go_wp2_with (refine wpList_load_row rfl _ _ rfl X rfl 52 MC (0, 0) _ hx Tryd.underlying52 rfl (by rw [hs]; kernel_rfl) ?_)
  refine (HCk.out _).mono ?_
  rintro e w3 ⟨rfl, hb3⟩
  replace hx := (hb3.block _ (lt_of_block hx)).trans hx
  replace hy := (hb3.block _ (lt_of_block hy)).trans hy
  replace hB := hB.below hb3
  replace HW := Lib.hid (HW.out.trans (hb3.mono HW.out.size))
  clear hb3 hL h
  obtain ⟨-, -, -, c34, -⟩ := (HH.out.mac hx).cells
  go_wp2_with fail
  refine (clone_some hB hp (by omega)).mono ?_
  rintro e w4 ⟨g, c', rfl, hg, hM, hb4⟩
  have hXg : X ≠ g := by
    have := lt_of_block hx
    omega
  have hYg : X + 1 ≠ g := by
    have := lt_of_block hy
    omega
  have hgw : w.heap.size ≤ g := Nat.le_trans HW.out.size hg
  replace hx := (hb4.block _ (lt_of_block hx)).trans hx
  replace hy := (hb4.block _ (lt_of_block hy)).trans hy
  have hmac := HH.out.mac hx
  replace HW := Lib.hid (HW.out.trans (hb4.mono HW.out.size))
  obtain ⟨-, -, -, c34, -⟩ := hmac.cells
  have f34 := hmac.free 34
  have h5 := hmac.setMem (.slice (some ⟨g, 0, none⟩) n c')
  have hM5 : MemC (w4.setCell ⟨X, 34, none⟩ (.slice (some ⟨g, 0, none⟩) n c')) g n c' l := hM.block (heap_setCell_other _ ⟨X, 34, none⟩ g _ (Ne.symm hXg))
  have hy5 := (heap_setCell_other w4 ⟨X, 34, none⟩ (X + 1) (.slice (some ⟨g, 0, none⟩) n c') (show X + 1 ≠ X by omega)).trans hy
  have hW5 : Below w.heap.size w (w4.setCell ⟨X, 34, none⟩ (.slice (some ⟨g, 0, none⟩) n c')) := HW.out.setCell (show w.heap.size ≤ X by rw [HXe.out]; exact Nat.le_refl _) _
  have HF := Lib.hid (And.intro h5 (And.intro hM5 (And.intro hy5 (And.intro hW5 (And.intro hXg (And.intro hYg hgw))))))
  clear hx hy hmac hM hb4 h5 hM5 hy5 hW5 hXg hYg hgw hg hB
  go_wp2_with fail
  clear c34 f34 HW HH HCk
  generalize World.setCell w4 _ _ = W5 at HF ⊢
  refine (newOps_any W5 (HL0.out.below HF.out.2.2.2.1)).mono ?_
  rintro e w6 ⟨K, rfl, hK, -, hb6⟩
  go_wp2_with fail
  obtain ⟨h5, hM5, hy5, hW5, hXg, hYg, hgw⟩ := HF.out
  have hmch : MchA w6 X g n c' fl ⟨R, pc, 0, l⟩ := ⟨h5.below hb6, hM5.below hb6, hR, hpc, hXg, by omega⟩
  have hy6 := (hb6.block _ (lt_of_block hy5)).trans hy5
  have hW6 := hW5.trans (hb6.mono hW5.size)
  refine (step_any hmch (HL0.out.below hW6) K hK).mono ?_
  rintro e w7 ⟨rfl, hm7, hk7⟩
  have hy7 := (hk7.block _ (lt_of_block hy6) (show X + 1 ≠ X by omega) hYg).trans hy6
  have hW7 := hW6.trans (hk7.below (show w.heap.size ≤ X by rw [HXe.out]; exact Nat.le_refl _) hgw hW6.size)
  have HE := Lib.hid (And.intro hm7 (And.intro hW7 hgw))
  obtain ⟨MC7, hx7, hs7, hr7⟩ := hm7.mac.ex
  have hV7 : MachV MC7 (stepF ⟨R, pc, 0, l⟩).R fl (stepF ⟨R, pc, 0, l⟩).pc (.slice (some ⟨g, 0, none⟩) n c') (stepF ⟨R, pc, 0, l⟩).fin := ⟨hs7, hr7.1, hr7.2.1, hr7.2.2.1, hr7.2.2.2.1, hr7.2.2.2.2⟩
  have hone := one_mach hV7
  have HV7 := Lib.hid hV7
  have HYg := Lib.hid hYg
  clear hmch hy6 hW6 hm7 hk7 hW7 hgw h5 hM5 hy5 hW5 hb6 hK HF hr7 hXg hYg hV7
  go_wp2_with (first | (refine wpList_load_row rfl _ _ rfl X rfl 52 MC7 (0, 0) _ hx7 Tryd.underlying52 rfl (by rw [hs7]; kernel_rfl) ?_) | (refine wpList_store_row rfl _ _ _ rfl (X + 1) MC7 rfl rfl 52 _ hy7 (by rw [hs7]; kernel_rfl) (by rw [hs7]; rfl) hone ?_))
  have rr := setRow_heap _ (X + 1) _ MC7 52 (0, 0) hy7
  refine bodyPost_ret (res2c rfl _ _ (X + 1) MC7 rfl (loadMc _ (X + 1) MC7 hs7 rr)) rfl ⟨MC7, g, c', rfl, HV7.out, HE.out.1.mem.block (setRow_other _ (X + 1) g MC7 (Ne.symm HYg.out)), HE.out.2.2, bel_setRow HE.out.2.1 (show w.heap.size ≤ X + 1 by rw [HXe.out]; exact Nat.le_succ _) MC7⟩
end
end Go.Proofs.YthkaclmnbahieaaDoor

namespace Go.Proofs.YthkaclmnbahieaaDoor
open Go.RowKit

theorem one_zero : zeroMC.all (·.oneCell') = true := by kernel_rfl
theorem size_zero : (Tryd.prog.info? 52).map (·.size) = some zeroMC.size := by kernel_rfl
section
variable {w : World} {MC : Array Value} {R : Nat → Nat} {fl : Int} {pc fin n c : Nat} {A : Option Addr}
set_option maxRecDepth 100000 in
set_option maxHeartbeats 4000000 in
theorem Step_bad (h : MachV MC R fl pc (.slice A n c) fin) (Z : Nat) (hZ : chkM n (R 0) fin = Z) (hn0 : ¬ Z = 0) :
    Calls Tryd.prog 30 #[.agg MC] w fun e w' => e = .returned (.tuple #[.agg zeroMC, .int .i64 (Z : Nat)]) ∧ Below w.heap.size w w' := by
  have d1 : ((Z : Int) != 0) = true := bne_iff_ne.mpr (by omega)
  have d2 : ((Z : Int) == 0) = false := beq_eq_false_iff_ne.mpr (by omega)
  have hb0 : Below w.heap.size w (w.alloc (.cells MC 52)) := (Below.refl _ _).alloc (Nat.le_refl _) _
  have hx := heap_alloc_new w (.cells MC 52)
  have HCk := Lib.hid (fun w1 => check_any h w1)
  rw [hZ] at HCk
  have hs := h.size
  have hmac := h.mac hx
  go_enter Tryd.func30, Tryd.ntmps30
  go_upto_region 1 with fail
  have hy : ((w.alloc (.cells MC 52)).alloc (.cells zeroMC 52)).heap[w.heap.size + 1]? = some (.cells zeroMC 52 (0, 0)) := by
    have q := heap_alloc_new (w.alloc (.cells MC 52)) (.cells zeroMC 52)
    rw [show (w.alloc (.cells MC 52)).heap.size = w.heap.size + 1 from Array.size_push ..] at q
    exact q
  have hba : Below (w.alloc (.cells MC 52)).heap.size (w.alloc (.cells MC 52)) ((w.alloc (.cells MC 52)).alloc (.cells zeroMC 52)) := (Below.refl _ _).alloc (Nat.le_refl _) _
  replace hx := (hba.block _ (lt_of_block hx)).trans hx
  have hbb : Below w.heap.size w ((w.alloc (.cells MC 52)).alloc (.cells zeroMC 52)) := hb0.trans (hba.mono hb0.size)
  generalize World.alloc (World.alloc w _) _ = W at hx hy hbb ⊢
  clear hb0 hba hmac
  obtain ⟨X, hX⟩ : ∃ X, X = w.heap.size := ⟨_, rfl⟩
  rw [← hX] at hx hy ⊢
  have HW := Lib.hid hbb
  have HXe := Lib.hid hX
  have HH := Lib.hid h
  clear hbb hX
  go_wp2_with (refine wpList_load_row rfl _ _ rfl X rfl 52 MC (0, 0) _ hx Tryd.underlying52 rfl (by rw [hs]; kernel_rfl) ?_)
  refine (HCk.out _).mono ?_
  rintro e w3 ⟨rfl, hb3⟩
  replace hy := (hb3.block _ (lt_of_block hy)).trans hy
  replace HW := Lib.hid (HW.out.trans (hb3.mono HW.out.size))
  clear hb3 h hx hn0
  go_wp2_with (refine wpList_store_row rfl _ _ _ rfl (X + 1) zeroMC rfl rfl 52 _ hy size_zero rfl one_zero ?_)
  have rr := setRow_heap _ (X + 1) _ zeroMC 52 (0, 0) hy
  refine bodyPost_ret (res2c rfl _ _ (X + 1) zeroMC rfl (loadMc _ (X + 1) zeroMC rfl rr)) rfl ⟨rfl, bel_setRow HW.out (show w.heap.size ≤ X + 1 by rw [HXe.out]; exact Nat.le_succ _) zeroMC⟩
end
end Go.Proofs.YthkaclmnbahieaaDoor

namespace Go.Proofs.YthkaclmnbahieaaDoor
open Go.RowKit

set_option maxRecDepth 100000 in
set_option maxHeartbeats 4000000 in
theorem clone_nil (w : World) : Calls Tryd.prog 57 #[.slice none 0 0] w fun e w' => ∃ A' c', e = .returned (.slice A' 0 c') ∧ Below w.heap.size w w' := by
  have hE : ∀ w0, (binOp .eql 35 (.slice none 0 0) (.slice none 0 0)).run Tryd.prog w0 = .ok (.bool true) w0 := fun w0 => by kernel_rfl
  go_enter Tryd.func57, Tryd.ntmps57
  go_wp2
  go_ret
  exact ⟨none, 0, rfl, Below.refl _ _⟩
set_option maxRecDepth 100000 in
set_option maxHeartbeats 4000000 in
theorem clone_empty (w : World) (ad : Addr) (c : Nat) : Calls Tryd.prog 57 #[.slice (some ad) 0 c] w fun e w' => ∃ A' c', e = .returned (.slice A' 0 c') ∧ Below w.heap.size w w' := by
  have hE : ∀ w0, (binOp .eql 35 (.slice (some ad) 0 c) (.slice none 0 0)).run Tryd.prog w0 = .ok (.bool false) w0 := fun w0 => by kernel_rfl
  have HB := Lib.hid (show Below w.heap.size w (w.alloc (.cells #[] 5)) from (Below.refl _ _).alloc (Nat.le_refl _) _)
  go_enter Tryd.func57, Tryd.ntmps57
  go_wp2
  go_ret
  exact ⟨_, _, rfl, HB.out⟩
section
variable {w : World} {MC : Array Value} {R : Nat → Nat} {fl : Int} {pc c : Nat} {A : Option Addr}
set_option maxRecDepth 100000 in
set_option maxHeartbeats 4000000 in
theorem Step_none (h : MachV MC R fl pc (.slice A 0 c) 0) (hA : A = none → c = 0) (h0 : R 0 = 0) (hpc : pc < 4294967296) (hL : Laid w) :
    Calls Tryd.prog 30 #[.agg MC] w fun e w' => ∃ MC' A' c', e = .returned (.tuple #[.agg MC', .int .i64 0]) ∧ MachV MC' R fl pc (.slice A' 0 c') 3 ∧ Below w.heap.size w w' := by
  have hb0 : Below w.heap.size w (w.alloc (.cells MC 52)) := (Below.refl _ _).alloc (Nat.le_refl _) _
  have hx := heap_alloc_new w (.cells MC 52)
  have HCk := Lib.hid (fun w1 => check_any h w1)
  rw [show chkM 0 (R 0) 0 = 0 by unfold chkM; rw [if_neg (by omega), if_neg (by omega)]] at HCk
  have hs := h.size
  have hmac := h.mac hx
  go_enter Tryd.func30, Tryd.ntmps30
  go_upto_region 1 with fail
  have hy : ((w.alloc (.cells MC 52)).alloc (.cells zeroMC 52)).heap[w.heap.size + 1]? = some (.cells zeroMC 52 (0, 0)) := by
    have q := heap_alloc_new (w.alloc (.cells MC 52)) (.cells zeroMC 52)
    rw [show (w.alloc (.cells MC 52)).heap.size = w.heap.size + 1 from Array.size_push ..] at q
    exact q
  have hba : Below (w.alloc (.cells MC 52)).heap.size (w.alloc (.cells MC 52)) ((w.alloc (.cells MC 52)).alloc (.cells zeroMC 52)) := (Below.refl _ _).alloc (Nat.le_refl _) _
  replace hx := (hba.block _ (lt_of_block hx)).trans hx
  have hbb : Below w.heap.size w ((w.alloc (.cells MC 52)).alloc (.cells zeroMC 52)) := hb0.trans (hba.mono hb0.size)
  generalize World.alloc (World.alloc w _) _ = W at hx hy hbb ⊢
  clear hb0 hba hmac
  obtain ⟨X, hX⟩ : ∃ X, X = w.heap.size := ⟨_, rfl⟩
  rw [← hX] at hx hy ⊢
  have HW := Lib.hid hbb
  have HXe := Lib.hid hX
  have HL0 := Lib.hid hL
  have HH := Lib.hid h
  clear hbb hX
  go_wp2_with (refine wpList_load_row rfl _ _ rfl X rfl 52 MC (0, 0) _ hx Tryd.underlying52 rfl (by rw [hs]; kernel_rfl) ?_)
  refine (HCk.out _).mono ?_
  rintro e w3 ⟨rfl, hb3⟩
  replace hx := (hb3.block _ (lt_of_block hx)).trans hx
  replace hy := (hb3.block _ (lt_of_block hy)).trans hy
  replace HW := Lib.hid (HW.out.trans (hb3.mono HW.out.size))
  clear hb3 hL h
  obtain ⟨-, -, -, c34, -⟩ := (HH.out.mac hx).cells
  go_wp2_with fail
  have hcl : ∀ w0, Calls Tryd.prog 57 #[.slice A 0 c] w0 fun e w' => ∃ A' c', e = .returned (.slice A' 0 c') ∧ Below w0.heap.size w0 w' := by
    intro w0
    rcases A with _ | ad
    · rw [hA rfl]
      exact clone_nil w0
    · exact clone_empty w0 ad c
  refine (hcl _).mono ?_
  clear hcl
  rintro e w4 ⟨A', c', rfl, hb4⟩
  replace hx := (hb4.block _ (lt_of_block hx)).trans hx
  replace hy := (hb4.block _ (lt_of_block hy)).trans hy
  have hmac := HH.out.mac hx
  replace HW := Lib.hid (HW.out.trans (hb4.mono HW.out.size))
  obtain ⟨-, -, -, c34, -⟩ := hmac.cells
  have f34 := hmac.free 34
  have h5 := hmac.setMem (.slice A' 0 c')
  have hy5 := (heap_setCell_other w4 ⟨X, 34, none⟩ (X + 1) (.slice A' 0 c') (show X + 1 ≠ X by omega)).trans hy
  have hW5 : Below w.heap.size w (w4.setCell ⟨X, 34, none⟩ (.slice A' 0 c')) := HW.out.setCell (show w.heap.size ≤ X by rw [HXe.out]; exact Nat.le_refl _) _
  have HF := Lib.hid (And.intro h5 (And.intro hy5 hW5))
  clear hx hy hmac hb4 h5 hy5 hW5
  go_wp2_with fail
  clear c34 f34 HW HH HCk
  generalize World.setCell w4 _ _ = W5 at HF ⊢
  refine (newOps_any W5 (HL0.out.below HF.out.2.2)).mono ?_
  rintro e w6 ⟨K, rfl, hK, -, hb6⟩
  go_wp2_with fail
  obtain ⟨h5, hy5, hW5⟩ := HF.out
  have hmch := h5.below hb6
  have hy6 := (hb6.block _ (lt_of_block hy5)).trans hy5
  have hW6 := hW5.trans (hb6.mono hW5.size)
  refine (step_far hmch hpc (by decide) (by omega) K).mono ?_
  rintro e w7 ⟨rfl, hm7, hk7⟩
  have hy7 := (hk7.block _ (lt_of_block hy6) (show X + 1 ≠ X by omega)).trans hy6
  have hW7 := hW6.trans (hk7.below (show w.heap.size ≤ X by rw [HXe.out]; exact Nat.le_refl _) hW6.size)
  have HE := Lib.hid hW7
  obtain ⟨MC7, hx7, hs7, hr7⟩ := hm7.ex
  have hV7 : MachV MC7 R fl pc (.slice A' 0 c') 3 := ⟨hs7, hr7.1, hr7.2.1, hr7.2.2.1, hr7.2.2.2.1, hr7.2.2.2.2⟩
  have hone := one_mach hV7
  have HV7 := Lib.hid hV7
  clear hmch hy6 hW6 hm7 hk7 hW7 h5 hy5 hW5 hb6 hK HF hr7 hV7
  go_wp2_with (first | (refine wpList_load_row rfl _ _ rfl X rfl 52 MC7 (0, 0) _ hx7 Tryd.underlying52 rfl (by rw [hs7]; kernel_rfl) ?_) | (refine wpList_store_row rfl _ _ _ rfl (X + 1) MC7 rfl rfl 52 _ hy7 (by rw [hs7]; kernel_rfl) (by rw [hs7]; rfl) hone ?_))
  have rr := setRow_heap _ (X + 1) _ MC7 52 (0, 0) hy7
  refine bodyPost_ret (res2c rfl _ _ (X + 1) MC7 rfl (loadMc _ (X + 1) MC7 hs7 rr)) rfl ⟨MC7, A', c', rfl, HV7.out, bel_setRow HE.out (show w.heap.size ≤ X + 1 by rw [HXe.out]; exact Nat.le_succ _) MC7⟩
end
end Go.Proofs.YthkaclmnbahieaaDoor
