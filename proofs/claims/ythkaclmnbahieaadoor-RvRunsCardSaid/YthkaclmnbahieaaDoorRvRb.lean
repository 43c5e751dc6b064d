/-
  Run of the program.
-/
import Derived.Test.YthkaclmnbahieaaDoorRvRa
namespace Go.Proofs.YthkaclmnbahieaaDoor
open Go.RowKit

theorem res3c {fn : Func} {p u v : Tmp} {ty : TypeId} {P : Program} (h : fn.results = #[.cell p ty, .tmp u, .tmp v]) (tmps : Array Value) (w : World) (g : Nat) (cs : Array Value)
    (hp : tmps.getD p undef = .pointer (some ⟨g, 0, none⟩)) (hl : (loadVar ty ⟨g, 0, none⟩).run P w = .ok (.agg cs) w) :
    (results fn tmps).run P w = .ok (.tuple #[.agg cs, tmps.getD u undef, tmps.getD v undef]) w := by
  have hp' : tmps[p]?.getD undef = .pointer (some ⟨g, 0, none⟩) := by simpa using hp
  simp [results, h, hp', asAddr, Result.andThen, hl]
section
variable {w : World} {MC : Array Value} {R : Nat → Nat} {fl : Int} {pc n c : Nat} {fin : Int} {A : Option Addr} {l : List Int}
/-- What check says. -/
def chkE (n r : Nat) (fin : Int) : Nat := if 32768 < n ∨ r ≠ 0 then 1 else if fin ≠ 0 then 9 else 0
theorem check_res (h : MachI MC R fl pc (.slice A n c) fin) (w : World) : Calls Tryd.prog 56 #[.agg MC] w fun e w' => e = .returned (.int .i64 (chkE n (R 0) fin : Nat)) ∧ Below w.heap.size w w' := by
  by_cases hf : fin = 0
  · subst hf
    have e : chkE n (R 0) 0 = chkM n (R 0) 0 := rfl
    rw [e]
    exact check_any h.zero w
  · have e : chkE n (R 0) fin = endM n (R 0) := by
      unfold chkE endM
      rw [if_pos hf]
    rw [e]
    exact check_end h hf w
set_option maxRecDepth 100000 in
set_option maxHeartbeats 2000000 in
theorem Run_arg (h : MachI MC R fl pc (.slice A n c) fin) (most : Int) (E : Nat) (hE : chkE n (R 0) fin = E) (hbad : E = 1 ∨ most < 0 ∨ 200000 < most) :
    Calls Tryd.prog 33 #[.agg MC, .int .i64 most] w fun e w' => e = .returned (.tuple #[.agg zeroMC, .int .i64 0, .int .i64 1]) ∧ Below w.heap.size w w' := by
  have hc := fun w1 => check_res h w1
  rw [hE] at hc
  clear hE
  have hb0 : Below w.heap.size w (w.alloc (.cells MC 52)) := (Below.refl _ _).alloc (Nat.le_refl _) _
  have hx := heap_alloc_new w (.cells MC 52)
  have HCk := Lib.hid (fun w1 => hc w1)
  have hs := h.size
  clear hc
  have HH := Lib.hid h
  go_enter Tryd.func33, Tryd.ntmps33
  go_upto_region 1 with fail
  have hy : ((w.alloc (.cells MC 52)).alloc (.cells zeroMC 52)).heap[w.heap.size + 1]? = some (.cells zeroMC 52 (0, 0)) := by
    have q := heap_alloc_new (w.alloc (.cells MC 52)) (.cells zeroMC 52)
    rw [show (w.alloc (.cells MC 52)).heap.size = w.heap.size + 1 from Array.size_push ..] at q
    exact q
  have hba : Below (w.alloc (.cells MC 52)).heap.size (w.alloc (.cells MC 52)) ((w.alloc (.cells MC 52)).alloc (.cells zeroMC 52)) := (Below.refl _ _).alloc (Nat.le_refl _) _
  replace hx := (hba.block _ (lt_of_block hx)).trans hx
  have hbb : Below w.heap.size w ((w.alloc (.cells MC 52)).alloc (.cells zeroMC 52)) := hb0.trans (hba.mono hb0.size)
  generalize World.alloc (World.alloc w _) _ = W at hx hy hbb ⊢
  clear hb0 hba h
  obtain ⟨X, hX⟩ : ∃ X, X = w.heap.size := ⟨_, rfl⟩
  rw [← hX] at hx hy ⊢
  have HW := Lib.hid hbb
  have HXe := Lib.hid hX
  clear hbb hX
  go_wp2_with (refine wpList_load_row rfl _ _ rfl X rfl 52 MC (0, 0) _ hx Tryd.underlying52 rfl (infoMs hs) ?_)
  refine (HCk.out _).mono ?_
  rintro e w3 ⟨rfl, hb3⟩
  replace hx := (hb3.block _ (lt_of_block hx)).trans hx
  replace hy := (hb3.block _ (lt_of_block hy)).trans hy
  replace HW := Lib.hid (HW.out.trans (hb3.mono HW.out.size))
  clear hb3
  clear hx
  by_cases h1 : E = 1
  · subst h1
    rw [show ((1 : Nat) : Int) = 1 from rfl]
    go_wp2_with (refine wpList_store_row rfl _ _ _ rfl (X + 1) zeroMC rfl rfl 52 _ hy size_zero rfl one_zero ?_)
    have rr := setRow_heap _ (X + 1) _ zeroMC 52 (0, 0) hy
    refine bodyPost_ret (res3c rfl _ _ (X + 1) zeroMC rfl (loadMc _ (X + 1) zeroMC rfl rr)) rfl ⟨rfl, bel_setRow HW.out (show w.heap.size ≤ X + 1 by rw [HXe.out]; exact Nat.le_succ _) zeroMC⟩
  · have d1 : ((E : Int) == 1) = false := beq_eq_false_iff_ne.mpr (by omega)
    by_cases h2 : most < 0
    · go_wp2_with (refine wpList_store_row rfl _ _ _ rfl (X + 1) zeroMC rfl rfl 52 _ hy size_zero rfl one_zero ?_)
      have rr := setRow_heap _ (X + 1) _ zeroMC 52 (0, 0) hy
      refine bodyPost_ret (res3c rfl _ _ (X + 1) zeroMC rfl (loadMc _ (X + 1) zeroMC rfl rr)) rfl ⟨rfl, bel_setRow HW.out (show w.heap.size ≤ X + 1 by rw [HXe.out]; exact Nat.le_succ _) zeroMC⟩
    · have h3 : 200000 < most := by omega
      go_wp2_with (refine wpList_store_row rfl _ _ _ rfl (X + 1) zeroMC rfl rfl 52 _ hy size_zero rfl one_zero ?_)
      have rr := setRow_heap _ (X + 1) _ zeroMC 52 (0, 0) hy
      refine bodyPost_ret (res3c rfl _ _ (X + 1) zeroMC rfl (loadMc _ (X + 1) zeroMC rfl rr)) rfl ⟨rfl, bel_setRow HW.out (show w.heap.size ≤ X + 1 by rw [HXe.out]; exact Nat.le_succ _) zeroMC⟩
set_option maxRecDepth 100000 in
set_option maxHeartbeats 2000000 in
theorem Run_end (h : MachI MC R fl pc (.slice A n c) fin) (most : Int) (hE : chkE n (R 0) fin = 9) (hm : 0 ≤ most ∧ most ≤ 200000) :
    Calls Tryd.prog 33 #[.agg MC, .int .i64 most] w fun e w' => e = .returned (.tuple #[.agg zeroMC, .int .i64 0, .int .i64 9]) ∧ Below w.heap.size w w' := by
  have hc := fun w1 => check_res h w1
  rw [hE] at hc
  obtain ⟨hm1, hm2⟩ := hm
  clear hE
  have hb0 : Below w.heap.size w (w.alloc (.cells MC 52)) := (Below.refl _ _).alloc (Nat.le_refl _) _
  have hx := heap_alloc_new w (.cells MC 52)
  have HCk := Lib.hid (fun w1 => hc w1)
  have hs := h.size
  clear hc
  have HH := Lib.hid h
  go_enter Tryd.func33, Tryd.ntmps33
  go_upto_region 1 with fail
  have hy : ((w.alloc (.cells MC 52)).alloc (.cells zeroMC 52)).heap[w.heap.size + 1]? = some (.cells zeroMC 52 (0, 0)) := by
    have q := heap_alloc_new (w.alloc (.cells MC 52)) (.cells zeroMC 52)
    rw [show (w.alloc (.cells MC 52)).heap.size = w.heap.size + 1 from Array.size_push ..] at q
    exact q
  have hba : Below (w.alloc (.cells MC 52)).heap.size (w.alloc (.cells MC 52)) ((w.alloc (.cells MC 52)).alloc (.cells zeroMC 52)) := (Below.refl _ _).alloc (Nat.le_refl _) _
  replace hx := (hba.block _ (lt_of_block hx)).trans hx
  have hbb : Below w.heap.size w ((w.alloc (.cells MC 52)).alloc (.cells zeroMC 52)) := hb0.trans (hba.mono hb0.size)
  generalize World.alloc (World.alloc w _) _ = W at hx hy hbb ⊢
  clear hb0 hba h
  obtain ⟨X, hX⟩ : ∃ X, X = w.heap.size := ⟨_, rfl⟩
  rw [← hX] at hx hy ⊢
  have HW := Lib.hid hbb
  have HXe := Lib.hid hX
  clear hbb hX
  go_wp2_with (refine wpList_load_row rfl _ _ rfl X rfl 52 MC (0, 0) _ hx Tryd.underlying52 rfl (infoMs hs) ?_)
  refine (HCk.out _).mono ?_
  rintro e w3 ⟨rfl, hb3⟩
  replace hx := (hb3.block _ (lt_of_block hx)).trans hx
  replace hy := (hb3.block _ (lt_of_block hy)).trans hy
  replace HW := Lib.hid (HW.out.trans (hb3.mono HW.out.size))
  clear hb3
  clear hx
  rw [show ((9 : Nat) : Int) = 9 from rfl]
  go_wp2_with (refine wpList_store_row rfl _ _ _ rfl (X + 1) zeroMC rfl rfl 52 _ hy size_zero rfl one_zero ?_)
  have rr := setRow_heap _ (X + 1) _ zeroMC 52 (0, 0) hy
  refine bodyPost_ret (res3c rfl _ _ (X + 1) zeroMC rfl (loadMc _ (X + 1) zeroMC rfl rr)) rfl ⟨rfl, bel_setRow HW.out (show w.heap.size ≤ X + 1 by rw [HXe.out]; exact Nat.le_succ _) zeroMC⟩

end
end Go.Proofs.YthkaclmnbahieaaDoor
