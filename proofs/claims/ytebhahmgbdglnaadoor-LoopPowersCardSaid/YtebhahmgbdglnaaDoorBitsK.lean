/-
  The law's own function known returns true wherever the table of masks is laid.
-/
import Derived.Test.YtebhahmgbdglnaaDoorBitsL
namespace Go.Proofs.YtebhahmgbdglnaaDoor
open Go.RowKit

theorem row1 : OpRow 1 79 80 81 82 := fun _ => by kernel_rfl
theorem row6 : OpRow 6 94 95 96 97 := fun _ => by kernel_rfl
theorem en_always : Enters 79 := fun _ _ => by kernel_rfl
theorem en_add : Enters 80 := fun _ _ => by kernel_rfl
theorem en_dividesSigned : Enters 94 := fun _ _ => by kernel_rfl
theorem en_sdivLacks : Enters 96 := fun _ _ => by kernel_rfl
theorem always_any (n a b : Nat) : OpFn 79 n a b (.bool true) := fun w _ => by
  go_enter Tryd.func79, Tryd.ntmps79
  go_wp2
  go_ret
  exact ⟨rfl, rfl⟩
theorem add_any (n a b : Nat) (h2 : n ≤ 32) : OpFn 80 n a b (.int .u32 (wr n (a + b))) := fun w hM => by
  have hc := hM n h2
  go_enter Tryd.func80, Tryd.ntmps80
  go_wp2
  go_ret
  exact ⟨ret_i (wrap_eq n _ h2), rfl⟩
theorem dividesSigned_8_15 : OpFn 94 4 8 15 (.bool false) := fun w hM => by
  have hc : w.cell? ⟨0, 4, none⟩ = some (.int .u32 15) := hM 4 (by omega)
  go_enter Tryd.func94, Tryd.ntmps94
  go_wp2
  go_ret
  exact ⟨rfl, rfl⟩
theorem sdivLacks_8_15 : OpFn 96 4 8 15 (.int .u32 8) := fun w hM => by
  go_enter Tryd.func96, Tryd.ntmps96
  go_wp2
  go_ret
  exact ⟨rfl, rfl⟩
theorem known_any (w : World) (hM : Masks w) : Calls Tryd.prog 21 #[] w fun e w' => e = .returned (.bool true) ∧ Below w.heap.size w w' := by
  go_enter Tryd.func21, Tryd.ntmps21
  go_wp2_with fail
  refine (do_yes 1 4 9 9 _ _ _ _ 2 _ hM (by omega) (by omega) (by decide) (by decide) (by omega) (by omega) row1 en_always en_add (always_any 4 9 9) (add_any 4 9 9 (by omega))).mono ?_
  rintro e w1 ⟨rfl, hb1⟩
  have hM1 := hM.below hb1 (Nat.le_refl _)
  go_wp2_with fail
  refine (total_none 6 4 8 15 _ _ _ _ 8 _ hM1 (by omega) (by omega) (by decide) (by decide) (by omega) (by omega) row6 en_dividesSigned en_sdivLacks dividesSigned_8_15 sdivLacks_8_15).mono ?_
  rintro e w2 ⟨rfl, hb2⟩
  have hM2 := hM1.below hb2 (Nat.le_refl _)
  go_wp2_with fail
  refine (lanes_add 8 4 2 31 1 _ hM2 (by omega) (by omega) (by decide) (by decide) (by omega) (by omega) (by omega)).mono ?_
  rintro e w3 ⟨rfl, m, rfl⟩
  have hl : ((lanesF false 4 31 1 2 : Nat) : Int) = 16 := by decide
  go_wp2
  go_ret
  have := hb1.size
  exact ⟨rfl, below_drewN (hb1.trans (hb2.mono (by omega))) m⟩
end Go.Proofs.YtebhahmgbdglnaaDoor
