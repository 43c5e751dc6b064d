/-
  The law's own function known returns true wherever the table of masks is laid.
-/
import Derived.Test.YtbohigjfdnnomaaGreatDoorBitsL
namespace Go.Proofs.YtbohigjfdnnomaaGreatDoor
open Go.RowKit

theorem row1 : OpRow 1 104 105 106 107 := fun _ => by kernel_rfl
theorem row6 : OpRow 6 119 120 121 122 := fun _ => by kernel_rfl
theorem en_always : Enters 104 := fun _ _ => by kernel_rfl
theorem en_add : Enters 105 := fun _ _ => by kernel_rfl
theorem en_dividesSigned : Enters 119 := fun _ _ => by kernel_rfl
theorem en_sdivLacks : Enters 121 := fun _ _ => by kernel_rfl
theorem always_any (n a b : Nat) : OpFn 104 n a b (.bool true) := fun w _ => by
  go_enter Tryz.func104, Tryz.ntmps104
  go_wp2
  go_ret
  exact ⟨rfl, rfl⟩
theorem add_any (n a b : Nat) (h2 : n ≤ 32) : OpFn 105 n a b (.int .u32 (wr n (a + b))) := fun w hM => by
  have hc := hM n h2
  go_enter Tryz.func105, Tryz.ntmps105
  go_wp2
  go_ret
  exact ⟨ret_i (wrap_eq n _ h2), rfl⟩
theorem dividesSigned_8_15 : OpFn 119 4 8 15 (.bool false) := fun w hM => by
  have hc : w.cell? ⟨1, 4, none⟩ = some (.int .u32 15) := hM 4 (by omega)
  go_enter Tryz.func119, Tryz.ntmps119
  go_wp2
  go_ret
  exact ⟨rfl, rfl⟩
theorem sdivLacks_8_15 : OpFn 121 4 8 15 (.int .u32 8) := fun w hM => by
  go_enter Tryz.func121, Tryz.ntmps121
  go_wp2
  go_ret
  exact ⟨rfl, rfl⟩
end Go.Proofs.YtbohigjfdnnomaaGreatDoor
