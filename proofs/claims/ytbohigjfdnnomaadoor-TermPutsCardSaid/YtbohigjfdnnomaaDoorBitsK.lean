/-
  The law's own function known returns true wherever the table of masks is laid.
-/
import Derived.Test.YtbohigjfdnnomaaDoorBitsL
namespace Go.Proofs.YtbohigjfdnnomaaDoor
open Go.RowKit

theorem row1 : OpRow 1 88 89 90 91 := fun _ => by kernel_rfl
theorem row6 : OpRow 6 103 104 105 106 := fun _ => by kernel_rfl
theorem en_always : Enters 88 := fun _ _ => by kernel_rfl
theorem en_add : Enters 89 := fun _ _ => by kernel_rfl
theorem en_dividesSigned : Enters 103 := fun _ _ => by kernel_rfl
theorem en_sdivLacks : Enters 105 := fun _ _ => by kernel_rfl
theorem always_any (n a b : Nat) : OpFn 88 n a b (.bool true) := fun w _ => by
  go_enter Tryd.func88, Tryd.ntmps88
  go_wp2
  go_ret
  exact ⟨rfl, rfl⟩
theorem add_any (n a b : Nat) (h2 : n ≤ 32) : OpFn 89 n a b (.int .u32 (wr n (a + b))) := fun w hM => by
  have hc := hM n h2
  go_enter Tryd.func89, Tryd.ntmps89
  go_wp2
  go_ret
  exact ⟨ret_i (wrap_eq n _ h2), rfl⟩
theorem dividesSigned_8_15 : OpFn 103 4 8 15 (.bool false) := fun w hM => by
  have hc : w.cell? ⟨0, 4, none⟩ = some (.int .u32 15) := hM 4 (by omega)
  go_enter Tryd.func103, Tryd.ntmps103
  go_wp2
  go_ret
  exact ⟨rfl, rfl⟩
theorem sdivLacks_8_15 : OpFn 105 4 8 15 (.int .u32 8) := fun w hM => by
  go_enter Tryd.func105, Tryd.ntmps105
  go_wp2
  go_ret
  exact ⟨rfl, rfl⟩
end Go.Proofs.YtbohigjfdnnomaaDoor
