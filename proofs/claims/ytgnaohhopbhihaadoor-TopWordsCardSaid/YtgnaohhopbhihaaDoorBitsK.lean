/-
  The law's own function known returns true wherever the table of masks is laid.
-/
import Derived.Test.YtgnaohhopbhihaaDoorBitsL
namespace Go.Proofs.YtgnaohhopbhihaaDoor
open Go.RowKit

theorem row1 : OpRow 1 95 96 97 98 := fun _ => by kernel_rfl
theorem row6 : OpRow 6 110 111 112 113 := fun _ => by kernel_rfl
theorem en_always : Enters 95 := fun _ _ => by kernel_rfl
theorem en_add : Enters 96 := fun _ _ => by kernel_rfl
theorem en_dividesSigned : Enters 110 := fun _ _ => by kernel_rfl
theorem en_sdivLacks : Enters 112 := fun _ _ => by kernel_rfl
theorem always_any (n a b : Nat) : OpFn 95 n a b (.bool true) := fun w _ => by
  go_enter Tryd.func95, Tryd.ntmps95
  go_wp2
  go_ret
  exact ⟨rfl, rfl⟩
theorem add_any (n a b : Nat) (h2 : n ≤ 32) : OpFn 96 n a b (.int .u32 (wr n (a + b))) := fun w hM => by
  have hc := hM n h2
  go_enter Tryd.func96, Tryd.ntmps96
  go_wp2
  go_ret
  exact ⟨ret_i (wrap_eq n _ h2), rfl⟩
theorem dividesSigned_8_15 : OpFn 110 4 8 15 (.bool false) := fun w hM => by
  have hc : w.cell? ⟨0, 4, none⟩ = some (.int .u32 15) := hM 4 (by omega)
  go_enter Tryd.func110, Tryd.ntmps110
  go_wp2
  go_ret
  exact ⟨rfl, rfl⟩
theorem sdivLacks_8_15 : OpFn 112 4 8 15 (.int .u32 8) := fun w hM => by
  go_enter Tryd.func112, Tryd.ntmps112
  go_wp2
  go_ret
  exact ⟨rfl, rfl⟩
end Go.Proofs.YtgnaohhopbhihaaDoor
