/-
  The order of one place.
-/
import Derived.Test.YtdpfglpefncigaaTrMa
namespace Go.Proofs.Ytdpfglpefncigaa
open Go.RowKit

set_option maxRecDepth 100000 in
theorem pdq_one (V F : Value) (k : Int) (w : World) : Calls Try.prog 63 #[V, .int .i64 0, .int .i64 1, .int .i64 k, F] w fun e w' => e = .returned (.tuple #[]) ∧ Below w.heap.size w w' := by
  go_enter Try.func63, Try.ntmps63
  go_wp2_with fail
  go_loopw [1, 2] (fun z y wr => z = .int .i64 0 ∧ y = .int .i64 1 ∧ wr = w) (fun _ _ _ => 0)
  case atStart => exact ⟨rfl, rfl, rfl⟩
  case round =>
    obtain ⟨rfl, rfl, rfl⟩ := hrel
    go_wp2_with fail
    refine (insertion_one V F _).mono ?_
    rintro e w1 ⟨rfl, rfl⟩
    go_wp2
    refine bodyPost_ret (results_none rfl _ _ _) rfl ?_
    exact ⟨rfl, Below.refl _ _⟩
theorem len64_one (w : World) : Calls Try.prog 75 #[.int .u64 1] w fun e w' => e = .returned (.int .i64 1) ∧ w' = w := by
  go_enter Try.func75, Try.ntmps75
  go_wp2
  go_ret
  exact ⟨ret_i (by first | rfl | decide | kernel_rfl), rfl⟩
theorem len_one (w : World) : Calls Try.prog 64 #[.int .u64 1] w fun e w' => e = .returned (.int .i64 1) ∧ w' = w := by
  go_enter Try.func64, Try.ntmps64
  go_wp2_with fail
  refine (len64_one _).mono ?_
  rintro e w1 ⟨rfl, rfl⟩
  go_wp2
  go_ret
  exact ⟨rfl, rfl⟩
theorem sort_one (A : Option Addr) (c : Nat) (F : Value) (w : World) : Calls Try.prog 53 #[.slice A 1 c, F] w fun e w' => e = .returned (.tuple #[]) ∧ Below w.heap.size w w' := by
  go_enter Try.func53, Try.ntmps53
  go_wp2_with fail
  refine (len_one _).mono ?_
  rintro e w1 ⟨rfl, rfl⟩
  go_wp2_with fail
  refine (pdq_one _ F 1 _).mono ?_
  rintro e w2 ⟨rfl, hb⟩
  go_wp2
  refine bodyPost_end (results_none rfl _ _ _) rfl ?_
  exact ⟨rfl, hb⟩
end Go.Proofs.Ytdpfglpefncigaa
