/-
  Validate and Encode of the reference.
-/
import Derived.Test.YtpekegeohcnhcaaIaYb
import Derived.Test.YtpekegeohcnhcaaIaI
namespace Go.Proofs.Ytpekegeohcnhcaa
open Go.RowKit

set_option maxRecDepth 100000 in
set_option maxHeartbeats 2000000 in
theorem rValidate_any (x : Ins) (h1 : -9223372036854775808 ≤ x.imm) (h2 : x.imm ≤ 9223372036854775807) (w : World) : Calls Try.prog 16 #[aggI x] w fun e w' => e = .returned (.int .i64 (errI x)) ∧ Below w.heap.size w w' := by
  have HE := Lib.hid (fun w1 => rEncode_any x w1 h1 h2)
  unfold errI
  generalize valB x = B at HE ⊢
  generalize encF x = L at HE
  obtain ⟨op, d, s, sz, imm⟩ := x
  clear h1 h2
  go_enter Try.func16, Try.ntmps16
  go_wp2_with fail
  have hb : Below w.heap.size w (w.alloc (.cells #[.int .i64 op, .int .i64 d, .int .i64 s, .int .i64 sz, .int .i64 imm] 23)) := (Below.refl _ _).alloc (Nat.le_refl _) _
  generalize World.alloc w _ = W at hb ⊢
  refine (HE.out _).mono ?_
  rintro e w2 ⟨V, rfl, ho, hw⟩
  replace hb := hb.trans (hw.mono hb.size)
  clear ho hw
  cases B
  · go_wp2
    go_ret
    exact ⟨rfl, hb⟩
  · go_wp2
    go_ret
    exact ⟨rfl, hb⟩
set_option maxRecDepth 100000 in
set_option maxHeartbeats 2000000 in
theorem rEncodeE_any (x : Ins) (h1 : -9223372036854775808 ≤ x.imm) (h2 : x.imm ≤ 9223372036854775807) (w : World) : Calls Try.prog 10 #[aggI x] w fun e w' => ∃ V, e = .returned (.tuple #[V, .int .i64 (errI x)]) ∧ w'.ownsRow w.heap.size 5 1 V (bytI x).length (byV (bytI x)) ∧ Below w.heap.size w w' := by
  have HE := Lib.hid (fun w1 => rEncode_any x w1 h1 h2)
  unfold errI bytI
  generalize valB x = B at HE ⊢
  generalize encF x = L at HE ⊢
  obtain ⟨op, d, s, sz, imm⟩ := x
  clear h1 h2
  go_enter Try.func10, Try.ntmps10
  go_wp2_with fail
  have hb : Below w.heap.size w (w.alloc (.cells #[.int .i64 op, .int .i64 d, .int .i64 s, .int .i64 sz, .int .i64 imm] 23)) := (Below.refl _ _).alloc (Nat.le_refl _) _
  generalize World.alloc w _ = W at hb ⊢
  refine (HE.out _).mono ?_
  rintro e w2 ⟨V, rfl, ho, hw⟩
  have HO := Lib.hid (fun h => own_lower (ho h) hb.size)
  replace hb := hb.trans (hw.mono hb.size)
  clear ho hw
  cases B
  · go_wp2
    refine bodyPost_ret (res2 rfl _ _) rfl ?_
    exact ⟨_, rfl, World.ownsRow_nil _ _ _ _, hb⟩
  · go_wp2
    refine bodyPost_ret (res2 rfl _ _) rfl ?_
    exact ⟨_, rfl, HO.out (by simp), hb⟩
end Go.Proofs.Ytpekegeohcnhcaa
