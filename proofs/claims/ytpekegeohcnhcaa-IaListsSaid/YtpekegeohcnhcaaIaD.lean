/-
  How instructions are written: the functions of the table.
-/
import Derived.Test.YtpekegeohcnhcaaIaC
import Derived.Laws.EntriesVeiled
import Derived.Deep.AppendLies
namespace Go.Proofs.Ytpekegeohcnhcaa
open Go.RowKit

abbrev fv (i : Nat) : Value := .func (.func i) #[] #[]
abbrev fmC (r : Rw) (ff wf : Nat) : Array Value := #[.int .i64 r.o, .int .i64 r.n, .int .i64 r.z, fv ff, fv wf]
abbrev inC (x : Ins) : Array Value := #[.int .i64 x.op, .int .i64 x.d, .int .i64 x.s, .int .i64 x.sz, .int .i64 x.imm]
theorem drewR {B : Nat} {w w' : World} (h : Below B w w') : Below B w w'.drew := ⟨h.os, h.tape, h.output, h.size, h.block⟩
theorem undrew {B : Nat} {w w' : World} (h : Below B w.drew w') : Below B w w' := ⟨h.os, h.tape, h.output, h.size, h.block⟩
theorem u8_in {n : Int} (h1 : 0 ≤ n) (h2 : n < 256) : IntKind.u8.wrap n = n := by
  rw [IntKind.wrap_u8]
  omega
set_option maxRecDepth 100000 in
set_option maxHeartbeats 4000000 in
theorem wr0_any (o n z : Int) (ff wf : Nat) (op d s sz imm : Int) (w : World) (ho : 0 ≤ o ∧ o < 256) : Calls Try.prog 58 #[.agg (fmC ⟨o, n, z, 0, 0⟩ ff wf), aggI ⟨op, d, s, sz, imm⟩] w fun e w' => ∃ v, e = .returned v ∧ w'.ownsRow w.heap.size 5 1 v (wrB 0 o n ⟨op, d, s, sz, imm⟩).length (byV (wrB 0 o n ⟨op, d, s, sz, imm⟩)) ∧ Below w.heap.size w w' := by
  obtain ⟨i0, hi, hz0, hz1, hz2⟩ := info_parts infoBy
  go_enter Try.func58, Try.ntmps58
  go_wp2_with fail
  have hf0 := heap_alloc_new w (.cells #[.int .i64 o, .int .i64 n, .int .i64 z, fv ff, fv wf] 59)
  have hf := (heap_alloc_old (w.alloc (.cells #[.int .i64 o, .int .i64 n, .int .i64 z, fv ff, fv wf] 59)) (.cells #[.int .i64 op, .int .i64 d, .int .i64 s, .int .i64 sz, .int .i64 imm] 23) (lt_of_block hf0)).trans hf0
  have hx := heap_alloc_new (w.alloc (.cells #[.int .i64 o, .int .i64 n, .int .i64 z, fv ff, fv wf] 59)) (.cells #[.int .i64 op, .int .i64 d, .int .i64 s, .int .i64 sz, .int .i64 imm] 23)
  rw [show (w.alloc (.cells #[.int .i64 o, .int .i64 n, .int .i64 z, fv ff, fv wf] 59)).heap.size = w.heap.size + 1 by simp] at hx
  have hb : Below w.heap.size w ((w.alloc (.cells #[.int .i64 o, .int .i64 n, .int .i64 z, fv ff, fv wf] 59)).alloc (.cells #[.int .i64 op, .int .i64 d, .int .i64 s, .int .i64 sz, .int .i64 imm] 23)) := ((Below.refl _ _).alloc (Nat.le_refl _) _).alloc (by simp) _
  have hWS : ((w.alloc (.cells #[.int .i64 o, .int .i64 n, .int .i64 z, fv ff, fv wf] 59)).alloc (.cells #[.int .i64 op, .int .i64 d, .int .i64 s, .int .i64 sz, .int .i64 imm] 23)).heap.size = w.heap.size + 1 + 1 := by simp
  generalize hW : ((w.alloc (.cells #[.int .i64 o, .int .i64 n, .int .i64 z, fv ff, fv wf] 59)).alloc (.cells #[.int .i64 op, .int .i64 d, .int .i64 s, .int .i64 sz, .int .i64 imm] 23)) = W at hf hx hb hWS ⊢
  clear hW hf0
  obtain ⟨f0, f1, -, -, -⟩ := cells5 hf
  obtain ⟨-, x1, x2, x3, x4⟩ := cells5 hx
  generalize w.heap.size + 1 = Y at hx x1 x2 x3 x4 hWS ⊢
  have HWS := Lib.hid hWS
  clear hWS
  obtain ⟨X, hX⟩ : ∃ X, X = w.heap.size := ⟨_, rfl⟩
  rw [← hX] at hf f0 f1 hb ⊢
  have lX := lt_of_block hf
  have lY := lt_of_block hx
  have HX := Lib.hid hX
  clear hX hf hx
  obtain ⟨ho1, ho2⟩ := ho
  go_wp2
  go_ret
  exact ⟨_, rfl, own_lit (l := [o]) (by first | exact Nat.le_of_lt lX | (have := HX.out; have := HWS.out; omega)) (by rw [← HWS.out]; exact heap_alloc_new W _) (by simp), by first | exact hb.alloc (Nat.le_of_lt lX) _ | (rw [← HX.out]; exact hb.alloc (Nat.le_of_lt lX) _)⟩
set_option maxRecDepth 100000 in
set_option maxHeartbeats 4000000 in
theorem wr1_any (o n z : Int) (ff wf : Nat) (op d s sz imm : Int) (w : World) (ho : 0 ≤ o ∧ o < 256) : Calls Try.prog 68 #[.agg (fmC ⟨o, n, z, 0, 0⟩ ff wf), aggI ⟨op, d, s, sz, imm⟩] w fun e w' => ∃ v, e = .returned v ∧ w'.ownsRow w.heap.size 5 1 v (wrB 1 o n ⟨op, d, s, sz, imm⟩).length (byV (wrB 1 o n ⟨op, d, s, sz, imm⟩)) ∧ Below w.heap.size w w' := by
  obtain ⟨i0, hi, hz0, hz1, hz2⟩ := info_parts infoBy
  go_enter Try.func68, Try.ntmps68
  go_wp2_with fail
  have hf0 := heap_alloc_new w (.cells #[.int .i64 o, .int .i64 n, .int .i64 z, fv ff, fv wf] 59)
  have hf := (heap_alloc_old (w.alloc (.cells #[.int .i64 o, .int .i64 n, .int .i64 z, fv ff, fv wf] 59)) (.cells #[.int .i64 op, .int .i64 d, .int .i64 s, .int .i64 sz, .int .i64 imm] 23) (lt_of_block hf0)).trans hf0
  have hx := heap_alloc_new (w.alloc (.cells #[.int .i64 o, .int .i64 n, .int .i64 z, fv ff, fv wf] 59)) (.cells #[.int .i64 op, .int .i64 d, .int .i64 s, .int .i64 sz, .int .i64 imm] 23)
  rw [show (w.alloc (.cells #[.int .i64 o, .int .i64 n, .int .i64 z, fv ff, fv wf] 59)).heap.size = w.heap.size + 1 by simp] at hx
  have hb : Below w.heap.size w ((w.alloc (.cells #[.int .i64 o, .int .i64 n, .int .i64 z, fv ff, fv wf] 59)).alloc (.cells #[.int .i64 op, .int .i64 d, .int .i64 s, .int .i64 sz, .int .i64 imm] 23)) := ((Below.refl _ _).alloc (Nat.le_refl _) _).alloc (by simp) _
  have hWS : ((w.alloc (.cells #[.int .i64 o, .int .i64 n, .int .i64 z, fv ff, fv wf] 59)).alloc (.cells #[.int .i64 op, .int .i64 d, .int .i64 s, .int .i64 sz, .int .i64 imm] 23)).heap.size = w.heap.size + 1 + 1 := by simp
  generalize hW : ((w.alloc (.cells #[.int .i64 o, .int .i64 n, .int .i64 z, fv ff, fv wf] 59)).alloc (.cells #[.int .i64 op, .int .i64 d, .int .i64 s, .int .i64 sz, .int .i64 imm] 23)) = W at hf hx hb hWS ⊢
  clear hW hf0
  obtain ⟨f0, f1, -, -, -⟩ := cells5 hf
  obtain ⟨-, x1, x2, x3, x4⟩ := cells5 hx
  generalize w.heap.size + 1 = Y at hx x1 x2 x3 x4 hWS ⊢
  have HWS := Lib.hid hWS
  clear hWS
  obtain ⟨X, hX⟩ : ∃ X, X = w.heap.size := ⟨_, rfl⟩
  rw [← hX] at hf f0 f1 hb ⊢
  have lX := lt_of_block hf
  have lY := lt_of_block hx
  have HX := Lib.hid hX
  clear hX hf hx
  obtain ⟨ho1, ho2⟩ := ho
  go_wp2
  go_ret
  exact ⟨_, rfl, own_lit (l := [15, o]) (by first | exact Nat.le_of_lt lX | (have := HX.out; have := HWS.out; omega)) (by rw [← HWS.out]; exact heap_alloc_new W _) (by simp), by first | exact hb.alloc (Nat.le_of_lt lX) _ | (rw [← HX.out]; exact hb.alloc (Nat.le_of_lt lX) _)⟩
set_option maxRecDepth 100000 in
set_option maxHeartbeats 4000000 in
theorem wr2_any (o n z : Int) (ff wf : Nat) (op d s sz imm : Int) (w : World) (ho : 0 ≤ o ∧ o < 256) (hd : 0 ≤ d ∧ d < 8) (hs : 0 ≤ s ∧ s < 8) : Calls Try.prog 44 #[.agg (fmC ⟨o, n, z, 0, 0⟩ ff wf), aggI ⟨op, d, s, sz, imm⟩] w fun e w' => ∃ v, e = .returned v ∧ w'.ownsRow w.heap.size 5 1 v (wrB 2 o n ⟨op, d, s, sz, imm⟩).length (byV (wrB 2 o n ⟨op, d, s, sz, imm⟩)) ∧ Below w.heap.size w w' := by
  obtain ⟨i0, hi, hz0, hz1, hz2⟩ := info_parts infoBy
  go_enter Try.func44, Try.ntmps44
  go_wp2_with fail
  have hf0 := heap_alloc_new w (.cells #[.int .i64 o, .int .i64 n, .int .i64 z, fv ff, fv wf] 59)
  have hf := (heap_alloc_old (w.alloc (.cells #[.int .i64 o, .int .i64 n, .int .i64 z, fv ff, fv wf] 59)) (.cells #[.int .i64 op, .int .i64 d, .int .i64 s, .int .i64 sz, .int .i64 imm] 23) (lt_of_block hf0)).trans hf0
  have hx := heap_alloc_new (w.alloc (.cells #[.int .i64 o, .int .i64 n, .int .i64 z, fv ff, fv wf] 59)) (.cells #[.int .i64 op, .int .i64 d, .int .i64 s, .int .i64 sz, .int .i64 imm] 23)
  rw [show (w.alloc (.cells #[.int .i64 o, .int .i64 n, .int .i64 z, fv ff, fv wf] 59)).heap.size = w.heap.size + 1 by simp] at hx
  have hb : Below w.heap.size w ((w.alloc (.cells #[.int .i64 o, .int .i64 n, .int .i64 z, fv ff, fv wf] 59)).alloc (.cells #[.int .i64 op, .int .i64 d, .int .i64 s, .int .i64 sz, .int .i64 imm] 23)) := ((Below.refl _ _).alloc (Nat.le_refl _) _).alloc (by simp) _
  have hWS : ((w.alloc (.cells #[.int .i64 o, .int .i64 n, .int .i64 z, fv ff, fv wf] 59)).alloc (.cells #[.int .i64 op, .int .i64 d, .int .i64 s, .int .i64 sz, .int .i64 imm] 23)).heap.size = w.heap.size + 1 + 1 := by simp
  generalize hW : ((w.alloc (.cells #[.int .i64 o, .int .i64 n, .int .i64 z, fv ff, fv wf] 59)).alloc (.cells #[.int .i64 op, .int .i64 d, .int .i64 s, .int .i64 sz, .int .i64 imm] 23)) = W at hf hx hb hWS ⊢
  clear hW hf0
  obtain ⟨f0, f1, -, -, -⟩ := cells5 hf
  obtain ⟨-, x1, x2, x3, x4⟩ := cells5 hx
  generalize w.heap.size + 1 = Y at hx x1 x2 x3 x4 hWS ⊢
  have HWS := Lib.hid hWS
  clear hWS
  obtain ⟨X, hX⟩ : ∃ X, X = w.heap.size := ⟨_, rfl⟩
  rw [← hX] at hf f0 f1 hb ⊢
  have lX := lt_of_block hf
  have lY := lt_of_block hx
  have HX := Lib.hid hX
  clear hX hf hx
  have HS := Lib.hid (show ∀ W', Below W.heap.size W W' → W'.cell? ⟨X, 0, none⟩ = some (.int .i64 o) ∧ W'.cell? ⟨Y, 1, none⟩ = some (.int .i64 d) ∧ W'.cell? ⟨Y, 2, none⟩ = some (.int .i64 s) from fun W' h => ⟨(h.cell (p := ⟨X, 0, none⟩) lX).trans f0, (h.cell (p := ⟨Y, 1, none⟩) lY).trans x1, (h.cell (p := ⟨Y, 2, none⟩) lY).trans x2⟩)
  have hwo : IntKind.u8.wrap o = o := u8_in ho.1 ho.2
  go_region_held3 (fun W' => W'.cell? ⟨X, 0, none⟩ = some (.int .i64 o) ∧ W'.cell? ⟨Y, 1, none⟩ = some (.int .i64 d) ∧ W'.cell? ⟨Y, 2, none⟩ = some (.int .i64 s)) (first | exact HS.out _ (Below.refl _ _) | exact HS.out _ (drewR (Below.refl _ _)) | exact HS.out _ ((Below.refl _ _).alloc (Nat.le_refl _) _) | exact HS.out _ (drewR ((Below.refl _ _).alloc (Nat.le_refl _) _)) | exact HS.out _ (by assumption) | exact HS.out _ (drewR (by assumption)) | exact HS.out _ ((by assumption : Below W.heap.size W _).alloc (by assumption : Below W.heap.size W _).size _) | exact HS.out _ (drewR ((by assumption : Below W.heap.size W _).alloc (by assumption : Below W.heap.size W _).size _))) ((go_at_call 89; ((with_reducible refine (registers_at _ _ _ hs hd).mono ?_); rintro e w' ⟨rfl, rfl⟩)))
  go_wp2
  go_ret
  exact ⟨_, rfl, own_below (own_lit (l := [o, 192 + 8 * s + d]) (by have := HX.out; omega) (heap_alloc_new W _) (by simp)) (drewR (Below.refl _ _)), by rw [← HX.out]; exact drewR (hb.alloc (Nat.le_of_lt lX) _)⟩
set_option maxRecDepth 100000 in
set_option maxHeartbeats 4000000 in
theorem wr3_any (o n z : Int) (ff wf : Nat) (op d s sz imm : Int) (w : World) (ho : 0 ≤ o ∧ o < 256) (hn : 0 ≤ n ∧ n < 8) (hd : 0 ≤ d ∧ d < 8) : Calls Try.prog 56 #[.agg (fmC ⟨o, n, z, 0, 0⟩ ff wf), aggI ⟨op, d, s, sz, imm⟩] w fun e w' => ∃ v, e = .returned v ∧ w'.ownsRow w.heap.size 5 1 v (wrB 3 o n ⟨op, d, s, sz, imm⟩).length (byV (wrB 3 o n ⟨op, d, s, sz, imm⟩)) ∧ Below w.heap.size w w' := by
  obtain ⟨i0, hi, hz0, hz1, hz2⟩ := info_parts infoBy
  go_enter Try.func56, Try.ntmps56
  go_wp2_with fail
  have hf0 := heap_alloc_new w (.cells #[.int .i64 o, .int .i64 n, .int .i64 z, fv ff, fv wf] 59)
  have hf := (heap_alloc_old (w.alloc (.cells #[.int .i64 o, .int .i64 n, .int .i64 z, fv ff, fv wf] 59)) (.cells #[.int .i64 op, .int .i64 d, .int .i64 s, .int .i64 sz, .int .i64 imm] 23) (lt_of_block hf0)).trans hf0
  have hx := heap_alloc_new (w.alloc (.cells #[.int .i64 o, .int .i64 n, .int .i64 z, fv ff, fv wf] 59)) (.cells #[.int .i64 op, .int .i64 d, .int .i64 s, .int .i64 sz, .int .i64 imm] 23)
  rw [show (w.alloc (.cells #[.int .i64 o, .int .i64 n, .int .i64 z, fv ff, fv wf] 59)).heap.size = w.heap.size + 1 by simp] at hx
  have hb : Below w.heap.size w ((w.alloc (.cells #[.int .i64 o, .int .i64 n, .int .i64 z, fv ff, fv wf] 59)).alloc (.cells #[.int .i64 op, .int .i64 d, .int .i64 s, .int .i64 sz, .int .i64 imm] 23)) := ((Below.refl _ _).alloc (Nat.le_refl _) _).alloc (by simp) _
  have hWS : ((w.alloc (.cells #[.int .i64 o, .int .i64 n, .int .i64 z, fv ff, fv wf] 59)).alloc (.cells #[.int .i64 op, .int .i64 d, .int .i64 s, .int .i64 sz, .int .i64 imm] 23)).heap.size = w.heap.size + 1 + 1 := by simp
  generalize hW : ((w.alloc (.cells #[.int .i64 o, .int .i64 n, .int .i64 z, fv ff, fv wf] 59)).alloc (.cells #[.int .i64 op, .int .i64 d, .int .i64 s, .int .i64 sz, .int .i64 imm] 23)) = W at hf hx hb hWS ⊢
  clear hW hf0
  obtain ⟨f0, f1, -, -, -⟩ := cells5 hf
  obtain ⟨-, x1, x2, x3, x4⟩ := cells5 hx
  generalize w.heap.size + 1 = Y at hx x1 x2 x3 x4 hWS ⊢
  have HWS := Lib.hid hWS
  clear hWS
  obtain ⟨X, hX⟩ : ∃ X, X = w.heap.size := ⟨_, rfl⟩
  rw [← hX] at hf f0 f1 hb ⊢
  have lX := lt_of_block hf
  have lY := lt_of_block hx
  have HX := Lib.hid hX
  clear hX hf hx
  have HS := Lib.hid (show ∀ W', Below W.heap.size W W' → W'.cell? ⟨X, 0, none⟩ = some (.int .i64 o) ∧ W'.cell? ⟨X, 1, none⟩ = some (.int .i64 n) ∧ W'.cell? ⟨Y, 1, none⟩ = some (.int .i64 d) from fun W' h => ⟨(h.cell (p := ⟨X, 0, none⟩) lX).trans f0, (h.cell (p := ⟨X, 1, none⟩) lX).trans f1, (h.cell (p := ⟨Y, 1, none⟩) lY).trans x1⟩)
  have hwo : IntKind.u8.wrap o = o := u8_in ho.1 ho.2
  go_region_held3 (fun W' => W'.cell? ⟨X, 0, none⟩ = some (.int .i64 o) ∧ W'.cell? ⟨X, 1, none⟩ = some (.int .i64 n) ∧ W'.cell? ⟨Y, 1, none⟩ = some (.int .i64 d)) (first | exact HS.out _ (Below.refl _ _) | exact HS.out _ (drewR (Below.refl _ _)) | exact HS.out _ ((Below.refl _ _).alloc (Nat.le_refl _) _) | exact HS.out _ (drewR ((Below.refl _ _).alloc (Nat.le_refl _) _)) | exact HS.out _ (by assumption) | exact HS.out _ (drewR (by assumption)) | exact HS.out _ ((by assumption : Below W.heap.size W _).alloc (by assumption : Below W.heap.size W _).size _) | exact HS.out _ (drewR ((by assumption : Below W.heap.size W _).alloc (by assumption : Below W.heap.size W _).size _))) ((go_at_call 89; ((with_reducible refine (registers_at _ _ _ hn hd).mono ?_); rintro e w' ⟨rfl, rfl⟩)))
  go_wp2
  go_ret
  exact ⟨_, rfl, own_below (own_lit (l := [o, 192 + 8 * n + d]) (by have := HX.out; omega) (heap_alloc_new W _) (by simp)) (drewR (Below.refl _ _)), by rw [← HX.out]; exact drewR (hb.alloc (Nat.le_of_lt lX) _)⟩
set_option maxRecDepth 100000 in
set_option maxHeartbeats 4000000 in
theorem wr4_any (o n z : Int) (ff wf : Nat) (op d s sz imm : Int) (w : World) (ho : 0 ≤ o ∧ o < 256) (hd : 0 ≤ d ∧ d < 8) (hs : 0 ≤ s ∧ s < 8) : Calls Try.prog 54 #[.agg (fmC ⟨o, n, z, 0, 0⟩ ff wf), aggI ⟨op, d, s, sz, imm⟩] w fun e w' => ∃ v, e = .returned v ∧ w'.ownsRow w.heap.size 5 1 v (wrB 4 o n ⟨op, d, s, sz, imm⟩).length (byV (wrB 4 o n ⟨op, d, s, sz, imm⟩)) ∧ Below w.heap.size w w' := by
  obtain ⟨i0, hi, hz0, hz1, hz2⟩ := info_parts infoBy
  go_enter Try.func54, Try.ntmps54
  go_wp2_with fail
  have hf0 := heap_alloc_new w (.cells #[.int .i64 o, .int .i64 n, .int .i64 z, fv ff, fv wf] 59)
  have hf := (heap_alloc_old (w.alloc (.cells #[.int .i64 o, .int .i64 n, .int .i64 z, fv ff, fv wf] 59)) (.cells #[.int .i64 op, .int .i64 d, .int .i64 s, .int .i64 sz, .int .i64 imm] 23) (lt_of_block hf0)).trans hf0
  have hx := heap_alloc_new (w.alloc (.cells #[.int .i64 o, .int .i64 n, .int .i64 z, fv ff, fv wf] 59)) (.cells #[.int .i64 op, .int .i64 d, .int .i64 s, .int .i64 sz, .int .i64 imm] 23)
  rw [show (w.alloc (.cells #[.int .i64 o, .int .i64 n, .int .i64 z, fv ff, fv wf] 59)).heap.size = w.heap.size + 1 by simp] at hx
  have hb : Below w.heap.size w ((w.alloc (.cells #[.int .i64 o, .int .i64 n, .int .i64 z, fv ff, fv wf] 59)).alloc (.cells #[.int .i64 op, .int .i64 d, .int .i64 s, .int .i64 sz, .int .i64 imm] 23)) := ((Below.refl _ _).alloc (Nat.le_refl _) _).alloc (by simp) _
  have hWS : ((w.alloc (.cells #[.int .i64 o, .int .i64 n, .int .i64 z, fv ff, fv wf] 59)).alloc (.cells #[.int .i64 op, .int .i64 d, .int .i64 s, .int .i64 sz, .int .i64 imm] 23)).heap.size = w.heap.size + 1 + 1 := by simp
  generalize hW : ((w.alloc (.cells #[.int .i64 o, .int .i64 n, .int .i64 z, fv ff, fv wf] 59)).alloc (.cells #[.int .i64 op, .int .i64 d, .int .i64 s, .int .i64 sz, .int .i64 imm] 23)) = W at hf hx hb hWS ⊢
  clear hW hf0
  obtain ⟨f0, f1, -, -, -⟩ := cells5 hf
  obtain ⟨-, x1, x2, x3, x4⟩ := cells5 hx
  generalize w.heap.size + 1 = Y at hx x1 x2 x3 x4 hWS ⊢
  have HWS := Lib.hid hWS
  clear hWS
  obtain ⟨X, hX⟩ : ∃ X, X = w.heap.size := ⟨_, rfl⟩
  rw [← hX] at hf f0 f1 hb ⊢
  have lX := lt_of_block hf
  have lY := lt_of_block hx
  have HX := Lib.hid hX
  clear hX hf hx
  have HS := Lib.hid (show ∀ W', Below W.heap.size W W' → W'.cell? ⟨X, 0, none⟩ = some (.int .i64 o) ∧ W'.cell? ⟨Y, 1, none⟩ = some (.int .i64 d) ∧ W'.cell? ⟨Y, 2, none⟩ = some (.int .i64 s) from fun W' h => ⟨(h.cell (p := ⟨X, 0, none⟩) lX).trans f0, (h.cell (p := ⟨Y, 1, none⟩) lY).trans x1, (h.cell (p := ⟨Y, 2, none⟩) lY).trans x2⟩)
  have hwo : IntKind.u8.wrap o = o := u8_in ho.1 ho.2
  go_region_held3 (fun W' => W'.cell? ⟨X, 0, none⟩ = some (.int .i64 o) ∧ W'.cell? ⟨Y, 1, none⟩ = some (.int .i64 d) ∧ W'.cell? ⟨Y, 2, none⟩ = some (.int .i64 s)) (first | exact HS.out _ (Below.refl _ _) | exact HS.out _ (drewR (Below.refl _ _)) | exact HS.out _ ((Below.refl _ _).alloc (Nat.le_refl _) _) | exact HS.out _ (drewR ((Below.refl _ _).alloc (Nat.le_refl _) _)) | exact HS.out _ (by assumption) | exact HS.out _ (drewR (by assumption)) | exact HS.out _ ((by assumption : Below W.heap.size W _).alloc (by assumption : Below W.heap.size W _).size _) | exact HS.out _ (drewR ((by assumption : Below W.heap.size W _).alloc (by assumption : Below W.heap.size W _).size _))) ((go_at_call 89; ((with_reducible refine (registers_at _ _ _ hd hs).mono ?_); rintro e w' ⟨rfl, rfl⟩)))
  go_wp2
  go_ret
  exact ⟨_, rfl, own_below (own_lit (l := [15, o, 192 + 8 * d + s]) (by have := HX.out; omega) (heap_alloc_new W _) (by simp)) (drewR (Below.refl _ _)), by rw [← HX.out]; exact drewR (hb.alloc (Nat.le_of_lt lX) _)⟩
set_option maxRecDepth 100000 in
set_option maxHeartbeats 4000000 in
theorem wr5_16_any (o n z : Int) (ff wf : Nat) (op d s imm : Int) (w : World) (ho : 0 ≤ o ∧ o < 240) (hd : 0 ≤ d ∧ d < 8) (h1 : -9223372036854775808 ≤ imm) (h2 : imm ≤ 9223372036854775807) : Calls Try.prog 46 #[.agg (fmC ⟨o, n, z, 0, 0⟩ ff wf), aggI ⟨op, d, s, 16, imm⟩] w fun e w' => ∃ v, e = .returned v ∧ w'.ownsRow w.heap.size 5 1 v (wrB 5 o n ⟨op, d, s, 16, imm⟩).length (byV (wrB 5 o n ⟨op, d, s, 16, imm⟩)) ∧ Below w.heap.size w w' := by
  obtain ⟨i0, hi, hz0, hz1, hz2⟩ := info_parts infoBy
  go_enter Try.func46, Try.ntmps46
  go_wp2_with fail
  have hf0 := heap_alloc_new w (.cells #[.int .i64 o, .int .i64 n, .int .i64 z, fv ff, fv wf] 59)
  have hf := (heap_alloc_old (w.alloc (.cells #[.int .i64 o, .int .i64 n, .int .i64 z, fv ff, fv wf] 59)) (.cells #[.int .i64 op, .int .i64 d, .int .i64 s, .int .i64 16, .int .i64 imm] 23) (lt_of_block hf0)).trans hf0
  have hx := heap_alloc_new (w.alloc (.cells #[.int .i64 o, .int .i64 n, .int .i64 z, fv ff, fv wf] 59)) (.cells #[.int .i64 op, .int .i64 d, .int .i64 s, .int .i64 16, .int .i64 imm] 23)
  rw [show (w.alloc (.cells #[.int .i64 o, .int .i64 n, .int .i64 z, fv ff, fv wf] 59)).heap.size = w.heap.size + 1 by simp] at hx
  have hb : Below w.heap.size w ((w.alloc (.cells #[.int .i64 o, .int .i64 n, .int .i64 z, fv ff, fv wf] 59)).alloc (.cells #[.int .i64 op, .int .i64 d, .int .i64 s, .int .i64 16, .int .i64 imm] 23)) := ((Below.refl _ _).alloc (Nat.le_refl _) _).alloc (by simp) _
  have hWS : ((w.alloc (.cells #[.int .i64 o, .int .i64 n, .int .i64 z, fv ff, fv wf] 59)).alloc (.cells #[.int .i64 op, .int .i64 d, .int .i64 s, .int .i64 16, .int .i64 imm] 23)).heap.size = w.heap.size + 1 + 1 := by simp
  generalize hW : ((w.alloc (.cells #[.int .i64 o, .int .i64 n, .int .i64 z, fv ff, fv wf] 59)).alloc (.cells #[.int .i64 op, .int .i64 d, .int .i64 s, .int .i64 16, .int .i64 imm] 23)) = W at hf hx hb hWS ⊢
  clear hW hf0
  obtain ⟨f0, f1, -, -, -⟩ := cells5 hf
  obtain ⟨-, x1, x2, x3, x4⟩ := cells5 hx
  generalize w.heap.size + 1 = Y at hx x1 x2 x3 x4 hWS ⊢
  have HWS := Lib.hid hWS
  clear hWS
  obtain ⟨X, hX⟩ : ∃ X, X = w.heap.size := ⟨_, rfl⟩
  rw [← hX] at hf f0 f1 hb ⊢
  have lX := lt_of_block hf
  have lY := lt_of_block hx
  have HX := Lib.hid hX
  clear hX hf hx
  have HS := Lib.hid (show ∀ W', Below W.heap.size W W' → W'.cell? ⟨X, 0, none⟩ = some (.int .i64 o) ∧ W'.cell? ⟨Y, 1, none⟩ = some (.int .i64 d) ∧ W'.cell? ⟨Y, 3, none⟩ = some (.int .i64 16) ∧ W'.cell? ⟨Y, 4, none⟩ = some (.int .i64 imm) from fun W' h => ⟨(h.cell (p := ⟨X, 0, none⟩) lX).trans f0, (h.cell (p := ⟨Y, 1, none⟩) lY).trans x1, (h.cell (p := ⟨Y, 3, none⟩) lY).trans x3, (h.cell (p := ⟨Y, 4, none⟩) lY).trans x4⟩)
  have HM := Lib.hid (fun (W' : World) (hw : Below W.heap.size W W') => (little16_any imm W' h1 h2).mono fun e w' h => (show ∃ g cap, e = .returned (.slice (some ⟨g, 0, none⟩) 2 cap) ∧ w'.ownsRow W.heap.size 5 1 (.slice (some ⟨g, 0, none⟩) 2 cap) 2 (byV (le2 imm)) ∧ Below W'.heap.size W' w' ∧ Below W.heap.size W w' from by
    obtain ⟨g, cap, e1, e2, e3⟩ := h
    exact ⟨g, cap, e1, own_lower e2 hw.size, e3, hw.trans (e3.mono hw.size)⟩))
  have hwa : IntKind.i64.wrap (o + d) = o + d := IntWalk.i64_in _ (by omega)
  have hwb : IntKind.u8.wrap (o + d) = o + d := u8_in (by omega) (by omega)
  have HLA := Lib.hid (show ∀ W', Below (W.alloc (.cells #[.int .u8 (o + d)] 5)).heap.size (W.alloc (.cells #[.int .u8 (o + d)] 5)) W' → W'.ownsRow W.heap.size 5 1 (.slice (some ⟨W.heap.size, 0, none⟩) 1 1) 1 (byV [o + d]) from fun W' h => own_below (own_lit (Nat.le_refl _) (heap_alloc_new W _) (by simp)) h)
  have HLB := Lib.hid (show ∀ W', W.heap.size ≤ W'.heap.size → (W'.alloc (.cells #[.int .u8 (o + d)] 5)).ownsRow W.heap.size 5 1 (.slice (some ⟨W'.heap.size, 0, none⟩) 1 1) 1 (byV [o + d]) from fun W' h => own_lit h (heap_alloc_new W' _) (by simp))
  go_region_held3 (fun W' => W'.cell? ⟨X, 0, none⟩ = some (.int .i64 o) ∧ W'.cell? ⟨Y, 1, none⟩ = some (.int .i64 d) ∧ W'.cell? ⟨Y, 3, none⟩ = some (.int .i64 16) ∧ W'.cell? ⟨Y, 4, none⟩ = some (.int .i64 imm)) (first | exact HS.out _ (Below.refl _ _) | exact HS.out _ (drewR (Below.refl _ _)) | exact HS.out _ ((Below.refl _ _).alloc (Nat.le_refl _) _) | exact HS.out _ (drewR ((Below.refl _ _).alloc (Nat.le_refl _) _)) | exact HS.out _ (by assumption) | exact HS.out _ (drewR (by assumption)) | exact HS.out _ ((by assumption : Below W.heap.size W _).alloc (by assumption : Below W.heap.size W _).size _) | exact HS.out _ (drewR ((by assumption : Below W.heap.size W _).alloc (by assumption : Below W.heap.size W _).size _))) (first | ((go_at_call 90; refine (HM.out _ (by first | exact Below.refl _ _ | exact drewR (Below.refl _ _) | exact (Below.refl _ _).alloc (Nat.le_refl _) _ | exact drewR ((Below.refl _ _).alloc (Nat.le_refl _) _))).mono ?_; rintro e w2 ⟨g, cap, rfl, hG, hb2, hb3⟩)) | (have gA := (hb2 : Below (W.alloc (.cells #[.int .u8 (o + d)] 5)).drew.heap.size (W.alloc (.cells #[.int .u8 (o + d)] 5)).drew w2); refine step_append_lies _ (by rfl) _ _ _ (by rfl) W.heap.size 5 i0 (.int .u8 0) 1 1 Try.underlying24 hi hz0 hz1 hz2 rfl (by decide) (.slice (some ⟨W.heap.size, 0, none⟩) 1 1) 1 (byV [o + d]) (by rfl) (HLA.out _ (undrew hb2)) ⟨g, 0, none⟩ 2 cap (byV (le2 imm)) (by rfl) (by simp [byV, le2]) (hG.cells rfl) (byV_one _) (by omega) (by unfold maxLen; omega) (by omega) (hb3.size) _ rfl ?_; intro gg cap9 w1 hown1 hgrow hat hlt; have hk : Below W.heap.size W w1 := (hb3).grown hgrow (hb3.size) (own_base (HLA.out _ (undrew hb2)))) | (refine step_append_lies _ (by rfl) _ _ _ (by rfl) W.heap.size 5 i0 (.int .u8 0) 1 1 Try.underlying24 hi hz0 hz1 hz2 rfl (by decide) (.slice (some ⟨w2.heap.size, 0, none⟩) 1 1) 1 (byV [o + d]) (by rfl) (HLB.out _ hb3.size) ⟨g, 0, none⟩ 2 cap (byV (le2 imm)) (by rfl) (by simp [byV, le2]) ((hG.alloc _).cells rfl) (byV_one _) (by omega) (by unfold maxLen; omega) (by omega) ((hb3.alloc hb3.size _).size) _ rfl ?_; intro gg cap9 w1 hown1 hgrow hat hlt; have hk : Below W.heap.size W w1 := (hb3.alloc hb3.size _).grown hgrow ((hb3.alloc hb3.size _).size) (own_base (HLB.out _ hb3.size))))
  all_goals (go_wp2; go_ret; exact ⟨_, rfl, own_lower (by rw [← byV_append] at hown1; exact hown1) (by have := HX.out; omega), by rw [← HX.out]; exact hb.trans (hk.mono (Nat.le_of_lt lX))⟩)
set_option maxRecDepth 100000 in
set_option maxHeartbeats 4000000 in
theorem wr5_32_any (o n z : Int) (ff wf : Nat) (op d s imm : Int) (w : World) (ho : 0 ≤ o ∧ o < 240) (hd : 0 ≤ d ∧ d < 8) (h1 : -9223372036854775808 ≤ imm) (h2 : imm ≤ 9223372036854775807) : Calls Try.prog 46 #[.agg (fmC ⟨o, n, z, 0, 0⟩ ff wf), aggI ⟨op, d, s, 32, imm⟩] w fun e w' => ∃ v, e = .returned v ∧ w'.ownsRow w.heap.size 5 1 v (wrB 5 o n ⟨op, d, s, 32, imm⟩).length (byV (wrB 5 o n ⟨op, d, s, 32, imm⟩)) ∧ Below w.heap.size w w' := by
  obtain ⟨i0, hi, hz0, hz1, hz2⟩ := info_parts infoBy
  go_enter Try.func46, Try.ntmps46
  go_wp2_with fail
  have hf0 := heap_alloc_new w (.cells #[.int .i64 o, .int .i64 n, .int .i64 z, fv ff, fv wf] 59)
  have hf := (heap_alloc_old (w.alloc (.cells #[.int .i64 o, .int .i64 n, .int .i64 z, fv ff, fv wf] 59)) (.cells #[.int .i64 op, .int .i64 d, .int .i64 s, .int .i64 32, .int .i64 imm] 23) (lt_of_block hf0)).trans hf0
  have hx := heap_alloc_new (w.alloc (.cells #[.int .i64 o, .int .i64 n, .int .i64 z, fv ff, fv wf] 59)) (.cells #[.int .i64 op, .int .i64 d, .int .i64 s, .int .i64 32, .int .i64 imm] 23)
  rw [show (w.alloc (.cells #[.int .i64 o, .int .i64 n, .int .i64 z, fv ff, fv wf] 59)).heap.size = w.heap.size + 1 by simp] at hx
  have hb : Below w.heap.size w ((w.alloc (.cells #[.int .i64 o, .int .i64 n, .int .i64 z, fv ff, fv wf] 59)).alloc (.cells #[.int .i64 op, .int .i64 d, .int .i64 s, .int .i64 32, .int .i64 imm] 23)) := ((Below.refl _ _).alloc (Nat.le_refl _) _).alloc (by simp) _
  have hWS : ((w.alloc (.cells #[.int .i64 o, .int .i64 n, .int .i64 z, fv ff, fv wf] 59)).alloc (.cells #[.int .i64 op, .int .i64 d, .int .i64 s, .int .i64 32, .int .i64 imm] 23)).heap.size = w.heap.size + 1 + 1 := by simp
  generalize hW : ((w.alloc (.cells #[.int .i64 o, .int .i64 n, .int .i64 z, fv ff, fv wf] 59)).alloc (.cells #[.int .i64 op, .int .i64 d, .int .i64 s, .int .i64 32, .int .i64 imm] 23)) = W at hf hx hb hWS ⊢
  clear hW hf0
  obtain ⟨f0, f1, -, -, -⟩ := cells5 hf
  obtain ⟨-, x1, x2, x3, x4⟩ := cells5 hx
  generalize w.heap.size + 1 = Y at hx x1 x2 x3 x4 hWS ⊢
  have HWS := Lib.hid hWS
  clear hWS
  obtain ⟨X, hX⟩ : ∃ X, X = w.heap.size := ⟨_, rfl⟩
  rw [← hX] at hf f0 f1 hb ⊢
  have lX := lt_of_block hf
  have lY := lt_of_block hx
  have HX := Lib.hid hX
  clear hX hf hx
  have HS := Lib.hid (show ∀ W', Below W.heap.size W W' → W'.cell? ⟨X, 0, none⟩ = some (.int .i64 o) ∧ W'.cell? ⟨Y, 1, none⟩ = some (.int .i64 d) ∧ W'.cell? ⟨Y, 3, none⟩ = some (.int .i64 32) ∧ W'.cell? ⟨Y, 4, none⟩ = some (.int .i64 imm) from fun W' h => ⟨(h.cell (p := ⟨X, 0, none⟩) lX).trans f0, (h.cell (p := ⟨Y, 1, none⟩) lY).trans x1, (h.cell (p := ⟨Y, 3, none⟩) lY).trans x3, (h.cell (p := ⟨Y, 4, none⟩) lY).trans x4⟩)
  have HM := Lib.hid (fun (W' : World) (hw : Below W.heap.size W W') => (little32_any imm W' h1 h2).mono fun e w' h => (show ∃ g cap, e = .returned (.slice (some ⟨g, 0, none⟩) 4 cap) ∧ w'.ownsRow W.heap.size 5 1 (.slice (some ⟨g, 0, none⟩) 4 cap) 4 (byV (le4 imm)) ∧ Below W'.heap.size W' w' ∧ Below W.heap.size W w' from by
    obtain ⟨g, cap, e1, e2, e3⟩ := h
    exact ⟨g, cap, e1, own_lower e2 hw.size, e3, hw.trans (e3.mono hw.size)⟩))
  have hwa : IntKind.i64.wrap (o + d) = o + d := IntWalk.i64_in _ (by omega)
  have hwb : IntKind.u8.wrap (o + d) = o + d := u8_in (by omega) (by omega)
  have HLA := Lib.hid (show ∀ W', Below (W.alloc (.cells #[.int .u8 (o + d)] 5)).heap.size (W.alloc (.cells #[.int .u8 (o + d)] 5)) W' → W'.ownsRow W.heap.size 5 1 (.slice (some ⟨W.heap.size, 0, none⟩) 1 1) 1 (byV [o + d]) from fun W' h => own_below (own_lit (Nat.le_refl _) (heap_alloc_new W _) (by simp)) h)
  have HLB := Lib.hid (show ∀ W', W.heap.size ≤ W'.heap.size → (W'.alloc (.cells #[.int .u8 (o + d)] 5)).ownsRow W.heap.size 5 1 (.slice (some ⟨W'.heap.size, 0, none⟩) 1 1) 1 (byV [o + d]) from fun W' h => own_lit h (heap_alloc_new W' _) (by simp))
  go_region_held3 (fun W' => W'.cell? ⟨X, 0, none⟩ = some (.int .i64 o) ∧ W'.cell? ⟨Y, 1, none⟩ = some (.int .i64 d) ∧ W'.cell? ⟨Y, 3, none⟩ = some (.int .i64 32) ∧ W'.cell? ⟨Y, 4, none⟩ = some (.int .i64 imm)) (first | exact HS.out _ (Below.refl _ _) | exact HS.out _ (drewR (Below.refl _ _)) | exact HS.out _ ((Below.refl _ _).alloc (Nat.le_refl _) _) | exact HS.out _ (drewR ((Below.refl _ _).alloc (Nat.le_refl _) _)) | exact HS.out _ (by assumption) | exact HS.out _ (drewR (by assumption)) | exact HS.out _ ((by assumption : Below W.heap.size W _).alloc (by assumption : Below W.heap.size W _).size _) | exact HS.out _ (drewR ((by assumption : Below W.heap.size W _).alloc (by assumption : Below W.heap.size W _).size _))) (first | ((go_at_call 90; refine (HM.out _ (by first | exact Below.refl _ _ | exact drewR (Below.refl _ _) | exact (Below.refl _ _).alloc (Nat.le_refl _) _ | exact drewR ((Below.refl _ _).alloc (Nat.le_refl _) _))).mono ?_; rintro e w2 ⟨g, cap, rfl, hG, hb2, hb3⟩)) | (have gA := (hb2 : Below (W.alloc (.cells #[.int .u8 (o + d)] 5)).drew.heap.size (W.alloc (.cells #[.int .u8 (o + d)] 5)).drew w2); refine step_append_lies _ (by rfl) _ _ _ (by rfl) W.heap.size 5 i0 (.int .u8 0) 1 1 Try.underlying24 hi hz0 hz1 hz2 rfl (by decide) (.slice (some ⟨W.heap.size, 0, none⟩) 1 1) 1 (byV [o + d]) (by rfl) (HLA.out _ (undrew hb2)) ⟨g, 0, none⟩ 4 cap (byV (le4 imm)) (by rfl) (by simp [byV, le4]) (hG.cells rfl) (byV_one _) (by omega) (by unfold maxLen; omega) (by omega) (hb3.size) _ rfl ?_; intro gg cap9 w1 hown1 hgrow hat hlt; have hk : Below W.heap.size W w1 := (hb3).grown hgrow (hb3.size) (own_base (HLA.out _ (undrew hb2)))) | (refine step_append_lies _ (by rfl) _ _ _ (by rfl) W.heap.size 5 i0 (.int .u8 0) 1 1 Try.underlying24 hi hz0 hz1 hz2 rfl (by decide) (.slice (some ⟨w2.heap.size, 0, none⟩) 1 1) 1 (byV [o + d]) (by rfl) (HLB.out _ hb3.size) ⟨g, 0, none⟩ 4 cap (byV (le4 imm)) (by rfl) (by simp [byV, le4]) ((hG.alloc _).cells rfl) (byV_one _) (by omega) (by unfold maxLen; omega) (by omega) ((hb3.alloc hb3.size _).size) _ rfl ?_; intro gg cap9 w1 hown1 hgrow hat hlt; have hk : Below W.heap.size W w1 := (hb3.alloc hb3.size _).grown hgrow ((hb3.alloc hb3.size _).size) (own_base (HLB.out _ hb3.size))))
  all_goals (go_wp2; go_ret; exact ⟨_, rfl, own_lower (by rw [← byV_append] at hown1; exact hown1) (by have := HX.out; omega), by rw [← HX.out]; exact hb.trans (hk.mono (Nat.le_of_lt lX))⟩)
set_option maxRecDepth 100000 in
set_option maxHeartbeats 4000000 in
theorem wr6_any (o n z : Int) (ff wf : Nat) (op d s sz imm : Int) (w : World) (ho : 0 ≤ o ∧ o < 256) (hd : 0 ≤ d ∧ d < 8) (hs : 0 ≤ s ∧ s < 8) (h1 : -9223372036854775808 ≤ imm) (h2 : imm ≤ 9223372036854775807) : Calls Try.prog 48 #[.agg (fmC ⟨o, n, z, 0, 0⟩ ff wf), aggI ⟨op, d, s, sz, imm⟩] w fun e w' => ∃ v, e = .returned v ∧ w'.ownsRow w.heap.size 5 1 v (wrB 6 o n ⟨op, d, s, sz, imm⟩).length (byV (wrB 6 o n ⟨op, d, s, sz, imm⟩)) ∧ Below w.heap.size w w' := by
  obtain ⟨i0, hi, hz0, hz1, hz2⟩ := info_parts infoBy
  go_enter Try.func48, Try.ntmps48
  go_wp2_with fail
  have hf0 := heap_alloc_new w (.cells #[.int .i64 o, .int .i64 n, .int .i64 z, fv ff, fv wf] 59)
  have hf := (heap_alloc_old (w.alloc (.cells #[.int .i64 o, .int .i64 n, .int .i64 z, fv ff, fv wf] 59)) (.cells #[.int .i64 op, .int .i64 d, .int .i64 s, .int .i64 sz, .int .i64 imm] 23) (lt_of_block hf0)).trans hf0
  have hx := heap_alloc_new (w.alloc (.cells #[.int .i64 o, .int .i64 n, .int .i64 z, fv ff, fv wf] 59)) (.cells #[.int .i64 op, .int .i64 d, .int .i64 s, .int .i64 sz, .int .i64 imm] 23)
  rw [show (w.alloc (.cells #[.int .i64 o, .int .i64 n, .int .i64 z, fv ff, fv wf] 59)).heap.size = w.heap.size + 1 by simp] at hx
  have hb : Below w.heap.size w ((w.alloc (.cells #[.int .i64 o, .int .i64 n, .int .i64 z, fv ff, fv wf] 59)).alloc (.cells #[.int .i64 op, .int .i64 d, .int .i64 s, .int .i64 sz, .int .i64 imm] 23)) := ((Below.refl _ _).alloc (Nat.le_refl _) _).alloc (by simp) _
  have hWS : ((w.alloc (.cells #[.int .i64 o, .int .i64 n, .int .i64 z, fv ff, fv wf] 59)).alloc (.cells #[.int .i64 op, .int .i64 d, .int .i64 s, .int .i64 sz, .int .i64 imm] 23)).heap.size = w.heap.size + 1 + 1 := by simp
  generalize hW : ((w.alloc (.cells #[.int .i64 o, .int .i64 n, .int .i64 z, fv ff, fv wf] 59)).alloc (.cells #[.int .i64 op, .int .i64 d, .int .i64 s, .int .i64 sz, .int .i64 imm] 23)) = W at hf hx hb hWS ⊢
  clear hW hf0
  obtain ⟨f0, f1, -, -, -⟩ := cells5 hf
  obtain ⟨-, x1, x2, x3, x4⟩ := cells5 hx
  generalize w.heap.size + 1 = Y at hx x1 x2 x3 x4 hWS ⊢
  have HWS := Lib.hid hWS
  clear hWS
  obtain ⟨X, hX⟩ : ∃ X, X = w.heap.size := ⟨_, rfl⟩
  rw [← hX] at hf f0 f1 hb ⊢
  have lX := lt_of_block hf
  have lY := lt_of_block hx
  have HX := Lib.hid hX
  clear hX hf hx
  have HS := Lib.hid (show ∀ W', Below W.heap.size W W' → W'.cell? ⟨X, 0, none⟩ = some (.int .i64 o) ∧ W'.cell? ⟨Y, 1, none⟩ = some (.int .i64 d) ∧ W'.cell? ⟨Y, 2, none⟩ = some (.int .i64 s) ∧ W'.cell? ⟨Y, 4, none⟩ = some (.int .i64 imm) from fun W' h => ⟨(h.cell (p := ⟨X, 0, none⟩) lX).trans f0, (h.cell (p := ⟨Y, 1, none⟩) lY).trans x1, (h.cell (p := ⟨Y, 2, none⟩) lY).trans x2, (h.cell (p := ⟨Y, 4, none⟩) lY).trans x4⟩)
  have HM := Lib.hid (fun (W' : World) (hw : Below W.heap.size W W') => (memory_at d s imm W' hd hs h1 h2).mono fun e w' h => (show ∃ g cap, e = .returned (.slice (some ⟨g, 0, none⟩) 5 cap) ∧ w'.ownsRow W.heap.size 5 1 (.slice (some ⟨g, 0, none⟩) 5 cap) 5 (byV ((128 + 8 * d + s) :: le4 imm)) ∧ Below W'.heap.size W' w' ∧ Below W.heap.size W w' from by
    obtain ⟨g, cap, e1, e2, e3⟩ := h
    exact ⟨g, cap, e1, own_lower e2 hw.size, e3, hw.trans (e3.mono hw.size)⟩))
  have hwo : IntKind.u8.wrap o = o := u8_in ho.1 ho.2
  have HLA := Lib.hid (show ∀ W', Below (W.alloc (.cells #[.int .u8 o] 5)).heap.size (W.alloc (.cells #[.int .u8 o] 5)) W' → W'.ownsRow W.heap.size 5 1 (.slice (some ⟨W.heap.size, 0, none⟩) 1 1) 1 (byV [o]) from fun W' h => own_below (own_lit (Nat.le_refl _) (heap_alloc_new W _) (by simp)) h)
  have HLB := Lib.hid (show ∀ W', W.heap.size ≤ W'.heap.size → (W'.alloc (.cells #[.int .u8 o] 5)).ownsRow W.heap.size 5 1 (.slice (some ⟨W'.heap.size, 0, none⟩) 1 1) 1 (byV [o]) from fun W' h => own_lit h (heap_alloc_new W' _) (by simp))
  go_region_held3 (fun W' => W'.cell? ⟨X, 0, none⟩ = some (.int .i64 o) ∧ W'.cell? ⟨Y, 1, none⟩ = some (.int .i64 d) ∧ W'.cell? ⟨Y, 2, none⟩ = some (.int .i64 s) ∧ W'.cell? ⟨Y, 4, none⟩ = some (.int .i64 imm)) (first | exact HS.out _ (Below.refl _ _) | exact HS.out _ (drewR (Below.refl _ _)) | exact HS.out _ ((Below.refl _ _).alloc (Nat.le_refl _) _) | exact HS.out _ (drewR ((Below.refl _ _).alloc (Nat.le_refl _) _)) | exact HS.out _ (by assumption) | exact HS.out _ (drewR (by assumption)) | exact HS.out _ ((by assumption : Below W.heap.size W _).alloc (by assumption : Below W.heap.size W _).size _) | exact HS.out _ (drewR ((by assumption : Below W.heap.size W _).alloc (by assumption : Below W.heap.size W _).size _))) (first | ((go_at_call 92; refine (HM.out _ (by first | exact Below.refl _ _ | exact drewR (Below.refl _ _) | exact (Below.refl _ _).alloc (Nat.le_refl _) _ | exact drewR ((Below.refl _ _).alloc (Nat.le_refl _) _))).mono ?_; rintro e w2 ⟨g, cap, rfl, hG, hb2, hb3⟩)) | (have gA := (hb2 : Below (W.alloc (.cells #[.int .u8 o] 5)).drew.heap.size (W.alloc (.cells #[.int .u8 o] 5)).drew w2); refine step_append_lies _ (by rfl) _ _ _ (by rfl) W.heap.size 5 i0 (.int .u8 0) 1 1 Try.underlying24 hi hz0 hz1 hz2 rfl (by decide) (.slice (some ⟨W.heap.size, 0, none⟩) 1 1) 1 (byV [o]) (by rfl) (HLA.out _ (undrew hb2)) ⟨g, 0, none⟩ 5 cap (byV ((128 + 8 * d + s) :: le4 imm)) (by rfl) (by simp [byV, le4]) (hG.cells rfl) (byV_one _) (by omega) (by unfold maxLen; omega) (by omega) (hb3.size) _ rfl ?_; intro gg cap9 w1 hown1 hgrow hat hlt; have hk : Below W.heap.size W w1 := (hb3).grown hgrow (hb3.size) (own_base (HLA.out _ (undrew hb2)))) | (refine step_append_lies _ (by rfl) _ _ _ (by rfl) W.heap.size 5 i0 (.int .u8 0) 1 1 Try.underlying24 hi hz0 hz1 hz2 rfl (by decide) (.slice (some ⟨w2.heap.size, 0, none⟩) 1 1) 1 (byV [o]) (by rfl) (HLB.out _ hb3.size) ⟨g, 0, none⟩ 5 cap (byV ((128 + 8 * d + s) :: le4 imm)) (by rfl) (by simp [byV, le4]) ((hG.alloc _).cells rfl) (byV_one _) (by omega) (by unfold maxLen; omega) (by omega) ((hb3.alloc hb3.size _).size) _ rfl ?_; intro gg cap9 w1 hown1 hgrow hat hlt; have hk : Below W.heap.size W w1 := (hb3.alloc hb3.size _).grown hgrow ((hb3.alloc hb3.size _).size) (own_base (HLB.out _ hb3.size))))
  all_goals (go_wp2; go_ret; exact ⟨_, rfl, own_lower (by rw [← byV_append] at hown1; exact hown1) (by have := HX.out; omega), by rw [← HX.out]; exact hb.trans (hk.mono (Nat.le_of_lt lX))⟩)
set_option maxRecDepth 100000 in
set_option maxHeartbeats 4000000 in
theorem wr7_any (o n z : Int) (ff wf : Nat) (op d s sz imm : Int) (w : World) (ho : 0 ≤ o ∧ o < 256) (hd : 0 ≤ d ∧ d < 8) (hs : 0 ≤ s ∧ s < 8) (h1 : -9223372036854775808 ≤ imm) (h2 : imm ≤ 9223372036854775807) : Calls Try.prog 51 #[.agg (fmC ⟨o, n, z, 0, 0⟩ ff wf), aggI ⟨op, d, s, sz, imm⟩] w fun e w' => ∃ v, e = .returned v ∧ w'.ownsRow w.heap.size 5 1 v (wrB 7 o n ⟨op, d, s, sz, imm⟩).length (byV (wrB 7 o n ⟨op, d, s, sz, imm⟩)) ∧ Below w.heap.size w w' := by
  obtain ⟨i0, hi, hz0, hz1, hz2⟩ := info_parts infoBy
  go_enter Try.func51, Try.ntmps51
  go_wp2_with fail
  have hf0 := heap_alloc_new w (.cells #[.int .i64 o, .int .i64 n, .int .i64 z, fv ff, fv wf] 59)
  have hf := (heap_alloc_old (w.alloc (.cells #[.int .i64 o, .int .i64 n, .int .i64 z, fv ff, fv wf] 59)) (.cells #[.int .i64 op, .int .i64 d, .int .i64 s, .int .i64 sz, .int .i64 imm] 23) (lt_of_block hf0)).trans hf0
  have hx := heap_alloc_new (w.alloc (.cells #[.int .i64 o, .int .i64 n, .int .i64 z, fv ff, fv wf] 59)) (.cells #[.int .i64 op, .int .i64 d, .int .i64 s, .int .i64 sz, .int .i64 imm] 23)
  rw [show (w.alloc (.cells #[.int .i64 o, .int .i64 n, .int .i64 z, fv ff, fv wf] 59)).heap.size = w.heap.size + 1 by simp] at hx
  have hb : Below w.heap.size w ((w.alloc (.cells #[.int .i64 o, .int .i64 n, .int .i64 z, fv ff, fv wf] 59)).alloc (.cells #[.int .i64 op, .int .i64 d, .int .i64 s, .int .i64 sz, .int .i64 imm] 23)) := ((Below.refl _ _).alloc (Nat.le_refl _) _).alloc (by simp) _
  have hWS : ((w.alloc (.cells #[.int .i64 o, .int .i64 n, .int .i64 z, fv ff, fv wf] 59)).alloc (.cells #[.int .i64 op, .int .i64 d, .int .i64 s, .int .i64 sz, .int .i64 imm] 23)).heap.size = w.heap.size + 1 + 1 := by simp
  generalize hW : ((w.alloc (.cells #[.int .i64 o, .int .i64 n, .int .i64 z, fv ff, fv wf] 59)).alloc (.cells #[.int .i64 op, .int .i64 d, .int .i64 s, .int .i64 sz, .int .i64 imm] 23)) = W at hf hx hb hWS ⊢
  clear hW hf0
  obtain ⟨f0, f1, -, -, -⟩ := cells5 hf
  obtain ⟨-, x1, x2, x3, x4⟩ := cells5 hx
  generalize w.heap.size + 1 = Y at hx x1 x2 x3 x4 hWS ⊢
  have HWS := Lib.hid hWS
  clear hWS
  obtain ⟨X, hX⟩ : ∃ X, X = w.heap.size := ⟨_, rfl⟩
  rw [← hX] at hf f0 f1 hb ⊢
  have lX := lt_of_block hf
  have lY := lt_of_block hx
  have HX := Lib.hid hX
  clear hX hf hx
  have HS := Lib.hid (show ∀ W', Below W.heap.size W W' → W'.cell? ⟨X, 0, none⟩ = some (.int .i64 o) ∧ W'.cell? ⟨Y, 1, none⟩ = some (.int .i64 d) ∧ W'.cell? ⟨Y, 2, none⟩ = some (.int .i64 s) ∧ W'.cell? ⟨Y, 4, none⟩ = some (.int .i64 imm) from fun W' h => ⟨(h.cell (p := ⟨X, 0, none⟩) lX).trans f0, (h.cell (p := ⟨Y, 1, none⟩) lY).trans x1, (h.cell (p := ⟨Y, 2, none⟩) lY).trans x2, (h.cell (p := ⟨Y, 4, none⟩) lY).trans x4⟩)
  have HM := Lib.hid (fun (W' : World) (hw : Below W.heap.size W W') => (memory_at d s imm W' hd hs h1 h2).mono fun e w' h => (show ∃ g cap, e = .returned (.slice (some ⟨g, 0, none⟩) 5 cap) ∧ w'.ownsRow W.heap.size 5 1 (.slice (some ⟨g, 0, none⟩) 5 cap) 5 (byV ((128 + 8 * d + s) :: le4 imm)) ∧ Below W'.heap.size W' w' ∧ Below W.heap.size W w' from by
    obtain ⟨g, cap, e1, e2, e3⟩ := h
    exact ⟨g, cap, e1, own_lower e2 hw.size, e3, hw.trans (e3.mono hw.size)⟩))
  have hwo : IntKind.u8.wrap o = o := u8_in ho.1 ho.2
  have HLA := Lib.hid (show ∀ W', Below (W.alloc (.cells #[.int .u8 15, .int .u8 o] 5)).heap.size (W.alloc (.cells #[.int .u8 15, .int .u8 o] 5)) W' → W'.ownsRow W.heap.size 5 1 (.slice (some ⟨W.heap.size, 0, none⟩) 2 2) 2 (byV [15, o]) from fun W' h => own_below (own_lit (Nat.le_refl _) (heap_alloc_new W _) (by simp)) h)
  have HLB := Lib.hid (show ∀ W', W.heap.size ≤ W'.heap.size → (W'.alloc (.cells #[.int .u8 15, .int .u8 o] 5)).ownsRow W.heap.size 5 1 (.slice (some ⟨W'.heap.size, 0, none⟩) 2 2) 2 (byV [15, o]) from fun W' h => own_lit h (heap_alloc_new W' _) (by simp))
  go_region_held3 (fun W' => W'.cell? ⟨X, 0, none⟩ = some (.int .i64 o) ∧ W'.cell? ⟨Y, 1, none⟩ = some (.int .i64 d) ∧ W'.cell? ⟨Y, 2, none⟩ = some (.int .i64 s) ∧ W'.cell? ⟨Y, 4, none⟩ = some (.int .i64 imm)) (first | exact HS.out _ (Below.refl _ _) | exact HS.out _ (drewR (Below.refl _ _)) | exact HS.out _ ((Below.refl _ _).alloc (Nat.le_refl _) _) | exact HS.out _ (drewR ((Below.refl _ _).alloc (Nat.le_refl _) _)) | exact HS.out _ (by assumption) | exact HS.out _ (drewR (by assumption)) | exact HS.out _ ((by assumption : Below W.heap.size W _).alloc (by assumption : Below W.heap.size W _).size _) | exact HS.out _ (drewR ((by assumption : Below W.heap.size W _).alloc (by assumption : Below W.heap.size W _).size _))) (first | ((go_at_call 92; refine (HM.out _ (by first | exact Below.refl _ _ | exact drewR (Below.refl _ _) | exact (Below.refl _ _).alloc (Nat.le_refl _) _ | exact drewR ((Below.refl _ _).alloc (Nat.le_refl _) _))).mono ?_; rintro e w2 ⟨g, cap, rfl, hG, hb2, hb3⟩)) | (have gA := (hb2 : Below (W.alloc (.cells #[.int .u8 15, .int .u8 o] 5)).drew.heap.size (W.alloc (.cells #[.int .u8 15, .int .u8 o] 5)).drew w2); refine step_append_lies _ (by rfl) _ _ _ (by rfl) W.heap.size 5 i0 (.int .u8 0) 1 1 Try.underlying24 hi hz0 hz1 hz2 rfl (by decide) (.slice (some ⟨W.heap.size, 0, none⟩) 2 2) 2 (byV [15, o]) (by rfl) (HLA.out _ (undrew hb2)) ⟨g, 0, none⟩ 5 cap (byV ((128 + 8 * d + s) :: le4 imm)) (by rfl) (by simp [byV, le4]) (hG.cells rfl) (byV_one _) (by omega) (by unfold maxLen; omega) (by omega) (hb3.size) _ rfl ?_; intro gg cap9 w1 hown1 hgrow hat hlt; have hk : Below W.heap.size W w1 := (hb3).grown hgrow (hb3.size) (own_base (HLA.out _ (undrew hb2)))) | (refine step_append_lies _ (by rfl) _ _ _ (by rfl) W.heap.size 5 i0 (.int .u8 0) 1 1 Try.underlying24 hi hz0 hz1 hz2 rfl (by decide) (.slice (some ⟨w2.heap.size, 0, none⟩) 2 2) 2 (byV [15, o]) (by rfl) (HLB.out _ hb3.size) ⟨g, 0, none⟩ 5 cap (byV ((128 + 8 * d + s) :: le4 imm)) (by rfl) (by simp [byV, le4]) ((hG.alloc _).cells rfl) (byV_one _) (by omega) (by unfold maxLen; omega) (by omega) ((hb3.alloc hb3.size _).size) _ rfl ?_; intro gg cap9 w1 hown1 hgrow hat hlt; have hk : Below W.heap.size W w1 := (hb3.alloc hb3.size _).grown hgrow ((hb3.alloc hb3.size _).size) (own_base (HLB.out _ hb3.size))))
  all_goals (go_wp2; go_ret; exact ⟨_, rfl, own_lower (by rw [← byV_append] at hown1; exact hown1) (by have := HX.out; omega), by rw [← HX.out]; exact hb.trans (hk.mono (Nat.le_of_lt lX))⟩)
set_option maxRecDepth 100000 in
set_option maxHeartbeats 4000000 in
theorem wr8_any (o n z : Int) (ff wf : Nat) (op d s sz imm : Int) (w : World) (ho : 0 ≤ o ∧ o < 256) (hd : 0 ≤ d ∧ d < 8) (hs : 0 ≤ s ∧ s < 8) (h1 : -9223372036854775808 ≤ imm) (h2 : imm ≤ 9223372036854775807) : Calls Try.prog 50 #[.agg (fmC ⟨o, n, z, 0, 0⟩ ff wf), aggI ⟨op, d, s, sz, imm⟩] w fun e w' => ∃ v, e = .returned v ∧ w'.ownsRow w.heap.size 5 1 v (wrB 8 o n ⟨op, d, s, sz, imm⟩).length (byV (wrB 8 o n ⟨op, d, s, sz, imm⟩)) ∧ Below w.heap.size w w' := by
  obtain ⟨i0, hi, hz0, hz1, hz2⟩ := info_parts infoBy
  go_enter Try.func50, Try.ntmps50
  go_wp2_with fail
  have hf0 := heap_alloc_new w (.cells #[.int .i64 o, .int .i64 n, .int .i64 z, fv ff, fv wf] 59)
  have hf := (heap_alloc_old (w.alloc (.cells #[.int .i64 o, .int .i64 n, .int .i64 z, fv ff, fv wf] 59)) (.cells #[.int .i64 op, .int .i64 d, .int .i64 s, .int .i64 sz, .int .i64 imm] 23) (lt_of_block hf0)).trans hf0
  have hx := heap_alloc_new (w.alloc (.cells #[.int .i64 o, .int .i64 n, .int .i64 z, fv ff, fv wf] 59)) (.cells #[.int .i64 op, .int .i64 d, .int .i64 s, .int .i64 sz, .int .i64 imm] 23)
  rw [show (w.alloc (.cells #[.int .i64 o, .int .i64 n, .int .i64 z, fv ff, fv wf] 59)).heap.size = w.heap.size + 1 by simp] at hx
  have hb : Below w.heap.size w ((w.alloc (.cells #[.int .i64 o, .int .i64 n, .int .i64 z, fv ff, fv wf] 59)).alloc (.cells #[.int .i64 op, .int .i64 d, .int .i64 s, .int .i64 sz, .int .i64 imm] 23)) := ((Below.refl _ _).alloc (Nat.le_refl _) _).alloc (by simp) _
  have hWS : ((w.alloc (.cells #[.int .i64 o, .int .i64 n, .int .i64 z, fv ff, fv wf] 59)).alloc (.cells #[.int .i64 op, .int .i64 d, .int .i64 s, .int .i64 sz, .int .i64 imm] 23)).heap.size = w.heap.size + 1 + 1 := by simp
  generalize hW : ((w.alloc (.cells #[.int .i64 o, .int .i64 n, .int .i64 z, fv ff, fv wf] 59)).alloc (.cells #[.int .i64 op, .int .i64 d, .int .i64 s, .int .i64 sz, .int .i64 imm] 23)) = W at hf hx hb hWS ⊢
  clear hW hf0
  obtain ⟨f0, f1, -, -, -⟩ := cells5 hf
  obtain ⟨-, x1, x2, x3, x4⟩ := cells5 hx
  generalize w.heap.size + 1 = Y at hx x1 x2 x3 x4 hWS ⊢
  have HWS := Lib.hid hWS
  clear hWS
  obtain ⟨X, hX⟩ : ∃ X, X = w.heap.size := ⟨_, rfl⟩
  rw [← hX] at hf f0 f1 hb ⊢
  have lX := lt_of_block hf
  have lY := lt_of_block hx
  have HX := Lib.hid hX
  clear hX hf hx
  have HS := Lib.hid (show ∀ W', Below W.heap.size W W' → W'.cell? ⟨X, 0, none⟩ = some (.int .i64 o) ∧ W'.cell? ⟨Y, 1, none⟩ = some (.int .i64 d) ∧ W'.cell? ⟨Y, 2, none⟩ = some (.int .i64 s) ∧ W'.cell? ⟨Y, 4, none⟩ = some (.int .i64 imm) from fun W' h => ⟨(h.cell (p := ⟨X, 0, none⟩) lX).trans f0, (h.cell (p := ⟨Y, 1, none⟩) lY).trans x1, (h.cell (p := ⟨Y, 2, none⟩) lY).trans x2, (h.cell (p := ⟨Y, 4, none⟩) lY).trans x4⟩)
  have HM := Lib.hid (fun (W' : World) (hw : Below W.heap.size W W') => (memory_at s d imm W' hs hd h1 h2).mono fun e w' h => (show ∃ g cap, e = .returned (.slice (some ⟨g, 0, none⟩) 5 cap) ∧ w'.ownsRow W.heap.size 5 1 (.slice (some ⟨g, 0, none⟩) 5 cap) 5 (byV ((128 + 8 * s + d) :: le4 imm)) ∧ Below W'.heap.size W' w' ∧ Below W.heap.size W w' from by
    obtain ⟨g, cap, e1, e2, e3⟩ := h
    exact ⟨g, cap, e1, own_lower e2 hw.size, e3, hw.trans (e3.mono hw.size)⟩))
  have hwo : IntKind.u8.wrap o = o := u8_in ho.1 ho.2
  have HLA := Lib.hid (show ∀ W', Below (W.alloc (.cells #[.int .u8 o] 5)).heap.size (W.alloc (.cells #[.int .u8 o] 5)) W' → W'.ownsRow W.heap.size 5 1 (.slice (some ⟨W.heap.size, 0, none⟩) 1 1) 1 (byV [o]) from fun W' h => own_below (own_lit (Nat.le_refl _) (heap_alloc_new W _) (by simp)) h)
  have HLB := Lib.hid (show ∀ W', W.heap.size ≤ W'.heap.size → (W'.alloc (.cells #[.int .u8 o] 5)).ownsRow W.heap.size 5 1 (.slice (some ⟨W'.heap.size, 0, none⟩) 1 1) 1 (byV [o]) from fun W' h => own_lit h (heap_alloc_new W' _) (by simp))
  go_region_held3 (fun W' => W'.cell? ⟨X, 0, none⟩ = some (.int .i64 o) ∧ W'.cell? ⟨Y, 1, none⟩ = some (.int .i64 d) ∧ W'.cell? ⟨Y, 2, none⟩ = some (.int .i64 s) ∧ W'.cell? ⟨Y, 4, none⟩ = some (.int .i64 imm)) (first | exact HS.out _ (Below.refl _ _) | exact HS.out _ (drewR (Below.refl _ _)) | exact HS.out _ ((Below.refl _ _).alloc (Nat.le_refl _) _) | exact HS.out _ (drewR ((Below.refl _ _).alloc (Nat.le_refl _) _)) | exact HS.out _ (by assumption) | exact HS.out _ (drewR (by assumption)) | exact HS.out _ ((by assumption : Below W.heap.size W _).alloc (by assumption : Below W.heap.size W _).size _) | exact HS.out _ (drewR ((by assumption : Below W.heap.size W _).alloc (by assumption : Below W.heap.size W _).size _))) (first | ((go_at_call 92; refine (HM.out _ (by first | exact Below.refl _ _ | exact drewR (Below.refl _ _) | exact (Below.refl _ _).alloc (Nat.le_refl _) _ | exact drewR ((Below.refl _ _).alloc (Nat.le_refl _) _))).mono ?_; rintro e w2 ⟨g, cap, rfl, hG, hb2, hb3⟩)) | (have gA := (hb2 : Below (W.alloc (.cells #[.int .u8 o] 5)).drew.heap.size (W.alloc (.cells #[.int .u8 o] 5)).drew w2); refine step_append_lies _ (by rfl) _ _ _ (by rfl) W.heap.size 5 i0 (.int .u8 0) 1 1 Try.underlying24 hi hz0 hz1 hz2 rfl (by decide) (.slice (some ⟨W.heap.size, 0, none⟩) 1 1) 1 (byV [o]) (by rfl) (HLA.out _ (undrew hb2)) ⟨g, 0, none⟩ 5 cap (byV ((128 + 8 * s + d) :: le4 imm)) (by rfl) (by simp [byV, le4]) (hG.cells rfl) (byV_one _) (by omega) (by unfold maxLen; omega) (by omega) (hb3.size) _ rfl ?_; intro gg cap9 w1 hown1 hgrow hat hlt; have hk : Below W.heap.size W w1 := (hb3).grown hgrow (hb3.size) (own_base (HLA.out _ (undrew hb2)))) | (refine step_append_lies _ (by rfl) _ _ _ (by rfl) W.heap.size 5 i0 (.int .u8 0) 1 1 Try.underlying24 hi hz0 hz1 hz2 rfl (by decide) (.slice (some ⟨w2.heap.size, 0, none⟩) 1 1) 1 (byV [o]) (by rfl) (HLB.out _ hb3.size) ⟨g, 0, none⟩ 5 cap (byV ((128 + 8 * s + d) :: le4 imm)) (by rfl) (by simp [byV, le4]) ((hG.alloc _).cells rfl) (byV_one _) (by omega) (by unfold maxLen; omega) (by omega) ((hb3.alloc hb3.size _).size) _ rfl ?_; intro gg cap9 w1 hown1 hgrow hat hlt; have hk : Below W.heap.size W w1 := (hb3.alloc hb3.size _).grown hgrow ((hb3.alloc hb3.size _).size) (own_base (HLB.out _ hb3.size))))
  all_goals (go_wp2; go_ret; exact ⟨_, rfl, own_lower (by rw [← byV_append] at hown1; exact hown1) (by have := HX.out; omega), by rw [← HX.out]; exact hb.trans (hk.mono (Nat.le_of_lt lX))⟩)
set_option maxRecDepth 100000 in
set_option maxHeartbeats 4000000 in
theorem wr10_any (o n z : Int) (ff wf : Nat) (op d s sz imm : Int) (w : World) (ho : 0 ≤ o ∧ o < 240) (hd : 0 ≤ d ∧ d < 8) (hs : 0 ≤ s ∧ s < 16) : Calls Try.prog 60 #[.agg (fmC ⟨o, n, z, 0, 0⟩ ff wf), aggI ⟨op, d, s, sz, imm⟩] w fun e w' => ∃ v, e = .returned v ∧ w'.ownsRow w.heap.size 5 1 v (wrB 10 o n ⟨op, d, s, sz, imm⟩).length (byV (wrB 10 o n ⟨op, d, s, sz, imm⟩)) ∧ Below w.heap.size w w' := by
  obtain ⟨i0, hi, hz0, hz1, hz2⟩ := info_parts infoBy
  go_enter Try.func60, Try.ntmps60
  go_wp2_with fail
  have hf0 := heap_alloc_new w (.cells #[.int .i64 o, .int .i64 n, .int .i64 z, fv ff, fv wf] 59)
  have hf := (heap_alloc_old (w.alloc (.cells #[.int .i64 o, .int .i64 n, .int .i64 z, fv ff, fv wf] 59)) (.cells #[.int .i64 op, .int .i64 d, .int .i64 s, .int .i64 sz, .int .i64 imm] 23) (lt_of_block hf0)).trans hf0
  have hx := heap_alloc_new (w.alloc (.cells #[.int .i64 o, .int .i64 n, .int .i64 z, fv ff, fv wf] 59)) (.cells #[.int .i64 op, .int .i64 d, .int .i64 s, .int .i64 sz, .int .i64 imm] 23)
  rw [show (w.alloc (.cells #[.int .i64 o, .int .i64 n, .int .i64 z, fv ff, fv wf] 59)).heap.size = w.heap.size + 1 by simp] at hx
  have hb : Below w.heap.size w ((w.alloc (.cells #[.int .i64 o, .int .i64 n, .int .i64 z, fv ff, fv wf] 59)).alloc (.cells #[.int .i64 op, .int .i64 d, .int .i64 s, .int .i64 sz, .int .i64 imm] 23)) := ((Below.refl _ _).alloc (Nat.le_refl _) _).alloc (by simp) _
  have hWS : ((w.alloc (.cells #[.int .i64 o, .int .i64 n, .int .i64 z, fv ff, fv wf] 59)).alloc (.cells #[.int .i64 op, .int .i64 d, .int .i64 s, .int .i64 sz, .int .i64 imm] 23)).heap.size = w.heap.size + 1 + 1 := by simp
  generalize hW : ((w.alloc (.cells #[.int .i64 o, .int .i64 n, .int .i64 z, fv ff, fv wf] 59)).alloc (.cells #[.int .i64 op, .int .i64 d, .int .i64 s, .int .i64 sz, .int .i64 imm] 23)) = W at hf hx hb hWS ⊢
  clear hW hf0
  obtain ⟨f0, f1, -, -, -⟩ := cells5 hf
  obtain ⟨-, x1, x2, x3, x4⟩ := cells5 hx
  generalize w.heap.size + 1 = Y at hx x1 x2 x3 x4 hWS ⊢
  have HWS := Lib.hid hWS
  clear hWS
  obtain ⟨X, hX⟩ : ∃ X, X = w.heap.size := ⟨_, rfl⟩
  rw [← hX] at hf f0 f1 hb ⊢
  have lX := lt_of_block hf
  have lY := lt_of_block hx
  have HX := Lib.hid hX
  clear hX hf hx
  have HS := Lib.hid (show ∀ W', Below W.heap.size W W' → W'.cell? ⟨X, 0, none⟩ = some (.int .i64 o) ∧ W'.cell? ⟨Y, 1, none⟩ = some (.int .i64 d) ∧ W'.cell? ⟨Y, 2, none⟩ = some (.int .i64 s) from fun W' h => ⟨(h.cell (p := ⟨X, 0, none⟩) lX).trans f0, (h.cell (p := ⟨Y, 1, none⟩) lY).trans x1, (h.cell (p := ⟨Y, 2, none⟩) lY).trans x2⟩)
  have hwa : IntKind.i64.wrap (o + s) = o + s := IntWalk.i64_in _ (by omega)
  have hwb : IntKind.u8.wrap (o + s) = o + s := u8_in (by omega) (by omega)
  go_region_held3 (fun W' => W'.cell? ⟨X, 0, none⟩ = some (.int .i64 o) ∧ W'.cell? ⟨Y, 1, none⟩ = some (.int .i64 d) ∧ W'.cell? ⟨Y, 2, none⟩ = some (.int .i64 s)) (first | exact HS.out _ (Below.refl _ _) | exact HS.out _ (drewR (Below.refl _ _)) | exact HS.out _ ((Below.refl _ _).alloc (Nat.le_refl _) _) | exact HS.out _ (drewR ((Below.refl _ _).alloc (Nat.le_refl _) _)) | exact HS.out _ (by assumption) | exact HS.out _ (drewR (by assumption)) | exact HS.out _ ((by assumption : Below W.heap.size W _).alloc (by assumption : Below W.heap.size W _).size _) | exact HS.out _ (drewR ((by assumption : Below W.heap.size W _).alloc (by assumption : Below W.heap.size W _).size _))) ((go_at_call 89; ((with_reducible refine (registers_at _ _ _ (by omega) hd).mono ?_); rintro e w' ⟨rfl, rfl⟩)))
  go_wp2
  go_ret
  exact ⟨_, rfl, own_below (own_lit (l := [15, o + s, 192 + d]) (by have := HX.out; omega) (heap_alloc_new W _) (by simp)) (drewR (Below.refl _ _)), by rw [← HX.out]; exact drewR (hb.alloc (Nat.le_of_lt lX) _)⟩
set_option maxRecDepth 100000 in
set_option maxHeartbeats 4000000 in
theorem wr11_any (o n z : Int) (ff wf : Nat) (op d s sz imm : Int) (w : World) (ho : 0 ≤ o ∧ o < 240) (hd : 0 ≤ d ∧ d < 8) (hs : 0 ≤ s ∧ s < 8) (hm : 0 ≤ imm ∧ imm < 16) : Calls Try.prog 63 #[.agg (fmC ⟨o, n, z, 0, 0⟩ ff wf), aggI ⟨op, d, s, sz, imm⟩] w fun e w' => ∃ v, e = .returned v ∧ w'.ownsRow w.heap.size 5 1 v (wrB 11 o n ⟨op, d, s, sz, imm⟩).length (byV (wrB 11 o n ⟨op, d, s, sz, imm⟩)) ∧ Below w.heap.size w w' := by
  obtain ⟨i0, hi, hz0, hz1, hz2⟩ := info_parts infoBy
  go_enter Try.func63, Try.ntmps63
  go_wp2_with fail
  have hf0 := heap_alloc_new w (.cells #[.int .i64 o, .int .i64 n, .int .i64 z, fv ff, fv wf] 59)
  have hf := (heap_alloc_old (w.alloc (.cells #[.int .i64 o, .int .i64 n, .int .i64 z, fv ff, fv wf] 59)) (.cells #[.int .i64 op, .int .i64 d, .int .i64 s, .int .i64 sz, .int .i64 imm] 23) (lt_of_block hf0)).trans hf0
  have hx := heap_alloc_new (w.alloc (.cells #[.int .i64 o, .int .i64 n, .int .i64 z, fv ff, fv wf] 59)) (.cells #[.int .i64 op, .int .i64 d, .int .i64 s, .int .i64 sz, .int .i64 imm] 23)
  rw [show (w.alloc (.cells #[.int .i64 o, .int .i64 n, .int .i64 z, fv ff, fv wf] 59)).heap.size = w.heap.size + 1 by simp] at hx
  have hb : Below w.heap.size w ((w.alloc (.cells #[.int .i64 o, .int .i64 n, .int .i64 z, fv ff, fv wf] 59)).alloc (.cells #[.int .i64 op, .int .i64 d, .int .i64 s, .int .i64 sz, .int .i64 imm] 23)) := ((Below.refl _ _).alloc (Nat.le_refl _) _).alloc (by simp) _
  have hWS : ((w.alloc (.cells #[.int .i64 o, .int .i64 n, .int .i64 z, fv ff, fv wf] 59)).alloc (.cells #[.int .i64 op, .int .i64 d, .int .i64 s, .int .i64 sz, .int .i64 imm] 23)).heap.size = w.heap.size + 1 + 1 := by simp
  generalize hW : ((w.alloc (.cells #[.int .i64 o, .int .i64 n, .int .i64 z, fv ff, fv wf] 59)).alloc (.cells #[.int .i64 op, .int .i64 d, .int .i64 s, .int .i64 sz, .int .i64 imm] 23)) = W at hf hx hb hWS ⊢
  clear hW hf0
  obtain ⟨f0, f1, -, -, -⟩ := cells5 hf
  obtain ⟨-, x1, x2, x3, x4⟩ := cells5 hx
  generalize w.heap.size + 1 = Y at hx x1 x2 x3 x4 hWS ⊢
  have HWS := Lib.hid hWS
  clear hWS
  obtain ⟨X, hX⟩ : ∃ X, X = w.heap.size := ⟨_, rfl⟩
  rw [← hX] at hf f0 f1 hb ⊢
  have lX := lt_of_block hf
  have lY := lt_of_block hx
  have HX := Lib.hid hX
  clear hX hf hx
  have HS := Lib.hid (show ∀ W', Below W.heap.size W W' → W'.cell? ⟨X, 0, none⟩ = some (.int .i64 o) ∧ W'.cell? ⟨Y, 1, none⟩ = some (.int .i64 d) ∧ W'.cell? ⟨Y, 2, none⟩ = some (.int .i64 s) ∧ W'.cell? ⟨Y, 4, none⟩ = some (.int .i64 imm) from fun W' h => ⟨(h.cell (p := ⟨X, 0, none⟩) lX).trans f0, (h.cell (p := ⟨Y, 1, none⟩) lY).trans x1, (h.cell (p := ⟨Y, 2, none⟩) lY).trans x2, (h.cell (p := ⟨Y, 4, none⟩) lY).trans x4⟩)
  have hwa : IntKind.i64.wrap (o + imm) = o + imm := IntWalk.i64_in _ (by omega)
  have hwb : IntKind.u8.wrap (o + imm) = o + imm := u8_in (by omega) (by omega)
  go_region_held3 (fun W' => W'.cell? ⟨X, 0, none⟩ = some (.int .i64 o) ∧ W'.cell? ⟨Y, 1, none⟩ = some (.int .i64 d) ∧ W'.cell? ⟨Y, 2, none⟩ = some (.int .i64 s) ∧ W'.cell? ⟨Y, 4, none⟩ = some (.int .i64 imm)) (first | exact HS.out _ (Below.refl _ _) | exact HS.out _ (drewR (Below.refl _ _)) | exact HS.out _ ((Below.refl _ _).alloc (Nat.le_refl _) _) | exact HS.out _ (drewR ((Below.refl _ _).alloc (Nat.le_refl _) _)) | exact HS.out _ (by assumption) | exact HS.out _ (drewR (by assumption)) | exact HS.out _ ((by assumption : Below W.heap.size W _).alloc (by assumption : Below W.heap.size W _).size _) | exact HS.out _ (drewR ((by assumption : Below W.heap.size W _).alloc (by assumption : Below W.heap.size W _).size _))) ((go_at_call 89; ((with_reducible refine (registers_at _ _ _ hd hs).mono ?_); rintro e w' ⟨rfl, rfl⟩)))
  go_wp2
  go_ret
  exact ⟨_, rfl, own_below (own_lit (l := [15, o + imm, 192 + 8 * d + s]) (by have := HX.out; omega) (heap_alloc_new W _) (by simp)) (drewR (Below.refl _ _)), by rw [← HX.out]; exact drewR (hb.alloc (Nat.le_of_lt lX) _)⟩
set_option maxRecDepth 100000 in
set_option maxHeartbeats 4000000 in
theorem wr12_8_any (o n z : Int) (ff wf : Nat) (op d s imm : Int) (w : World) (ho : 0 ≤ o ∧ o < 240) (hs : 0 ≤ s ∧ s < 16) (_ : -9223372036854775808 ≤ imm) (_ : imm ≤ 9223372036854775807) : Calls Try.prog 65 #[.agg (fmC ⟨o, n, z, 0, 0⟩ ff wf), aggI ⟨op, d, s, 8, imm⟩] w fun e w' => ∃ v, e = .returned v ∧ w'.ownsRow w.heap.size 5 1 v (wrB 12 o n ⟨op, d, s, 8, imm⟩).length (byV (wrB 12 o n ⟨op, d, s, 8, imm⟩)) ∧ Below w.heap.size w w' := by
  obtain ⟨i0, hi, hz0, hz1, hz2⟩ := info_parts infoBy
  go_enter Try.func65, Try.ntmps65
  go_wp2_with fail
  have hf0 := heap_alloc_new w (.cells #[.int .i64 o, .int .i64 n, .int .i64 z, fv ff, fv wf] 59)
  have hf := (heap_alloc_old (w.alloc (.cells #[.int .i64 o, .int .i64 n, .int .i64 z, fv ff, fv wf] 59)) (.cells #[.int .i64 op, .int .i64 d, .int .i64 s, .int .i64 8, .int .i64 imm] 23) (lt_of_block hf0)).trans hf0
  have hx := heap_alloc_new (w.alloc (.cells #[.int .i64 o, .int .i64 n, .int .i64 z, fv ff, fv wf] 59)) (.cells #[.int .i64 op, .int .i64 d, .int .i64 s, .int .i64 8, .int .i64 imm] 23)
  rw [show (w.alloc (.cells #[.int .i64 o, .int .i64 n, .int .i64 z, fv ff, fv wf] 59)).heap.size = w.heap.size + 1 by simp] at hx
  have hb : Below w.heap.size w ((w.alloc (.cells #[.int .i64 o, .int .i64 n, .int .i64 z, fv ff, fv wf] 59)).alloc (.cells #[.int .i64 op, .int .i64 d, .int .i64 s, .int .i64 8, .int .i64 imm] 23)) := ((Below.refl _ _).alloc (Nat.le_refl _) _).alloc (by simp) _
  have hWS : ((w.alloc (.cells #[.int .i64 o, .int .i64 n, .int .i64 z, fv ff, fv wf] 59)).alloc (.cells #[.int .i64 op, .int .i64 d, .int .i64 s, .int .i64 8, .int .i64 imm] 23)).heap.size = w.heap.size + 1 + 1 := by simp
  generalize hW : ((w.alloc (.cells #[.int .i64 o, .int .i64 n, .int .i64 z, fv ff, fv wf] 59)).alloc (.cells #[.int .i64 op, .int .i64 d, .int .i64 s, .int .i64 8, .int .i64 imm] 23)) = W at hf hx hb hWS ⊢
  clear hW hf0
  obtain ⟨f0, f1, -, -, -⟩ := cells5 hf
  obtain ⟨-, x1, x2, x3, x4⟩ := cells5 hx
  generalize w.heap.size + 1 = Y at hx x1 x2 x3 x4 hWS ⊢
  have HWS := Lib.hid hWS
  clear hWS
  obtain ⟨X, hX⟩ : ∃ X, X = w.heap.size := ⟨_, rfl⟩
  rw [← hX] at hf f0 f1 hb ⊢
  have lX := lt_of_block hf
  have lY := lt_of_block hx
  have HX := Lib.hid hX
  clear hX hf hx
  obtain ⟨ho1, ho2⟩ := ho
  obtain ⟨hs1, hs2⟩ := hs
  go_wp2
  go_ret
  exact ⟨_, rfl, own_lit (l := [o + s, imm % 256]) (by first | exact Nat.le_of_lt lX | (have := HX.out; have := HWS.out; omega)) (by rw [← HWS.out]; exact heap_alloc_new W _) (by simp), by first | exact hb.alloc (Nat.le_of_lt lX) _ | (rw [← HX.out]; exact hb.alloc (Nat.le_of_lt lX) _)⟩
set_option maxRecDepth 100000 in
set_option maxHeartbeats 4000000 in
theorem wr12_32_any (o n z : Int) (ff wf : Nat) (op d s imm : Int) (w : World) (hs : 0 ≤ s ∧ s < 16) (h1 : -9223372036854775808 ≤ imm) (h2 : imm ≤ 9223372036854775807) : Calls Try.prog 65 #[.agg (fmC ⟨o, n, z, 0, 0⟩ ff wf), aggI ⟨op, d, s, 32, imm⟩] w fun e w' => ∃ v, e = .returned v ∧ w'.ownsRow w.heap.size 5 1 v (wrB 12 o n ⟨op, d, s, 32, imm⟩).length (byV (wrB 12 o n ⟨op, d, s, 32, imm⟩)) ∧ Below w.heap.size w w' := by
  obtain ⟨i0, hi, hz0, hz1, hz2⟩ := info_parts infoBy
  go_enter Try.func65, Try.ntmps65
  go_wp2_with fail
  have hf0 := heap_alloc_new w (.cells #[.int .i64 o, .int .i64 n, .int .i64 z, fv ff, fv wf] 59)
  have hf := (heap_alloc_old (w.alloc (.cells #[.int .i64 o, .int .i64 n, .int .i64 z, fv ff, fv wf] 59)) (.cells #[.int .i64 op, .int .i64 d, .int .i64 s, .int .i64 32, .int .i64 imm] 23) (lt_of_block hf0)).trans hf0
  have hx := heap_alloc_new (w.alloc (.cells #[.int .i64 o, .int .i64 n, .int .i64 z, fv ff, fv wf] 59)) (.cells #[.int .i64 op, .int .i64 d, .int .i64 s, .int .i64 32, .int .i64 imm] 23)
  rw [show (w.alloc (.cells #[.int .i64 o, .int .i64 n, .int .i64 z, fv ff, fv wf] 59)).heap.size = w.heap.size + 1 by simp] at hx
  have hb : Below w.heap.size w ((w.alloc (.cells #[.int .i64 o, .int .i64 n, .int .i64 z, fv ff, fv wf] 59)).alloc (.cells #[.int .i64 op, .int .i64 d, .int .i64 s, .int .i64 32, .int .i64 imm] 23)) := ((Below.refl _ _).alloc (Nat.le_refl _) _).alloc (by simp) _
  have hWS : ((w.alloc (.cells #[.int .i64 o, .int .i64 n, .int .i64 z, fv ff, fv wf] 59)).alloc (.cells #[.int .i64 op, .int .i64 d, .int .i64 s, .int .i64 32, .int .i64 imm] 23)).heap.size = w.heap.size + 1 + 1 := by simp
  generalize hW : ((w.alloc (.cells #[.int .i64 o, .int .i64 n, .int .i64 z, fv ff, fv wf] 59)).alloc (.cells #[.int .i64 op, .int .i64 d, .int .i64 s, .int .i64 32, .int .i64 imm] 23)) = W at hf hx hb hWS ⊢
  clear hW hf0
  obtain ⟨f0, f1, -, -, -⟩ := cells5 hf
  obtain ⟨-, x1, x2, x3, x4⟩ := cells5 hx
  generalize w.heap.size + 1 = Y at hx x1 x2 x3 x4 hWS ⊢
  have HWS := Lib.hid hWS
  clear hWS
  obtain ⟨X, hX⟩ : ∃ X, X = w.heap.size := ⟨_, rfl⟩
  rw [← hX] at hf f0 f1 hb ⊢
  have lX := lt_of_block hf
  have lY := lt_of_block hx
  have HX := Lib.hid hX
  clear hX hf hx
  have HS := Lib.hid (show ∀ W', Below W.heap.size W W' → W'.cell? ⟨Y, 2, none⟩ = some (.int .i64 s) ∧ W'.cell? ⟨Y, 4, none⟩ = some (.int .i64 imm) from fun W' h => ⟨(h.cell (p := ⟨Y, 2, none⟩) lY).trans x2, (h.cell (p := ⟨Y, 4, none⟩) lY).trans x4⟩)
  have HM := Lib.hid (fun (W' : World) (hw : Below W.heap.size W W') => (little32_any imm W' h1 h2).mono fun e w' h => (show ∃ g cap, e = .returned (.slice (some ⟨g, 0, none⟩) 4 cap) ∧ w'.ownsRow W.heap.size 5 1 (.slice (some ⟨g, 0, none⟩) 4 cap) 4 (byV (le4 imm)) ∧ Below W'.heap.size W' w' ∧ Below W.heap.size W w' from by
    obtain ⟨g, cap, e1, e2, e3⟩ := h
    exact ⟨g, cap, e1, own_lower e2 hw.size, e3, hw.trans (e3.mono hw.size)⟩))
  have hwa : IntKind.i64.wrap (128 + s) = 128 + s := IntWalk.i64_in _ (by omega)
  have hwb : IntKind.u8.wrap (128 + s) = 128 + s := u8_in (by omega) (by omega)
  have HLA := Lib.hid (show ∀ W', Below (W.alloc (.cells #[.int .u8 15, .int .u8 (128 + s)] 5)).heap.size (W.alloc (.cells #[.int .u8 15, .int .u8 (128 + s)] 5)) W' → W'.ownsRow W.heap.size 5 1 (.slice (some ⟨W.heap.size, 0, none⟩) 2 2) 2 (byV [15, 128 + s]) from fun W' h => own_below (own_lit (Nat.le_refl _) (heap_alloc_new W _) (by simp)) h)
  have HLB := Lib.hid (show ∀ W', W.heap.size ≤ W'.heap.size → (W'.alloc (.cells #[.int .u8 15, .int .u8 (128 + s)] 5)).ownsRow W.heap.size 5 1 (.slice (some ⟨W'.heap.size, 0, none⟩) 2 2) 2 (byV [15, 128 + s]) from fun W' h => own_lit h (heap_alloc_new W' _) (by simp))
  go_region_held3 (fun W' => W'.cell? ⟨Y, 2, none⟩ = some (.int .i64 s) ∧ W'.cell? ⟨Y, 4, none⟩ = some (.int .i64 imm)) (first | exact HS.out _ (Below.refl _ _) | exact HS.out _ (drewR (Below.refl _ _)) | exact HS.out _ ((Below.refl _ _).alloc (Nat.le_refl _) _) | exact HS.out _ (drewR ((Below.refl _ _).alloc (Nat.le_refl _) _)) | exact HS.out _ (by assumption) | exact HS.out _ (drewR (by assumption)) | exact HS.out _ ((by assumption : Below W.heap.size W _).alloc (by assumption : Below W.heap.size W _).size _) | exact HS.out _ (drewR ((by assumption : Below W.heap.size W _).alloc (by assumption : Below W.heap.size W _).size _))) (first | ((go_at_call 90; refine (HM.out _ (by first | exact Below.refl _ _ | exact drewR (Below.refl _ _) | exact (Below.refl _ _).alloc (Nat.le_refl _) _ | exact drewR ((Below.refl _ _).alloc (Nat.le_refl _) _))).mono ?_; rintro e w2 ⟨g, cap, rfl, hG, hb2, hb3⟩)) | (have gA := (hb2 : Below (W.alloc (.cells #[.int .u8 15, .int .u8 (128 + s)] 5)).drew.heap.size (W.alloc (.cells #[.int .u8 15, .int .u8 (128 + s)] 5)).drew w2); refine step_append_lies _ (by rfl) _ _ _ (by rfl) W.heap.size 5 i0 (.int .u8 0) 1 1 Try.underlying24 hi hz0 hz1 hz2 rfl (by decide) (.slice (some ⟨W.heap.size, 0, none⟩) 2 2) 2 (byV [15, 128 + s]) (by rfl) (HLA.out _ (undrew hb2)) ⟨g, 0, none⟩ 4 cap (byV (le4 imm)) (by rfl) (by simp [byV, le4]) (hG.cells rfl) (byV_one _) (by omega) (by unfold maxLen; omega) (by omega) (hb3.size) _ rfl ?_; intro gg cap9 w1 hown1 hgrow hat hlt; have hk : Below W.heap.size W w1 := (hb3).grown hgrow (hb3.size) (own_base (HLA.out _ (undrew hb2)))) | (refine step_append_lies _ (by rfl) _ _ _ (by rfl) W.heap.size 5 i0 (.int .u8 0) 1 1 Try.underlying24 hi hz0 hz1 hz2 rfl (by decide) (.slice (some ⟨w2.heap.size, 0, none⟩) 2 2) 2 (byV [15, 128 + s]) (by rfl) (HLB.out _ hb3.size) ⟨g, 0, none⟩ 4 cap (byV (le4 imm)) (by rfl) (by simp [byV, le4]) ((hG.alloc _).cells rfl) (byV_one _) (by omega) (by unfold maxLen; omega) (by omega) ((hb3.alloc hb3.size _).size) _ rfl ?_; intro gg cap9 w1 hown1 hgrow hat hlt; have hk : Below W.heap.size W w1 := (hb3.alloc hb3.size _).grown hgrow ((hb3.alloc hb3.size _).size) (own_base (HLB.out _ hb3.size))))
  all_goals (go_wp2; go_ret; exact ⟨_, rfl, own_lower (by rw [← byV_append] at hown1; exact hown1) (by have := HX.out; omega), by rw [← HX.out]; exact hb.trans (hk.mono (Nat.le_of_lt lX))⟩)
set_option maxRecDepth 100000 in
set_option maxHeartbeats 4000000 in
theorem wr13_8_any (o n z : Int) (ff wf : Nat) (op d s imm : Int) (w : World) (ho : 0 ≤ o ∧ o < 256) (_ : -9223372036854775808 ≤ imm) (_ : imm ≤ 9223372036854775807) : Calls Try.prog 67 #[.agg (fmC ⟨o, n, z, 0, 0⟩ ff wf), aggI ⟨op, d, s, 8, imm⟩] w fun e w' => ∃ v, e = .returned v ∧ w'.ownsRow w.heap.size 5 1 v (wrB 13 o n ⟨op, d, s, 8, imm⟩).length (byV (wrB 13 o n ⟨op, d, s, 8, imm⟩)) ∧ Below w.heap.size w w' := by
  obtain ⟨i0, hi, hz0, hz1, hz2⟩ := info_parts infoBy
  go_enter Try.func67, Try.ntmps67
  go_wp2_with fail
  have hf0 := heap_alloc_new w (.cells #[.int .i64 o, .int .i64 n, .int .i64 z, fv ff, fv wf] 59)
  have hf := (heap_alloc_old (w.alloc (.cells #[.int .i64 o, .int .i64 n, .int .i64 z, fv ff, fv wf] 59)) (.cells #[.int .i64 op, .int .i64 d, .int .i64 s, .int .i64 8, .int .i64 imm] 23) (lt_of_block hf0)).trans hf0
  have hx := heap_alloc_new (w.alloc (.cells #[.int .i64 o, .int .i64 n, .int .i64 z, fv ff, fv wf] 59)) (.cells #[.int .i64 op, .int .i64 d, .int .i64 s, .int .i64 8, .int .i64 imm] 23)
  rw [show (w.alloc (.cells #[.int .i64 o, .int .i64 n, .int .i64 z, fv ff, fv wf] 59)).heap.size = w.heap.size + 1 by simp] at hx
  have hb : Below w.heap.size w ((w.alloc (.cells #[.int .i64 o, .int .i64 n, .int .i64 z, fv ff, fv wf] 59)).alloc (.cells #[.int .i64 op, .int .i64 d, .int .i64 s, .int .i64 8, .int .i64 imm] 23)) := ((Below.refl _ _).alloc (Nat.le_refl _) _).alloc (by simp) _
  have hWS : ((w.alloc (.cells #[.int .i64 o, .int .i64 n, .int .i64 z, fv ff, fv wf] 59)).alloc (.cells #[.int .i64 op, .int .i64 d, .int .i64 s, .int .i64 8, .int .i64 imm] 23)).heap.size = w.heap.size + 1 + 1 := by simp
  generalize hW : ((w.alloc (.cells #[.int .i64 o, .int .i64 n, .int .i64 z, fv ff, fv wf] 59)).alloc (.cells #[.int .i64 op, .int .i64 d, .int .i64 s, .int .i64 8, .int .i64 imm] 23)) = W at hf hx hb hWS ⊢
  clear hW hf0
  obtain ⟨f0, f1, -, -, -⟩ := cells5 hf
  obtain ⟨-, x1, x2, x3, x4⟩ := cells5 hx
  generalize w.heap.size + 1 = Y at hx x1 x2 x3 x4 hWS ⊢
  have HWS := Lib.hid hWS
  clear hWS
  obtain ⟨X, hX⟩ : ∃ X, X = w.heap.size := ⟨_, rfl⟩
  rw [← hX] at hf f0 f1 hb ⊢
  have lX := lt_of_block hf
  have lY := lt_of_block hx
  have HX := Lib.hid hX
  clear hX hf hx
  obtain ⟨ho1, ho2⟩ := ho
  go_wp2
  go_ret
  exact ⟨_, rfl, own_lit (l := [o, imm % 256]) (by first | exact Nat.le_of_lt lX | (have := HX.out; have := HWS.out; omega)) (by rw [← HWS.out]; exact heap_alloc_new W _) (by simp), by first | exact hb.alloc (Nat.le_of_lt lX) _ | (rw [← HX.out]; exact hb.alloc (Nat.le_of_lt lX) _)⟩
set_option maxRecDepth 100000 in
set_option maxHeartbeats 4000000 in
theorem wr13_32_any (o n z : Int) (ff wf : Nat) (op d s imm : Int) (w : World) (h1 : -9223372036854775808 ≤ imm) (h2 : imm ≤ 9223372036854775807) : Calls Try.prog 67 #[.agg (fmC ⟨o, n, z, 0, 0⟩ ff wf), aggI ⟨op, d, s, 32, imm⟩] w fun e w' => ∃ v, e = .returned v ∧ w'.ownsRow w.heap.size 5 1 v (wrB 13 o n ⟨op, d, s, 32, imm⟩).length (byV (wrB 13 o n ⟨op, d, s, 32, imm⟩)) ∧ Below w.heap.size w w' := by
  obtain ⟨i0, hi, hz0, hz1, hz2⟩ := info_parts infoBy
  go_enter Try.func67, Try.ntmps67
  go_wp2_with fail
  have hf0 := heap_alloc_new w (.cells #[.int .i64 o, .int .i64 n, .int .i64 z, fv ff, fv wf] 59)
  have hf := (heap_alloc_old (w.alloc (.cells #[.int .i64 o, .int .i64 n, .int .i64 z, fv ff, fv wf] 59)) (.cells #[.int .i64 op, .int .i64 d, .int .i64 s, .int .i64 32, .int .i64 imm] 23) (lt_of_block hf0)).trans hf0
  have hx := heap_alloc_new (w.alloc (.cells #[.int .i64 o, .int .i64 n, .int .i64 z, fv ff, fv wf] 59)) (.cells #[.int .i64 op, .int .i64 d, .int .i64 s, .int .i64 32, .int .i64 imm] 23)
  rw [show (w.alloc (.cells #[.int .i64 o, .int .i64 n, .int .i64 z, fv ff, fv wf] 59)).heap.size = w.heap.size + 1 by simp] at hx
  have hb : Below w.heap.size w ((w.alloc (.cells #[.int .i64 o, .int .i64 n, .int .i64 z, fv ff, fv wf] 59)).alloc (.cells #[.int .i64 op, .int .i64 d, .int .i64 s, .int .i64 32, .int .i64 imm] 23)) := ((Below.refl _ _).alloc (Nat.le_refl _) _).alloc (by simp) _
  have hWS : ((w.alloc (.cells #[.int .i64 o, .int .i64 n, .int .i64 z, fv ff, fv wf] 59)).alloc (.cells #[.int .i64 op, .int .i64 d, .int .i64 s, .int .i64 32, .int .i64 imm] 23)).heap.size = w.heap.size + 1 + 1 := by simp
  generalize hW : ((w.alloc (.cells #[.int .i64 o, .int .i64 n, .int .i64 z, fv ff, fv wf] 59)).alloc (.cells #[.int .i64 op, .int .i64 d, .int .i64 s, .int .i64 32, .int .i64 imm] 23)) = W at hf hx hb hWS ⊢
  clear hW hf0
  obtain ⟨f0, f1, -, -, -⟩ := cells5 hf
  obtain ⟨-, x1, x2, x3, x4⟩ := cells5 hx
  generalize w.heap.size + 1 = Y at hx x1 x2 x3 x4 hWS ⊢
  have HWS := Lib.hid hWS
  clear hWS
  obtain ⟨X, hX⟩ : ∃ X, X = w.heap.size := ⟨_, rfl⟩
  rw [← hX] at hf f0 f1 hb ⊢
  have lX := lt_of_block hf
  have lY := lt_of_block hx
  have HX := Lib.hid hX
  clear hX hf hx
  have hxl : (W.alloc (.cells #[.int .u8 233] 5)).heap[Y + 1]? = some (.cells (byV [233]).toArray 5 (0, 0)) := by
    rw [← HWS.out]
    exact heap_alloc_new W _
  have hbl : Below W.heap.size W (W.alloc (.cells #[.int .u8 233] 5)) := (Below.refl _ _).alloc (Nat.le_refl _) _
  generalize World.alloc W _ = W0 at hxl hbl ⊢
  refine (little32_any imm W0 h1 h2).mono ?_
  rintro e w2 ⟨g, cap, rfl, hG, hb2⟩
  have hown := own_lit (base := W.heap.size) (by have := HWS.out; omega) ((hb2.block _ (lt_of_block hxl)).trans hxl) (by simp)
  replace hbl := hbl.trans (hb2.mono hbl.size)
  clear hxl hb2
  go_wp2_with (at_builtin; refine wpList_append_own _ rfl _ _ 24 rfl W.heap.size 5 i0 (.int .u8 0) 1 1 Try.underlying24 hi hz0 hz1 hz2 rfl (by decide) _ _ _ rfl hown ⟨g, 0, none⟩ 4 cap (byV (le4 imm)) rfl ?c0 ?c1 ?c2 ?c3 ?c4 ?c5 ?_)
  case c0 => rfl
  case c1 => exact hG.cells rfl
  case c2 => exact byV_one _
  case c3 => unfold maxLen; simp
  case c4 => simp
  case c5 => exact hbl.size
  intro v1 w1 hown1 hgrow _
  have hk : Below W.heap.size W w1 := hbl.grown hgrow hbl.size (own_base hown)
  rw [← byV_append] at hown1
  clear hgrow hown hbl hG
  go_wp2
  go_ret
  exact ⟨_, rfl, own_lower hown1 (by first | exact Nat.le_of_lt lX | (have := HX.out; omega)), by first | exact hb.trans (hk.mono (Nat.le_of_lt lX)) | (rw [← HX.out]; exact hb.trans (hk.mono (Nat.le_of_lt lX)))⟩
end Go.Proofs.Ytpekegeohcnhcaa
