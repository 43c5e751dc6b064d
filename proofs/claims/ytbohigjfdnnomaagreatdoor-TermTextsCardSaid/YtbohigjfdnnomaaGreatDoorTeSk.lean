/-
  known of layer 7.
-/
import Derived.Test.YtbohigjfdnnomaaGreatDoorTeP
namespace Go.Proofs.YtbohigjfdnnomaaGreatDoor
open Go.RowKit

def T0 : List Nd := [⟨33, 8, 0, [], 0⟩, ⟨0, 8, 0, [], 1⟩, ⟨1, 8, 0, [0, 1], 0⟩]
def E0 : List Nat := [255, 0, 0, 0]
theorem known_err : errV T0 E0 = 0 := by decide
theorem known_ev : evF T0 E0 = 0 := by decide
theorem known_val : valF T0 = 0 := by decide
theorem known_dep : resD T0 = 2 := by decide
def T0c (A : Nat) : Array Value := #[.int .i64 33, .int .i64 8, .int .i64 0, .slice none 0 0, .int .u32 0, .int .i64 0, .int .i64 8, .int .i64 0, .slice none 0 0, .int .u32 1, .int .i64 1, .int .i64 8, .int .i64 0, .slice (some ⟨A, 0, none⟩) 2 2, .int .u32 0]
theorem term0 {W : World} {A B : Nat} {t t2 : TypeId} (hA : W.heap[A]? = some (.cells #[.int .i64 0, .int .i64 1] t (0, 0))) (hB : W.heap[B]? = some (.cells (T0c A) t2 (0, 0))) : Term W (some ⟨B, 0, none⟩) 3 3 T0 := by
  refine ⟨rfl, Nat.le_refl _, by omega, .inr ⟨B, 0, rfl, lt_of_block hB, fun j hj => ?_⟩⟩
  have hn : Ints W none 0 0 ([] : List Int) := ⟨rfl, Nat.le_refl _, by omega, .inl rfl⟩
  obtain rfl | rfl | rfl : j = 0 ∨ j = 1 ∨ j = 2 := by omega
  · exact ⟨none, 0, 0, ⟨by simp [World.cell?, hB]; rfl, by simp [World.cell?, hB]; rfl, by simp [World.cell?, hB]; rfl, by simp [World.cell?, hB]; rfl, by simp [World.cell?, hB]; rfl⟩, hn, by decide, by decide⟩
  · exact ⟨none, 0, 0, ⟨by simp [World.cell?, hB]; rfl, by simp [World.cell?, hB]; rfl, by simp [World.cell?, hB]; rfl, by simp [World.cell?, hB]; rfl, by simp [World.cell?, hB]; rfl⟩, hn, by decide, by decide⟩
  · refine ⟨some ⟨A, 0, none⟩, 2, 2, ⟨by simp [World.cell?, hB]; rfl, by simp [World.cell?, hB]; rfl, by simp [World.cell?, hB]; rfl, by simp [World.cell?, hB]; rfl, by simp [World.cell?, hB]; rfl⟩, ⟨rfl, Nat.le_refl _, by omega, .inr ⟨A, 0, rfl, lt_of_block hA, fun j hj => ?_⟩⟩, by decide, by decide⟩
    obtain rfl | rfl : j = 0 ∨ j = 1 := by omega
    · simp [World.cell?, hA]; rfl
    · simp [World.cell?, hA]; rfl
theorem env0 {W : World} {B : Nat} {t : TypeId} (hB : W.heap[B]? = some (.cells #[.int .u32 255, .int .u32 0, .int .u32 0, .int .u32 0] t (0, 0))) : Ws W (some ⟨B, 0, none⟩) 4 4 E0 := by
  refine ⟨rfl, Nat.le_refl _, by omega, .inr ⟨B, 0, rfl, lt_of_block hB, fun j hj => ?_⟩⟩
  obtain rfl | rfl | rfl | rfl : j = 0 ∨ j = 1 ∨ j = 2 ∨ j = 3 := by omega
  · simp [World.cell?, hB]; rfl
  · simp [World.cell?, hB]; rfl
  · simp [World.cell?, hB]; rfl
  · simp [World.cell?, hB]; rfl
theorem u0_bound : ∀ j, j < 4 → E0[j]! < 4294967296 := by decide
set_option maxRecDepth 100000 in
set_option maxHeartbeats 8000000 in
theorem known_any {w : World} (hM : Masks w) : Calls Tryz.prog 6 #[] w fun e w' => e = .returned (.bool true) ∧ Below w.heap.size w w' := by
  have HEV := Lib.hid (fun w1 A (hT : Term w1 A 3 3 T0) (hM : Masks w1) E (hE : Ws w1 E 4 4 E0) => eval_any hT hM hE u0_bound)
  have HDP := Lib.hid (fun w1 A (hT : Term w1 A 3 3 T0) => depth_any hT)
  rw [known_ev, known_err] at HEV
  rw [known_dep, known_val] at HDP
  have HM := Lib.hid hM
  clear hM
  go_enter Tryz.func6, Tryz.ntmps6
  go_upto_region 2 with fail
  have hb1 : Below w.heap.size w (w.alloc (.cells #[.int .i64 0, .int .i64 1] 3)) := (Below.refl _ _).alloc (Nat.le_refl _) _
  have hA := heap_alloc_new w (.cells #[.int .i64 0, .int .i64 1] 3)
  have hz : (w.alloc (.cells #[.int .i64 0, .int .i64 1] 3)).heap.size = w.heap.size + 1 := by simp
  generalize World.alloc w _ = W1 at hb1 hA hz ⊢
  have hb2 := hb1.alloc hb1.size (.cells (T0c w.heap.size) 38)
  have hB := heap_alloc_new W1 (.cells (T0c w.heap.size) 38)
  have hA2 := (heap_alloc_old W1 (.cells (T0c w.heap.size) 38) (lt_of_block hA)).trans hA
  rw [hz] at hB
  unfold T0c at hb2 hB hA2
  generalize World.alloc W1 _ = W2 at hb2 hB hA2 ⊢
  have hT2 := term0 hA2 hB
  clear hA hA2 hb1 hB hz
  generalize w.heap.size + 1 = B at hT2 ⊢
  have HT := Lib.hid hT2
  have HB2 := Lib.hid hb2
  clear hT2 hb2
  go_wp2_with fail
  have hE := env0 (heap_alloc_new W2 (.cells #[.int .u32 255, .int .u32 0, .int .u32 0, .int .u32 0] 36))
  have hb3 := HB2.out.alloc HB2.out.size (.cells #[.int .u32 255, .int .u32 0, .int .u32 0, .int .u32 0] 36)
  refine (HEV.out _ _ (HT.out.below ((Below.refl _ _).alloc (Nat.le_refl _) _)) (HM.out.below hb3 (Nat.le_refl _)) _ hE).mono ?_
  rintro e w4 ⟨rfl, hb4⟩
  have hb5 := hb3.trans (hb4.mono hb3.size)
  have hT4 := HT.out.below (((Below.refl W2.heap.size W2).alloc (Nat.le_refl _) (.cells #[.int .u32 255, .int .u32 0, .int .u32 0, .int .u32 0] 36)).trans (hb4.mono (by simp)))
  clear hE hb3 hb4
  go_wp2_with fail
  refine (HDP.out _ _ hT4).mono ?_
  rintro e w6 ⟨rfl, hb6⟩
  have hb7 := hb5.trans (hb6.mono hb5.size)
  go_wp2
  go_ret
  exact ⟨rfl, hb7⟩
end Go.Proofs.YtbohigjfdnnomaaGreatDoor
