/-
  Ring of package loop; what the law's own function known calls; known returns true.
-/
import Derived.Test.YtgnaohhopbhihaaDoorLoopD
import Derived.Test.YtgnaohhopbhihaaDoorBitsM
import Derived.Test.YtgnaohhopbhihaaDoorBitsQ
namespace Go.Proofs.YtgnaohhopbhihaaDoor
open Go.RowKit

def ringF (n x : Nat) : Nat := pw (n - tzF x n 0)
theorem tzF_le (x : Nat) : ∀ f k, tzF x f k ≤ k + f
  | 0, k => by simp [tzF]
  | f + 1, k => by
    simp only [tzF]
    split
    · have := tzF_le x f (k + 1)
      omega
    · omega
theorem ring_ok (n x : Nat) (w : World) (hM : Masks w) (h1 : 1 ≤ n) (h2 : n ≤ 32) (hx : x < pw n) :
    Calls Tryd.prog 27 #[.int .i64 n, .int .u32 x] w fun e w' => e = .returned (.tuple #[.int .i64 (ringF n x), .int .i64 0]) ∧ Below w.heap.size w w' := by
  have hM1 := fun o => hM.alloc o
  have ht := tzF_le x n 0
  have hr := pw_le (n := n - tzF x n 0) (by omega)
  have e0 : ringF n x = pw (n - tzF x n 0) := rfl
  have E := Lib.hid e0
  have T := Lib.hid (trailing_ok n x)
  obtain ⟨t, htt⟩ : ∃ t, t = tzF x n 0 := ⟨_, rfl⟩
  rw [← htt] at ht hr e0
  have HT := Lib.hid htt
  have e1 : (n : Int) - (t : Int) = ((n - t : Nat) : Int) := by omega
  have e2 : (2 : Int) ^ (n - t) = (pw (n - t) : Int) := by simp [pw]
  rw [e0]
  clear e0 htt
  go_enter Tryd.func27, Tryd.ntmps27
  go_wp2_with (first
    | (go_at_call 61; refine (lw_yes n 1 w.heap.size (fun _ => x) _ (hM1 _) h1 h2 (by omega) (one_cell w x _) (fun _ _ => hx)).mono ?_; rintro e w' ⟨rfl, rfl⟩)
    | (go_at_call 20; refine (T.out _ (hM1 _) h1 h2 hx).mono ?_; rw [← HT.out]; rintro e w' ⟨rfl, rfl⟩))
  go_ret2
  exact ⟨rfl, (Below.refl _ _).alloc (Nat.le_refl _) _⟩
theorem first_a (w : World) : Calls Tryd.prog 64 #[.int .u64 3, .int .u64 256, .int .u64 10, .int .u64 255] w fun e w' => e = .returned (.tuple #[.int .u64 4, .bool true]) ∧ w = w' := by
  go_enter Tryd.func64, Tryd.ntmps64
  go_wp2
  go_ret2
  exact ⟨rfl, rfl⟩
theorem first_c (w : World) : Calls Tryd.prog 64 #[.int .u64 0, .int .u64 2, .int .u64 1, .int .u64 1] w fun e w' => e = .returned (.tuple #[.int .u64 0, .bool false]) ∧ w = w' := by
  go_enter Tryd.func64, Tryd.ntmps64
  go_wp2
  go_ret2
  exact ⟨rfl, rfl⟩
theorem first_b (w : World) : Calls Tryd.prog 64 #[.int .u64 2, .int .u64 16, .int .u64 5, .int .u64 5] w fun e w' => e = .returned (.tuple #[.int .u64 0, .bool false]) ∧ ∃ m, w' = w.drewN m := by
  go_enter Tryd.func64, Tryd.ntmps64
  go_wp2
  go_quiet ((first | (go_at_call 64; exact quietly_add first_c) | (go_at_call 64; exact quietly first_c)))
  go_wp2
  go_ret2
  exact ⟨rfl, _, rfl⟩
theorem ends_a (w : World) : Calls Tryd.prog 63 #[.int .i64 2, .int .u32 10, .int .u32 255] w fun e w' => e = .returned (.tuple #[.int .u32 10, .int .u32 255, .bool true]) ∧ w = w' := by
  go_enter Tryd.func63, Tryd.ntmps63
  go_wp2
  go_ret3
  exact ⟨rfl, rfl⟩
theorem ends_b (w : World) : Calls Tryd.prog 63 #[.int .i64 1, .int .u32 5, .int .u32 15] w fun e w' => e = .returned (.tuple #[.int .u32 5, .int .u32 5, .bool true]) ∧ w = w' := by
  go_enter Tryd.func63, Tryd.ntmps63
  go_wp2
  go_ret3
  exact ⟨rfl, rfl⟩
theorem three_cells (w : World) (a b c T : Nat) : ∀ i, i < 3 → (w.alloc (.cells #[.int .u32 a, .int .u32 b, .int .u32 c] T)).cell? ⟨w.heap.size, i, none⟩ = some (.int .u32 ((if i = 0 then a else if i = 1 then b else c : Nat) : Int)) := by
  intro i hi
  obtain rfl | rfl | rfl : i = 0 ∨ i = 1 ∨ i = 2 := by omega
  · simp [go_sem]
  · simp [go_sem]
  · simp [go_sem]
theorem three_lt (n a b c : Nat) (ha : a < pw n) (hb : b < pw n) (hc : c < pw n) : ∀ i, i < 3 → (if i = 0 then a else if i = 1 then b else c) < pw n := by
  intro i _
  split
  · exact ha
  split
  · exact hb
  · exact hc
theorem lw3_a (w : World) (T : Nat) (hM : Masks w) : Calls Tryd.prog 61 #[.int .i64 8, .slice (some ⟨w.heap.size, 0, none⟩) 3 3] (w.alloc (.cells #[.int .u32 0, .int .u32 3, .int .u32 10] T)) fun e w' => e = .returned (.bool true) ∧ w.alloc (.cells #[.int .u32 0, .int .u32 3, .int .u32 10] T) = w' :=
  lw_yes 8 3 w.heap.size (fun i => if i = 0 then 0 else if i = 1 then 3 else 10) _ (hM.alloc _) (by omega) (by omega) (by omega) (three_cells w 0 3 10 T) (three_lt 8 0 3 10 (by decide) (by decide) (by decide))
theorem lw3_b (w : World) (T : Nat) (hM : Masks w) : Calls Tryd.prog 61 #[.int .i64 4, .slice (some ⟨w.heap.size, 0, none⟩) 3 3] (w.alloc (.cells #[.int .u32 0, .int .u32 2, .int .u32 5] T)) fun e w' => e = .returned (.bool true) ∧ w.alloc (.cells #[.int .u32 0, .int .u32 2, .int .u32 5] T) = w' :=
  lw_yes 4 3 w.heap.size (fun i => if i = 0 then 0 else if i = 1 then 2 else 5) _ (hM.alloc _) (by omega) (by omega) (by omega) (three_cells w 0 2 5 T) (three_lt 4 0 2 5 (by decide) (by decide) (by decide))
theorem trips_a (w : World) (hM : Masks w) : Calls Tryd.prog 24 #[.int .i64 2, .int .i64 8, .int .u32 0, .int .u32 3, .int .u32 10] w fun e w' => e = .returned (.tuple #[.int .i64 4, .bool true, .int .i64 0]) ∧ Below w.heap.size w w' := by
  have hM1 := fun o => hM.alloc o
  have K := Lib.hid (show cmpF 2 8 0 10 = true by decide)
  have M := Lib.hid (show ((pw 8 - 1 : Nat) : Int) = 255 by decide)
  go_enter Tryd.func24, Tryd.ntmps24
  go_wp2_with (first
    | (go_at_call 61; refine (lw3_a w _ hM).mono ?_; rintro e w' ⟨rfl, rfl⟩)
    | (go_at_call 56; refine (cmp_ok 2 8 0 10 _ (hM1 _) (by omega) (by omega) (by omega) (by decide) (by decide)).mono ?_; rw [K.out]; rintro e w' ⟨rfl, rfl⟩)
    | (go_at_call 62; refine (mask_ok 8 _ (hM1 _) (by omega) (by omega)).mono ?_; rw [M.out]; rintro e w' ⟨rfl, rfl⟩)
    | (go_at_call 63; refine (ends_a _).mono ?_; rintro e w' ⟨rfl, rfl⟩)
    | (go_at_call 64; refine (first_a _).mono ?_; rintro e w' ⟨rfl, rfl⟩))
  go_ret3
  exact ⟨rfl, (Below.refl _ _).alloc (Nat.le_refl _) _⟩
theorem trips_b (w : World) (hM : Masks w) : Calls Tryd.prog 24 #[.int .i64 1, .int .i64 4, .int .u32 0, .int .u32 2, .int .u32 5] w fun e w' => e = .returned (.tuple #[.int .i64 0, .bool false, .int .i64 0]) ∧ Below w.heap.size w w' := by
  have hM1 := fun o => hM.alloc o
  have K := Lib.hid (show cmpF 1 4 0 5 = true by decide)
  have M := Lib.hid (show ((pw 4 - 1 : Nat) : Int) = 15 by decide)
  go_enter Tryd.func24, Tryd.ntmps24
  go_wp2_with (first
    | (go_at_call 61; refine (lw3_b w _ hM).mono ?_; rintro e w' ⟨rfl, rfl⟩)
    | (go_at_call 56; refine (cmp_ok 1 4 0 5 _ (hM1 _) (by omega) (by omega) (by omega) (by decide) (by decide)).mono ?_; rw [K.out]; rintro e w' ⟨rfl, rfl⟩)
    | (go_at_call 62; refine (mask_ok 4 _ (hM1 _) (by omega) (by omega)).mono ?_; rw [M.out]; rintro e w' ⟨rfl, rfl⟩)
    | (go_at_call 63; refine (ends_b _).mono ?_; rintro e w' ⟨rfl, rfl⟩)
    | (go_at_call 64; refine (first_b _).mono ?_; rintro e w' ⟨rfl, m, rfl⟩))
  go_ret3
  exact ⟨rfl, below_drewN ((Below.refl _ _).alloc (Nat.le_refl _) _) _⟩
/-- What holds of every world on the way. -/
def Way16 (w0 w : World) : Prop := Masks w ∧ Below w0.heap.size w0 w
theorem Way16.next {w0 w w1 : World} (h : Way16 w0 w) (hb : Below w.heap.size w w1) : Way16 w0 w1 := ⟨h.1.below hb (Nat.le_refl _), h.2.trans (hb.mono h.2.size)⟩
theorem known16_any (w : World) (hM : Masks w) : Calls Tryd.prog 23 #[] w fun e w' => e = .returned (.bool true) ∧ Below w.heap.size w w' := by
  have h0 : Way16 w w := ⟨hM, Below.refl _ _⟩
  have A := Lib.hid (show aftF 8 0 3 4 = 12 by decide)
  have S := Lib.hid (show sumS 0 3 4 % 18446744073709551616 % pw 8 = 18 by decide)
  have R := Lib.hid (show ringF 4 2 = 8 by decide)
  go_enter Tryd.func23, Tryd.ntmps23
  go_wp2_with fail
  refine (trips_a _ hM).mono ?_
  rintro e w1 ⟨rfl, hb1⟩
  have g1 := h0.next hb1
  go_wp2_with fail
  refine (after_ok 8 0 3 4 _ g1.1 (by omega) (by omega) (by decide) (by decide) (by omega)).mono ?_
  rw [A.out]
  rintro e w2 ⟨rfl, hb2⟩
  have g2 := g1.next hb2
  go_wp2_with fail
  refine (total_ok 8 0 3 4 _ g2.1 (by omega) (by omega) (by decide) (by decide) (by omega)).mono ?_
  rw [S.out]
  rintro e w3 ⟨rfl, hb3⟩
  have g3 := g2.next hb3
  go_wp2_with fail
  refine (trips_b _ g3.1).mono ?_
  rintro e w4 ⟨rfl, hb4⟩
  have g4 := g3.next hb4
  go_wp2_with fail
  refine (ring_ok 4 2 _ g4.1 (by omega) (by omega) (by decide)).mono ?_
  rw [R.out]
  rintro e w5 ⟨rfl, hb5⟩
  have g5 := g4.next hb5
  go_wp2
  go_ret
  exact ⟨rfl, g5.2⟩
end Go.Proofs.YtgnaohhopbhihaaDoor
