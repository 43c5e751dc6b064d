/-
  The word of an instruction, by the program.
-/
import Derived.Test.YthkaclmnbahieaaDoorRvB
namespace Go.Proofs.YthkaclmnbahieaaDoor
open Go.RowKit

theorem cells4r {W : World} {B : Nat} {v0 v1 v2 v3 : Value} {t : TypeId} (h : W.heap[B]? = some (.cells #[v0, v1, v2, v3] t (0, 0))) : W.cell? ⟨B, 0, none⟩ = some v0 ∧ W.cell? ⟨B, 1, none⟩ = some v1 ∧ W.cell? ⟨B, 2, none⟩ = some v2 ∧ W.cell? ⟨B, 3, none⟩ = some v3 := by
  refine ⟨?_, ?_, ?_, ?_⟩ <;> simp [World.cell?, h]
theorem or_lt {a b : Nat} (ha : a < 4294967296) (hb : b < 4294967296) : a ||| b < 4294967296 := Nat.or_lt_two_pow (n := 32) ha hb
theorem part_lt {n lo hi to : Nat} (h : 2 ^ (hi - lo + 1 + to) ≤ 4294967296) : part n lo hi to < 4294967296 := by
  unfold part
  have h1 : n / 2 ^ lo % 2 ^ (hi - lo + 1) < 2 ^ (hi - lo + 1) := Nat.mod_lt _ (Nat.pow_pos (by omega))
  have h2 : 0 < 2 ^ to := Nat.pow_pos (by omega)
  rw [Nat.pow_add] at h
  exact Nat.lt_of_lt_of_le (Nat.mul_lt_mul_of_pos_right h1 h2) h
theorem drewR {B : Nat} {w w' : World} (h : Below B w w') : Below B w w'.drew := ⟨h.os, h.tape, h.output, h.size, h.block⟩
set_option maxRecDepth 100000 in
set_option maxHeartbeats 4000000 in
theorem encode_k0 (i : Nat) (d a b n o f3 f7 : Nat) (imm : Int) (w : World) (hL : Laid w) (hi : i < 41) (hd : d < 32) (ha : a < 32) (hb : b < 32) (hn : imm % 4294967296 = (n : Int)) (eo : oT i = o) (e3 : f3T i = f3) (e7 : f7T i = f7) (ho : o < 128) (h3 : f3 < 8) (h7 : f7 < 128) (_ : n < 4294967296) (hk : kT i = 0) :
    Calls Tryd.prog 35 #[rvA i d a b imm] w fun e w' => e = .returned (.int .u32 (encK 0 o f3 f7 d a b n : Nat)) ∧ Below w.heap.size w w' := by
  have l0 : f3 * 4096 < 4294967296 := show f3 * 4096 < 4294967296 by omega
  have q0 : bits .or .u32 (((o) : Nat) : Int) ((f3 : Int) * 4096) = (((o ||| f3 * 4096) : Nat) : Int) := by
    rw [show (f3 : Int) * 4096 = ((f3 * 4096 : Nat) : Int) by omega]; exact u32_or (o) (f3 * 4096) ((show o < 4294967296 by omega)) l0
  have a0 : o ||| f3 * 4096 < 4294967296 := or_lt (a := o) (b := f3 * 4096) ((show o < 4294967296 by omega)) l0
  have l1 : d * 128 < 4294967296 := show d * 128 < 4294967296 by omega
  have q1 : bits .or .u32 (((o ||| f3 * 4096) : Nat) : Int) ((d : Int) * 128) = (((o ||| f3 * 4096 ||| d * 128) : Nat) : Int) := by
    rw [show (d : Int) * 128 = ((d * 128 : Nat) : Int) by omega]; exact u32_or (o ||| f3 * 4096) (d * 128) (a0) l1
  have a1 : o ||| f3 * 4096 ||| d * 128 < 4294967296 := or_lt (a := o ||| f3 * 4096) (b := d * 128) (a0) l1
  have l2 : a * 32768 < 4294967296 := show a * 32768 < 4294967296 by omega
  have q2 : bits .or .u32 (((o ||| f3 * 4096 ||| d * 128) : Nat) : Int) ((a : Int) * 32768) = (((o ||| f3 * 4096 ||| d * 128 ||| a * 32768) : Nat) : Int) := by
    rw [show (a : Int) * 32768 = ((a * 32768 : Nat) : Int) by omega]; exact u32_or (o ||| f3 * 4096 ||| d * 128) (a * 32768) (a1) l2
  have a2 : o ||| f3 * 4096 ||| d * 128 ||| a * 32768 < 4294967296 := or_lt (a := o ||| f3 * 4096 ||| d * 128) (b := a * 32768) (a1) l2
  have l3 : b * 1048576 < 4294967296 := show b * 1048576 < 4294967296 by omega
  have q3 : bits .or .u32 (((o ||| f3 * 4096 ||| d * 128 ||| a * 32768) : Nat) : Int) ((b : Int) * 1048576) = (((o ||| f3 * 4096 ||| d * 128 ||| a * 32768 ||| b * 1048576) : Nat) : Int) := by
    rw [show (b : Int) * 1048576 = ((b * 1048576 : Nat) : Int) by omega]; exact u32_or (o ||| f3 * 4096 ||| d * 128 ||| a * 32768) (b * 1048576) (a2) l3
  have a3 : o ||| f3 * 4096 ||| d * 128 ||| a * 32768 ||| b * 1048576 < 4294967296 := or_lt (a := o ||| f3 * 4096 ||| d * 128 ||| a * 32768) (b := b * 1048576) (a2) l3
  have l4 : f7 * 33554432 < 4294967296 := Nat.lt_of_le_of_lt (Nat.mul_le_mul_right 33554432 (show f7 ≤ 127 by omega)) (by decide)
  have q4 : bits .or .u32 (((o ||| f3 * 4096 ||| d * 128 ||| a * 32768 ||| b * 1048576) : Nat) : Int) ((f7 : Int) * 33554432) = (((o ||| f3 * 4096 ||| d * 128 ||| a * 32768 ||| b * 1048576 ||| f7 * 33554432) : Nat) : Int) := by
    rw [show (f7 : Int) * 33554432 = ((f7 * 33554432 : Nat) : Int) by omega]; exact u32_or (o ||| f3 * 4096 ||| d * 128 ||| a * 32768 ||| b * 1048576) (f7 * 33554432) (a3) l4
  have a4 : o ||| f3 * 4096 ||| d * 128 ||| a * 32768 ||| b * 1048576 ||| f7 * 33554432 < 4294967296 := or_lt (a := o ||| f3 * 4096 ||| d * 128 ||| a * 32768 ||| b * 1048576) (b := f7 * 33554432) (a3) l4
  have EV : (((o ||| f3 * 4096 ||| d * 128 ||| a * 32768 ||| b * 1048576 ||| f7 * 33554432) : Nat) : Int) = ((encK 0 o f3 f7 d a b n : Nat) : Int) := by
    unfold encK
    rw [if_pos rfl]
  have Q := Lib.hid (And.intro EV (And.intro q0 (And.intro q1 (And.intro q2 (And.intro q3 q4)))))
  clear q0 a0 l0 q1 a1 l1 q2 a2 l2 q3 a3 l3 q4 a4 l4 EV
  have hb0 : Below w.heap.size w (w.alloc (.cells #[.int .i64 i, .int .i64 d, .int .i64 a, .int .i64 b, .int .i64 imm] 23)) := (Below.refl _ _).alloc (Nat.le_refl _) _
  have hx := heap_alloc_new w (.cells #[.int .i64 i, .int .i64 d, .int .i64 a, .int .i64 b, .int .i64 imm] 23)
  go_enter Tryd.func35, Tryd.ntmps35
  go_upto_region 1 with fail
  obtain ⟨c0, c1, c2, c3⟩ := (hL.below hb0).fm i hi
  rw [hk] at c0
  rw [eo] at c1
  rw [e3] at c2
  rw [e7] at c3
  generalize World.alloc w _ = W at hx hb0 c0 c1 c2 c3 ⊢
  obtain ⟨X, hX⟩ : ∃ X, X = w.heap.size := ⟨_, rfl⟩
  rw [← hX] at hx hb0 ⊢
  have HX := Lib.hid hX
  have lX := lt_of_block hx
  obtain ⟨x0, x1, x2, x3, x4⟩ := cells5r hx
  clear hL hx hX eo e3 e7 hk
  go_upto_region 2 with fail
  have hs := heap_alloc_new W (.cells #[.int .u32 (0 : Nat), .int .u32 o, .int .u32 f3, .int .u32 f7] 66)
  have hb2 : Below X w (W.alloc (.cells #[.int .u32 (0 : Nat), .int .u32 o, .int .u32 f3, .int .u32 f7] 66)) := hb0.alloc (by omega) _
  replace x1 := Lib.cell?_alloc_some (.cells #[.int .u32 (0 : Nat), .int .u32 o, .int .u32 f3, .int .u32 f7] 66) x1
  replace x2 := Lib.cell?_alloc_some (.cells #[.int .u32 (0 : Nat), .int .u32 o, .int .u32 f3, .int .u32 f7] 66) x2
  replace x3 := Lib.cell?_alloc_some (.cells #[.int .u32 (0 : Nat), .int .u32 o, .int .u32 f3, .int .u32 f7] 66) x3
  replace x4 := Lib.cell?_alloc_some (.cells #[.int .u32 (0 : Nat), .int .u32 o, .int .u32 f3, .int .u32 f7] 66) x4
  clear c0 c1 c2 c3 x0 lX hb0
  generalize World.alloc W _ = W2 at hs hb2 x1 x2 x3 x4 ⊢
  generalize W.heap.size = S at hs ⊢
  obtain ⟨s0, s1, s2, s3⟩ := cells4r hs
  clear hs
  go_upto_region 3 with fail
  go_region
  rw [hn]
  clear hn
  go_wp2
  go_ret
  obtain ⟨EV, q0, q1, q2, q3, q4⟩ := Q.out
  refine ⟨ret_i ?_, by rw [HX.out] at hb2; exact drewR (hb2)⟩
  rw [q0, q1, q2, q3, q4]
  exact EV
set_option maxRecDepth 100000 in
set_option maxHeartbeats 4000000 in
theorem encode_k1 (i : Nat) (d a b n o f3 f7 : Nat) (imm : Int) (w : World) (hL : Laid w) (hi : i < 41) (hd : d < 32) (ha : a < 32) (hb : b < 32) (hn : imm % 4294967296 = (n : Int)) (eo : oT i = o) (e3 : f3T i = f3) (e7 : f7T i = f7) (ho : o < 128) (h3 : f3 < 8) (hn2 : n < 4294967296) (hk : kT i = 1) :
    Calls Tryd.prog 35 #[rvA i d a b imm] w fun e w' => e = .returned (.int .u32 (encK 1 o f3 f7 d a b n : Nat)) ∧ Below w.heap.size w w' := by
  have l0 : f3 * 4096 < 4294967296 := show f3 * 4096 < 4294967296 by omega
  have q0 : bits .or .u32 (((o) : Nat) : Int) ((f3 : Int) * 4096) = (((o ||| f3 * 4096) : Nat) : Int) := by
    rw [show (f3 : Int) * 4096 = ((f3 * 4096 : Nat) : Int) by omega]; exact u32_or (o) (f3 * 4096) ((show o < 4294967296 by omega)) l0
  have a0 : o ||| f3 * 4096 < 4294967296 := or_lt (a := o) (b := f3 * 4096) ((show o < 4294967296 by omega)) l0
  have l1 : d * 128 < 4294967296 := show d * 128 < 4294967296 by omega
  have q1 : bits .or .u32 (((o ||| f3 * 4096) : Nat) : Int) ((d : Int) * 128) = (((o ||| f3 * 4096 ||| d * 128) : Nat) : Int) := by
    rw [show (d : Int) * 128 = ((d * 128 : Nat) : Int) by omega]; exact u32_or (o ||| f3 * 4096) (d * 128) (a0) l1
  have a1 : o ||| f3 * 4096 ||| d * 128 < 4294967296 := or_lt (a := o ||| f3 * 4096) (b := d * 128) (a0) l1
  have l2 : a * 32768 < 4294967296 := show a * 32768 < 4294967296 by omega
  have q2 : bits .or .u32 (((o ||| f3 * 4096 ||| d * 128) : Nat) : Int) ((a : Int) * 32768) = (((o ||| f3 * 4096 ||| d * 128 ||| a * 32768) : Nat) : Int) := by
    rw [show (a : Int) * 32768 = ((a * 32768 : Nat) : Int) by omega]; exact u32_or (o ||| f3 * 4096 ||| d * 128) (a * 32768) (a1) l2
  have a2 : o ||| f3 * 4096 ||| d * 128 ||| a * 32768 < 4294967296 := or_lt (a := o ||| f3 * 4096 ||| d * 128) (b := a * 32768) (a1) l2
  have l3 : part n 0 11 20 < 4294967296 := part_lt (n := n) (lo := 0) (hi := 11) (to := 20) (by decide)
  have q3 : bits .or .u32 (((o ||| f3 * 4096 ||| d * 128 ||| a * 32768) : Nat) : Int) (((part n 0 11 20 : Nat) : Int)) = (((o ||| f3 * 4096 ||| d * 128 ||| a * 32768 ||| part n 0 11 20) : Nat) : Int) := by
    exact u32_or (o ||| f3 * 4096 ||| d * 128 ||| a * 32768) (part n 0 11 20) (a2) l3
  have a3 : o ||| f3 * 4096 ||| d * 128 ||| a * 32768 ||| part n 0 11 20 < 4294967296 := or_lt (a := o ||| f3 * 4096 ||| d * 128 ||| a * 32768) (b := part n 0 11 20) (a2) l3
  have EV : (((o ||| f3 * 4096 ||| d * 128 ||| a * 32768 ||| part n 0 11 20) : Nat) : Int) = ((encK 1 o f3 f7 d a b n : Nat) : Int) := by
    unfold encK
    rw [if_neg (by decide), if_pos rfl]
  have Q := Lib.hid (And.intro EV (And.intro q0 (And.intro q1 (And.intro q2 q3))))
  clear q0 a0 l0 q1 a1 l1 q2 a2 l2 q3 a3 l3 EV
  have P0 : ∀ w1, Calls Tryd.prog 61 #[.int .u32 n, .int .i64 0, .int .i64 11, .int .i64 20] w1 fun e w' => e = .returned (.int .u32 (part n 0 11 20 : Nat)) ∧ w' = w1.drew := fun w1 => part_any n 0 11 20 w1 (by omega) (by decide) (by decide) (by decide) (by decide) (part_lt (by decide))
  have P0 := Lib.hid P0
  have hb0 : Below w.heap.size w (w.alloc (.cells #[.int .i64 i, .int .i64 d, .int .i64 a, .int .i64 b, .int .i64 imm] 23)) := (Below.refl _ _).alloc (Nat.le_refl _) _
  have hx := heap_alloc_new w (.cells #[.int .i64 i, .int .i64 d, .int .i64 a, .int .i64 b, .int .i64 imm] 23)
  go_enter Tryd.func35, Tryd.ntmps35
  go_upto_region 1 with fail
  obtain ⟨c0, c1, c2, c3⟩ := (hL.below hb0).fm i hi
  rw [hk] at c0
  rw [eo] at c1
  rw [e3] at c2
  rw [e7] at c3
  generalize World.alloc w _ = W at hx hb0 c0 c1 c2 c3 ⊢
  obtain ⟨X, hX⟩ : ∃ X, X = w.heap.size := ⟨_, rfl⟩
  rw [← hX] at hx hb0 ⊢
  have HX := Lib.hid hX
  have lX := lt_of_block hx
  obtain ⟨x0, x1, x2, x3, x4⟩ := cells5r hx
  clear hL hx hX eo e3 e7 hk
  go_upto_region 2 with fail
  have hs := heap_alloc_new W (.cells #[.int .u32 (1 : Nat), .int .u32 o, .int .u32 f3, .int .u32 f7] 66)
  have hb2 : Below X w (W.alloc (.cells #[.int .u32 (1 : Nat), .int .u32 o, .int .u32 f3, .int .u32 f7] 66)) := hb0.alloc (by omega) _
  replace x1 := Lib.cell?_alloc_some (.cells #[.int .u32 (1 : Nat), .int .u32 o, .int .u32 f3, .int .u32 f7] 66) x1
  replace x2 := Lib.cell?_alloc_some (.cells #[.int .u32 (1 : Nat), .int .u32 o, .int .u32 f3, .int .u32 f7] 66) x2
  replace x3 := Lib.cell?_alloc_some (.cells #[.int .u32 (1 : Nat), .int .u32 o, .int .u32 f3, .int .u32 f7] 66) x3
  replace x4 := Lib.cell?_alloc_some (.cells #[.int .u32 (1 : Nat), .int .u32 o, .int .u32 f3, .int .u32 f7] 66) x4
  clear c0 c1 c2 c3 x0 lX hb0
  generalize World.alloc W _ = W2 at hs hb2 x1 x2 x3 x4 ⊢
  generalize W.heap.size = S at hs ⊢
  obtain ⟨s0, s1, s2, s3⟩ := cells4r hs
  clear hs
  go_upto_region 3 with fail
  go_region
  rw [hn]
  clear hn
  go_wp2_with (first | (with_reducible refine (P0.out _).mono ?_; rintro e w' ⟨rfl, rfl⟩))
  go_ret
  obtain ⟨EV, q0, q1, q2, q3⟩ := Q.out
  refine ⟨ret_i ?_, by rw [HX.out] at hb2; exact drewR (drewR (hb2))⟩
  rw [q0, q1, q2, q3]
  exact EV
set_option maxRecDepth 100000 in
set_option maxHeartbeats 4000000 in
theorem encode_k2 (i : Nat) (d a b n o f3 f7 : Nat) (imm : Int) (w : World) (hL : Laid w) (hi : i < 41) (hd : d < 32) (ha : a < 32) (hb : b < 32) (hn : imm % 4294967296 = (n : Int)) (eo : oT i = o) (e3 : f3T i = f3) (e7 : f7T i = f7) (ho : o < 128) (h3 : f3 < 8) (h7 : f7 < 128) (hn2 : n < 32) (hk : kT i = 2) :
    Calls Tryd.prog 35 #[rvA i d a b imm] w fun e w' => e = .returned (.int .u32 (encK 2 o f3 f7 d a b n : Nat)) ∧ Below w.heap.size w w' := by
  have l0 : f3 * 4096 < 4294967296 := show f3 * 4096 < 4294967296 by omega
  have q0 : bits .or .u32 (((o) : Nat) : Int) ((f3 : Int) * 4096) = (((o ||| f3 * 4096) : Nat) : Int) := by
    rw [show (f3 : Int) * 4096 = ((f3 * 4096 : Nat) : Int) by omega]; exact u32_or (o) (f3 * 4096) ((show o < 4294967296 by omega)) l0
  have a0 : o ||| f3 * 4096 < 4294967296 := or_lt (a := o) (b := f3 * 4096) ((show o < 4294967296 by omega)) l0
  have l1 : d * 128 < 4294967296 := show d * 128 < 4294967296 by omega
  have q1 : bits .or .u32 (((o ||| f3 * 4096) : Nat) : Int) ((d : Int) * 128) = (((o ||| f3 * 4096 ||| d * 128) : Nat) : Int) := by
    rw [show (d : Int) * 128 = ((d * 128 : Nat) : Int) by omega]; exact u32_or (o ||| f3 * 4096) (d * 128) (a0) l1
  have a1 : o ||| f3 * 4096 ||| d * 128 < 4294967296 := or_lt (a := o ||| f3 * 4096) (b := d * 128) (a0) l1
  have l2 : a * 32768 < 4294967296 := show a * 32768 < 4294967296 by omega
  have q2 : bits .or .u32 (((o ||| f3 * 4096 ||| d * 128) : Nat) : Int) ((a : Int) * 32768) = (((o ||| f3 * 4096 ||| d * 128 ||| a * 32768) : Nat) : Int) := by
    rw [show (a : Int) * 32768 = ((a * 32768 : Nat) : Int) by omega]; exact u32_or (o ||| f3 * 4096 ||| d * 128) (a * 32768) (a1) l2
  have a2 : o ||| f3 * 4096 ||| d * 128 ||| a * 32768 < 4294967296 := or_lt (a := o ||| f3 * 4096 ||| d * 128) (b := a * 32768) (a1) l2
  have l3 : n * 1048576 < 4294967296 := show n * 1048576 < 4294967296 by omega
  have q3 : bits .or .u32 (((o ||| f3 * 4096 ||| d * 128 ||| a * 32768) : Nat) : Int) ((n : Int) * 1048576) = (((o ||| f3 * 4096 ||| d * 128 ||| a * 32768 ||| n * 1048576) : Nat) : Int) := by
    rw [show (n : Int) * 1048576 = ((n * 1048576 : Nat) : Int) by omega]; exact u32_or (o ||| f3 * 4096 ||| d * 128 ||| a * 32768) (n * 1048576) (a2) l3
  have a3 : o ||| f3 * 4096 ||| d * 128 ||| a * 32768 ||| n * 1048576 < 4294967296 := or_lt (a := o ||| f3 * 4096 ||| d * 128 ||| a * 32768) (b := n * 1048576) (a2) l3
  have l4 : f7 * 33554432 < 4294967296 := Nat.lt_of_le_of_lt (Nat.mul_le_mul_right 33554432 (show f7 ≤ 127 by omega)) (by decide)
  have q4 : bits .or .u32 (((o ||| f3 * 4096 ||| d * 128 ||| a * 32768 ||| n * 1048576) : Nat) : Int) ((f7 : Int) * 33554432) = (((o ||| f3 * 4096 ||| d * 128 ||| a * 32768 ||| n * 1048576 ||| f7 * 33554432) : Nat) : Int) := by
    rw [show (f7 : Int) * 33554432 = ((f7 * 33554432 : Nat) : Int) by omega]; exact u32_or (o ||| f3 * 4096 ||| d * 128 ||| a * 32768 ||| n * 1048576) (f7 * 33554432) (a3) l4
  have a4 : o ||| f3 * 4096 ||| d * 128 ||| a * 32768 ||| n * 1048576 ||| f7 * 33554432 < 4294967296 := or_lt (a := o ||| f3 * 4096 ||| d * 128 ||| a * 32768 ||| n * 1048576) (b := f7 * 33554432) (a3) l4
  have EV : (((o ||| f3 * 4096 ||| d * 128 ||| a * 32768 ||| n * 1048576 ||| f7 * 33554432) : Nat) : Int) = ((encK 2 o f3 f7 d a b n : Nat) : Int) := by
    unfold encK
    rw [if_neg (by decide), if_neg (by decide), if_pos rfl]
  have Q := Lib.hid (And.intro EV (And.intro q0 (And.intro q1 (And.intro q2 (And.intro q3 q4)))))
  clear q0 a0 l0 q1 a1 l1 q2 a2 l2 q3 a3 l3 q4 a4 l4 EV
  have hb0 : Below w.heap.size w (w.alloc (.cells #[.int .i64 i, .int .i64 d, .int .i64 a, .int .i64 b, .int .i64 imm] 23)) := (Below.refl _ _).alloc (Nat.le_refl _) _
  have hx := heap_alloc_new w (.cells #[.int .i64 i, .int .i64 d, .int .i64 a, .int .i64 b, .int .i64 imm] 23)
  go_enter Tryd.func35, Tryd.ntmps35
  go_upto_region 1 with fail
  obtain ⟨c0, c1, c2, c3⟩ := (hL.below hb0).fm i hi
  rw [hk] at c0
  rw [eo] at c1
  rw [e3] at c2
  rw [e7] at c3
  generalize World.alloc w _ = W at hx hb0 c0 c1 c2 c3 ⊢
  obtain ⟨X, hX⟩ : ∃ X, X = w.heap.size := ⟨_, rfl⟩
  rw [← hX] at hx hb0 ⊢
  have HX := Lib.hid hX
  have lX := lt_of_block hx
  obtain ⟨x0, x1, x2, x3, x4⟩ := cells5r hx
  clear hL hx hX eo e3 e7 hk
  go_upto_region 2 with fail
  have hs := heap_alloc_new W (.cells #[.int .u32 (2 : Nat), .int .u32 o, .int .u32 f3, .int .u32 f7] 66)
  have hb2 : Below X w (W.alloc (.cells #[.int .u32 (2 : Nat), .int .u32 o, .int .u32 f3, .int .u32 f7] 66)) := hb0.alloc (by omega) _
  replace x1 := Lib.cell?_alloc_some (.cells #[.int .u32 (2 : Nat), .int .u32 o, .int .u32 f3, .int .u32 f7] 66) x1
  replace x2 := Lib.cell?_alloc_some (.cells #[.int .u32 (2 : Nat), .int .u32 o, .int .u32 f3, .int .u32 f7] 66) x2
  replace x3 := Lib.cell?_alloc_some (.cells #[.int .u32 (2 : Nat), .int .u32 o, .int .u32 f3, .int .u32 f7] 66) x3
  replace x4 := Lib.cell?_alloc_some (.cells #[.int .u32 (2 : Nat), .int .u32 o, .int .u32 f3, .int .u32 f7] 66) x4
  clear c0 c1 c2 c3 x0 lX hb0
  generalize World.alloc W _ = W2 at hs hb2 x1 x2 x3 x4 ⊢
  generalize W.heap.size = S at hs ⊢
  obtain ⟨s0, s1, s2, s3⟩ := cells4r hs
  clear hs
  go_upto_region 3 with fail
  go_region
  rw [hn]
  clear hn
  go_wp2
  go_ret
  obtain ⟨EV, q0, q1, q2, q3, q4⟩ := Q.out
  refine ⟨ret_i ?_, by rw [HX.out] at hb2; exact drewR (hb2)⟩
  rw [q0, q1, q2, q3, q4]
  exact EV
set_option maxRecDepth 100000 in
set_option maxHeartbeats 4000000 in
theorem encode_k3 (i : Nat) (d a b n o f3 f7 : Nat) (imm : Int) (w : World) (hL : Laid w) (hi : i < 41) (hd : d < 32) (ha : a < 32) (hb : b < 32) (hn : imm % 4294967296 = (n : Int)) (eo : oT i = o) (e3 : f3T i = f3) (e7 : f7T i = f7) (ho : o < 128) (h3 : f3 < 8) (hn2 : n < 1048576) (hk : kT i = 3) :
    Calls Tryd.prog 35 #[rvA i d a b imm] w fun e w' => e = .returned (.int .u32 (encK 3 o f3 f7 d a b n : Nat)) ∧ Below w.heap.size w w' := by
  have l0 : f3 * 4096 < 4294967296 := show f3 * 4096 < 4294967296 by omega
  have q0 : bits .or .u32 (((o) : Nat) : Int) ((f3 : Int) * 4096) = (((o ||| f3 * 4096) : Nat) : Int) := by
    rw [show (f3 : Int) * 4096 = ((f3 * 4096 : Nat) : Int) by omega]; exact u32_or (o) (f3 * 4096) ((show o < 4294967296 by omega)) l0
  have a0 : o ||| f3 * 4096 < 4294967296 := or_lt (a := o) (b := f3 * 4096) ((show o < 4294967296 by omega)) l0
  have l1 : d * 128 < 4294967296 := show d * 128 < 4294967296 by omega
  have q1 : bits .or .u32 (((o ||| f3 * 4096) : Nat) : Int) ((d : Int) * 128) = (((o ||| f3 * 4096 ||| d * 128) : Nat) : Int) := by
    rw [show (d : Int) * 128 = ((d * 128 : Nat) : Int) by omega]; exact u32_or (o ||| f3 * 4096) (d * 128) (a0) l1
  have a1 : o ||| f3 * 4096 ||| d * 128 < 4294967296 := or_lt (a := o ||| f3 * 4096) (b := d * 128) (a0) l1
  have l2 : n * 4096 < 4294967296 := show n * 4096 < 4294967296 by omega
  have q2 : bits .or .u32 (((o ||| f3 * 4096 ||| d * 128) : Nat) : Int) ((n : Int) * 4096) = (((o ||| f3 * 4096 ||| d * 128 ||| n * 4096) : Nat) : Int) := by
    rw [show (n : Int) * 4096 = ((n * 4096 : Nat) : Int) by omega]; exact u32_or (o ||| f3 * 4096 ||| d * 128) (n * 4096) (a1) l2
  have a2 : o ||| f3 * 4096 ||| d * 128 ||| n * 4096 < 4294967296 := or_lt (a := o ||| f3 * 4096 ||| d * 128) (b := n * 4096) (a1) l2
  have EV : (((o ||| f3 * 4096 ||| d * 128 ||| n * 4096) : Nat) : Int) = ((encK 3 o f3 f7 d a b n : Nat) : Int) := by
    unfold encK
    rw [if_neg (by decide), if_neg (by decide), if_neg (by decide), if_pos rfl]
  have Q := Lib.hid (And.intro EV (And.intro q0 (And.intro q1 q2)))
  clear q0 a0 l0 q1 a1 l1 q2 a2 l2 EV
  have hb0 : Below w.heap.size w (w.alloc (.cells #[.int .i64 i, .int .i64 d, .int .i64 a, .int .i64 b, .int .i64 imm] 23)) := (Below.refl _ _).alloc (Nat.le_refl _) _
  have hx := heap_alloc_new w (.cells #[.int .i64 i, .int .i64 d, .int .i64 a, .int .i64 b, .int .i64 imm] 23)
  go_enter Tryd.func35, Tryd.ntmps35
  go_upto_region 1 with fail
  obtain ⟨c0, c1, c2, c3⟩ := (hL.below hb0).fm i hi
  rw [hk] at c0
  rw [eo] at c1
  rw [e3] at c2
  rw [e7] at c3
  generalize World.alloc w _ = W at hx hb0 c0 c1 c2 c3 ⊢
  obtain ⟨X, hX⟩ : ∃ X, X = w.heap.size := ⟨_, rfl⟩
  rw [← hX] at hx hb0 ⊢
  have HX := Lib.hid hX
  have lX := lt_of_block hx
  obtain ⟨x0, x1, x2, x3, x4⟩ := cells5r hx
  clear hL hx hX eo e3 e7 hk
  go_upto_region 2 with fail
  have hs := heap_alloc_new W (.cells #[.int .u32 (3 : Nat), .int .u32 o, .int .u32 f3, .int .u32 f7] 66)
  have hb2 : Below X w (W.alloc (.cells #[.int .u32 (3 : Nat), .int .u32 o, .int .u32 f3, .int .u32 f7] 66)) := hb0.alloc (by omega) _
  replace x1 := Lib.cell?_alloc_some (.cells #[.int .u32 (3 : Nat), .int .u32 o, .int .u32 f3, .int .u32 f7] 66) x1
  replace x2 := Lib.cell?_alloc_some (.cells #[.int .u32 (3 : Nat), .int .u32 o, .int .u32 f3, .int .u32 f7] 66) x2
  replace x3 := Lib.cell?_alloc_some (.cells #[.int .u32 (3 : Nat), .int .u32 o, .int .u32 f3, .int .u32 f7] 66) x3
  replace x4 := Lib.cell?_alloc_some (.cells #[.int .u32 (3 : Nat), .int .u32 o, .int .u32 f3, .int .u32 f7] 66) x4
  clear c0 c1 c2 c3 x0 lX hb0
  generalize World.alloc W _ = W2 at hs hb2 x1 x2 x3 x4 ⊢
  generalize W.heap.size = S at hs ⊢
  obtain ⟨s0, s1, s2, s3⟩ := cells4r hs
  clear hs
  go_upto_region 3 with fail
  go_region
  rw [hn]
  clear hn
  go_wp2
  go_ret
  obtain ⟨EV, q0, q1, q2⟩ := Q.out
  refine ⟨ret_i ?_, by rw [HX.out] at hb2; exact drewR (hb2)⟩
  rw [q0, q1, q2]
  exact EV
set_option maxRecDepth 100000 in
set_option maxHeartbeats 4000000 in
theorem encode_k4 (i : Nat) (d a b n o f3 f7 : Nat) (imm : Int) (w : World) (hL : Laid w) (hi : i < 41) (hd : d < 32) (ha : a < 32) (hb : b < 32) (hn : imm % 4294967296 = (n : Int)) (eo : oT i = o) (e3 : f3T i = f3) (e7 : f7T i = f7) (ho : o < 128) (h3 : f3 < 8) (hn2 : n < 4294967296) (hk : kT i = 4) :
    Calls Tryd.prog 35 #[rvA i d a b imm] w fun e w' => e = .returned (.int .u32 (encK 4 o f3 f7 d a b n : Nat)) ∧ Below w.heap.size w w' := by
  have l0 : f3 * 4096 < 4294967296 := show f3 * 4096 < 4294967296 by omega
  have q0 : bits .or .u32 (((o) : Nat) : Int) ((f3 : Int) * 4096) = (((o ||| f3 * 4096) : Nat) : Int) := by
    rw [show (f3 : Int) * 4096 = ((f3 * 4096 : Nat) : Int) by omega]; exact u32_or (o) (f3 * 4096) ((show o < 4294967296 by omega)) l0
  have a0 : o ||| f3 * 4096 < 4294967296 := or_lt (a := o) (b := f3 * 4096) ((show o < 4294967296 by omega)) l0
  have l1 : a * 32768 < 4294967296 := show a * 32768 < 4294967296 by omega
  have q1 : bits .or .u32 (((o ||| f3 * 4096) : Nat) : Int) ((a : Int) * 32768) = (((o ||| f3 * 4096 ||| a * 32768) : Nat) : Int) := by
    rw [show (a : Int) * 32768 = ((a * 32768 : Nat) : Int) by omega]; exact u32_or (o ||| f3 * 4096) (a * 32768) (a0) l1
  have a1 : o ||| f3 * 4096 ||| a * 32768 < 4294967296 := or_lt (a := o ||| f3 * 4096) (b := a * 32768) (a0) l1
  have l2 : b * 1048576 < 4294967296 := show b * 1048576 < 4294967296 by omega
  have q2 : bits .or .u32 (((o ||| f3 * 4096 ||| a * 32768) : Nat) : Int) ((b : Int) * 1048576) = (((o ||| f3 * 4096 ||| a * 32768 ||| b * 1048576) : Nat) : Int) := by
    rw [show (b : Int) * 1048576 = ((b * 1048576 : Nat) : Int) by omega]; exact u32_or (o ||| f3 * 4096 ||| a * 32768) (b * 1048576) (a1) l2
  have a2 : o ||| f3 * 4096 ||| a * 32768 ||| b * 1048576 < 4294967296 := or_lt (a := o ||| f3 * 4096 ||| a * 32768) (b := b * 1048576) (a1) l2
  have l3 : part n 0 4 7 < 4294967296 := part_lt (n := n) (lo := 0) (hi := 4) (to := 7) (by decide)
  have q3 : bits .or .u32 (((o ||| f3 * 4096 ||| a * 32768 ||| b * 1048576) : Nat) : Int) (((part n 0 4 7 : Nat) : Int)) = (((o ||| f3 * 4096 ||| a * 32768 ||| b * 1048576 ||| part n 0 4 7) : Nat) : Int) := by
    exact u32_or (o ||| f3 * 4096 ||| a * 32768 ||| b * 1048576) (part n 0 4 7) (a2) l3
  have a3 : o ||| f3 * 4096 ||| a * 32768 ||| b * 1048576 ||| part n 0 4 7 < 4294967296 := or_lt (a := o ||| f3 * 4096 ||| a * 32768 ||| b * 1048576) (b := part n 0 4 7) (a2) l3
  have l4 : part n 5 11 25 < 4294967296 := part_lt (n := n) (lo := 5) (hi := 11) (to := 25) (by decide)
  have q4 : bits .or .u32 (((o ||| f3 * 4096 ||| a * 32768 ||| b * 1048576 ||| part n 0 4 7) : Nat) : Int) (((part n 5 11 25 : Nat) : Int)) = (((o ||| f3 * 4096 ||| a * 32768 ||| b * 1048576 ||| part n 0 4 7 ||| part n 5 11 25) : Nat) : Int) := by
    exact u32_or (o ||| f3 * 4096 ||| a * 32768 ||| b * 1048576 ||| part n 0 4 7) (part n 5 11 25) (a3) l4
  have a4 : o ||| f3 * 4096 ||| a * 32768 ||| b * 1048576 ||| part n 0 4 7 ||| part n 5 11 25 < 4294967296 := or_lt (a := o ||| f3 * 4096 ||| a * 32768 ||| b * 1048576 ||| part n 0 4 7) (b := part n 5 11 25) (a3) l4
  have EV : (((o ||| f3 * 4096 ||| a * 32768 ||| b * 1048576 ||| part n 0 4 7 ||| part n 5 11 25) : Nat) : Int) = ((encK 4 o f3 f7 d a b n : Nat) : Int) := by
    unfold encK
    rw [if_neg (by decide), if_neg (by decide), if_neg (by decide), if_neg (by decide), if_pos rfl]
  have Q := Lib.hid (And.intro EV (And.intro q0 (And.intro q1 (And.intro q2 (And.intro q3 q4)))))
  clear q0 a0 l0 q1 a1 l1 q2 a2 l2 q3 a3 l3 q4 a4 l4 EV
  have P0 : ∀ w1, Calls Tryd.prog 61 #[.int .u32 n, .int .i64 0, .int .i64 4, .int .i64 7] w1 fun e w' => e = .returned (.int .u32 (part n 0 4 7 : Nat)) ∧ w' = w1.drew := fun w1 => part_any n 0 4 7 w1 (by omega) (by decide) (by decide) (by decide) (by decide) (part_lt (by decide))
  have P0 := Lib.hid P0
  have P1 : ∀ w1, Calls Tryd.prog 61 #[.int .u32 n, .int .i64 5, .int .i64 11, .int .i64 25] w1 fun e w' => e = .returned (.int .u32 (part n 5 11 25 : Nat)) ∧ w' = w1.drew := fun w1 => part_any n 5 11 25 w1 (by omega) (by decide) (by decide) (by decide) (by decide) (part_lt (by decide))
  have P1 := Lib.hid P1
  have hb0 : Below w.heap.size w (w.alloc (.cells #[.int .i64 i, .int .i64 d, .int .i64 a, .int .i64 b, .int .i64 imm] 23)) := (Below.refl _ _).alloc (Nat.le_refl _) _
  have hx := heap_alloc_new w (.cells #[.int .i64 i, .int .i64 d, .int .i64 a, .int .i64 b, .int .i64 imm] 23)
  go_enter Tryd.func35, Tryd.ntmps35
  go_upto_region 1 with fail
  obtain ⟨c0, c1, c2, c3⟩ := (hL.below hb0).fm i hi
  rw [hk] at c0
  rw [eo] at c1
  rw [e3] at c2
  rw [e7] at c3
  generalize World.alloc w _ = W at hx hb0 c0 c1 c2 c3 ⊢
  obtain ⟨X, hX⟩ : ∃ X, X = w.heap.size := ⟨_, rfl⟩
  rw [← hX] at hx hb0 ⊢
  have HX := Lib.hid hX
  have lX := lt_of_block hx
  obtain ⟨x0, x1, x2, x3, x4⟩ := cells5r hx
  clear hL hx hX eo e3 e7 hk
  go_upto_region 2 with fail
  have hs := heap_alloc_new W (.cells #[.int .u32 (4 : Nat), .int .u32 o, .int .u32 f3, .int .u32 f7] 66)
  have hb2 : Below X w (W.alloc (.cells #[.int .u32 (4 : Nat), .int .u32 o, .int .u32 f3, .int .u32 f7] 66)) := hb0.alloc (by omega) _
  replace x1 := Lib.cell?_alloc_some (.cells #[.int .u32 (4 : Nat), .int .u32 o, .int .u32 f3, .int .u32 f7] 66) x1
  replace x2 := Lib.cell?_alloc_some (.cells #[.int .u32 (4 : Nat), .int .u32 o, .int .u32 f3, .int .u32 f7] 66) x2
  replace x3 := Lib.cell?_alloc_some (.cells #[.int .u32 (4 : Nat), .int .u32 o, .int .u32 f3, .int .u32 f7] 66) x3
  replace x4 := Lib.cell?_alloc_some (.cells #[.int .u32 (4 : Nat), .int .u32 o, .int .u32 f3, .int .u32 f7] 66) x4
  clear c0 c1 c2 c3 x0 lX hb0
  generalize World.alloc W _ = W2 at hs hb2 x1 x2 x3 x4 ⊢
  generalize W.heap.size = S at hs ⊢
  obtain ⟨s0, s1, s2, s3⟩ := cells4r hs
  clear hs
  go_upto_region 3 with fail
  go_region
  rw [hn]
  clear hn
  go_wp2_with (first | (with_reducible refine (P0.out _).mono ?_; rintro e w' ⟨rfl, rfl⟩) | (with_reducible refine (P1.out _).mono ?_; rintro e w' ⟨rfl, rfl⟩))
  go_ret
  obtain ⟨EV, q0, q1, q2, q3, q4⟩ := Q.out
  refine ⟨ret_i ?_, by rw [HX.out] at hb2; exact drewR (drewR (drewR (hb2)))⟩
  rw [q0, q1, q2, q3, q4]
  exact EV
set_option maxRecDepth 100000 in
set_option maxHeartbeats 4000000 in
theorem encode_k5 (i : Nat) (d a b n o f3 f7 : Nat) (imm : Int) (w : World) (hL : Laid w) (hi : i < 41) (hd : d < 32) (ha : a < 32) (hb : b < 32) (hn : imm % 4294967296 = (n : Int)) (eo : oT i = o) (e3 : f3T i = f3) (e7 : f7T i = f7) (ho : o < 128) (h3 : f3 < 8) (hn2 : n < 4294967296) (hk : kT i = 5) :
    Calls Tryd.prog 35 #[rvA i d a b imm] w fun e w' => e = .returned (.int .u32 (encK 5 o f3 f7 d a b n : Nat)) ∧ Below w.heap.size w w' := by
  have l0 : f3 * 4096 < 4294967296 := show f3 * 4096 < 4294967296 by omega
  have q0 : bits .or .u32 (((o) : Nat) : Int) ((f3 : Int) * 4096) = (((o ||| f3 * 4096) : Nat) : Int) := by
    rw [show (f3 : Int) * 4096 = ((f3 * 4096 : Nat) : Int) by omega]; exact u32_or (o) (f3 * 4096) ((show o < 4294967296 by omega)) l0
  have a0 : o ||| f3 * 4096 < 4294967296 := or_lt (a := o) (b := f3 * 4096) ((show o < 4294967296 by omega)) l0
  have l1 : a * 32768 < 4294967296 := show a * 32768 < 4294967296 by omega
  have q1 : bits .or .u32 (((o ||| f3 * 4096) : Nat) : Int) ((a : Int) * 32768) = (((o ||| f3 * 4096 ||| a * 32768) : Nat) : Int) := by
    rw [show (a : Int) * 32768 = ((a * 32768 : Nat) : Int) by omega]; exact u32_or (o ||| f3 * 4096) (a * 32768) (a0) l1
  have a1 : o ||| f3 * 4096 ||| a * 32768 < 4294967296 := or_lt (a := o ||| f3 * 4096) (b := a * 32768) (a0) l1
  have l2 : b * 1048576 < 4294967296 := show b * 1048576 < 4294967296 by omega
  have q2 : bits .or .u32 (((o ||| f3 * 4096 ||| a * 32768) : Nat) : Int) ((b : Int) * 1048576) = (((o ||| f3 * 4096 ||| a * 32768 ||| b * 1048576) : Nat) : Int) := by
    rw [show (b : Int) * 1048576 = ((b * 1048576 : Nat) : Int) by omega]; exact u32_or (o ||| f3 * 4096 ||| a * 32768) (b * 1048576) (a1) l2
  have a2 : o ||| f3 * 4096 ||| a * 32768 ||| b * 1048576 < 4294967296 := or_lt (a := o ||| f3 * 4096 ||| a * 32768) (b := b * 1048576) (a1) l2
  have l3 : part n 11 11 7 < 4294967296 := part_lt (n := n) (lo := 11) (hi := 11) (to := 7) (by decide)
  have q3 : bits .or .u32 (((o ||| f3 * 4096 ||| a * 32768 ||| b * 1048576) : Nat) : Int) (((part n 11 11 7 : Nat) : Int)) = (((o ||| f3 * 4096 ||| a * 32768 ||| b * 1048576 ||| part n 11 11 7) : Nat) : Int) := by
    exact u32_or (o ||| f3 * 4096 ||| a * 32768 ||| b * 1048576) (part n 11 11 7) (a2) l3
  have a3 : o ||| f3 * 4096 ||| a * 32768 ||| b * 1048576 ||| part n 11 11 7 < 4294967296 := or_lt (a := o ||| f3 * 4096 ||| a * 32768 ||| b * 1048576) (b := part n 11 11 7) (a2) l3
  have l4 : part n 1 4 8 < 4294967296 := part_lt (n := n) (lo := 1) (hi := 4) (to := 8) (by decide)
  have q4 : bits .or .u32 (((o ||| f3 * 4096 ||| a * 32768 ||| b * 1048576 ||| part n 11 11 7) : Nat) : Int) (((part n 1 4 8 : Nat) : Int)) = (((o ||| f3 * 4096 ||| a * 32768 ||| b * 1048576 ||| part n 11 11 7 ||| part n 1 4 8) : Nat) : Int) := by
    exact u32_or (o ||| f3 * 4096 ||| a * 32768 ||| b * 1048576 ||| part n 11 11 7) (part n 1 4 8) (a3) l4
  have a4 : o ||| f3 * 4096 ||| a * 32768 ||| b * 1048576 ||| part n 11 11 7 ||| part n 1 4 8 < 4294967296 := or_lt (a := o ||| f3 * 4096 ||| a * 32768 ||| b * 1048576 ||| part n 11 11 7) (b := part n 1 4 8) (a3) l4
  have l5 : part n 5 10 25 < 4294967296 := part_lt (n := n) (lo := 5) (hi := 10) (to := 25) (by decide)
  have q5 : bits .or .u32 (((o ||| f3 * 4096 ||| a * 32768 ||| b * 1048576 ||| part n 11 11 7 ||| part n 1 4 8) : Nat) : Int) (((part n 5 10 25 : Nat) : Int)) = (((o ||| f3 * 4096 ||| a * 32768 ||| b * 1048576 ||| part n 11 11 7 ||| part n 1 4 8 ||| part n 5 10 25) : Nat) : Int) := by
    exact u32_or (o ||| f3 * 4096 ||| a * 32768 ||| b * 1048576 ||| part n 11 11 7 ||| part n 1 4 8) (part n 5 10 25) (a4) l5
  have a5 : o ||| f3 * 4096 ||| a * 32768 ||| b * 1048576 ||| part n 11 11 7 ||| part n 1 4 8 ||| part n 5 10 25 < 4294967296 := or_lt (a := o ||| f3 * 4096 ||| a * 32768 ||| b * 1048576 ||| part n 11 11 7 ||| part n 1 4 8) (b := part n 5 10 25) (a4) l5
  have l6 : part n 12 12 31 < 4294967296 := part_lt (n := n) (lo := 12) (hi := 12) (to := 31) (by decide)
  have q6 : bits .or .u32 (((o ||| f3 * 4096 ||| a * 32768 ||| b * 1048576 ||| part n 11 11 7 ||| part n 1 4 8 ||| part n 5 10 25) : Nat) : Int) (((part n 12 12 31 : Nat) : Int)) = (((o ||| f3 * 4096 ||| a * 32768 ||| b * 1048576 ||| part n 11 11 7 ||| part n 1 4 8 ||| part n 5 10 25 ||| part n 12 12 31) : Nat) : Int) := by
    exact u32_or (o ||| f3 * 4096 ||| a * 32768 ||| b * 1048576 ||| part n 11 11 7 ||| part n 1 4 8 ||| part n 5 10 25) (part n 12 12 31) (a5) l6
  have a6 : o ||| f3 * 4096 ||| a * 32768 ||| b * 1048576 ||| part n 11 11 7 ||| part n 1 4 8 ||| part n 5 10 25 ||| part n 12 12 31 < 4294967296 := or_lt (a := o ||| f3 * 4096 ||| a * 32768 ||| b * 1048576 ||| part n 11 11 7 ||| part n 1 4 8 ||| part n 5 10 25) (b := part n 12 12 31) (a5) l6
  have EV : (((o ||| f3 * 4096 ||| a * 32768 ||| b * 1048576 ||| part n 11 11 7 ||| part n 1 4 8 ||| part n 5 10 25 ||| part n 12 12 31) : Nat) : Int) = ((encK 5 o f3 f7 d a b n : Nat) : Int) := by
    unfold encK
    rw [if_neg (by decide), if_neg (by decide), if_neg (by decide), if_neg (by decide), if_neg (by decide), if_pos rfl]
  have Q := Lib.hid (And.intro EV (And.intro q0 (And.intro q1 (And.intro q2 (And.intro q3 (And.intro q4 (And.intro q5 q6)))))))
  clear q0 a0 l0 q1 a1 l1 q2 a2 l2 q3 a3 l3 q4 a4 l4 q5 a5 l5 q6 a6 l6 EV
  have P0 : ∀ w1, Calls Tryd.prog 61 #[.int .u32 n, .int .i64 11, .int .i64 11, .int .i64 7] w1 fun e w' => e = .returned (.int .u32 (part n 11 11 7 : Nat)) ∧ w' = w1.drew := fun w1 => part_any n 11 11 7 w1 (by omega) (by decide) (by decide) (by decide) (by decide) (part_lt (by decide))
  have P0 := Lib.hid P0
  have P1 : ∀ w1, Calls Tryd.prog 61 #[.int .u32 n, .int .i64 1, .int .i64 4, .int .i64 8] w1 fun e w' => e = .returned (.int .u32 (part n 1 4 8 : Nat)) ∧ w' = w1.drew := fun w1 => part_any n 1 4 8 w1 (by omega) (by decide) (by decide) (by decide) (by decide) (part_lt (by decide))
  have P1 := Lib.hid P1
  have P2 : ∀ w1, Calls Tryd.prog 61 #[.int .u32 n, .int .i64 5, .int .i64 10, .int .i64 25] w1 fun e w' => e = .returned (.int .u32 (part n 5 10 25 : Nat)) ∧ w' = w1.drew := fun w1 => part_any n 5 10 25 w1 (by omega) (by decide) (by decide) (by decide) (by decide) (part_lt (by decide))
  have P2 := Lib.hid P2
  have P3 : ∀ w1, Calls Tryd.prog 61 #[.int .u32 n, .int .i64 12, .int .i64 12, .int .i64 31] w1 fun e w' => e = .returned (.int .u32 (part n 12 12 31 : Nat)) ∧ w' = w1.drew := fun w1 => part_any n 12 12 31 w1 (by omega) (by decide) (by decide) (by decide) (by decide) (part_lt (by decide))
  have P3 := Lib.hid P3
  have hb0 : Below w.heap.size w (w.alloc (.cells #[.int .i64 i, .int .i64 d, .int .i64 a, .int .i64 b, .int .i64 imm] 23)) := (Below.refl _ _).alloc (Nat.le_refl _) _
  have hx := heap_alloc_new w (.cells #[.int .i64 i, .int .i64 d, .int .i64 a, .int .i64 b, .int .i64 imm] 23)
  go_enter Tryd.func35, Tryd.ntmps35
  go_upto_region 1 with fail
  obtain ⟨c0, c1, c2, c3⟩ := (hL.below hb0).fm i hi
  rw [hk] at c0
  rw [eo] at c1
  rw [e3] at c2
  rw [e7] at c3
  generalize World.alloc w _ = W at hx hb0 c0 c1 c2 c3 ⊢
  obtain ⟨X, hX⟩ : ∃ X, X = w.heap.size := ⟨_, rfl⟩
  rw [← hX] at hx hb0 ⊢
  have HX := Lib.hid hX
  have lX := lt_of_block hx
  obtain ⟨x0, x1, x2, x3, x4⟩ := cells5r hx
  clear hL hx hX eo e3 e7 hk
  go_upto_region 2 with fail
  have hs := heap_alloc_new W (.cells #[.int .u32 (5 : Nat), .int .u32 o, .int .u32 f3, .int .u32 f7] 66)
  have hb2 : Below X w (W.alloc (.cells #[.int .u32 (5 : Nat), .int .u32 o, .int .u32 f3, .int .u32 f7] 66)) := hb0.alloc (by omega) _
  replace x1 := Lib.cell?_alloc_some (.cells #[.int .u32 (5 : Nat), .int .u32 o, .int .u32 f3, .int .u32 f7] 66) x1
  replace x2 := Lib.cell?_alloc_some (.cells #[.int .u32 (5 : Nat), .int .u32 o, .int .u32 f3, .int .u32 f7] 66) x2
  replace x3 := Lib.cell?_alloc_some (.cells #[.int .u32 (5 : Nat), .int .u32 o, .int .u32 f3, .int .u32 f7] 66) x3
  replace x4 := Lib.cell?_alloc_some (.cells #[.int .u32 (5 : Nat), .int .u32 o, .int .u32 f3, .int .u32 f7] 66) x4
  clear c0 c1 c2 c3 x0 lX hb0
  generalize World.alloc W _ = W2 at hs hb2 x1 x2 x3 x4 ⊢
  generalize W.heap.size = S at hs ⊢
  obtain ⟨s0, s1, s2, s3⟩ := cells4r hs
  clear hs
  go_upto_region 3 with fail
  go_region
  rw [hn]
  clear hn
  go_wp2_with (first | (with_reducible refine (P0.out _).mono ?_; rintro e w' ⟨rfl, rfl⟩) | (with_reducible refine (P1.out _).mono ?_; rintro e w' ⟨rfl, rfl⟩) | (with_reducible refine (P2.out _).mono ?_; rintro e w' ⟨rfl, rfl⟩) | (with_reducible refine (P3.out _).mono ?_; rintro e w' ⟨rfl, rfl⟩))
  go_ret
  obtain ⟨EV, q0, q1, q2, q3, q4, q5, q6⟩ := Q.out
  refine ⟨ret_i ?_, by rw [HX.out] at hb2; exact drewR (drewR (drewR (drewR (drewR (hb2)))))⟩
  rw [q0, q1, q2, q3, q4, q5, q6]
  exact EV
set_option maxRecDepth 100000 in
set_option maxHeartbeats 4000000 in
theorem encode_k6 (i : Nat) (d a b n o f3 f7 : Nat) (imm : Int) (w : World) (hL : Laid w) (hi : i < 41) (hd : d < 32) (ha : a < 32) (hb : b < 32) (hn : imm % 4294967296 = (n : Int)) (eo : oT i = o) (e3 : f3T i = f3) (e7 : f7T i = f7) (ho : o < 128) (h3 : f3 < 8) (hn2 : n < 4294967296) (hk : kT i = 6) :
    Calls Tryd.prog 35 #[rvA i d a b imm] w fun e w' => e = .returned (.int .u32 (encK 6 o f3 f7 d a b n : Nat)) ∧ Below w.heap.size w w' := by
  have l0 : f3 * 4096 < 4294967296 := show f3 * 4096 < 4294967296 by omega
  have q0 : bits .or .u32 (((o) : Nat) : Int) ((f3 : Int) * 4096) = (((o ||| f3 * 4096) : Nat) : Int) := by
    rw [show (f3 : Int) * 4096 = ((f3 * 4096 : Nat) : Int) by omega]; exact u32_or (o) (f3 * 4096) ((show o < 4294967296 by omega)) l0
  have a0 : o ||| f3 * 4096 < 4294967296 := or_lt (a := o) (b := f3 * 4096) ((show o < 4294967296 by omega)) l0
  have l1 : d * 128 < 4294967296 := show d * 128 < 4294967296 by omega
  have q1 : bits .or .u32 (((o ||| f3 * 4096) : Nat) : Int) ((d : Int) * 128) = (((o ||| f3 * 4096 ||| d * 128) : Nat) : Int) := by
    rw [show (d : Int) * 128 = ((d * 128 : Nat) : Int) by omega]; exact u32_or (o ||| f3 * 4096) (d * 128) (a0) l1
  have a1 : o ||| f3 * 4096 ||| d * 128 < 4294967296 := or_lt (a := o ||| f3 * 4096) (b := d * 128) (a0) l1
  have l2 : part n 12 19 12 < 4294967296 := part_lt (n := n) (lo := 12) (hi := 19) (to := 12) (by decide)
  have q2 : bits .or .u32 (((o ||| f3 * 4096 ||| d * 128) : Nat) : Int) (((part n 12 19 12 : Nat) : Int)) = (((o ||| f3 * 4096 ||| d * 128 ||| part n 12 19 12) : Nat) : Int) := by
    exact u32_or (o ||| f3 * 4096 ||| d * 128) (part n 12 19 12) (a1) l2
  have a2 : o ||| f3 * 4096 ||| d * 128 ||| part n 12 19 12 < 4294967296 := or_lt (a := o ||| f3 * 4096 ||| d * 128) (b := part n 12 19 12) (a1) l2
  have l3 : part n 11 11 20 < 4294967296 := part_lt (n := n) (lo := 11) (hi := 11) (to := 20) (by decide)
  have q3 : bits .or .u32 (((o ||| f3 * 4096 ||| d * 128 ||| part n 12 19 12) : Nat) : Int) (((part n 11 11 20 : Nat) : Int)) = (((o ||| f3 * 4096 ||| d * 128 ||| part n 12 19 12 ||| part n 11 11 20) : Nat) : Int) := by
    exact u32_or (o ||| f3 * 4096 ||| d * 128 ||| part n 12 19 12) (part n 11 11 20) (a2) l3
  have a3 : o ||| f3 * 4096 ||| d * 128 ||| part n 12 19 12 ||| part n 11 11 20 < 4294967296 := or_lt (a := o ||| f3 * 4096 ||| d * 128 ||| part n 12 19 12) (b := part n 11 11 20) (a2) l3
  have l4 : part n 1 10 21 < 4294967296 := part_lt (n := n) (lo := 1) (hi := 10) (to := 21) (by decide)
  have q4 : bits .or .u32 (((o ||| f3 * 4096 ||| d * 128 ||| part n 12 19 12 ||| part n 11 11 20) : Nat) : Int) (((part n 1 10 21 : Nat) : Int)) = (((o ||| f3 * 4096 ||| d * 128 ||| part n 12 19 12 ||| part n 11 11 20 ||| part n 1 10 21) : Nat) : Int) := by
    exact u32_or (o ||| f3 * 4096 ||| d * 128 ||| part n 12 19 12 ||| part n 11 11 20) (part n 1 10 21) (a3) l4
  have a4 : o ||| f3 * 4096 ||| d * 128 ||| part n 12 19 12 ||| part n 11 11 20 ||| part n 1 10 21 < 4294967296 := or_lt (a := o ||| f3 * 4096 ||| d * 128 ||| part n 12 19 12 ||| part n 11 11 20) (b := part n 1 10 21) (a3) l4
  have l5 : part n 20 20 31 < 4294967296 := part_lt (n := n) (lo := 20) (hi := 20) (to := 31) (by decide)
  have q5 : bits .or .u32 (((o ||| f3 * 4096 ||| d * 128 ||| part n 12 19 12 ||| part n 11 11 20 ||| part n 1 10 21) : Nat) : Int) (((part n 20 20 31 : Nat) : Int)) = (((o ||| f3 * 4096 ||| d * 128 ||| part n 12 19 12 ||| part n 11 11 20 ||| part n 1 10 21 ||| part n 20 20 31) : Nat) : Int) := by
    exact u32_or (o ||| f3 * 4096 ||| d * 128 ||| part n 12 19 12 ||| part n 11 11 20 ||| part n 1 10 21) (part n 20 20 31) (a4) l5
  have a5 : o ||| f3 * 4096 ||| d * 128 ||| part n 12 19 12 ||| part n 11 11 20 ||| part n 1 10 21 ||| part n 20 20 31 < 4294967296 := or_lt (a := o ||| f3 * 4096 ||| d * 128 ||| part n 12 19 12 ||| part n 11 11 20 ||| part n 1 10 21) (b := part n 20 20 31) (a4) l5
  have EV : (((o ||| f3 * 4096 ||| d * 128 ||| part n 12 19 12 ||| part n 11 11 20 ||| part n 1 10 21 ||| part n 20 20 31) : Nat) : Int) = ((encK 6 o f3 f7 d a b n : Nat) : Int) := by
    unfold encK
    rw [if_neg (by decide), if_neg (by decide), if_neg (by decide), if_neg (by decide), if_neg (by decide), if_neg (by decide), if_pos rfl]
  have Q := Lib.hid (And.intro EV (And.intro q0 (And.intro q1 (And.intro q2 (And.intro q3 (And.intro q4 q5))))))
  clear q0 a0 l0 q1 a1 l1 q2 a2 l2 q3 a3 l3 q4 a4 l4 q5 a5 l5 EV
  have P0 : ∀ w1, Calls Tryd.prog 61 #[.int .u32 n, .int .i64 12, .int .i64 19, .int .i64 12] w1 fun e w' => e = .returned (.int .u32 (part n 12 19 12 : Nat)) ∧ w' = w1.drew := fun w1 => part_any n 12 19 12 w1 (by omega) (by decide) (by decide) (by decide) (by decide) (part_lt (by decide))
  have P0 := Lib.hid P0
  have P1 : ∀ w1, Calls Tryd.prog 61 #[.int .u32 n, .int .i64 11, .int .i64 11, .int .i64 20] w1 fun e w' => e = .returned (.int .u32 (part n 11 11 20 : Nat)) ∧ w' = w1.drew := fun w1 => part_any n 11 11 20 w1 (by omega) (by decide) (by decide) (by decide) (by decide) (part_lt (by decide))
  have P1 := Lib.hid P1
  have P2 : ∀ w1, Calls Tryd.prog 61 #[.int .u32 n, .int .i64 1, .int .i64 10, .int .i64 21] w1 fun e w' => e = .returned (.int .u32 (part n 1 10 21 : Nat)) ∧ w' = w1.drew := fun w1 => part_any n 1 10 21 w1 (by omega) (by decide) (by decide) (by decide) (by decide) (part_lt (by decide))
  have P2 := Lib.hid P2
  have P3 : ∀ w1, Calls Tryd.prog 61 #[.int .u32 n, .int .i64 20, .int .i64 20, .int .i64 31] w1 fun e w' => e = .returned (.int .u32 (part n 20 20 31 : Nat)) ∧ w' = w1.drew := fun w1 => part_any n 20 20 31 w1 (by omega) (by decide) (by decide) (by decide) (by decide) (part_lt (by decide))
  have P3 := Lib.hid P3
  have hb0 : Below w.heap.size w (w.alloc (.cells #[.int .i64 i, .int .i64 d, .int .i64 a, .int .i64 b, .int .i64 imm] 23)) := (Below.refl _ _).alloc (Nat.le_refl _) _
  have hx := heap_alloc_new w (.cells #[.int .i64 i, .int .i64 d, .int .i64 a, .int .i64 b, .int .i64 imm] 23)
  go_enter Tryd.func35, Tryd.ntmps35
  go_upto_region 1 with fail
  obtain ⟨c0, c1, c2, c3⟩ := (hL.below hb0).fm i hi
  rw [hk] at c0
  rw [eo] at c1
  rw [e3] at c2
  rw [e7] at c3
  generalize World.alloc w _ = W at hx hb0 c0 c1 c2 c3 ⊢
  obtain ⟨X, hX⟩ : ∃ X, X = w.heap.size := ⟨_, rfl⟩
  rw [← hX] at hx hb0 ⊢
  have HX := Lib.hid hX
  have lX := lt_of_block hx
  obtain ⟨x0, x1, x2, x3, x4⟩ := cells5r hx
  clear hL hx hX eo e3 e7 hk
  go_upto_region 2 with fail
  have hs := heap_alloc_new W (.cells #[.int .u32 (6 : Nat), .int .u32 o, .int .u32 f3, .int .u32 f7] 66)
  have hb2 : Below X w (W.alloc (.cells #[.int .u32 (6 : Nat), .int .u32 o, .int .u32 f3, .int .u32 f7] 66)) := hb0.alloc (by omega) _
  replace x1 := Lib.cell?_alloc_some (.cells #[.int .u32 (6 : Nat), .int .u32 o, .int .u32 f3, .int .u32 f7] 66) x1
  replace x2 := Lib.cell?_alloc_some (.cells #[.int .u32 (6 : Nat), .int .u32 o, .int .u32 f3, .int .u32 f7] 66) x2
  replace x3 := Lib.cell?_alloc_some (.cells #[.int .u32 (6 : Nat), .int .u32 o, .int .u32 f3, .int .u32 f7] 66) x3
  replace x4 := Lib.cell?_alloc_some (.cells #[.int .u32 (6 : Nat), .int .u32 o, .int .u32 f3, .int .u32 f7] 66) x4
  clear c0 c1 c2 c3 x0 lX hb0
  generalize World.alloc W _ = W2 at hs hb2 x1 x2 x3 x4 ⊢
  generalize W.heap.size = S at hs ⊢
  obtain ⟨s0, s1, s2, s3⟩ := cells4r hs
  clear hs
  go_upto_region 3 with fail
  go_region
  rw [hn]
  clear hn
  go_wp2_with (first | (with_reducible refine (P0.out _).mono ?_; rintro e w' ⟨rfl, rfl⟩) | (with_reducible refine (P1.out _).mono ?_; rintro e w' ⟨rfl, rfl⟩) | (with_reducible refine (P2.out _).mono ?_; rintro e w' ⟨rfl, rfl⟩) | (with_reducible refine (P3.out _).mono ?_; rintro e w' ⟨rfl, rfl⟩))
  go_ret
  obtain ⟨EV, q0, q1, q2, q3, q4, q5⟩ := Q.out
  refine ⟨ret_i ?_, by rw [HX.out] at hb2; exact drewR (drewR (drewR (drewR (drewR (hb2)))))⟩
  rw [q0, q1, q2, q3, q4, q5]
  exact EV
set_option maxRecDepth 100000 in
set_option maxHeartbeats 4000000 in
theorem encode_k7 (i : Nat) (d a b n o f3 f7 : Nat) (imm : Int) (w : World) (hL : Laid w) (hi : i < 41) (hd : d < 32) (ha : a < 32) (hb : b < 32) (hn : imm % 4294967296 = (n : Int)) (eo : oT i = o) (e3 : f3T i = f3) (e7 : f7T i = f7) (ho : o < 128) (h3 : f3 < 8) (h7 : f7 < 16384) (_ : n < 4294967296) (hk : kT i = 7) :
    Calls Tryd.prog 35 #[rvA i d a b imm] w fun e w' => e = .returned (.int .u32 (encK 7 o f3 f7 d a b n : Nat)) ∧ Below w.heap.size w w' := by
  have l0 : f3 * 4096 < 4294967296 := show f3 * 4096 < 4294967296 by omega
  have q0 : bits .or .u32 (((o) : Nat) : Int) ((f3 : Int) * 4096) = (((o ||| f3 * 4096) : Nat) : Int) := by
    rw [show (f3 : Int) * 4096 = ((f3 * 4096 : Nat) : Int) by omega]; exact u32_or (o) (f3 * 4096) ((show o < 4294967296 by omega)) l0
  have a0 : o ||| f3 * 4096 < 4294967296 := or_lt (a := o) (b := f3 * 4096) ((show o < 4294967296 by omega)) l0
  have l1 : f7 * 128 < 4294967296 := show f7 * 128 < 4294967296 by omega
  have q1 : bits .or .u32 (((o ||| f3 * 4096) : Nat) : Int) ((f7 : Int) * 128) = (((o ||| f3 * 4096 ||| f7 * 128) : Nat) : Int) := by
    rw [show (f7 : Int) * 128 = ((f7 * 128 : Nat) : Int) by omega]; exact u32_or (o ||| f3 * 4096) (f7 * 128) (a0) l1
  have a1 : o ||| f3 * 4096 ||| f7 * 128 < 4294967296 := or_lt (a := o ||| f3 * 4096) (b := f7 * 128) (a0) l1
  have EV : (((o ||| f3 * 4096 ||| f7 * 128) : Nat) : Int) = ((encK 7 o f3 f7 d a b n : Nat) : Int) := by
    unfold encK
    rw [if_neg (by decide), if_neg (by decide), if_neg (by decide), if_neg (by decide), if_neg (by decide), if_neg (by decide), if_neg (by decide)]
  have Q := Lib.hid (And.intro EV (And.intro q0  q1))
  clear q0 a0 l0 q1 a1 l1 EV
  have hb0 : Below w.heap.size w (w.alloc (.cells #[.int .i64 i, .int .i64 d, .int .i64 a, .int .i64 b, .int .i64 imm] 23)) := (Below.refl _ _).alloc (Nat.le_refl _) _
  have hx := heap_alloc_new w (.cells #[.int .i64 i, .int .i64 d, .int .i64 a, .int .i64 b, .int .i64 imm] 23)
  go_enter Tryd.func35, Tryd.ntmps35
  go_upto_region 1 with fail
  obtain ⟨c0, c1, c2, c3⟩ := (hL.below hb0).fm i hi
  rw [hk] at c0
  rw [eo] at c1
  rw [e3] at c2
  rw [e7] at c3
  generalize World.alloc w _ = W at hx hb0 c0 c1 c2 c3 ⊢
  obtain ⟨X, hX⟩ : ∃ X, X = w.heap.size := ⟨_, rfl⟩
  rw [← hX] at hx hb0 ⊢
  have HX := Lib.hid hX
  have lX := lt_of_block hx
  obtain ⟨x0, x1, x2, x3, x4⟩ := cells5r hx
  clear hL hx hX eo e3 e7 hk
  go_upto_region 2 with fail
  have hs := heap_alloc_new W (.cells #[.int .u32 (7 : Nat), .int .u32 o, .int .u32 f3, .int .u32 f7] 66)
  have hb2 : Below X w (W.alloc (.cells #[.int .u32 (7 : Nat), .int .u32 o, .int .u32 f3, .int .u32 f7] 66)) := hb0.alloc (by omega) _
  replace x1 := Lib.cell?_alloc_some (.cells #[.int .u32 (7 : Nat), .int .u32 o, .int .u32 f3, .int .u32 f7] 66) x1
  replace x2 := Lib.cell?_alloc_some (.cells #[.int .u32 (7 : Nat), .int .u32 o, .int .u32 f3, .int .u32 f7] 66) x2
  replace x3 := Lib.cell?_alloc_some (.cells #[.int .u32 (7 : Nat), .int .u32 o, .int .u32 f3, .int .u32 f7] 66) x3
  replace x4 := Lib.cell?_alloc_some (.cells #[.int .u32 (7 : Nat), .int .u32 o, .int .u32 f3, .int .u32 f7] 66) x4
  clear c0 c1 c2 c3 x0 lX hb0
  generalize World.alloc W _ = W2 at hs hb2 x1 x2 x3 x4 ⊢
  generalize W.heap.size = S at hs ⊢
  obtain ⟨s0, s1, s2, s3⟩ := cells4r hs
  clear hs
  go_upto_region 3 with fail
  go_region
  rw [hn]
  clear hn
  go_wp2
  go_ret
  obtain ⟨EV, q0, q1⟩ := Q.out
  refine ⟨ret_i ?_, by rw [HX.out] at hb2; exact drewR (hb2)⟩
  rw [q0, q1]
  exact EV
end Go.Proofs.YthkaclmnbahieaaDoor
