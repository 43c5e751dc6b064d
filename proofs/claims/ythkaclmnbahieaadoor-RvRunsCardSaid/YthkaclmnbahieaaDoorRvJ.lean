/-
  The word of an instruction, by the reference.
-/
import Derived.Test.YthkaclmnbahieaaDoorRvI
namespace Go.Proofs.YthkaclmnbahieaaDoor
open Go.RowKit

theorem new_snd (W : World) (o : Obj) (cs : Array Value) (t : TypeId) : ((W.alloc o).alloc (.cells cs t)).drew.heap[W.heap.size + 1]? = some (.cells cs t (0, 0)) := by
  have h := heap_alloc_new (W.alloc o) (.cells cs t)
  rw [show (W.alloc o).heap.size = W.heap.size + 1 by simp] at h
  exact h
theorem new_fst (W : World) (o : Obj) (cs : Array Value) (t : TypeId) : ((W.alloc (.cells cs t)).alloc o).drew.heap[W.heap.size]? = some (.cells cs t (0, 0)) :=
  (heap_alloc_old (W.alloc (.cells cs t)) o (lt_of_block (heap_alloc_new W (.cells cs t)))).trans (heap_alloc_new W (.cells cs t))
theorem two_below (W : World) (a b : Obj) : Below W.heap.size W ((W.alloc a).alloc b).drew := drewR (((Below.refl _ _).alloc (Nat.le_refl _) _).alloc (by simp) _)
set_option maxRecDepth 100000 in
set_option maxHeartbeats 8000000 in
theorem refEncode_at (i : Nat) (d a b n : Nat) (imm : Int) (V : Nat) (hV : encK (kT i) (oT i) (f3T i) (f7T i) d a b n = V) (w : World) (hi : i < 41) (hd : d < 32) (ha : a < 32) (hb : b < 32) (hn : imm % 4294967296 = (n : Int)) (hn2 : n < 4294967296) (hk2 : kT i = 2 → n < 32) (hk3 : kT i = 3 → n < 1048576) :
    Calls Tryd.prog 36 #[rvA i d a b imm] w fun e w' => e = .returned (.int .u32 (V : Nat)) ∧ Below w.heap.size w w' := by
  have HC := Lib.hid (fun w1 => forms_any w1)
  have q0 : RA[i * 4]? = some (.int .i64 (shT i : Nat)) := RA_at hi (j := 0) (by omega)
  have q1 : RA[i * 4 + 1]? = some (.int .i64 (oT i : Nat)) := RA_at hi (j := 1) (by omega)
  have q2 : RA[i * 4 + 2]? = some (.int .i64 (f3T i : Nat)) := RA_at hi (j := 2) (by omega)
  have q3 : RA[i * 4 + 3]? = some (.int .i64 (f7R i : Nat)) := RA_at hi (j := 3) (by omega)
  have HK := Lib.hid (kS_of hi)
  have HN2 := Lib.hid hk2
  have HN3 := Lib.hid hk3
  have HF7 := Lib.hid (show kT i ≠ 7 → f7R i = f7T i ∧ f7R i < 128 by
    have : ∀ i, i < 41 → kT i ≠ 7 → f7R i = f7T i ∧ f7R i < 128 := by decide +kernel
    exact this i hi)
  have hb0 : Below w.heap.size w (w.alloc (.cells #[.int .i64 i, .int .i64 d, .int .i64 a, .int .i64 b, .int .i64 imm] 23)) := (Below.refl _ _).alloc (Nat.le_refl _) _
  have hx := heap_alloc_new w (.cells #[.int .i64 i, .int .i64 d, .int .i64 a, .int .i64 b, .int .i64 imm] 23)
  clear hk2 hk3
  go_enter Tryd.func36, Tryd.ntmps36
  go_upto_region 1 with fail
  generalize World.alloc w _ = W at hx hb0 ⊢
  obtain ⟨X, hX⟩ : ∃ X, X = w.heap.size := ⟨_, rfl⟩
  rw [← hX] at hx hb0 ⊢
  have HX := Lib.hid hX
  have lX := lt_of_block hx
  obtain ⟨x0, x1, x2, x3, x4⟩ := cells5r hx
  have HXX := Lib.hid hx
  have hne := World.new_ne W _ x0
  have hi1 : (i : Int) < 41 := by omega
  have hi0 : (0 : Int) ≤ (i : Int) := by omega
  clear hx hX
  go_cut [3] from 2 (fun s3 wx => ∃ F, s3 = .pointer (some ⟨F, 0, none⟩) ∧ wx.heap[F]? = some (.cells #[.int .i64 (shT i : Nat), .int .i64 (oT i : Nat), .int .i64 (f3T i : Nat), .int .i64 (f7R i : Nat)] 71 (0, 0)) ∧ Below W.heap.size W wx)
  case first =>
    go_region_with (go_at_call 39; refine (HC.out _).mono ?_; rintro e w' ⟨rfl, rfl⟩)
    all_goals go_wp2_with fail
    all_goals go_meet
    all_goals first
      | exact ⟨_, rfl, new_snd W _ _ _, two_below W _ _⟩
      | exact ⟨_, rfl, new_fst W _ _ _, two_below W _ _⟩
  case rest =>
  obtain ⟨F, rfl, hs, hb3⟩ := hcut
  have hx := (hb3.block X lX).trans HXX.out
  have hb2 := hb0.trans (hb3.mono (show X ≤ W.heap.size from Nat.le_of_lt lX))
  clear hb0 hb3 hne x0 x1 x2 x3 x4 HC q0 q1 q2 q3
  obtain ⟨x0, x1, x2, x3, x4⟩ := cells5r hx
  obtain ⟨s0, s1, s2, s3⟩ := cells4r hs
  clear hx hs
  go_upto_region 3 with fail
  go_region
  rw [show wrap32 imm % 4294967296 = (n : Int) by unfold wrap32; omega]
  clear hn
  have ho := oT_lt hi
  have h3 := f3T_lt hi
  have hs9 := shT_le hi
  by_cases h9 : shT i = 9
  · have : ∀ i, i < 41 → shT i = 9 → (i = 39 ∨ i = 40) ∧ kT i = 7 ∧ oT i = 115 ∧ f3T i = 0 := by decide +kernel
    obtain ⟨hij, hk7, ho7, hf3⟩ := this i hi h9
    rw [h9] at s0
    rw [ho7] at s1
    rw [hf3] at s2
    rw [hk7, ho7, hf3] at hV
    have HVV := Lib.hid hV
    clear hV
    have c0 : bits .or .u32 (115 : Int) 0 = 115 := by decide
    obtain rfl | rfl := hij
    · have P0 : ∀ w1, Calls Tryd.prog 46 #[.int .u32 0, .int .i64 0, .int .i64 0, .int .i64 20] w1 fun e w' => e = .returned (.int .u32 0) ∧ w' = w1 := fun w1 => refBits_any 0 0 0 20 w1 (by decide) (by decide) (by decide) (by decide) (by decide) (by decide)
      have P0 := Lib.hid P0
      go_wp2_with (with_reducible refine (P0.out _).mono ?_; rintro e w' ⟨rfl, rfl⟩)
      go_ret
      exact ⟨by rw [← HVV.out]; rfl, by rw [HX.out] at hb2; exact drewR hb2⟩
    · have c1 : bits .or .u32 (115 : Int) 1048576 = 1048691 := by decide
      have P0 : ∀ w1, Calls Tryd.prog 46 #[.int .u32 1, .int .i64 0, .int .i64 0, .int .i64 20] w1 fun e w' => e = .returned (.int .u32 1048576) ∧ w' = w1 := fun w1 => refBits_any 1 0 0 20 w1 (by decide) (by decide) (by decide) (by decide) (by decide) (by decide)
      have P0 := Lib.hid P0
      go_wp2_with (with_reducible refine (P0.out _).mono ?_; rintro e w' ⟨rfl, rfl⟩)
      go_ret
      exact ⟨by rw [← HVV.out]; rfl, by rw [HX.out] at hb2; exact drewR hb2⟩
  have hk7 : kT i ≠ 7 := by
    rw [← HK.out]
    unfold kS
    split <;> (try split) <;> (try split) <;> (try split) <;> (try split) <;> omega
  obtain ⟨e7, h7⟩ := HF7.out hk7
  rw [← e7] at hV
  clear e7 hk7 HF7
  obtain hk | hk | hk | hk | hk | hk | hk | hk | hk : shT i = 0 ∨ shT i = 1 ∨ shT i = 2 ∨ shT i = 3 ∨ shT i = 4 ∨ shT i = 5 ∨ shT i = 6 ∨ shT i = 7 ∨ shT i = 8 := by omega
  · have ek : kT i = 0 := by rw [← HK.out, hk]; rfl
    rw [ek] at hV
    rw [hk] at s0
    clear HN2 HN3 HK hs9 h9 hk ek
    generalize oT i = o at *
    generalize f3T i = f3 at *
    generalize f7R i = f7 at *
    have HVV := Lib.hid hV
    clear hV
    have l0 : f3 * 4096 < 4294967296 := show f3 * 4096 < 4294967296 by omega
    have q0x : bits .or .u32 (((o) : Nat) : Int) ((f3 : Int) * 4096) = (((o ||| f3 * 4096) : Nat) : Int) := by
      rw [show (f3 : Int) * 4096 = ((f3 * 4096 : Nat) : Int) by omega]; exact u32_or (o) (f3 * 4096) ((show o < 4294967296 by omega)) l0
    have a0 : o ||| f3 * 4096 < 4294967296 := or_lt (a := o) (b := f3 * 4096) ((show o < 4294967296 by omega)) l0
    have l1 : d * 128 < 4294967296 := show d * 128 < 4294967296 by omega
    have q1x : bits .or .u32 (((o ||| f3 * 4096) : Nat) : Int) ((d : Int) * 128) = (((o ||| f3 * 4096 ||| d * 128) : Nat) : Int) := by
      rw [show (d : Int) * 128 = ((d * 128 : Nat) : Int) by omega]; exact u32_or (o ||| f3 * 4096) (d * 128) (a0) l1
    have a1 : o ||| f3 * 4096 ||| d * 128 < 4294967296 := or_lt (a := o ||| f3 * 4096) (b := d * 128) (a0) l1
    have l2 : a * 32768 < 4294967296 := show a * 32768 < 4294967296 by omega
    have q2x : bits .or .u32 (((o ||| f3 * 4096 ||| d * 128) : Nat) : Int) ((a : Int) * 32768) = (((o ||| f3 * 4096 ||| d * 128 ||| a * 32768) : Nat) : Int) := by
      rw [show (a : Int) * 32768 = ((a * 32768 : Nat) : Int) by omega]; exact u32_or (o ||| f3 * 4096 ||| d * 128) (a * 32768) (a1) l2
    have a2 : o ||| f3 * 4096 ||| d * 128 ||| a * 32768 < 4294967296 := or_lt (a := o ||| f3 * 4096 ||| d * 128) (b := a * 32768) (a1) l2
    have l3 : b * 1048576 < 4294967296 := show b * 1048576 < 4294967296 by omega
    have q3x : bits .or .u32 (((o ||| f3 * 4096 ||| d * 128 ||| a * 32768) : Nat) : Int) ((b : Int) * 1048576) = (((o ||| f3 * 4096 ||| d * 128 ||| a * 32768 ||| b * 1048576) : Nat) : Int) := by
      rw [show (b : Int) * 1048576 = ((b * 1048576 : Nat) : Int) by omega]; exact u32_or (o ||| f3 * 4096 ||| d * 128 ||| a * 32768) (b * 1048576) (a2) l3
    have a3 : o ||| f3 * 4096 ||| d * 128 ||| a * 32768 ||| b * 1048576 < 4294967296 := or_lt (a := o ||| f3 * 4096 ||| d * 128 ||| a * 32768) (b := b * 1048576) (a2) l3
    have l4 : f7 * 33554432 < 4294967296 := Nat.lt_of_le_of_lt (Nat.mul_le_mul_right 33554432 (show f7 ≤ 127 by omega)) (by decide)
    have q4x : bits .or .u32 (((o ||| f3 * 4096 ||| d * 128 ||| a * 32768 ||| b * 1048576) : Nat) : Int) ((f7 : Int) * 33554432) = (((o ||| f3 * 4096 ||| d * 128 ||| a * 32768 ||| b * 1048576 ||| f7 * 33554432) : Nat) : Int) := by
      rw [show (f7 : Int) * 33554432 = ((f7 * 33554432 : Nat) : Int) by omega]; exact u32_or (o ||| f3 * 4096 ||| d * 128 ||| a * 32768 ||| b * 1048576) (f7 * 33554432) (a3) l4
    have a4 : o ||| f3 * 4096 ||| d * 128 ||| a * 32768 ||| b * 1048576 ||| f7 * 33554432 < 4294967296 := or_lt (a := o ||| f3 * 4096 ||| d * 128 ||| a * 32768 ||| b * 1048576) (b := f7 * 33554432) (a3) l4
    have EV : (((o ||| f3 * 4096 ||| d * 128 ||| a * 32768 ||| b * 1048576 ||| f7 * 33554432) : Nat) : Int) = ((encK 0 o f3 f7 d a b n : Nat) : Int) := by
      unfold encK
      rw [if_pos rfl]
    have Q := Lib.hid (And.intro EV (And.intro q0x (And.intro q1x (And.intro q2x (And.intro q3x q4x)))))
    clear q0x a0 l0 q1x a1 l1 q2x a2 l2 q3x a3 l3 q4x a4 l4 EV
    go_wp2
    go_ret
    obtain ⟨EV, q0x, q1x, q2x, q3x, q4x⟩ := Q.out
    refine ⟨ret_i ?_, by rw [HX.out] at hb2; exact drewR hb2⟩
    rw [q0x, q1x, q2x, q3x, q4x]
    exact EV.trans (by rw [HVV.out])
  · have ek : kT i = 1 := by rw [← HK.out, hk]; rfl
    rw [ek] at hV
    rw [hk] at s0
    clear HN2 HN3 HK hs9 h9 hk ek
    generalize oT i = o at *
    generalize f3T i = f3 at *
    generalize f7R i = f7 at *
    have HVV := Lib.hid hV
    clear hV
    have l0 : f3 * 4096 < 4294967296 := show f3 * 4096 < 4294967296 by omega
    have q0x : bits .or .u32 (((o) : Nat) : Int) ((f3 : Int) * 4096) = (((o ||| f3 * 4096) : Nat) : Int) := by
      rw [show (f3 : Int) * 4096 = ((f3 * 4096 : Nat) : Int) by omega]; exact u32_or (o) (f3 * 4096) ((show o < 4294967296 by omega)) l0
    have a0 : o ||| f3 * 4096 < 4294967296 := or_lt (a := o) (b := f3 * 4096) ((show o < 4294967296 by omega)) l0
    have l1 : d * 128 < 4294967296 := show d * 128 < 4294967296 by omega
    have q1x : bits .or .u32 (((o ||| f3 * 4096) : Nat) : Int) ((d : Int) * 128) = (((o ||| f3 * 4096 ||| d * 128) : Nat) : Int) := by
      rw [show (d : Int) * 128 = ((d * 128 : Nat) : Int) by omega]; exact u32_or (o ||| f3 * 4096) (d * 128) (a0) l1
    have a1 : o ||| f3 * 4096 ||| d * 128 < 4294967296 := or_lt (a := o ||| f3 * 4096) (b := d * 128) (a0) l1
    have l2 : a * 32768 < 4294967296 := show a * 32768 < 4294967296 by omega
    have q2x : bits .or .u32 (((o ||| f3 * 4096 ||| d * 128) : Nat) : Int) ((a : Int) * 32768) = (((o ||| f3 * 4096 ||| d * 128 ||| a * 32768) : Nat) : Int) := by
      rw [show (a : Int) * 32768 = ((a * 32768 : Nat) : Int) by omega]; exact u32_or (o ||| f3 * 4096 ||| d * 128) (a * 32768) (a1) l2
    have a2 : o ||| f3 * 4096 ||| d * 128 ||| a * 32768 < 4294967296 := or_lt (a := o ||| f3 * 4096 ||| d * 128) (b := a * 32768) (a1) l2
    have l3 : part n 0 11 20 < 4294967296 := part_lt (n := n) (lo := 0) (hi := 11) (to := 20) (by decide)
    have q3x : bits .or .u32 (((o ||| f3 * 4096 ||| d * 128 ||| a * 32768) : Nat) : Int) (((part n 0 11 20 : Nat) : Int)) = (((o ||| f3 * 4096 ||| d * 128 ||| a * 32768 ||| part n 0 11 20) : Nat) : Int) := by
      exact u32_or (o ||| f3 * 4096 ||| d * 128 ||| a * 32768) (part n 0 11 20) (a2) l3
    have a3 : o ||| f3 * 4096 ||| d * 128 ||| a * 32768 ||| part n 0 11 20 < 4294967296 := or_lt (a := o ||| f3 * 4096 ||| d * 128 ||| a * 32768) (b := part n 0 11 20) (a2) l3
    have EV : (((o ||| f3 * 4096 ||| d * 128 ||| a * 32768 ||| part n 0 11 20) : Nat) : Int) = ((encK 1 o f3 f7 d a b n : Nat) : Int) := by
      unfold encK
      rw [if_neg (by decide), if_pos rfl]
    have Q := Lib.hid (And.intro EV (And.intro q0x (And.intro q1x (And.intro q2x q3x))))
    clear q0x a0 l0 q1x a1 l1 q2x a2 l2 q3x a3 l3 EV
    have P0 : ∀ w1, Calls Tryd.prog 46 #[.int .u32 n, .int .i64 0, .int .i64 11, .int .i64 20] w1 fun e w' => e = .returned (.int .u32 (part n 0 11 20 : Nat)) ∧ w' = w1 := fun w1 => refBits_any n 0 11 20 w1 (by omega) (by decide) (by decide) (by decide) (by decide) (part_lt (by decide))
    have P0 := Lib.hid P0
    go_wp2_with (first | (with_reducible refine (P0.out _).mono ?_; rintro e w' ⟨rfl, rfl⟩))
    go_ret
    obtain ⟨EV, q0x, q1x, q2x, q3x⟩ := Q.out
    refine ⟨ret_i ?_, by rw [HX.out] at hb2; exact drewR hb2⟩
    rw [q0x, q1x, q2x, q3x]
    exact EV.trans (by rw [HVV.out])
  · have ek : kT i = 2 := by rw [← HK.out, hk]; rfl
    rw [ek] at hV
    rw [hk] at s0
    have hn3 := HN2.out ek
    clear HN2 HN3 HK hs9 h9 hk ek
    generalize oT i = o at *
    generalize f3T i = f3 at *
    generalize f7R i = f7 at *
    have HVV := Lib.hid hV
    clear hV
    have l0 : f3 * 4096 < 4294967296 := show f3 * 4096 < 4294967296 by omega
    have q0x : bits .or .u32 (((o) : Nat) : Int) ((f3 : Int) * 4096) = (((o ||| f3 * 4096) : Nat) : Int) := by
      rw [show (f3 : Int) * 4096 = ((f3 * 4096 : Nat) : Int) by omega]; exact u32_or (o) (f3 * 4096) ((show o < 4294967296 by omega)) l0
    have a0 : o ||| f3 * 4096 < 4294967296 := or_lt (a := o) (b := f3 * 4096) ((show o < 4294967296 by omega)) l0
    have l1 : d * 128 < 4294967296 := show d * 128 < 4294967296 by omega
    have q1x : bits .or .u32 (((o ||| f3 * 4096) : Nat) : Int) ((d : Int) * 128) = (((o ||| f3 * 4096 ||| d * 128) : Nat) : Int) := by
      rw [show (d : Int) * 128 = ((d * 128 : Nat) : Int) by omega]; exact u32_or (o ||| f3 * 4096) (d * 128) (a0) l1
    have a1 : o ||| f3 * 4096 ||| d * 128 < 4294967296 := or_lt (a := o ||| f3 * 4096) (b := d * 128) (a0) l1
    have l2 : a * 32768 < 4294967296 := show a * 32768 < 4294967296 by omega
    have q2x : bits .or .u32 (((o ||| f3 * 4096 ||| d * 128) : Nat) : Int) ((a : Int) * 32768) = (((o ||| f3 * 4096 ||| d * 128 ||| a * 32768) : Nat) : Int) := by
      rw [show (a : Int) * 32768 = ((a * 32768 : Nat) : Int) by omega]; exact u32_or (o ||| f3 * 4096 ||| d * 128) (a * 32768) (a1) l2
    have a2 : o ||| f3 * 4096 ||| d * 128 ||| a * 32768 < 4294967296 := or_lt (a := o ||| f3 * 4096 ||| d * 128) (b := a * 32768) (a1) l2
    have l3 : n * 1048576 < 4294967296 := show n * 1048576 < 4294967296 by omega
    have q3x : bits .or .u32 (((o ||| f3 * 4096 ||| d * 128 ||| a * 32768) : Nat) : Int) ((n : Int) * 1048576) = (((o ||| f3 * 4096 ||| d * 128 ||| a * 32768 ||| n * 1048576) : Nat) : Int) := by
      rw [show (n : Int) * 1048576 = ((n * 1048576 : Nat) : Int) by omega]; exact u32_or (o ||| f3 * 4096 ||| d * 128 ||| a * 32768) (n * 1048576) (a2) l3
    have a3 : o ||| f3 * 4096 ||| d * 128 ||| a * 32768 ||| n * 1048576 < 4294967296 := or_lt (a := o ||| f3 * 4096 ||| d * 128 ||| a * 32768) (b := n * 1048576) (a2) l3
    have l4 : f7 * 33554432 < 4294967296 := Nat.lt_of_le_of_lt (Nat.mul_le_mul_right 33554432 (show f7 ≤ 127 by omega)) (by decide)
    have q4x : bits .or .u32 (((o ||| f3 * 4096 ||| d * 128 ||| a * 32768 ||| n * 1048576) : Nat) : Int) ((f7 : Int) * 33554432) = (((o ||| f3 * 4096 ||| d * 128 ||| a * 32768 ||| n * 1048576 ||| f7 * 33554432) : Nat) : Int) := by
      rw [show (f7 : Int) * 33554432 = ((f7 * 33554432 : Nat) : Int) by omega]; exact u32_or (o ||| f3 * 4096 ||| d * 128 ||| a * 32768 ||| n * 1048576) (f7 * 33554432) (a3) l4
    have a4 : o ||| f3 * 4096 ||| d * 128 ||| a * 32768 ||| n * 1048576 ||| f7 * 33554432 < 4294967296 := or_lt (a := o ||| f3 * 4096 ||| d * 128 ||| a * 32768 ||| n * 1048576) (b := f7 * 33554432) (a3) l4
    have EV : (((o ||| f3 * 4096 ||| d * 128 ||| a * 32768 ||| n * 1048576 ||| f7 * 33554432) : Nat) : Int) = ((encK 2 o f3 f7 d a b n : Nat) : Int) := by
      unfold encK
      rw [if_neg (by decide), if_neg (by decide), if_pos rfl]
    have Q := Lib.hid (And.intro EV (And.intro q0x (And.intro q1x (And.intro q2x (And.intro q3x q4x)))))
    clear q0x a0 l0 q1x a1 l1 q2x a2 l2 q3x a3 l3 q4x a4 l4 EV
    go_wp2
    go_ret
    obtain ⟨EV, q0x, q1x, q2x, q3x, q4x⟩ := Q.out
    refine ⟨ret_i ?_, by rw [HX.out] at hb2; exact drewR hb2⟩
    rw [q0x, q1x, q2x, q3x, q4x]
    exact EV.trans (by rw [HVV.out])
  · have ek : kT i = 3 := by rw [← HK.out, hk]; rfl
    rw [ek] at hV
    rw [hk] at s0
    have hn3 := HN3.out ek
    clear HN2 HN3 HK hs9 h9 hk ek
    generalize oT i = o at *
    generalize f3T i = f3 at *
    generalize f7R i = f7 at *
    have HVV := Lib.hid hV
    clear hV
    have l0 : f3 * 4096 < 4294967296 := show f3 * 4096 < 4294967296 by omega
    have q0x : bits .or .u32 (((o) : Nat) : Int) ((f3 : Int) * 4096) = (((o ||| f3 * 4096) : Nat) : Int) := by
      rw [show (f3 : Int) * 4096 = ((f3 * 4096 : Nat) : Int) by omega]; exact u32_or (o) (f3 * 4096) ((show o < 4294967296 by omega)) l0
    have a0 : o ||| f3 * 4096 < 4294967296 := or_lt (a := o) (b := f3 * 4096) ((show o < 4294967296 by omega)) l0
    have l1 : d * 128 < 4294967296 := show d * 128 < 4294967296 by omega
    have q1x : bits .or .u32 (((o ||| f3 * 4096) : Nat) : Int) ((d : Int) * 128) = (((o ||| f3 * 4096 ||| d * 128) : Nat) : Int) := by
      rw [show (d : Int) * 128 = ((d * 128 : Nat) : Int) by omega]; exact u32_or (o ||| f3 * 4096) (d * 128) (a0) l1
    have a1 : o ||| f3 * 4096 ||| d * 128 < 4294967296 := or_lt (a := o ||| f3 * 4096) (b := d * 128) (a0) l1
    have l2 : n * 4096 < 4294967296 := show n * 4096 < 4294967296 by omega
    have q2x : bits .or .u32 (((o ||| f3 * 4096 ||| d * 128) : Nat) : Int) ((n : Int) * 4096) = (((o ||| f3 * 4096 ||| d * 128 ||| n * 4096) : Nat) : Int) := by
      rw [show (n : Int) * 4096 = ((n * 4096 : Nat) : Int) by omega]; exact u32_or (o ||| f3 * 4096 ||| d * 128) (n * 4096) (a1) l2
    have a2 : o ||| f3 * 4096 ||| d * 128 ||| n * 4096 < 4294967296 := or_lt (a := o ||| f3 * 4096 ||| d * 128) (b := n * 4096) (a1) l2
    have EV : (((o ||| f3 * 4096 ||| d * 128 ||| n * 4096) : Nat) : Int) = ((encK 3 o f3 f7 d a b n : Nat) : Int) := by
      unfold encK
      rw [if_neg (by decide), if_neg (by decide), if_neg (by decide), if_pos rfl]
    have Q := Lib.hid (And.intro EV (And.intro q0x (And.intro q1x q2x)))
    clear q0x a0 l0 q1x a1 l1 q2x a2 l2 EV
    go_wp2
    go_ret
    obtain ⟨EV, q0x, q1x, q2x⟩ := Q.out
    refine ⟨ret_i ?_, by rw [HX.out] at hb2; exact drewR hb2⟩
    rw [q0x, q1x, q2x]
    exact EV.trans (by rw [HVV.out])
  · have ek : kT i = 1 := by rw [← HK.out, hk]; rfl
    rw [ek] at hV
    rw [hk] at s0
    clear HN2 HN3 HK hs9 h9 hk ek
    generalize oT i = o at *
    generalize f3T i = f3 at *
    generalize f7R i = f7 at *
    have HVV := Lib.hid hV
    clear hV
    have l0 : f3 * 4096 < 4294967296 := show f3 * 4096 < 4294967296 by omega
    have q0x : bits .or .u32 (((o) : Nat) : Int) ((f3 : Int) * 4096) = (((o ||| f3 * 4096) : Nat) : Int) := by
      rw [show (f3 : Int) * 4096 = ((f3 * 4096 : Nat) : Int) by omega]; exact u32_or (o) (f3 * 4096) ((show o < 4294967296 by omega)) l0
    have a0 : o ||| f3 * 4096 < 4294967296 := or_lt (a := o) (b := f3 * 4096) ((show o < 4294967296 by omega)) l0
    have l1 : d * 128 < 4294967296 := show d * 128 < 4294967296 by omega
    have q1x : bits .or .u32 (((o ||| f3 * 4096) : Nat) : Int) ((d : Int) * 128) = (((o ||| f3 * 4096 ||| d * 128) : Nat) : Int) := by
      rw [show (d : Int) * 128 = ((d * 128 : Nat) : Int) by omega]; exact u32_or (o ||| f3 * 4096) (d * 128) (a0) l1
    have a1 : o ||| f3 * 4096 ||| d * 128 < 4294967296 := or_lt (a := o ||| f3 * 4096) (b := d * 128) (a0) l1
    have l2 : a * 32768 < 4294967296 := show a * 32768 < 4294967296 by omega
    have q2x : bits .or .u32 (((o ||| f3 * 4096 ||| d * 128) : Nat) : Int) ((a : Int) * 32768) = (((o ||| f3 * 4096 ||| d * 128 ||| a * 32768) : Nat) : Int) := by
      rw [show (a : Int) * 32768 = ((a * 32768 : Nat) : Int) by omega]; exact u32_or (o ||| f3 * 4096 ||| d * 128) (a * 32768) (a1) l2
    have a2 : o ||| f3 * 4096 ||| d * 128 ||| a * 32768 < 4294967296 := or_lt (a := o ||| f3 * 4096 ||| d * 128) (b := a * 32768) (a1) l2
    have l3 : part n 0 11 20 < 4294967296 := part_lt (n := n) (lo := 0) (hi := 11) (to := 20) (by decide)
    have q3x : bits .or .u32 (((o ||| f3 * 4096 ||| d * 128 ||| a * 32768) : Nat) : Int) (((part n 0 11 20 : Nat) : Int)) = (((o ||| f3 * 4096 ||| d * 128 ||| a * 32768 ||| part n 0 11 20) : Nat) : Int) := by
      exact u32_or (o ||| f3 * 4096 ||| d * 128 ||| a * 32768) (part n 0 11 20) (a2) l3
    have a3 : o ||| f3 * 4096 ||| d * 128 ||| a * 32768 ||| part n 0 11 20 < 4294967296 := or_lt (a := o ||| f3 * 4096 ||| d * 128 ||| a * 32768) (b := part n 0 11 20) (a2) l3
    have EV : (((o ||| f3 * 4096 ||| d * 128 ||| a * 32768 ||| part n 0 11 20) : Nat) : Int) = ((encK 1 o f3 f7 d a b n : Nat) : Int) := by
      unfold encK
      rw [if_neg (by decide), if_pos rfl]
    have Q := Lib.hid (And.intro EV (And.intro q0x (And.intro q1x (And.intro q2x q3x))))
    clear q0x a0 l0 q1x a1 l1 q2x a2 l2 q3x a3 l3 EV
    have P0 : ∀ w1, Calls Tryd.prog 46 #[.int .u32 n, .int .i64 0, .int .i64 11, .int .i64 20] w1 fun e w' => e = .returned (.int .u32 (part n 0 11 20 : Nat)) ∧ w' = w1 := fun w1 => refBits_any n 0 11 20 w1 (by omega) (by decide) (by decide) (by decide) (by decide) (part_lt (by decide))
    have P0 := Lib.hid P0
    go_wp2_with (first | (with_reducible refine (P0.out _).mono ?_; rintro e w' ⟨rfl, rfl⟩))
    go_ret
    obtain ⟨EV, q0x, q1x, q2x, q3x⟩ := Q.out
    refine ⟨ret_i ?_, by rw [HX.out] at hb2; exact drewR hb2⟩
    rw [q0x, q1x, q2x, q3x]
    exact EV.trans (by rw [HVV.out])
  · have ek : kT i = 4 := by rw [← HK.out, hk]; rfl
    rw [ek] at hV
    rw [hk] at s0
    clear HN2 HN3 HK hs9 h9 hk ek
    generalize oT i = o at *
    generalize f3T i = f3 at *
    generalize f7R i = f7 at *
    have HVV := Lib.hid hV
    clear hV
    have l0 : f3 * 4096 < 4294967296 := show f3 * 4096 < 4294967296 by omega
    have q0x : bits .or .u32 (((o) : Nat) : Int) ((f3 : Int) * 4096) = (((o ||| f3 * 4096) : Nat) : Int) := by
      rw [show (f3 : Int) * 4096 = ((f3 * 4096 : Nat) : Int) by omega]; exact u32_or (o) (f3 * 4096) ((show o < 4294967296 by omega)) l0
    have a0 : o ||| f3 * 4096 < 4294967296 := or_lt (a := o) (b := f3 * 4096) ((show o < 4294967296 by omega)) l0
    have l1 : a * 32768 < 4294967296 := show a * 32768 < 4294967296 by omega
    have q1x : bits .or .u32 (((o ||| f3 * 4096) : Nat) : Int) ((a : Int) * 32768) = (((o ||| f3 * 4096 ||| a * 32768) : Nat) : Int) := by
      rw [show (a : Int) * 32768 = ((a * 32768 : Nat) : Int) by omega]; exact u32_or (o ||| f3 * 4096) (a * 32768) (a0) l1
    have a1 : o ||| f3 * 4096 ||| a * 32768 < 4294967296 := or_lt (a := o ||| f3 * 4096) (b := a * 32768) (a0) l1
    have l2 : b * 1048576 < 4294967296 := show b * 1048576 < 4294967296 by omega
    have q2x : bits .or .u32 (((o ||| f3 * 4096 ||| a * 32768) : Nat) : Int) ((b : Int) * 1048576) = (((o ||| f3 * 4096 ||| a * 32768 ||| b * 1048576) : Nat) : Int) := by
      rw [show (b : Int) * 1048576 = ((b * 1048576 : Nat) : Int) by omega]; exact u32_or (o ||| f3 * 4096 ||| a * 32768) (b * 1048576) (a1) l2
    have a2 : o ||| f3 * 4096 ||| a * 32768 ||| b * 1048576 < 4294967296 := or_lt (a := o ||| f3 * 4096 ||| a * 32768) (b := b * 1048576) (a1) l2
    have l3 : part n 0 4 7 < 4294967296 := part_lt (n := n) (lo := 0) (hi := 4) (to := 7) (by decide)
    have q3x : bits .or .u32 (((o ||| f3 * 4096 ||| a * 32768 ||| b * 1048576) : Nat) : Int) (((part n 0 4 7 : Nat) : Int)) = (((o ||| f3 * 4096 ||| a * 32768 ||| b * 1048576 ||| part n 0 4 7) : Nat) : Int) := by
      exact u32_or (o ||| f3 * 4096 ||| a * 32768 ||| b * 1048576) (part n 0 4 7) (a2) l3
    have a3 : o ||| f3 * 4096 ||| a * 32768 ||| b * 1048576 ||| part n 0 4 7 < 4294967296 := or_lt (a := o ||| f3 * 4096 ||| a * 32768 ||| b * 1048576) (b := part n 0 4 7) (a2) l3
    have l4 : part n 5 11 25 < 4294967296 := part_lt (n := n) (lo := 5) (hi := 11) (to := 25) (by decide)
    have q4x : bits .or .u32 (((o ||| f3 * 4096 ||| a * 32768 ||| b * 1048576 ||| part n 0 4 7) : Nat) : Int) (((part n 5 11 25 : Nat) : Int)) = (((o ||| f3 * 4096 ||| a * 32768 ||| b * 1048576 ||| part n 0 4 7 ||| part n 5 11 25) : Nat) : Int) := by
      exact u32_or (o ||| f3 * 4096 ||| a * 32768 ||| b * 1048576 ||| part n 0 4 7) (part n 5 11 25) (a3) l4
    have a4 : o ||| f3 * 4096 ||| a * 32768 ||| b * 1048576 ||| part n 0 4 7 ||| part n 5 11 25 < 4294967296 := or_lt (a := o ||| f3 * 4096 ||| a * 32768 ||| b * 1048576 ||| part n 0 4 7) (b := part n 5 11 25) (a3) l4
    have EV : (((o ||| f3 * 4096 ||| a * 32768 ||| b * 1048576 ||| part n 0 4 7 ||| part n 5 11 25) : Nat) : Int) = ((encK 4 o f3 f7 d a b n : Nat) : Int) := by
      unfold encK
      rw [if_neg (by decide), if_neg (by decide), if_neg (by decide), if_neg (by decide), if_pos rfl]
    have Q := Lib.hid (And.intro EV (And.intro q0x (And.intro q1x (And.intro q2x (And.intro q3x q4x)))))
    clear q0x a0 l0 q1x a1 l1 q2x a2 l2 q3x a3 l3 q4x a4 l4 EV
    have P0 : ∀ w1, Calls Tryd.prog 46 #[.int .u32 n, .int .i64 0, .int .i64 4, .int .i64 7] w1 fun e w' => e = .returned (.int .u32 (part n 0 4 7 : Nat)) ∧ w' = w1 := fun w1 => refBits_any n 0 4 7 w1 (by omega) (by decide) (by decide) (by decide) (by decide) (part_lt (by decide))
    have P0 := Lib.hid P0
    have P1 : ∀ w1, Calls Tryd.prog 46 #[.int .u32 n, .int .i64 5, .int .i64 11, .int .i64 25] w1 fun e w' => e = .returned (.int .u32 (part n 5 11 25 : Nat)) ∧ w' = w1 := fun w1 => refBits_any n 5 11 25 w1 (by omega) (by decide) (by decide) (by decide) (by decide) (part_lt (by decide))
    have P1 := Lib.hid P1
    go_wp2_with (first | (with_reducible refine (P0.out _).mono ?_; rintro e w' ⟨rfl, rfl⟩) | (with_reducible refine (P1.out _).mono ?_; rintro e w' ⟨rfl, rfl⟩))
    go_ret
    obtain ⟨EV, q0x, q1x, q2x, q3x, q4x⟩ := Q.out
    refine ⟨ret_i ?_, by rw [HX.out] at hb2; exact drewR hb2⟩
    rw [q0x, q1x, q2x, q3x, q4x]
    exact EV.trans (by rw [HVV.out])
  · have ek : kT i = 5 := by rw [← HK.out, hk]; rfl
    rw [ek] at hV
    rw [hk] at s0
    clear HN2 HN3 HK hs9 h9 hk ek
    generalize oT i = o at *
    generalize f3T i = f3 at *
    generalize f7R i = f7 at *
    have HVV := Lib.hid hV
    clear hV
    have l0 : f3 * 4096 < 4294967296 := show f3 * 4096 < 4294967296 by omega
    have q0x : bits .or .u32 (((o) : Nat) : Int) ((f3 : Int) * 4096) = (((o ||| f3 * 4096) : Nat) : Int) := by
      rw [show (f3 : Int) * 4096 = ((f3 * 4096 : Nat) : Int) by omega]; exact u32_or (o) (f3 * 4096) ((show o < 4294967296 by omega)) l0
    have a0 : o ||| f3 * 4096 < 4294967296 := or_lt (a := o) (b := f3 * 4096) ((show o < 4294967296 by omega)) l0
    have l1 : a * 32768 < 4294967296 := show a * 32768 < 4294967296 by omega
    have q1x : bits .or .u32 (((o ||| f3 * 4096) : Nat) : Int) ((a : Int) * 32768) = (((o ||| f3 * 4096 ||| a * 32768) : Nat) : Int) := by
      rw [show (a : Int) * 32768 = ((a * 32768 : Nat) : Int) by omega]; exact u32_or (o ||| f3 * 4096) (a * 32768) (a0) l1
    have a1 : o ||| f3 * 4096 ||| a * 32768 < 4294967296 := or_lt (a := o ||| f3 * 4096) (b := a * 32768) (a0) l1
    have l2 : b * 1048576 < 4294967296 := show b * 1048576 < 4294967296 by omega
    have q2x : bits .or .u32 (((o ||| f3 * 4096 ||| a * 32768) : Nat) : Int) ((b : Int) * 1048576) = (((o ||| f3 * 4096 ||| a * 32768 ||| b * 1048576) : Nat) : Int) := by
      rw [show (b : Int) * 1048576 = ((b * 1048576 : Nat) : Int) by omega]; exact u32_or (o ||| f3 * 4096 ||| a * 32768) (b * 1048576) (a1) l2
    have a2 : o ||| f3 * 4096 ||| a * 32768 ||| b * 1048576 < 4294967296 := or_lt (a := o ||| f3 * 4096 ||| a * 32768) (b := b * 1048576) (a1) l2
    have l3 : part n 11 11 7 < 4294967296 := part_lt (n := n) (lo := 11) (hi := 11) (to := 7) (by decide)
    have q3x : bits .or .u32 (((o ||| f3 * 4096 ||| a * 32768 ||| b * 1048576) : Nat) : Int) (((part n 11 11 7 : Nat) : Int)) = (((o ||| f3 * 4096 ||| a * 32768 ||| b * 1048576 ||| part n 11 11 7) : Nat) : Int) := by
      exact u32_or (o ||| f3 * 4096 ||| a * 32768 ||| b * 1048576) (part n 11 11 7) (a2) l3
    have a3 : o ||| f3 * 4096 ||| a * 32768 ||| b * 1048576 ||| part n 11 11 7 < 4294967296 := or_lt (a := o ||| f3 * 4096 ||| a * 32768 ||| b * 1048576) (b := part n 11 11 7) (a2) l3
    have l4 : part n 1 4 8 < 4294967296 := part_lt (n := n) (lo := 1) (hi := 4) (to := 8) (by decide)
    have q4x : bits .or .u32 (((o ||| f3 * 4096 ||| a * 32768 ||| b * 1048576 ||| part n 11 11 7) : Nat) : Int) (((part n 1 4 8 : Nat) : Int)) = (((o ||| f3 * 4096 ||| a * 32768 ||| b * 1048576 ||| part n 11 11 7 ||| part n 1 4 8) : Nat) : Int) := by
      exact u32_or (o ||| f3 * 4096 ||| a * 32768 ||| b * 1048576 ||| part n 11 11 7) (part n 1 4 8) (a3) l4
    have a4 : o ||| f3 * 4096 ||| a * 32768 ||| b * 1048576 ||| part n 11 11 7 ||| part n 1 4 8 < 4294967296 := or_lt (a := o ||| f3 * 4096 ||| a * 32768 ||| b * 1048576 ||| part n 11 11 7) (b := part n 1 4 8) (a3) l4
    have l5 : part n 5 10 25 < 4294967296 := part_lt (n := n) (lo := 5) (hi := 10) (to := 25) (by decide)
    have q5x : bits .or .u32 (((o ||| f3 * 4096 ||| a * 32768 ||| b * 1048576 ||| part n 11 11 7 ||| part n 1 4 8) : Nat) : Int) (((part n 5 10 25 : Nat) : Int)) = (((o ||| f3 * 4096 ||| a * 32768 ||| b * 1048576 ||| part n 11 11 7 ||| part n 1 4 8 ||| part n 5 10 25) : Nat) : Int) := by
      exact u32_or (o ||| f3 * 4096 ||| a * 32768 ||| b * 1048576 ||| part n 11 11 7 ||| part n 1 4 8) (part n 5 10 25) (a4) l5
    have a5 : o ||| f3 * 4096 ||| a * 32768 ||| b * 1048576 ||| part n 11 11 7 ||| part n 1 4 8 ||| part n 5 10 25 < 4294967296 := or_lt (a := o ||| f3 * 4096 ||| a * 32768 ||| b * 1048576 ||| part n 11 11 7 ||| part n 1 4 8) (b := part n 5 10 25) (a4) l5
    have l6 : part n 12 12 31 < 4294967296 := part_lt (n := n) (lo := 12) (hi := 12) (to := 31) (by decide)
    have q6x : bits .or .u32 (((o ||| f3 * 4096 ||| a * 32768 ||| b * 1048576 ||| part n 11 11 7 ||| part n 1 4 8 ||| part n 5 10 25) : Nat) : Int) (((part n 12 12 31 : Nat) : Int)) = (((o ||| f3 * 4096 ||| a * 32768 ||| b * 1048576 ||| part n 11 11 7 ||| part n 1 4 8 ||| part n 5 10 25 ||| part n 12 12 31) : Nat) : Int) := by
      exact u32_or (o ||| f3 * 4096 ||| a * 32768 ||| b * 1048576 ||| part n 11 11 7 ||| part n 1 4 8 ||| part n 5 10 25) (part n 12 12 31) (a5) l6
    have a6 : o ||| f3 * 4096 ||| a * 32768 ||| b * 1048576 ||| part n 11 11 7 ||| part n 1 4 8 ||| part n 5 10 25 ||| part n 12 12 31 < 4294967296 := or_lt (a := o ||| f3 * 4096 ||| a * 32768 ||| b * 1048576 ||| part n 11 11 7 ||| part n 1 4 8 ||| part n 5 10 25) (b := part n 12 12 31) (a5) l6
    have EV : (((o ||| f3 * 4096 ||| a * 32768 ||| b * 1048576 ||| part n 11 11 7 ||| part n 1 4 8 ||| part n 5 10 25 ||| part n 12 12 31) : Nat) : Int) = ((encK 5 o f3 f7 d a b n : Nat) : Int) := by
      unfold encK
      rw [if_neg (by decide), if_neg (by decide), if_neg (by decide), if_neg (by decide), if_neg (by decide), if_pos rfl]
    have Q := Lib.hid (And.intro EV (And.intro q0x (And.intro q1x (And.intro q2x (And.intro q3x (And.intro q4x (And.intro q5x q6x)))))))
    clear q0x a0 l0 q1x a1 l1 q2x a2 l2 q3x a3 l3 q4x a4 l4 q5x a5 l5 q6x a6 l6 EV
    have P0 : ∀ w1, Calls Tryd.prog 46 #[.int .u32 n, .int .i64 11, .int .i64 11, .int .i64 7] w1 fun e w' => e = .returned (.int .u32 (part n 11 11 7 : Nat)) ∧ w' = w1 := fun w1 => refBits_any n 11 11 7 w1 (by omega) (by decide) (by decide) (by decide) (by decide) (part_lt (by decide))
    have P0 := Lib.hid P0
    have P1 : ∀ w1, Calls Tryd.prog 46 #[.int .u32 n, .int .i64 1, .int .i64 4, .int .i64 8] w1 fun e w' => e = .returned (.int .u32 (part n 1 4 8 : Nat)) ∧ w' = w1 := fun w1 => refBits_any n 1 4 8 w1 (by omega) (by decide) (by decide) (by decide) (by decide) (part_lt (by decide))
    have P1 := Lib.hid P1
    have P2 : ∀ w1, Calls Tryd.prog 46 #[.int .u32 n, .int .i64 5, .int .i64 10, .int .i64 25] w1 fun e w' => e = .returned (.int .u32 (part n 5 10 25 : Nat)) ∧ w' = w1 := fun w1 => refBits_any n 5 10 25 w1 (by omega) (by decide) (by decide) (by decide) (by decide) (part_lt (by decide))
    have P2 := Lib.hid P2
    have P3 : ∀ w1, Calls Tryd.prog 46 #[.int .u32 n, .int .i64 12, .int .i64 12, .int .i64 31] w1 fun e w' => e = .returned (.int .u32 (part n 12 12 31 : Nat)) ∧ w' = w1 := fun w1 => refBits_any n 12 12 31 w1 (by omega) (by decide) (by decide) (by decide) (by decide) (part_lt (by decide))
    have P3 := Lib.hid P3
    go_wp2_with (first | (with_reducible refine (P0.out _).mono ?_; rintro e w' ⟨rfl, rfl⟩) | (with_reducible refine (P1.out _).mono ?_; rintro e w' ⟨rfl, rfl⟩) | (with_reducible refine (P2.out _).mono ?_; rintro e w' ⟨rfl, rfl⟩) | (with_reducible refine (P3.out _).mono ?_; rintro e w' ⟨rfl, rfl⟩))
    go_ret
    obtain ⟨EV, q0x, q1x, q2x, q3x, q4x, q5x, q6x⟩ := Q.out
    refine ⟨ret_i ?_, by rw [HX.out] at hb2; exact drewR hb2⟩
    rw [q0x, q1x, q2x, q3x, q4x, q5x, q6x]
    exact EV.trans (by rw [HVV.out])
  · have ek : kT i = 6 := by rw [← HK.out, hk]; rfl
    rw [ek] at hV
    rw [hk] at s0
    clear HN2 HN3 HK hs9 h9 hk ek
    generalize oT i = o at *
    generalize f3T i = f3 at *
    generalize f7R i = f7 at *
    have HVV := Lib.hid hV
    clear hV
    have l0 : f3 * 4096 < 4294967296 := show f3 * 4096 < 4294967296 by omega
    have q0x : bits .or .u32 (((o) : Nat) : Int) ((f3 : Int) * 4096) = (((o ||| f3 * 4096) : Nat) : Int) := by
      rw [show (f3 : Int) * 4096 = ((f3 * 4096 : Nat) : Int) by omega]; exact u32_or (o) (f3 * 4096) ((show o < 4294967296 by omega)) l0
    have a0 : o ||| f3 * 4096 < 4294967296 := or_lt (a := o) (b := f3 * 4096) ((show o < 4294967296 by omega)) l0
    have l1 : d * 128 < 4294967296 := show d * 128 < 4294967296 by omega
    have q1x : bits .or .u32 (((o ||| f3 * 4096) : Nat) : Int) ((d : Int) * 128) = (((o ||| f3 * 4096 ||| d * 128) : Nat) : Int) := by
      rw [show (d : Int) * 128 = ((d * 128 : Nat) : Int) by omega]; exact u32_or (o ||| f3 * 4096) (d * 128) (a0) l1
    have a1 : o ||| f3 * 4096 ||| d * 128 < 4294967296 := or_lt (a := o ||| f3 * 4096) (b := d * 128) (a0) l1
    have l2 : part n 12 19 12 < 4294967296 := part_lt (n := n) (lo := 12) (hi := 19) (to := 12) (by decide)
    have q2x : bits .or .u32 (((o ||| f3 * 4096 ||| d * 128) : Nat) : Int) (((part n 12 19 12 : Nat) : Int)) = (((o ||| f3 * 4096 ||| d * 128 ||| part n 12 19 12) : Nat) : Int) := by
      exact u32_or (o ||| f3 * 4096 ||| d * 128) (part n 12 19 12) (a1) l2
    have a2 : o ||| f3 * 4096 ||| d * 128 ||| part n 12 19 12 < 4294967296 := or_lt (a := o ||| f3 * 4096 ||| d * 128) (b := part n 12 19 12) (a1) l2
    have l3 : part n 11 11 20 < 4294967296 := part_lt (n := n) (lo := 11) (hi := 11) (to := 20) (by decide)
    have q3x : bits .or .u32 (((o ||| f3 * 4096 ||| d * 128 ||| part n 12 19 12) : Nat) : Int) (((part n 11 11 20 : Nat) : Int)) = (((o ||| f3 * 4096 ||| d * 128 ||| part n 12 19 12 ||| part n 11 11 20) : Nat) : Int) := by
      exact u32_or (o ||| f3 * 4096 ||| d * 128 ||| part n 12 19 12) (part n 11 11 20) (a2) l3
    have a3 : o ||| f3 * 4096 ||| d * 128 ||| part n 12 19 12 ||| part n 11 11 20 < 4294967296 := or_lt (a := o ||| f3 * 4096 ||| d * 128 ||| part n 12 19 12) (b := part n 11 11 20) (a2) l3
    have l4 : part n 1 10 21 < 4294967296 := part_lt (n := n) (lo := 1) (hi := 10) (to := 21) (by decide)
    have q4x : bits .or .u32 (((o ||| f3 * 4096 ||| d * 128 ||| part n 12 19 12 ||| part n 11 11 20) : Nat) : Int) (((part n 1 10 21 : Nat) : Int)) = (((o ||| f3 * 4096 ||| d * 128 ||| part n 12 19 12 ||| part n 11 11 20 ||| part n 1 10 21) : Nat) : Int) := by
      exact u32_or (o ||| f3 * 4096 ||| d * 128 ||| part n 12 19 12 ||| part n 11 11 20) (part n 1 10 21) (a3) l4
    have a4 : o ||| f3 * 4096 ||| d * 128 ||| part n 12 19 12 ||| part n 11 11 20 ||| part n 1 10 21 < 4294967296 := or_lt (a := o ||| f3 * 4096 ||| d * 128 ||| part n 12 19 12 ||| part n 11 11 20) (b := part n 1 10 21) (a3) l4
    have l5 : part n 20 20 31 < 4294967296 := part_lt (n := n) (lo := 20) (hi := 20) (to := 31) (by decide)
    have q5x : bits .or .u32 (((o ||| f3 * 4096 ||| d * 128 ||| part n 12 19 12 ||| part n 11 11 20 ||| part n 1 10 21) : Nat) : Int) (((part n 20 20 31 : Nat) : Int)) = (((o ||| f3 * 4096 ||| d * 128 ||| part n 12 19 12 ||| part n 11 11 20 ||| part n 1 10 21 ||| part n 20 20 31) : Nat) : Int) := by
      exact u32_or (o ||| f3 * 4096 ||| d * 128 ||| part n 12 19 12 ||| part n 11 11 20 ||| part n 1 10 21) (part n 20 20 31) (a4) l5
    have a5 : o ||| f3 * 4096 ||| d * 128 ||| part n 12 19 12 ||| part n 11 11 20 ||| part n 1 10 21 ||| part n 20 20 31 < 4294967296 := or_lt (a := o ||| f3 * 4096 ||| d * 128 ||| part n 12 19 12 ||| part n 11 11 20 ||| part n 1 10 21) (b := part n 20 20 31) (a4) l5
    have EV : (((o ||| f3 * 4096 ||| d * 128 ||| part n 12 19 12 ||| part n 11 11 20 ||| part n 1 10 21 ||| part n 20 20 31) : Nat) : Int) = ((encK 6 o f3 f7 d a b n : Nat) : Int) := by
      unfold encK
      rw [if_neg (by decide), if_neg (by decide), if_neg (by decide), if_neg (by decide), if_neg (by decide), if_neg (by decide), if_pos rfl]
    have Q := Lib.hid (And.intro EV (And.intro q0x (And.intro q1x (And.intro q2x (And.intro q3x (And.intro q4x q5x))))))
    clear q0x a0 l0 q1x a1 l1 q2x a2 l2 q3x a3 l3 q4x a4 l4 q5x a5 l5 EV
    have P0 : ∀ w1, Calls Tryd.prog 46 #[.int .u32 n, .int .i64 12, .int .i64 19, .int .i64 12] w1 fun e w' => e = .returned (.int .u32 (part n 12 19 12 : Nat)) ∧ w' = w1 := fun w1 => refBits_any n 12 19 12 w1 (by omega) (by decide) (by decide) (by decide) (by decide) (part_lt (by decide))
    have P0 := Lib.hid P0
    have P1 : ∀ w1, Calls Tryd.prog 46 #[.int .u32 n, .int .i64 11, .int .i64 11, .int .i64 20] w1 fun e w' => e = .returned (.int .u32 (part n 11 11 20 : Nat)) ∧ w' = w1 := fun w1 => refBits_any n 11 11 20 w1 (by omega) (by decide) (by decide) (by decide) (by decide) (part_lt (by decide))
    have P1 := Lib.hid P1
    have P2 : ∀ w1, Calls Tryd.prog 46 #[.int .u32 n, .int .i64 1, .int .i64 10, .int .i64 21] w1 fun e w' => e = .returned (.int .u32 (part n 1 10 21 : Nat)) ∧ w' = w1 := fun w1 => refBits_any n 1 10 21 w1 (by omega) (by decide) (by decide) (by decide) (by decide) (part_lt (by decide))
    have P2 := Lib.hid P2
    have P3 : ∀ w1, Calls Tryd.prog 46 #[.int .u32 n, .int .i64 20, .int .i64 20, .int .i64 31] w1 fun e w' => e = .returned (.int .u32 (part n 20 20 31 : Nat)) ∧ w' = w1 := fun w1 => refBits_any n 20 20 31 w1 (by omega) (by decide) (by decide) (by decide) (by decide) (part_lt (by decide))
    have P3 := Lib.hid P3
    go_wp2_with (first | (with_reducible refine (P0.out _).mono ?_; rintro e w' ⟨rfl, rfl⟩) | (with_reducible refine (P1.out _).mono ?_; rintro e w' ⟨rfl, rfl⟩) | (with_reducible refine (P2.out _).mono ?_; rintro e w' ⟨rfl, rfl⟩) | (with_reducible refine (P3.out _).mono ?_; rintro e w' ⟨rfl, rfl⟩))
    go_ret
    obtain ⟨EV, q0x, q1x, q2x, q3x, q4x, q5x⟩ := Q.out
    refine ⟨ret_i ?_, by rw [HX.out] at hb2; exact drewR hb2⟩
    rw [q0x, q1x, q2x, q3x, q4x, q5x]
    exact EV.trans (by rw [HVV.out])
  · have ek : kT i = 1 := by rw [← HK.out, hk]; rfl
    rw [ek] at hV
    rw [hk] at s0
    clear HN2 HN3 HK hs9 h9 hk ek
    generalize oT i = o at *
    generalize f3T i = f3 at *
    generalize f7R i = f7 at *
    have HVV := Lib.hid hV
    clear hV
    have l0 : f3 * 4096 < 4294967296 := show f3 * 4096 < 4294967296 by omega
    have q0x : bits .or .u32 (((o) : Nat) : Int) ((f3 : Int) * 4096) = (((o ||| f3 * 4096) : Nat) : Int) := by
      rw [show (f3 : Int) * 4096 = ((f3 * 4096 : Nat) : Int) by omega]; exact u32_or (o) (f3 * 4096) ((show o < 4294967296 by omega)) l0
    have a0 : o ||| f3 * 4096 < 4294967296 := or_lt (a := o) (b := f3 * 4096) ((show o < 4294967296 by omega)) l0
    have l1 : d * 128 < 4294967296 := show d * 128 < 4294967296 by omega
    have q1x : bits .or .u32 (((o ||| f3 * 4096) : Nat) : Int) ((d : Int) * 128) = (((o ||| f3 * 4096 ||| d * 128) : Nat) : Int) := by
      rw [show (d : Int) * 128 = ((d * 128 : Nat) : Int) by omega]; exact u32_or (o ||| f3 * 4096) (d * 128) (a0) l1
    have a1 : o ||| f3 * 4096 ||| d * 128 < 4294967296 := or_lt (a := o ||| f3 * 4096) (b := d * 128) (a0) l1
    have l2 : a * 32768 < 4294967296 := show a * 32768 < 4294967296 by omega
    have q2x : bits .or .u32 (((o ||| f3 * 4096 ||| d * 128) : Nat) : Int) ((a : Int) * 32768) = (((o ||| f3 * 4096 ||| d * 128 ||| a * 32768) : Nat) : Int) := by
      rw [show (a : Int) * 32768 = ((a * 32768 : Nat) : Int) by omega]; exact u32_or (o ||| f3 * 4096 ||| d * 128) (a * 32768) (a1) l2
    have a2 : o ||| f3 * 4096 ||| d * 128 ||| a * 32768 < 4294967296 := or_lt (a := o ||| f3 * 4096 ||| d * 128) (b := a * 32768) (a1) l2
    have l3 : part n 0 11 20 < 4294967296 := part_lt (n := n) (lo := 0) (hi := 11) (to := 20) (by decide)
    have q3x : bits .or .u32 (((o ||| f3 * 4096 ||| d * 128 ||| a * 32768) : Nat) : Int) (((part n 0 11 20 : Nat) : Int)) = (((o ||| f3 * 4096 ||| d * 128 ||| a * 32768 ||| part n 0 11 20) : Nat) : Int) := by
      exact u32_or (o ||| f3 * 4096 ||| d * 128 ||| a * 32768) (part n 0 11 20) (a2) l3
    have a3 : o ||| f3 * 4096 ||| d * 128 ||| a * 32768 ||| part n 0 11 20 < 4294967296 := or_lt (a := o ||| f3 * 4096 ||| d * 128 ||| a * 32768) (b := part n 0 11 20) (a2) l3
    have EV : (((o ||| f3 * 4096 ||| d * 128 ||| a * 32768 ||| part n 0 11 20) : Nat) : Int) = ((encK 1 o f3 f7 d a b n : Nat) : Int) := by
      unfold encK
      rw [if_neg (by decide), if_pos rfl]
    have Q := Lib.hid (And.intro EV (And.intro q0x (And.intro q1x (And.intro q2x q3x))))
    clear q0x a0 l0 q1x a1 l1 q2x a2 l2 q3x a3 l3 EV
    have P0 : ∀ w1, Calls Tryd.prog 46 #[.int .u32 n, .int .i64 0, .int .i64 11, .int .i64 20] w1 fun e w' => e = .returned (.int .u32 (part n 0 11 20 : Nat)) ∧ w' = w1 := fun w1 => refBits_any n 0 11 20 w1 (by omega) (by decide) (by decide) (by decide) (by decide) (part_lt (by decide))
    have P0 := Lib.hid P0
    go_wp2_with (first | (with_reducible refine (P0.out _).mono ?_; rintro e w' ⟨rfl, rfl⟩))
    go_ret
    obtain ⟨EV, q0x, q1x, q2x, q3x⟩ := Q.out
    refine ⟨ret_i ?_, by rw [HX.out] at hb2; exact drewR hb2⟩
    rw [q0x, q1x, q2x, q3x]
    exact EV.trans (by rw [HVV.out])
end Go.Proofs.YthkaclmnbahieaaDoor
