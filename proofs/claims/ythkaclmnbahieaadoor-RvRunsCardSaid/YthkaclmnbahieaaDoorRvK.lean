/-
  The reference: signed, imm, Encode, Decode.
-/
import Derived.Test.YthkaclmnbahieaaDoorRvJ
namespace Go.Proofs.YthkaclmnbahieaaDoor
open Go.RowKit

theorem and1 (m : Nat) : bits .and .u32 (m : Int) 1 = ((m % 2 : Nat) : Int) := by
  rw [show (1 : Int) = ((2 ^ 1 - 1 : Nat) : Int) by decide, u32_mask _ 1 (by decide)]
  simp
theorem refSigned12 (n : Nat) (h : n < 4096) (w : World) : Calls Tryd.prog 64 #[.int .u32 n, .int .i64 12] w fun e w' => e = .returned (.int .i64 (sgn n 12)) ∧ w' = w := by
  have E := Lib.hid (sgn_of12 n h)
  have hx := and1 (n / 2048)
  rw [show ((n / 2048 : Nat) : Int) = (n : Int) / 2048 by omega] at hx
  by_cases hn : n < 2048
  · have e0 : (n / 2048) % 2 = 0 := by omega
    rw [e0] at hx
    replace E := Lib.hid (E.out.trans (if_pos hn))
    have hx2 : bits .and .u32 ((n : Int) / 2048) 1 = 0 := hx
    clear hx e0
    go_enter Tryd.func64, Tryd.ntmps64
    go_wp2
    go_ret
    exact ⟨ret_i E.out.symm, rfl⟩
  · have e0 : (n / 2048) % 2 = 1 := by omega
    rw [e0] at hx
    replace E := Lib.hid (E.out.trans (if_neg hn))
    have hx2 : bits .and .u32 ((n : Int) / 2048) 1 = 1 := hx
    clear hx e0
    go_enter Tryd.func64, Tryd.ntmps64
    go_wp2
    go_ret
    refine ⟨ret_i ?_, rfl⟩
    rw [E.out]
    try unfold wrap64
    try omega
theorem refSigned13 (n : Nat) (h : n < 8192) (w : World) : Calls Tryd.prog 64 #[.int .u32 n, .int .i64 13] w fun e w' => e = .returned (.int .i64 (sgn n 13)) ∧ w' = w := by
  have E := Lib.hid (sgn_of13 n h)
  have hx := and1 (n / 4096)
  rw [show ((n / 4096 : Nat) : Int) = (n : Int) / 4096 by omega] at hx
  by_cases hn : n < 4096
  · have e0 : (n / 4096) % 2 = 0 := by omega
    rw [e0] at hx
    replace E := Lib.hid (E.out.trans (if_pos hn))
    have hx2 : bits .and .u32 ((n : Int) / 4096) 1 = 0 := hx
    clear hx e0
    go_enter Tryd.func64, Tryd.ntmps64
    go_wp2
    go_ret
    exact ⟨ret_i E.out.symm, rfl⟩
  · have e0 : (n / 4096) % 2 = 1 := by omega
    rw [e0] at hx
    replace E := Lib.hid (E.out.trans (if_neg hn))
    have hx2 : bits .and .u32 ((n : Int) / 4096) 1 = 1 := hx
    clear hx e0
    go_enter Tryd.func64, Tryd.ntmps64
    go_wp2
    go_ret
    refine ⟨ret_i ?_, rfl⟩
    rw [E.out]
    try unfold wrap64
    try omega
theorem refSigned21 (n : Nat) (h : n < 2097152) (w : World) : Calls Tryd.prog 64 #[.int .u32 n, .int .i64 21] w fun e w' => e = .returned (.int .i64 (sgn n 21)) ∧ w' = w := by
  have E := Lib.hid (sgn_of21 n h)
  have hx := and1 (n / 1048576)
  rw [show ((n / 1048576 : Nat) : Int) = (n : Int) / 1048576 by omega] at hx
  by_cases hn : n < 1048576
  · have e0 : (n / 1048576) % 2 = 0 := by omega
    rw [e0] at hx
    replace E := Lib.hid (E.out.trans (if_pos hn))
    have hx2 : bits .and .u32 ((n : Int) / 1048576) 1 = 0 := hx
    clear hx e0
    go_enter Tryd.func64, Tryd.ntmps64
    go_wp2
    go_ret
    exact ⟨ret_i E.out.symm, rfl⟩
  · have e0 : (n / 1048576) % 2 = 1 := by omega
    rw [e0] at hx
    replace E := Lib.hid (E.out.trans (if_neg hn))
    have hx2 : bits .and .u32 ((n : Int) / 1048576) 1 = 1 := hx
    clear hx e0
    go_enter Tryd.func64, Tryd.ntmps64
    go_wp2
    go_ret
    refine ⟨ret_i ?_, rfl⟩
    rw [E.out]
    try unfold wrap64
    try omega
theorem part_3 (n : Nat) (hn : n < 4294967296) : part n 12 31 0 = n / 4096 := by
  unfold part
  simp
  omega
theorem part_1 (n : Nat) (hn : n < 4294967296) : part n 20 31 0 = n / 1048576 := by
  unfold part
  simp
  omega
theorem or5 (n : Nat) : part n 7 7 11 ||| part n 8 11 1 ||| part n 25 30 5 ||| part n 31 31 12 = part n 8 11 1 ||| part n 25 30 5 ||| part n 7 7 11 ||| part n 31 31 12 := by
  ac_rfl
theorem or6 (n : Nat) : part n 12 19 12 ||| part n 20 20 11 ||| part n 21 30 1 ||| part n 31 31 20 = part n 21 30 1 ||| part n 20 20 11 ||| part n 12 19 12 ||| part n 31 31 20 := by
  ac_rfl
set_option maxRecDepth 100000 in
set_option maxHeartbeats 4000000 in
theorem imm_any (sh n : Nat) (hs : sh ≤ 9) (hn : n < 4294967296) (w : World) : Calls Tryd.prog 45 #[.int .i64 (sh : Int), .int .u32 n] w fun e w' => e = .returned (.int .i64 (extI (kS sh) n)) ∧ w' = w := by
  have HB := Lib.hid (fun lo hi to h1 h2 h3 h4 h5 w1 => refBits_any n lo hi to w1 hn h1 h2 h3 h4 h5)
  obtain rfl | rfl | rfl | rfl | rfl | rfl | rfl | rfl | rfl | rfl : sh = 0 ∨ sh = 1 ∨ sh = 2 ∨ sh = 3 ∨ sh = 4 ∨ sh = 5 ∨ sh = 6 ∨ sh = 7 ∨ sh = 8 ∨ sh = 9 := by omega
  · rw [show (((0 : Nat)) : Int) = 0 from rfl]
    have hV : extI (kS 0) n = 0 := rfl
    rw [hV]
    clear HB
    go_enter Tryd.func45, Tryd.ntmps45
    go_wp2
    go_ret
    exact ⟨rfl, rfl⟩
  · rw [show (((1 : Nat)) : Int) = 1 from rfl]
    have P0 : ∀ w1, Calls Tryd.prog 46 #[.int .u32 n, .int .i64 20, .int .i64 31, .int .i64 0] w1 fun e w' => e = .returned (.int .u32 (part n 20 31 0 : Nat)) ∧ w' = w1 := fun w1 => HB.out 20 31 0 (by decide) (by decide) (by decide) (by decide) (part_lt (by decide)) w1
    replace P0 := Lib.hid P0
    have lt0 : part n 20 31 0 < 4294967296 := part_lt (by decide)
    have HS := Lib.hid (fun w1 => refSigned12 (n / 1048576) (by omega) w1)
    rw [part_1 n hn] at P0
    have hV : extI (kS 1) n = sgn (n / 1048576) 12 := rfl
    rw [hV]
    generalize sgn (n / 1048576) 12 = V at *
    generalize n / 1048576 = O1 at *
    clear hV
    clear HB
    go_enter Tryd.func45, Tryd.ntmps45
    go_wp2_with (first | (with_reducible refine (P0.out _).mono ?_; rintro e w' ⟨rfl, rfl⟩) | (with_reducible refine (HS.out _).mono ?_; rintro e w' ⟨rfl, rfl⟩))
    go_ret
    exact ⟨rfl, rfl⟩
  · rw [show (((2 : Nat)) : Int) = 2 from rfl]
    have P0 : ∀ w1, Calls Tryd.prog 46 #[.int .u32 n, .int .i64 20, .int .i64 24, .int .i64 0] w1 fun e w' => e = .returned (.int .u32 (part n 20 24 0 : Nat)) ∧ w' = w1 := fun w1 => HB.out 20 24 0 (by decide) (by decide) (by decide) (by decide) (part_lt (by decide)) w1
    replace P0 := Lib.hid P0
    have lt0 : part n 20 24 0 < 4294967296 := part_lt (by decide)
    have hV : extI (kS 2) n = ((part n 20 24 0 : Nat) : Int) := rfl
    rw [hV]
    clear hV
    generalize part n 20 24 0 = B0 at *
    clear HB
    go_enter Tryd.func45, Tryd.ntmps45
    go_wp2_with (first | (with_reducible refine (P0.out _).mono ?_; rintro e w' ⟨rfl, rfl⟩))
    go_ret
    exact ⟨rfl, rfl⟩
  · rw [show (((3 : Nat)) : Int) = 3 from rfl]
    have P0 : ∀ w1, Calls Tryd.prog 46 #[.int .u32 n, .int .i64 12, .int .i64 31, .int .i64 0] w1 fun e w' => e = .returned (.int .u32 (part n 12 31 0 : Nat)) ∧ w' = w1 := fun w1 => HB.out 12 31 0 (by decide) (by decide) (by decide) (by decide) (part_lt (by decide)) w1
    replace P0 := Lib.hid P0
    have lt0 : part n 12 31 0 < 4294967296 := part_lt (by decide)
    rw [part_3 n hn] at P0 lt0
    have hV : extI (kS 3) n = ((n / 4096 : Nat) : Int) := rfl
    rw [hV]
    clear hV
    generalize n / 4096 = B0 at *
    clear HB
    go_enter Tryd.func45, Tryd.ntmps45
    go_wp2_with (first | (with_reducible refine (P0.out _).mono ?_; rintro e w' ⟨rfl, rfl⟩))
    go_ret
    exact ⟨rfl, rfl⟩
  · rw [show (((4 : Nat)) : Int) = 4 from rfl]
    have P0 : ∀ w1, Calls Tryd.prog 46 #[.int .u32 n, .int .i64 20, .int .i64 31, .int .i64 0] w1 fun e w' => e = .returned (.int .u32 (part n 20 31 0 : Nat)) ∧ w' = w1 := fun w1 => HB.out 20 31 0 (by decide) (by decide) (by decide) (by decide) (part_lt (by decide)) w1
    replace P0 := Lib.hid P0
    have lt0 : part n 20 31 0 < 4294967296 := part_lt (by decide)
    have HS := Lib.hid (fun w1 => refSigned12 (n / 1048576) (by omega) w1)
    rw [part_1 n hn] at P0
    have hV : extI (kS 4) n = sgn (n / 1048576) 12 := rfl
    rw [hV]
    generalize sgn (n / 1048576) 12 = V at *
    generalize n / 1048576 = O1 at *
    clear hV
    clear HB
    go_enter Tryd.func45, Tryd.ntmps45
    go_wp2_with (first | (with_reducible refine (P0.out _).mono ?_; rintro e w' ⟨rfl, rfl⟩) | (with_reducible refine (HS.out _).mono ?_; rintro e w' ⟨rfl, rfl⟩))
    go_ret
    exact ⟨rfl, rfl⟩
  · rw [show (((5 : Nat)) : Int) = 5 from rfl]
    have P0 : ∀ w1, Calls Tryd.prog 46 #[.int .u32 n, .int .i64 7, .int .i64 11, .int .i64 0] w1 fun e w' => e = .returned (.int .u32 (part n 7 11 0 : Nat)) ∧ w' = w1 := fun w1 => HB.out 7 11 0 (by decide) (by decide) (by decide) (by decide) (part_lt (by decide)) w1
    replace P0 := Lib.hid P0
    have lt0 : part n 7 11 0 < 4294967296 := part_lt (by decide)
    have P1 : ∀ w1, Calls Tryd.prog 46 #[.int .u32 n, .int .i64 25, .int .i64 31, .int .i64 5] w1 fun e w' => e = .returned (.int .u32 (part n 25 31 5 : Nat)) ∧ w' = w1 := fun w1 => HB.out 25 31 5 (by decide) (by decide) (by decide) (by decide) (part_lt (by decide)) w1
    replace P1 := Lib.hid P1
    have lt1 : part n 25 31 5 < 4294967296 := part_lt (by decide)
    have q1 : bits .or .u32 (((part n 7 11 0) : Nat) : Int) ((part n 25 31 5 : Nat) : Int) = (((part n 7 11 0 ||| part n 25 31 5) : Nat) : Int) := u32_or (part n 7 11 0) (part n 25 31 5) lt0 lt1
    have al1 : part n 7 11 0 ||| part n 25 31 5 < 4294967296 := or_lt (a := part n 7 11 0) (b := part n 25 31 5) lt0 lt1
    have hb : part n 7 11 0 ||| part n 25 31 5 < 4096 := by rw [ext4]; omega
    have hV : extI (kS 5) n = sgn (part n 7 11 0 ||| part n 25 31 5) 12 := rfl
    have HS := Lib.hid (fun w1 => refSigned12 (part n 7 11 0 ||| part n 25 31 5) hb w1)
    rw [hV]
    clear hV hb
    generalize sgn (part n 7 11 0 ||| part n 25 31 5) 12 = V at *
    generalize hO1 : (part n 7 11 0 ||| part n 25 31 5) = O1 at *
    clear hO1
    generalize part n 7 11 0 = B0 at *
    generalize part n 25 31 5 = B1 at *
    clear HB
    go_enter Tryd.func45, Tryd.ntmps45
    go_wp2_with (first | (with_reducible refine (P0.out _).mono ?_; rintro e w' ⟨rfl, rfl⟩) | (with_reducible refine (P1.out _).mono ?_; rintro e w' ⟨rfl, rfl⟩) | (with_reducible refine (HS.out _).mono ?_; rintro e w' ⟨rfl, rfl⟩))
    go_ret
    exact ⟨rfl, rfl⟩
  · rw [show (((6 : Nat)) : Int) = 6 from rfl]
    have P0 : ∀ w1, Calls Tryd.prog 46 #[.int .u32 n, .int .i64 7, .int .i64 7, .int .i64 11] w1 fun e w' => e = .returned (.int .u32 (part n 7 7 11 : Nat)) ∧ w' = w1 := fun w1 => HB.out 7 7 11 (by decide) (by decide) (by decide) (by decide) (part_lt (by decide)) w1
    replace P0 := Lib.hid P0
    have lt0 : part n 7 7 11 < 4294967296 := part_lt (by decide)
    have P1 : ∀ w1, Calls Tryd.prog 46 #[.int .u32 n, .int .i64 8, .int .i64 11, .int .i64 1] w1 fun e w' => e = .returned (.int .u32 (part n 8 11 1 : Nat)) ∧ w' = w1 := fun w1 => HB.out 8 11 1 (by decide) (by decide) (by decide) (by decide) (part_lt (by decide)) w1
    replace P1 := Lib.hid P1
    have lt1 : part n 8 11 1 < 4294967296 := part_lt (by decide)
    have P2 : ∀ w1, Calls Tryd.prog 46 #[.int .u32 n, .int .i64 25, .int .i64 30, .int .i64 5] w1 fun e w' => e = .returned (.int .u32 (part n 25 30 5 : Nat)) ∧ w' = w1 := fun w1 => HB.out 25 30 5 (by decide) (by decide) (by decide) (by decide) (part_lt (by decide)) w1
    replace P2 := Lib.hid P2
    have lt2 : part n 25 30 5 < 4294967296 := part_lt (by decide)
    have P3 : ∀ w1, Calls Tryd.prog 46 #[.int .u32 n, .int .i64 31, .int .i64 31, .int .i64 12] w1 fun e w' => e = .returned (.int .u32 (part n 31 31 12 : Nat)) ∧ w' = w1 := fun w1 => HB.out 31 31 12 (by decide) (by decide) (by decide) (by decide) (part_lt (by decide)) w1
    replace P3 := Lib.hid P3
    have lt3 : part n 31 31 12 < 4294967296 := part_lt (by decide)
    have q1 : bits .or .u32 (((part n 7 7 11) : Nat) : Int) ((part n 8 11 1 : Nat) : Int) = (((part n 7 7 11 ||| part n 8 11 1) : Nat) : Int) := u32_or (part n 7 7 11) (part n 8 11 1) lt0 lt1
    have al1 : part n 7 7 11 ||| part n 8 11 1 < 4294967296 := or_lt (a := part n 7 7 11) (b := part n 8 11 1) lt0 lt1
    have q2 : bits .or .u32 (((part n 7 7 11 ||| part n 8 11 1) : Nat) : Int) ((part n 25 30 5 : Nat) : Int) = (((part n 7 7 11 ||| part n 8 11 1 ||| part n 25 30 5) : Nat) : Int) := u32_or (part n 7 7 11 ||| part n 8 11 1) (part n 25 30 5) al1 lt2
    have al2 : part n 7 7 11 ||| part n 8 11 1 ||| part n 25 30 5 < 4294967296 := or_lt (a := part n 7 7 11 ||| part n 8 11 1) (b := part n 25 30 5) al1 lt2
    have q3 : bits .or .u32 (((part n 7 7 11 ||| part n 8 11 1 ||| part n 25 30 5) : Nat) : Int) ((part n 31 31 12 : Nat) : Int) = (((part n 7 7 11 ||| part n 8 11 1 ||| part n 25 30 5 ||| part n 31 31 12) : Nat) : Int) := u32_or (part n 7 7 11 ||| part n 8 11 1 ||| part n 25 30 5) (part n 31 31 12) al2 lt3
    have al3 : part n 7 7 11 ||| part n 8 11 1 ||| part n 25 30 5 ||| part n 31 31 12 < 4294967296 := or_lt (a := part n 7 7 11 ||| part n 8 11 1 ||| part n 25 30 5) (b := part n 31 31 12) al2 lt3
    have hO : part n 7 7 11 ||| part n 8 11 1 ||| part n 25 30 5 ||| part n 31 31 12 = _ := or5 n
    have hb : part n 7 7 11 ||| part n 8 11 1 ||| part n 25 30 5 ||| part n 31 31 12 < 8192 := by rw [hO, ext5]; omega
    have hV : extI (kS 6) n = sgn (part n 7 7 11 ||| part n 8 11 1 ||| part n 25 30 5 ||| part n 31 31 12) 13 := by rw [hO]; rfl
    clear hO
    have HS := Lib.hid (fun w1 => refSigned13 (part n 7 7 11 ||| part n 8 11 1 ||| part n 25 30 5 ||| part n 31 31 12) hb w1)
    rw [hV]
    clear hV hb
    generalize sgn (part n 7 7 11 ||| part n 8 11 1 ||| part n 25 30 5 ||| part n 31 31 12) 13 = V at *
    generalize hO3 : (part n 7 7 11 ||| part n 8 11 1 ||| part n 25 30 5 ||| part n 31 31 12) = O3 at *
    clear hO3
    generalize hO2 : (part n 7 7 11 ||| part n 8 11 1 ||| part n 25 30 5) = O2 at *
    clear hO2
    generalize hO1 : (part n 7 7 11 ||| part n 8 11 1) = O1 at *
    clear hO1
    generalize part n 7 7 11 = B0 at *
    generalize part n 8 11 1 = B1 at *
    generalize part n 25 30 5 = B2 at *
    generalize part n 31 31 12 = B3 at *
    clear HB
    go_enter Tryd.func45, Tryd.ntmps45
    go_wp2_with (first | (with_reducible refine (P0.out _).mono ?_; rintro e w' ⟨rfl, rfl⟩) | (with_reducible refine (P1.out _).mono ?_; rintro e w' ⟨rfl, rfl⟩) | (with_reducible refine (P2.out _).mono ?_; rintro e w' ⟨rfl, rfl⟩) | (with_reducible refine (P3.out _).mono ?_; rintro e w' ⟨rfl, rfl⟩) | (with_reducible refine (HS.out _).mono ?_; rintro e w' ⟨rfl, rfl⟩))
    go_ret
    exact ⟨rfl, rfl⟩
  · rw [show (((7 : Nat)) : Int) = 7 from rfl]
    have P0 : ∀ w1, Calls Tryd.prog 46 #[.int .u32 n, .int .i64 12, .int .i64 19, .int .i64 12] w1 fun e w' => e = .returned (.int .u32 (part n 12 19 12 : Nat)) ∧ w' = w1 := fun w1 => HB.out 12 19 12 (by decide) (by decide) (by decide) (by decide) (part_lt (by decide)) w1
    replace P0 := Lib.hid P0
    have lt0 : part n 12 19 12 < 4294967296 := part_lt (by decide)
    have P1 : ∀ w1, Calls Tryd.prog 46 #[.int .u32 n, .int .i64 20, .int .i64 20, .int .i64 11] w1 fun e w' => e = .returned (.int .u32 (part n 20 20 11 : Nat)) ∧ w' = w1 := fun w1 => HB.out 20 20 11 (by decide) (by decide) (by decide) (by decide) (part_lt (by decide)) w1
    replace P1 := Lib.hid P1
    have lt1 : part n 20 20 11 < 4294967296 := part_lt (by decide)
    have P2 : ∀ w1, Calls Tryd.prog 46 #[.int .u32 n, .int .i64 21, .int .i64 30, .int .i64 1] w1 fun e w' => e = .returned (.int .u32 (part n 21 30 1 : Nat)) ∧ w' = w1 := fun w1 => HB.out 21 30 1 (by decide) (by decide) (by decide) (by decide) (part_lt (by decide)) w1
    replace P2 := Lib.hid P2
    have lt2 : part n 21 30 1 < 4294967296 := part_lt (by decide)
    have P3 : ∀ w1, Calls Tryd.prog 46 #[.int .u32 n, .int .i64 31, .int .i64 31, .int .i64 20] w1 fun e w' => e = .returned (.int .u32 (part n 31 31 20 : Nat)) ∧ w' = w1 := fun w1 => HB.out 31 31 20 (by decide) (by decide) (by decide) (by decide) (part_lt (by decide)) w1
    replace P3 := Lib.hid P3
    have lt3 : part n 31 31 20 < 4294967296 := part_lt (by decide)
    have q1 : bits .or .u32 (((part n 12 19 12) : Nat) : Int) ((part n 20 20 11 : Nat) : Int) = (((part n 12 19 12 ||| part n 20 20 11) : Nat) : Int) := u32_or (part n 12 19 12) (part n 20 20 11) lt0 lt1
    have al1 : part n 12 19 12 ||| part n 20 20 11 < 4294967296 := or_lt (a := part n 12 19 12) (b := part n 20 20 11) lt0 lt1
    have q2 : bits .or .u32 (((part n 12 19 12 ||| part n 20 20 11) : Nat) : Int) ((part n 21 30 1 : Nat) : Int) = (((part n 12 19 12 ||| part n 20 20 11 ||| part n 21 30 1) : Nat) : Int) := u32_or (part n 12 19 12 ||| part n 20 20 11) (part n 21 30 1) al1 lt2
    have al2 : part n 12 19 12 ||| part n 20 20 11 ||| part n 21 30 1 < 4294967296 := or_lt (a := part n 12 19 12 ||| part n 20 20 11) (b := part n 21 30 1) al1 lt2
    have q3 : bits .or .u32 (((part n 12 19 12 ||| part n 20 20 11 ||| part n 21 30 1) : Nat) : Int) ((part n 31 31 20 : Nat) : Int) = (((part n 12 19 12 ||| part n 20 20 11 ||| part n 21 30 1 ||| part n 31 31 20) : Nat) : Int) := u32_or (part n 12 19 12 ||| part n 20 20 11 ||| part n 21 30 1) (part n 31 31 20) al2 lt3
    have al3 : part n 12 19 12 ||| part n 20 20 11 ||| part n 21 30 1 ||| part n 31 31 20 < 4294967296 := or_lt (a := part n 12 19 12 ||| part n 20 20 11 ||| part n 21 30 1) (b := part n 31 31 20) al2 lt3
    have hO : part n 12 19 12 ||| part n 20 20 11 ||| part n 21 30 1 ||| part n 31 31 20 = _ := or6 n
    have hb : part n 12 19 12 ||| part n 20 20 11 ||| part n 21 30 1 ||| part n 31 31 20 < 2097152 := by rw [hO, ext6]; omega
    have hV : extI (kS 7) n = sgn (part n 12 19 12 ||| part n 20 20 11 ||| part n 21 30 1 ||| part n 31 31 20) 21 := by rw [hO]; rfl
    clear hO
    have HS := Lib.hid (fun w1 => refSigned21 (part n 12 19 12 ||| part n 20 20 11 ||| part n 21 30 1 ||| part n 31 31 20) hb w1)
    rw [hV]
    clear hV hb
    generalize sgn (part n 12 19 12 ||| part n 20 20 11 ||| part n 21 30 1 ||| part n 31 31 20) 21 = V at *
    generalize hO3 : (part n 12 19 12 ||| part n 20 20 11 ||| part n 21 30 1 ||| part n 31 31 20) = O3 at *
    clear hO3
    generalize hO2 : (part n 12 19 12 ||| part n 20 20 11 ||| part n 21 30 1) = O2 at *
    clear hO2
    generalize hO1 : (part n 12 19 12 ||| part n 20 20 11) = O1 at *
    clear hO1
    generalize part n 12 19 12 = B0 at *
    generalize part n 20 20 11 = B1 at *
    generalize part n 21 30 1 = B2 at *
    generalize part n 31 31 20 = B3 at *
    clear HB
    go_enter Tryd.func45, Tryd.ntmps45
    go_wp2_with (first | (with_reducible refine (P0.out _).mono ?_; rintro e w' ⟨rfl, rfl⟩) | (with_reducible refine (P1.out _).mono ?_; rintro e w' ⟨rfl, rfl⟩) | (with_reducible refine (P2.out _).mono ?_; rintro e w' ⟨rfl, rfl⟩) | (with_reducible refine (P3.out _).mono ?_; rintro e w' ⟨rfl, rfl⟩) | (with_reducible refine (HS.out _).mono ?_; rintro e w' ⟨rfl, rfl⟩))
    go_ret
    exact ⟨rfl, rfl⟩
  · rw [show (((8 : Nat)) : Int) = 8 from rfl]
    have P0 : ∀ w1, Calls Tryd.prog 46 #[.int .u32 n, .int .i64 20, .int .i64 31, .int .i64 0] w1 fun e w' => e = .returned (.int .u32 (part n 20 31 0 : Nat)) ∧ w' = w1 := fun w1 => HB.out 20 31 0 (by decide) (by decide) (by decide) (by decide) (part_lt (by decide)) w1
    replace P0 := Lib.hid P0
    have lt0 : part n 20 31 0 < 4294967296 := part_lt (by decide)
    have HS := Lib.hid (fun w1 => refSigned12 (n / 1048576) (by omega) w1)
    rw [part_1 n hn] at P0
    have hV : extI (kS 8) n = sgn (n / 1048576) 12 := rfl
    rw [hV]
    generalize sgn (n / 1048576) 12 = V at *
    generalize n / 1048576 = O1 at *
    clear hV
    clear HB
    go_enter Tryd.func45, Tryd.ntmps45
    go_wp2_with (first | (with_reducible refine (P0.out _).mono ?_; rintro e w' ⟨rfl, rfl⟩) | (with_reducible refine (HS.out _).mono ?_; rintro e w' ⟨rfl, rfl⟩))
    go_ret
    exact ⟨rfl, rfl⟩
  · rw [show (((9 : Nat)) : Int) = 9 from rfl]
    have hV : extI (kS 9) n = 0 := rfl
    rw [hV]
    clear HB
    go_enter Tryd.func45, Tryd.ntmps45
    go_wp2
    go_ret
    exact ⟨rfl, rfl⟩
theorem refEncode_any (i : Nat) (hi : i < 41) (d a b imm : Int) (hv : ValK (kT i) d a b imm) (w : World) :
    Calls Tryd.prog 36 #[rvA i d a b imm] w fun e w' => e = .returned (.int .u32 (encF ⟨i, d, a, b, imm⟩ : Nat)) ∧ Below w.heap.size w w' := by
  obtain ⟨hd, ha, hb, hl, hh, he⟩ := hv
  obtain ⟨D, rfl, hD⟩ := reg_nat hd
  obtain ⟨A, rfl, hA⟩ := reg_nat ha
  obtain ⟨B, rfl, hB⟩ := reg_nat hb
  have e : encK (kT i) (oT i) (f3T i) (f7T i) D A B (u32 imm) = encF ⟨i, D, A, B, imm⟩ := by
    unfold encF
    simp only [Int.toNat_natCast]
  refine refEncode_at i D A B (u32 imm) imm _ e w hi hD hA hB (u32_eq imm) (u32_lt imm) (fun hk => ?_) (fun hk => ?_)
  · rw [hk] at hl hh
    simp [lowT, highT] at hl hh
    unfold u32
    omega
  · rw [hk] at hl hh
    simp [lowT, highT] at hl hh
    unfold u32
    omega
theorem refValidate_any (x : Rv) (w : World) : Calls Tryd.prog 15 #[rvV x] w fun e w' => e = .returned (.int .i64 (errF x)) ∧ Below w.heap.size w w' := by
  obtain ⟨op, d, a, b, imm⟩ := x
  by_cases h : op < 0 ∨ 40 < op
  · have e : errF ⟨op, d, a, b, imm⟩ = 1 := by
      unfold errF
      rw [if_neg]
      intro hv
      obtain ⟨h0, h1, -⟩ := hv
      simp only at h0 h1
      omega
    rw [e]
    exact refValidate_bad op d a b imm w h
  · obtain ⟨i, rfl⟩ : ∃ i : Nat, op = (i : Int) := ⟨op.toNat, by omega⟩
    have hi : i < 41 := by omega
    have e : errF ⟨i, d, a, b, imm⟩ = valI (kT i) d a b imm := by
      unfold errF valI
      by_cases hv : ValK (kT i) d a b imm
      · rw [if_pos hv, if_pos ⟨by simp, by simp; omega, by simpa using hv⟩]
      · rw [if_neg hv, if_neg (fun h => hv (by have := h.2.2; simpa using this))]
    rw [e]
    exact refValidate_row i d a b imm w hi
theorem refEncodeV (x : Rv) (hv : Val x) (w : World) : Calls Tryd.prog 36 #[rvV x] w fun e w' => e = .returned (.int .u32 (encF x : Nat)) ∧ Below w.heap.size w w' := by
  obtain ⟨hi, hop⟩ := op_lt hv
  obtain ⟨h0, h40, hv⟩ := hv
  obtain ⟨op, d, a, b, imm⟩ := x
  obtain ⟨i, rfl⟩ : ∃ i : Nat, op = (i : Int) := ⟨op.toNat, hop.symm⟩
  exact refEncode_any i (by simpa using hi) d a b imm (by simpa using hv) w
set_option maxRecDepth 100000 in
set_option maxHeartbeats 4000000 in
theorem REncode_any (x : Rv) (w : World) : Calls Tryd.prog 13 #[rvV x] w fun e w' => e = .returned (.tuple #[.int .u32 (wrdF x : Nat), .int .i64 (errF x)]) ∧ Below w.heap.size w w' := by
  have HV := Lib.hid (fun w1 => refValidate_any x w1)
  by_cases hv : Val x
  · have e1 : errF x = 0 := if_pos hv
    have e2 : wrdF x = encF x := if_pos hv
    rw [e1] at HV ⊢
    rw [e2]
    have HE := fun w1 => refEncodeV x hv w1
    replace HE := Lib.hid HE
    clear e1 e2 hv
    obtain ⟨op, d, a, b, imm⟩ := x
    generalize encF ⟨op, d, a, b, imm⟩ = N at HE ⊢
    go_enter Tryd.func13, Tryd.ntmps13
    go_wp2_with fail
    have hx := heap_alloc_new w (.cells #[.int .i64 op, .int .i64 d, .int .i64 a, .int .i64 b, .int .i64 imm] 23)
    have hb : Below w.heap.size w (w.alloc (.cells #[.int .i64 op, .int .i64 d, .int .i64 a, .int .i64 b, .int .i64 imm] 23)) := (Below.refl _ _).alloc (Nat.le_refl _) _
    generalize World.alloc w _ = W at hx hb ⊢
    refine (HV.out _).mono ?_
    rintro e w2 ⟨rfl, hb2⟩
    replace hx := (hb2.block _ (lt_of_block hx)).trans hx
    replace hb := hb.trans (hb2.mono hb.size)
    obtain ⟨x0, x1, x2, x3, x4⟩ := cells5r hx
    clear hx hb2
    go_wp2_with fail
    refine (HE.out _).mono ?_
    rintro e w3 ⟨rfl, hb3⟩
    replace hb := hb.trans (hb3.mono hb.size)
    clear x0 x1 x2 x3 x4 hb3
    go_wp2
    exact bodyPost_ret (v := .tuple #[.int .u32 (N : Nat), .int .i64 0]) (by simp [results, Tryd.results13, go_sem]) rfl ⟨rfl, hb⟩
  · have e1 : errF x = 1 := if_neg hv
    have e2 : wrdF x = 0 := if_neg hv
    rw [e1] at HV ⊢
    rw [e2]
    clear e1 e2 hv
    obtain ⟨op, d, a, b, imm⟩ := x
    go_enter Tryd.func13, Tryd.ntmps13
    go_wp2_with fail
    have hb : Below w.heap.size w (w.alloc (.cells #[.int .i64 op, .int .i64 d, .int .i64 a, .int .i64 b, .int .i64 imm] 23)) := (Below.refl _ _).alloc (Nat.le_refl _) _
    generalize World.alloc w _ = W at hb ⊢
    refine (HV.out _).mono ?_
    rintro e w2 ⟨rfl, hb2⟩
    go_wp2
    exact bodyPost_ret (v := .tuple #[.int .u32 ((0 : Nat) : Int), .int .i64 1]) (by simp [results, Tryd.results13, go_sem]) rfl ⟨rfl, hb.trans (hb2.mono hb.size)⟩
end Go.Proofs.YthkaclmnbahieaaDoor
