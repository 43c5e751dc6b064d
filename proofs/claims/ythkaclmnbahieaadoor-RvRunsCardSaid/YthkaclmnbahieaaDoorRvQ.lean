/-
  The walks of RvEncodes and RvDecodes.
-/
import Derived.Test.YthkaclmnbahieaaDoorRvP
import Derived.Test.YthkaclmnbahieaaDoorRvL
namespace Go.Proofs.YthkaclmnbahieaaDoor
open Go.RowKit

theorem decI0 : decI 0 = ⟨0, 0, 0, 0, 0⟩ := by decide +kernel
theorem decB0 : decB 0 = false := by decide +kernel
set_option maxRecDepth 100000 in
set_option maxHeartbeats 8000000 in
/-- RvEncodes at numbers that the calls answer. -/
theorem encodes_at (op d a b imm : Int) (E : Int) (N : Nat) (op2 d2 a2 b2 imm2 : Int) (B : Bool) (w : World) (hL : Laid w)
    (HP : ∀ w1, Laid w1 → Calls Tryd.prog 12 #[rvA op d a b imm] w1 fun e w' => e = .returned (.tuple #[.int .u32 (N : Nat), .int .i64 E]) ∧ Below w1.heap.size w1 w')
    (HR : ∀ w1, Calls Tryd.prog 13 #[rvA op d a b imm] w1 fun e w' => e = .returned (.tuple #[.int .u32 (N : Nat), .int .i64 E]) ∧ Below w1.heap.size w1 w')
    (HV : ∀ w1, Laid w1 → Calls Tryd.prog 14 #[rvA op d a b imm] w1 fun e w' => e = .returned (.int .i64 E) ∧ Below w1.heap.size w1 w')
    (HW : ∀ w1, Calls Tryd.prog 15 #[rvA op d a b imm] w1 fun e w' => e = .returned (.int .i64 E) ∧ Below w1.heap.size w1 w')
    (HD : ∀ w1, Laid w1 → Calls Tryd.prog 16 #[.int .u32 (N : Nat)] w1 fun e w' => e = .returned (.tuple #[rvA op2 d2 a2 b2 imm2, .bool B]) ∧ Below w1.heap.size w1 w')
    (hE : E = 1 ∨ E = 0 ∧ B = true ∧ op2 = op ∧ d2 = d ∧ a2 = a ∧ b2 = b ∧ imm2 = imm) :
    Calls Tryd.prog 3 #[rvA op d a b imm] w fun e w' => e = .returned (.bool true) ∧ Below w.heap.size w w' := by
  have HK := Lib.hid (fun w1 h1 => known_any w1 h1)
  replace HP := Lib.hid HP
  replace HR := Lib.hid HR
  replace HV := Lib.hid HV
  replace HW := Lib.hid HW
  replace HD := Lib.hid HD
  replace hE := Lib.hid hE
  have hb0 : Below w.heap.size w (w.alloc (.cells #[.int .i64 op, .int .i64 d, .int .i64 a, .int .i64 b, .int .i64 imm] 23)) := (Below.refl _ _).alloc (Nat.le_refl _) _
  have hx := heap_alloc_new w (.cells #[.int .i64 op, .int .i64 d, .int .i64 a, .int .i64 b, .int .i64 imm] 23)
  go_enter Tryd.func3, Tryd.ntmps3
  go_upto_region 1 with fail
  replace hL := hL.below hb0
  generalize World.alloc w _ = W at hx hb0 hL ⊢
  obtain ⟨X, hX⟩ : ∃ X, X = w.heap.size := ⟨_, rfl⟩
  rw [← hX] at hx hb0 ⊢
  have HX := Lib.hid hX
  clear hX
  obtain ⟨x0, x1, x2, x3, x4⟩ := cells5r hx
  go_wp2_with fail
  refine (HP.out _ hL).mono ?_
  rintro e w2 ⟨rfl, hb2⟩
  replace hL := hL.below hb2
  replace hx := (hb2.block _ (lt_of_block hx)).trans hx
  replace hb0 := hb0.trans (hb2.mono (show X ≤ W.heap.size by rw [HX.out]; exact hb0.size))
  clear hb2 x0 x1 x2 x3 x4
  obtain ⟨x0, x1, x2, x3, x4⟩ := cells5r hx
  go_wp2_with fail
  refine (HR.out _).mono ?_
  rintro e w3 ⟨rfl, hb3⟩
  replace hL := hL.below hb3
  replace hx := (hb3.block _ (lt_of_block hx)).trans hx
  replace hb0 := hb0.trans (hb3.mono (show X ≤ w2.heap.size by rw [HX.out]; exact hb0.size))
  clear hb3 x0 x1 x2 x3 x4 HP HR
  obtain ⟨x0, x1, x2, x3, x4⟩ := cells5r hx
  have lX := lt_of_block hx
  have T0 := cell_regrown x0
  have T1 := cell_regrown x1
  have T2 := cell_regrown x2
  have T3 := cell_regrown x3
  have T4 := cell_regrown x4
  clear x0 x1 x2 x3 x4
  go_upto_region 3 with fail
  refine wp_region_quiet_below (by kernel_rfl) (by kernel_rfl) ?_
  have q1 : ∀ (dr : Nat) (os : Array Obj), Calls Tryd.prog 14 #[rvA op d a b imm] (Sort.grow (redrawn w3 dr) os) fun e w'' => e = .returned (.int .i64 E) ∧ ∃ p : Regrown, w'' = Sort.grow (redrawn w3 p.d) p.os := fun dr os => Calls.regrown_of (HV.out _ (hL.below (below_regrown w3 dr os)))
  have q2 : ∀ (dr : Nat) (os : Array Obj), Calls Tryd.prog 15 #[rvA op d a b imm] (Sort.grow (redrawn w3 dr) os) fun e w'' => e = .returned (.int .i64 E) ∧ ∃ p : Regrown, w'' = Sort.grow (redrawn w3 p.d) p.os := fun dr os => Calls.regrown_of (HW.out _)
  have Q1 := Lib.hid q1
  have Q2 := Lib.hid q2
  clear q1 q2 HV HW
  iterate 15 (go_big_quiet_step (first | (go_at_call 14; with_reducible exact Q1.out _ _) | (go_at_call 15; with_reducible exact Q2.out _ _)))
  refine wpQuiet_nil ?_
  intro _ hw'
  obtain ⟨⟨dq, osq⟩, hw''⟩ := hw'
  subst hw''
  have hbq := below_regrown w3 dq osq
  replace hb0 := hb0.trans (hbq.mono (show X ≤ w3.heap.size from Nat.le_of_lt lX))
  replace hL := hL.below hbq
  replace hx := (hbq.block _ lX).trans hx
  clear T0 T1 T2 T3 T4 Q1 Q2 hbq lX
  generalize Sort.grow (redrawn w3 dq) osq = W4 at hb0 hL hx
  go_wp2_with fail
  refine (HD.out _ hL).mono ?_
  rintro e w5 ⟨rfl, hb5⟩
  replace hL := hL.below hb5
  have lX := lt_of_block hx
  replace hx := (hb5.block _ lX).trans hx
  replace hb0 := hb0.trans (hb5.mono (show X ≤ W4.heap.size from Nat.le_of_lt lX))
  clear hb5 HD lX
  have lX := lt_of_block hx
  have OBh := hb0.alloc (Nat.le_of_lt lX) (.cells #[.int .i64 op2, .int .i64 d2, .int .i64 a2, .int .i64 b2, .int .i64 imm2] 23)
  have hL5 := hL.below ((Below.refl _ _).alloc (Nat.le_refl _) (.cells #[.int .i64 op2, .int .i64 d2, .int .i64 a2, .int .i64 b2, .int .i64 imm2] 23))
  have hs5 : X ≤ (w5.alloc (.cells #[.int .i64 op2, .int .i64 d2, .int .i64 a2, .int .i64 b2, .int .i64 imm2] 23)).heap.size := by simp; omega
  obtain ⟨x0, x1, x2, x3, x4⟩ := cells5r hx
  clear hx hL hb0
  have HB := Lib.hid OBh
  have HS5 := Lib.hid hs5
  clear OBh hs5
  rcases hE.out with rfl | ⟨rfl, rfl, rfl, rfl, rfl, rfl, rfl⟩
  · clear hE
    go_wp2_with fail
    refine (HK.out _ hL5).mono ?_
    rintro e w6 ⟨rfl, hb6⟩
    go_wp2
    go_ret
    exact ⟨rfl, by have h := HB.out.trans (hb6.mono HS5.out); rw [HX.out] at h; exact h⟩
  · clear hE
    go_wp2_with fail
    refine (HK.out _ hL5).mono ?_
    rintro e w6 ⟨rfl, hb6⟩
    go_wp2
    go_ret
    exact ⟨rfl, by have h := HB.out.trans (hb6.mono HS5.out); rw [HX.out] at h; exact h⟩
theorem encodes_walk (x : Rv) (w : World) (hL : Laid w) : Calls Tryd.prog 3 #[rvV x] w fun e w' => e = .returned (.bool true) ∧ Below w.heap.size w w' := by
  have HV := fun w1 h1 => validate_any x w1 h1
  have HW := fun w1 => refValidate_any x w1
  have HP := fun w1 h1 => Encode_any x w1 h1
  have HR := fun w1 => REncode_any x w1
  by_cases hv : Val x
  · have e1 : errF x = 0 := if_pos hv
    have e2 : wrdF x = encF x := if_pos hv
    have hN := (enc_facts hv).1
    have HD := fun w1 h1 => Decode_any (encF x) hN w1 h1
    have hd : decI (encF x) = x ∧ decB (encF x) = true := by
      unfold decI decB
      rw [dec_enc hv]
      exact ⟨rfl, rfl⟩
    rw [hd.1, hd.2] at HD
    rw [e1] at HV HW HP HR
    rw [e2] at HP HR
    obtain ⟨op, d, a, b, imm⟩ := x
    exact encodes_at op d a b imm 0 _ op d a b imm true w hL HP HR HV HW HD (.inr ⟨rfl, rfl, rfl, rfl, rfl, rfl, rfl⟩)
  · have e1 : errF x = 1 := if_neg hv
    have e2 : wrdF x = 0 := if_neg hv
    have HD := fun w1 h1 => Decode_any 0 (by decide) w1 h1
    rw [decI0, decB0] at HD
    rw [e1] at HV HW HP HR
    rw [e2] at HP HR
    obtain ⟨op, d, a, b, imm⟩ := x
    exact encodes_at op d a b imm 1 0 0 0 0 0 0 false w hL HP HR HV HW HD (.inl rfl)
set_option maxRecDepth 100000 in
set_option maxHeartbeats 8000000 in
/-- RvDecodes at numbers that the calls answer. -/
theorem decodes_at (op d a b imm : Int) (n N : Nat) (E : Int) (B : Bool) (w : World) (hL : Laid w)
    (HD : ∀ w1, Laid w1 → Calls Tryd.prog 16 #[.int .u32 (n : Nat)] w1 fun e w' => e = .returned (.tuple #[rvA op d a b imm, .bool B]) ∧ Below w1.heap.size w1 w')
    (HR : ∀ w1, Calls Tryd.prog 18 #[.int .u32 (n : Nat)] w1 fun e w' => e = .returned (.tuple #[rvA op d a b imm, .bool B]) ∧ Below w1.heap.size w1 w')
    (HP : ∀ w1, Laid w1 → Calls Tryd.prog 12 #[rvA op d a b imm] w1 fun e w' => e = .returned (.tuple #[.int .u32 (N : Nat), .int .i64 E]) ∧ Below w1.heap.size w1 w')
    (hE : B = false ∨ B = true ∧ E = 0 ∧ N = n) :
    Calls Tryd.prog 4 #[.int .u32 (n : Nat)] w fun e w' => e = .returned (.bool true) ∧ Below w.heap.size w w' := by
  have HK := Lib.hid (fun w1 h1 => known_any w1 h1)
  replace HP := Lib.hid HP
  replace HR := Lib.hid HR
  replace HD := Lib.hid HD
  replace hE := Lib.hid hE
  go_enter Tryd.func4, Tryd.ntmps4
  go_wp2_with fail
  refine (HD.out _ hL).mono ?_
  rintro e w2 ⟨rfl, hb0⟩
  replace hL := hL.below hb0
  go_upto_region 2 with fail
  have hy := heap_alloc_new w2 (.cells #[.int .i64 op, .int .i64 d, .int .i64 a, .int .i64 b, .int .i64 imm] 23)
  replace hL := hL.below ((Below.refl _ _).alloc (Nat.le_refl _) (.cells #[.int .i64 op, .int .i64 d, .int .i64 a, .int .i64 b, .int .i64 imm] 23))
  replace hb0 := hb0.alloc hb0.size (.cells #[.int .i64 op, .int .i64 d, .int .i64 a, .int .i64 b, .int .i64 imm] 23)
  generalize World.alloc w2 _ = W3 at hy hL hb0 ⊢
  generalize w2.heap.size = Y at hy ⊢
  go_wp2_with fail
  refine (HR.out _).mono ?_
  rintro e w4 ⟨rfl, hb4⟩
  replace hL := hL.below hb4
  replace hy := (hb4.block _ (lt_of_block hy)).trans hy
  replace hb0 := hb0.trans (hb4.mono hb0.size)
  clear hb4 HD HR
  have lY := lt_of_block hy
  go_upto_region 3 with fail
  have hz := heap_alloc_new w4 (.cells #[.int .i64 op, .int .i64 d, .int .i64 a, .int .i64 b, .int .i64 imm] 23)
  replace hy := (heap_alloc_old w4 (.cells #[.int .i64 op, .int .i64 d, .int .i64 a, .int .i64 b, .int .i64 imm] 23) lY).trans hy
  replace hL := hL.below ((Below.refl _ _).alloc (Nat.le_refl _) (.cells #[.int .i64 op, .int .i64 d, .int .i64 a, .int .i64 b, .int .i64 imm] 23))
  replace hb0 := hb0.alloc hb0.size (.cells #[.int .i64 op, .int .i64 d, .int .i64 a, .int .i64 b, .int .i64 imm] 23)
  clear lY
  generalize World.alloc w4 _ = W5 at hy hz hL hb0 ⊢
  generalize w4.heap.size = Z at hz ⊢
  obtain ⟨y0, y1, y2, y3, y4⟩ := cells5r hy
  obtain ⟨z0, z1, z2, z3, z4⟩ := cells5r hz
  clear hz
  go_wp2_with fail
  refine (HP.out _ hL).mono ?_
  rintro e w6 ⟨rfl, hb6⟩
  replace hL := hL.below hb6
  replace hb0 := hb0.trans (hb6.mono hb0.size)
  clear hb6 y0 y1 y2 y3 y4 z0 z1 z2 z3 z4 hy
  have HB := Lib.hid hb0
  clear hb0
  rcases hE.out with rfl | ⟨rfl, rfl, rfl⟩
  · clear hE
    go_wp2_with fail
    refine (HK.out _ hL).mono ?_
    rintro e w7 ⟨rfl, hb7⟩
    go_wp2
    go_ret
    exact ⟨rfl, HB.out.trans (hb7.mono HB.out.size)⟩
  · clear hE
    go_wp2_with fail
    refine (HK.out _ hL).mono ?_
    rintro e w7 ⟨rfl, hb7⟩
    go_wp2
    go_ret
    exact ⟨rfl, HB.out.trans (hb7.mono HB.out.size)⟩
theorem decodes_walk (n : Nat) (hn : n < 4294967296) (w : World) (hL : Laid w) : Calls Tryd.prog 4 #[.int .u32 (n : Nat)] w fun e w' => e = .returned (.bool true) ∧ Below w.heap.size w w' := by
  have HD := fun w1 h1 => Decode_any n hn w1 h1
  have HR := fun w1 => RDecode_any n hn w1
  have HP := fun w1 h1 => Encode_any (decI n) w1 h1
  have hE : decB n = false ∨ decB n = true ∧ errF (decI n) = 0 ∧ wrdF (decI n) = n := by
    unfold decB decI
    rcases e : decF n with _ | x
    · exact .inl rfl
    · obtain ⟨h1, h2⟩ := dec_some hn e
      exact .inr ⟨rfl, if_pos h1, (if_pos h1).trans h2⟩
  generalize decI n = x at *
  generalize decB n = B at *
  generalize errF x = E at *
  generalize wrdF x = N at *
  obtain ⟨op, d, a, b, imm⟩ := x
  exact decodes_at op d a b imm n N E B w hL HD HR HP hE
end Go.Proofs.YthkaclmnbahieaaDoor
