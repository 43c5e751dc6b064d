/-
  TopWords at good words.
-/
import Derived.Test.YtgnaohhopbhihaaDoorTopN
namespace Go.Proofs.YtgnaohhopbhihaaDoor
open Go.RowKit
set_option maxRecDepth 100000 in
set_option maxHeartbeats 20000000 in
theorem top_good (n : Nat) (a b : Nat) (y l : Int) (w : World) (hM : Masks w) (h1 : 1 ≤ n) (h2 : n ≤ 32) (ha : a < pw n) (hb : b < pw n) :
    Calls Tryd.prog 3 #[.int .i64 n, .agg #[.int .u32 a, .int .u32 b, .int .i64 y, .int .i64 l]] w fun e w' => e = .returned (.bool true) ∧ Below w.heap.size w w' := by
  obtain ⟨o, ho⟩ : ∃ o : Obj, o = .cells #[.int .u32 a, .int .u32 b, .int .i64 y, .int .i64 l] 24 := ⟨_, rfl⟩
  have g0 : Way16 (w.alloc o) (w.alloc o) := ⟨hM.alloc o, Below.refl _ _⟩
  have k0 : (w.alloc o).cell? ⟨w.heap.size, 0, none⟩ = some (.int .u32 a) := by rw [ho]; simp [go_sem]
  have k1 : (w.alloc o).cell? ⟨w.heap.size, 1, none⟩ = some (.int .u32 b) := by rw [ho]; simp [go_sem]
  have k2 : (w.alloc o).cell? ⟨w.heap.size, 2, none⟩ = some (.int .i64 y) := by rw [ho]; simp [go_sem]
  have k3 : (w.alloc o).cell? ⟨w.heap.size, 3, none⟩ = some (.int .i64 l) := by rw [ho]; simp [go_sem]
  have K0 := Lib.hid k0
  have K1 := Lib.hid k1
  have K2 := Lib.hid k2
  have K3 := Lib.hid k3
  clear k0 k1 k2 k3
  have hp := pw_le h2
  go_enter Tryd.func3, Tryd.ntmps3
  go_wp2_with fail
  rw [← ho]
  refine (does_99 _ g0.1).mono ?_
  rintro e w1 ⟨rfl, hb1⟩
  have g1 := g0.next hb1
  have u0 := box_cell g1 K0.out
  have u1 := box_cell g1 K1.out
  go_wp2_with fail
  refine (isWord_yes n a _ h1 h2 ha).mono ?_
  rintro e w2 ⟨rfl, rfl⟩
  go_wp2_with fail
  refine (isWord_yes n b _ h1 h2 hb).mono ?_
  rintro e w2 ⟨rfl, rfl⟩
  go_wp2_with fail
  go_quiet (fail)
  go_wp2_with fail
  generalize hW3 : (World.alloc (World.drewN w1 _) _) = W3
  have c0 : W3.cell? ⟨w1.heap.size, 0, none⟩ = some (.int .i64 1) := by rw [← hW3]; exact arr_cell _ _ 0 1 rfl
  have c1 : W3.cell? ⟨w1.heap.size, 1, none⟩ = some (.int .i64 2) := by rw [← hW3]; exact arr_cell _ _ 1 2 rfl
  have c2 : W3.cell? ⟨w1.heap.size, 2, none⟩ = some (.int .i64 3) := by rw [← hW3]; exact arr_cell _ _ 2 3 rfl
  have g3 : Way16 (w.alloc o) W3 := by
    rw [← hW3]
    exact ⟨(g1.1.drewN _).alloc _, (below_drewN g1.2 _).alloc (by simpa using g1.2.size) _⟩
  have sz : w1.heap.size < W3.heap.size := by rw [← hW3]; simp
  have C0 := Lib.hid c0
  have C1 := Lib.hid c1
  have C2 := Lib.hid c2
  clear hW3 c0 c1 c2 u0 u1
  go_loopw [13] (fun i wr => ∃ k : Nat, k ≤ 3 ∧ i = .int .i64 (k : Int) ∧ Way16 W3 wr) (fun i _ => 3 - (intOf i).toNat)
  case atStart => exact ⟨0, by omega, rfl, g3.1, Below.refl _ _⟩
  case round =>
    obtain ⟨k, hk, rfl, gr⟩ := hrel
    obtain rfl | rfl | rfl | rfl : k = 0 ∨ k = 1 ∨ k = 2 ∨ k = 3 := by omega
    · as_aux_lemma =>
        obtain ⟨S, hS⟩ : ∃ S, S = doF 1 n a b := ⟨_, rfl⟩
        obtain ⟨A, hA⟩ : ∃ A, A = sgn n a := ⟨_, rfl⟩
        obtain ⟨B, hB⟩ : ∃ B, B = sgn n b := ⟨_, rfl⟩
        have hSl : S < pw n := by rw [hS]; exact wr_lt ((a : Int) + (b : Int))
        have bA := sgn_bounds h1 h2 ha
        have bB := sgn_bounds h1 h2 hb
        rw [← hA] at bA
        rw [← hB] at bB
        cases hU : brF 1 1 n a b
        · cases hV : brF 1 2 n a b
          · have RU := Lib.hid hU
            have RV := Lib.hid hV
            have R3 := Lib.hid (show brF 1 3 n a b = false by simp [br_3, hU, hV])
            have RZ := Lib.hid (show (S : Int) = (a : Int) + (b : Int) by rw [hS]; exact top_u1 n a b hU)
            have hz1 : 0 ≤ (a : Int) + (b : Int) := by rw [← RZ.out]; omega
            have hz2 : (a : Int) + (b : Int) ≤ 4294967295 := by rw [← RZ.out]; omega
            have RC := Lib.hid (show sgn n S = A + B by rw [hA, hB, hS]; exact top_s1 n a b h1 hV)
            have RS := Lib.hid (show (doF 1 n a b : Int) = (a : Int) + (b : Int) by rw [← hS]; exact RZ.out)
            have RA := Lib.hid hA.symm
            have RB := Lib.hid hB.symm
            clear hS hU hV hA hB
            have rx := (gr.2.cell (p := ⟨w1.heap.size, 0, none⟩) sz).trans C0.out
            go_wp2_with fail
            refine (does_at n a b _ gr.1 h1 h2 ha hb 1 ((a : Int) + (b : Int)) (by omega) (by omega) rfl RS.out).mono ?_
            rintro e w4 ⟨rfl, hb4⟩
            have gr := gr.next hb4
            clear rx
            have rx := (gr.2.cell (p := ⟨w1.heap.size, 0, none⟩) sz).trans C0.out
            go_wp2_with fail
            refine (signed_at n a a A _ gr.1 h1 h2 ha rfl RA.out).mono ?_
            rintro e w5 ⟨rfl, rfl⟩
            go_wp2_with fail
            refine (signed_at n b b B _ gr.1 h1 h2 hb rfl RB.out).mono ?_
            rintro e w6 ⟨rfl, rfl⟩
            go_wp2_with fail
            refine (breaks_at n a b _ gr.1 h1 h2 ha hb 1 1 false (by omega) (by omega) (by omega) rfl RU.out).mono ?_
            rintro e wxa ⟨rfl, hbxa⟩
            have gr := gr.next hbxa
            clear rx
            have rx := (gr.2.cell (p := ⟨w1.heap.size, 0, none⟩) sz).trans C0.out
            go_wp2_with fail
            refine (breaks_at n a b _ gr.1 h1 h2 ha hb 1 2 false (by omega) (by omega) (by omega) rfl RV.out).mono ?_
            rintro e wxb ⟨rfl, hbxb⟩
            have gr := gr.next hbxb
            clear rx
            have rx := (gr.2.cell (p := ⟨w1.heap.size, 0, none⟩) sz).trans C0.out
            go_wp2_with fail
            refine (signed_at n S ((a : Int) + (b : Int)) (A + B) _ gr.1 h1 h2 hSl RZ.out RC.out).mono ?_
            rintro e wy ⟨rfl, rfl⟩
            go_wp2_with fail
            refine (breaks_at n a b _ gr.1 h1 h2 ha hb 1 3 false (by omega) (by omega) (by omega) rfl R3.out).mono ?_
            rintro e wxc ⟨rfl, hbxc⟩
            have gr := gr.next hbxc
            clear rx
            have rx := (gr.2.cell (p := ⟨w1.heap.size, 0, none⟩) sz).trans C0.out
            go_wp2_with fail
            refine (breaks_at n a b _ gr.1 h1 h2 ha hb 1 1 false (by omega) (by omega) (by omega) rfl RU.out).mono ?_
            rintro e wxd ⟨rfl, hbxd⟩
            have gr := gr.next hbxd
            clear rx
            have rx := (gr.2.cell (p := ⟨w1.heap.size, 0, none⟩) sz).trans C0.out
            go_wp2_with fail
            refine (breaks_at n a b _ gr.1 h1 h2 ha hb 1 2 false (by omega) (by omega) (by omega) rfl RV.out).mono ?_
            rintro e wxe ⟨rfl, hbxe⟩
            have gr := gr.next hbxe
            clear rx
            have rx := (gr.2.cell (p := ⟨w1.heap.size, 0, none⟩) sz).trans C0.out
            go_wp2
            go_round
            case rel => exact ⟨1, by omega, by go_num, gr⟩
            case measure => simp [intOf]
          · have RU := Lib.hid hU
            have RV := Lib.hid hV
            have R3 := Lib.hid (show brF 1 3 n a b = true by simp [br_3, hU, hV])
            have RZ := Lib.hid (show (S : Int) = (a : Int) + (b : Int) by rw [hS]; exact top_u1 n a b hU)
            have hz1 : 0 ≤ (a : Int) + (b : Int) := by rw [← RZ.out]; omega
            have hz2 : (a : Int) + (b : Int) ≤ 4294967295 := by rw [← RZ.out]; omega
            have RS := Lib.hid (show (doF 1 n a b : Int) = (a : Int) + (b : Int) by rw [← hS]; exact RZ.out)
            have RA := Lib.hid hA.symm
            have RB := Lib.hid hB.symm
            clear hS hU hV hA hB
            have rx := (gr.2.cell (p := ⟨w1.heap.size, 0, none⟩) sz).trans C0.out
            go_wp2_with fail
            refine (does_at n a b _ gr.1 h1 h2 ha hb 1 ((a : Int) + (b : Int)) (by omega) (by omega) rfl RS.out).mono ?_
            rintro e w4 ⟨rfl, hb4⟩
            have gr := gr.next hb4
            clear rx
            have rx := (gr.2.cell (p := ⟨w1.heap.size, 0, none⟩) sz).trans C0.out
            go_wp2_with fail
            refine (signed_at n a a A _ gr.1 h1 h2 ha rfl RA.out).mono ?_
            rintro e w5 ⟨rfl, rfl⟩
            go_wp2_with fail
            refine (signed_at n b b B _ gr.1 h1 h2 hb rfl RB.out).mono ?_
            rintro e w6 ⟨rfl, rfl⟩
            go_wp2_with fail
            refine (breaks_at n a b _ gr.1 h1 h2 ha hb 1 1 false (by omega) (by omega) (by omega) rfl RU.out).mono ?_
            rintro e wxa ⟨rfl, hbxa⟩
            have gr := gr.next hbxa
            clear rx
            have rx := (gr.2.cell (p := ⟨w1.heap.size, 0, none⟩) sz).trans C0.out
            go_wp2_with fail
            refine (breaks_at n a b _ gr.1 h1 h2 ha hb 1 2 true (by omega) (by omega) (by omega) rfl RV.out).mono ?_
            rintro e wxb ⟨rfl, hbxb⟩
            have gr := gr.next hbxb
            clear rx
            have rx := (gr.2.cell (p := ⟨w1.heap.size, 0, none⟩) sz).trans C0.out
            go_wp2_with fail
            refine (breaks_at n a b _ gr.1 h1 h2 ha hb 1 3 true (by omega) (by omega) (by omega) rfl R3.out).mono ?_
            rintro e wxc ⟨rfl, hbxc⟩
            have gr := gr.next hbxc
            clear rx
            have rx := (gr.2.cell (p := ⟨w1.heap.size, 0, none⟩) sz).trans C0.out
            go_wp2_with fail
            refine (breaks_at n a b _ gr.1 h1 h2 ha hb 1 1 false (by omega) (by omega) (by omega) rfl RU.out).mono ?_
            rintro e wxd ⟨rfl, hbxd⟩
            have gr := gr.next hbxd
            clear rx
            have rx := (gr.2.cell (p := ⟨w1.heap.size, 0, none⟩) sz).trans C0.out
            go_wp2_with fail
            refine (breaks_at n a b _ gr.1 h1 h2 ha hb 1 2 true (by omega) (by omega) (by omega) rfl RV.out).mono ?_
            rintro e wxe ⟨rfl, hbxe⟩
            have gr := gr.next hbxe
            clear rx
            have rx := (gr.2.cell (p := ⟨w1.heap.size, 0, none⟩) sz).trans C0.out
            go_wp2
            go_round
            case rel => exact ⟨1, by omega, by go_num, gr⟩
            case measure => simp [intOf]
        · cases hV : brF 1 2 n a b
          · have RU := Lib.hid hU
            have RV := Lib.hid hV
            have R3 := Lib.hid (show brF 1 3 n a b = true by simp [br_3, hU, hV])
            have RC := Lib.hid (show sgn n S = A + B by rw [hA, hB, hS]; exact top_s1 n a b h1 hV)
            have RS := Lib.hid (show (doF 1 n a b : Int) = (S : Int) by rw [← hS])
            have RA := Lib.hid hA.symm
            have RB := Lib.hid hB.symm
            clear hS hU hV hA hB
            have rx := (gr.2.cell (p := ⟨w1.heap.size, 0, none⟩) sz).trans C0.out
            go_wp2_with fail
            refine (does_at n a b _ gr.1 h1 h2 ha hb 1 ((S : Int)) (by omega) (by omega) rfl RS.out).mono ?_
            rintro e w4 ⟨rfl, hb4⟩
            have gr := gr.next hb4
            clear rx
            have rx := (gr.2.cell (p := ⟨w1.heap.size, 0, none⟩) sz).trans C0.out
            go_wp2_with fail
            refine (signed_at n a a A _ gr.1 h1 h2 ha rfl RA.out).mono ?_
            rintro e w5 ⟨rfl, rfl⟩
            go_wp2_with fail
            refine (signed_at n b b B _ gr.1 h1 h2 hb rfl RB.out).mono ?_
            rintro e w6 ⟨rfl, rfl⟩
            go_wp2_with fail
            refine (breaks_at n a b _ gr.1 h1 h2 ha hb 1 1 true (by omega) (by omega) (by omega) rfl RU.out).mono ?_
            rintro e wxa ⟨rfl, hbxa⟩
            have gr := gr.next hbxa
            clear rx
            have rx := (gr.2.cell (p := ⟨w1.heap.size, 0, none⟩) sz).trans C0.out
            go_wp2_with fail
            refine (breaks_at n a b _ gr.1 h1 h2 ha hb 1 2 false (by omega) (by omega) (by omega) rfl RV.out).mono ?_
            rintro e wxb ⟨rfl, hbxb⟩
            have gr := gr.next hbxb
            clear rx
            have rx := (gr.2.cell (p := ⟨w1.heap.size, 0, none⟩) sz).trans C0.out
            go_wp2_with fail
            refine (signed_at n S ((S : Int)) (A + B) _ gr.1 h1 h2 hSl rfl RC.out).mono ?_
            rintro e wy ⟨rfl, rfl⟩
            go_wp2_with fail
            refine (breaks_at n a b _ gr.1 h1 h2 ha hb 1 3 true (by omega) (by omega) (by omega) rfl R3.out).mono ?_
            rintro e wxc ⟨rfl, hbxc⟩
            have gr := gr.next hbxc
            clear rx
            have rx := (gr.2.cell (p := ⟨w1.heap.size, 0, none⟩) sz).trans C0.out
            go_wp2_with fail
            refine (breaks_at n a b _ gr.1 h1 h2 ha hb 1 1 true (by omega) (by omega) (by omega) rfl RU.out).mono ?_
            rintro e wxd ⟨rfl, hbxd⟩
            have gr := gr.next hbxd
            clear rx
            have rx := (gr.2.cell (p := ⟨w1.heap.size, 0, none⟩) sz).trans C0.out
            go_wp2
            go_round
            case rel => exact ⟨1, by omega, by go_num, gr⟩
            case measure => simp [intOf]
          · have RU := Lib.hid hU
            have RV := Lib.hid hV
            have R3 := Lib.hid (show brF 1 3 n a b = true by simp [br_3, hU, hV])
            have RS := Lib.hid (show (doF 1 n a b : Int) = (S : Int) by rw [← hS])
            have RA := Lib.hid hA.symm
            have RB := Lib.hid hB.symm
            clear hS hU hV hA hB
            have rx := (gr.2.cell (p := ⟨w1.heap.size, 0, none⟩) sz).trans C0.out
            go_wp2_with fail
            refine (does_at n a b _ gr.1 h1 h2 ha hb 1 ((S : Int)) (by omega) (by omega) rfl RS.out).mono ?_
            rintro e w4 ⟨rfl, hb4⟩
            have gr := gr.next hb4
            clear rx
            have rx := (gr.2.cell (p := ⟨w1.heap.size, 0, none⟩) sz).trans C0.out
            go_wp2_with fail
            refine (signed_at n a a A _ gr.1 h1 h2 ha rfl RA.out).mono ?_
            rintro e w5 ⟨rfl, rfl⟩
            go_wp2_with fail
            refine (signed_at n b b B _ gr.1 h1 h2 hb rfl RB.out).mono ?_
            rintro e w6 ⟨rfl, rfl⟩
            go_wp2_with fail
            refine (breaks_at n a b _ gr.1 h1 h2 ha hb 1 1 true (by omega) (by omega) (by omega) rfl RU.out).mono ?_
            rintro e wxa ⟨rfl, hbxa⟩
            have gr := gr.next hbxa
            clear rx
            have rx := (gr.2.cell (p := ⟨w1.heap.size, 0, none⟩) sz).trans C0.out
            go_wp2_with fail
            refine (breaks_at n a b _ gr.1 h1 h2 ha hb 1 2 true (by omega) (by omega) (by omega) rfl RV.out).mono ?_
            rintro e wxb ⟨rfl, hbxb⟩
            have gr := gr.next hbxb
            clear rx
            have rx := (gr.2.cell (p := ⟨w1.heap.size, 0, none⟩) sz).trans C0.out
            go_wp2_with fail
            refine (breaks_at n a b _ gr.1 h1 h2 ha hb 1 3 true (by omega) (by omega) (by omega) rfl R3.out).mono ?_
            rintro e wxc ⟨rfl, hbxc⟩
            have gr := gr.next hbxc
            clear rx
            have rx := (gr.2.cell (p := ⟨w1.heap.size, 0, none⟩) sz).trans C0.out
            go_wp2_with fail
            refine (breaks_at n a b _ gr.1 h1 h2 ha hb 1 1 true (by omega) (by omega) (by omega) rfl RU.out).mono ?_
            rintro e wxd ⟨rfl, hbxd⟩
            have gr := gr.next hbxd
            clear rx
            have rx := (gr.2.cell (p := ⟨w1.heap.size, 0, none⟩) sz).trans C0.out
            go_wp2
            go_round
            case rel => exact ⟨1, by omega, by go_num, gr⟩
            case measure => simp [intOf]
    · as_aux_lemma =>
        obtain ⟨S, hS⟩ : ∃ S, S = doF 2 n a b := ⟨_, rfl⟩
        obtain ⟨A, hA⟩ : ∃ A, A = sgn n a := ⟨_, rfl⟩
        obtain ⟨B, hB⟩ : ∃ B, B = sgn n b := ⟨_, rfl⟩
        have hSl : S < pw n := by rw [hS]; exact wr_lt ((a : Int) - (b : Int))
        have bA := sgn_bounds h1 h2 ha
        have bB := sgn_bounds h1 h2 hb
        rw [← hA] at bA
        rw [← hB] at bB
        cases hU : brF 2 1 n a b
        · cases hV : brF 2 2 n a b
          · have RU := Lib.hid hU
            have RV := Lib.hid hV
            have R3 := Lib.hid (show brF 2 3 n a b = false by simp [br_3, hU, hV])
            have RZ := Lib.hid (show (S : Int) = (a : Int) - (b : Int) by rw [hS]; exact top_u2 n a b ha hU)
            have hz1 : 0 ≤ (a : Int) - (b : Int) := by rw [← RZ.out]; omega
            have hz2 : (a : Int) - (b : Int) ≤ 4294967295 := by rw [← RZ.out]; omega
            have RC := Lib.hid (show sgn n S = A - B by rw [hA, hB, hS]; exact top_s2 n a b h1 hV)
            have RS := Lib.hid (show (doF 2 n a b : Int) = (a : Int) - (b : Int) by rw [← hS]; exact RZ.out)
            have RA := Lib.hid hA.symm
            have RB := Lib.hid hB.symm
            clear hS hU hV hA hB
            have rx := (gr.2.cell (p := ⟨w1.heap.size, 1, none⟩) sz).trans C1.out
            go_wp2_with fail
            refine (does_at n a b _ gr.1 h1 h2 ha hb 2 ((a : Int) - (b : Int)) (by omega) (by omega) rfl RS.out).mono ?_
            rintro e w4 ⟨rfl, hb4⟩
            have gr := gr.next hb4
            clear rx
            have rx := (gr.2.cell (p := ⟨w1.heap.size, 1, none⟩) sz).trans C1.out
            go_wp2_with fail
            refine (signed_at n a a A _ gr.1 h1 h2 ha rfl RA.out).mono ?_
            rintro e w5 ⟨rfl, rfl⟩
            go_wp2_with fail
            refine (signed_at n b b B _ gr.1 h1 h2 hb rfl RB.out).mono ?_
            rintro e w6 ⟨rfl, rfl⟩
            go_wp2_with fail
            refine (signed_at n a a A _ gr.1 h1 h2 ha rfl RA.out).mono ?_
            rintro e w7 ⟨rfl, rfl⟩
            go_wp2_with fail
            refine (signed_at n b b B _ gr.1 h1 h2 hb rfl RB.out).mono ?_
            rintro e w8 ⟨rfl, rfl⟩
            go_wp2_with fail
            refine (breaks_at n a b _ gr.1 h1 h2 ha hb 2 1 false (by omega) (by omega) (by omega) rfl RU.out).mono ?_
            rintro e wxa ⟨rfl, hbxa⟩
            have gr := gr.next hbxa
            clear rx
            have rx := (gr.2.cell (p := ⟨w1.heap.size, 1, none⟩) sz).trans C1.out
            go_wp2_with fail
            refine (breaks_at n a b _ gr.1 h1 h2 ha hb 2 2 false (by omega) (by omega) (by omega) rfl RV.out).mono ?_
            rintro e wxb ⟨rfl, hbxb⟩
            have gr := gr.next hbxb
            clear rx
            have rx := (gr.2.cell (p := ⟨w1.heap.size, 1, none⟩) sz).trans C1.out
            go_wp2_with fail
            refine (signed_at n S ((a : Int) - (b : Int)) (A - B) _ gr.1 h1 h2 hSl RZ.out RC.out).mono ?_
            rintro e wy ⟨rfl, rfl⟩
            go_wp2_with fail
            refine (breaks_at n a b _ gr.1 h1 h2 ha hb 2 3 false (by omega) (by omega) (by omega) rfl R3.out).mono ?_
            rintro e wxc ⟨rfl, hbxc⟩
            have gr := gr.next hbxc
            clear rx
            have rx := (gr.2.cell (p := ⟨w1.heap.size, 1, none⟩) sz).trans C1.out
            go_wp2_with fail
            refine (breaks_at n a b _ gr.1 h1 h2 ha hb 2 1 false (by omega) (by omega) (by omega) rfl RU.out).mono ?_
            rintro e wxd ⟨rfl, hbxd⟩
            have gr := gr.next hbxd
            clear rx
            have rx := (gr.2.cell (p := ⟨w1.heap.size, 1, none⟩) sz).trans C1.out
            go_wp2_with fail
            refine (breaks_at n a b _ gr.1 h1 h2 ha hb 2 2 false (by omega) (by omega) (by omega) rfl RV.out).mono ?_
            rintro e wxe ⟨rfl, hbxe⟩
            have gr := gr.next hbxe
            clear rx
            have rx := (gr.2.cell (p := ⟨w1.heap.size, 1, none⟩) sz).trans C1.out
            go_wp2
            go_round
            case rel => exact ⟨2, by omega, by go_num, gr⟩
            case measure => simp [intOf]
          · have RU := Lib.hid hU
            have RV := Lib.hid hV
            have R3 := Lib.hid (show brF 2 3 n a b = true by simp [br_3, hU, hV])
            have RZ := Lib.hid (show (S : Int) = (a : Int) - (b : Int) by rw [hS]; exact top_u2 n a b ha hU)
            have hz1 : 0 ≤ (a : Int) - (b : Int) := by rw [← RZ.out]; omega
            have hz2 : (a : Int) - (b : Int) ≤ 4294967295 := by rw [← RZ.out]; omega
            have RS := Lib.hid (show (doF 2 n a b : Int) = (a : Int) - (b : Int) by rw [← hS]; exact RZ.out)
            have RA := Lib.hid hA.symm
            have RB := Lib.hid hB.symm
            clear hS hU hV hA hB
            have rx := (gr.2.cell (p := ⟨w1.heap.size, 1, none⟩) sz).trans C1.out
            go_wp2_with fail
            refine (does_at n a b _ gr.1 h1 h2 ha hb 2 ((a : Int) - (b : Int)) (by omega) (by omega) rfl RS.out).mono ?_
            rintro e w4 ⟨rfl, hb4⟩
            have gr := gr.next hb4
            clear rx
            have rx := (gr.2.cell (p := ⟨w1.heap.size, 1, none⟩) sz).trans C1.out
            go_wp2_with fail
            refine (signed_at n a a A _ gr.1 h1 h2 ha rfl RA.out).mono ?_
            rintro e w5 ⟨rfl, rfl⟩
            go_wp2_with fail
            refine (signed_at n b b B _ gr.1 h1 h2 hb rfl RB.out).mono ?_
            rintro e w6 ⟨rfl, rfl⟩
            go_wp2_with fail
            refine (signed_at n a a A _ gr.1 h1 h2 ha rfl RA.out).mono ?_
            rintro e w7 ⟨rfl, rfl⟩
            go_wp2_with fail
            refine (signed_at n b b B _ gr.1 h1 h2 hb rfl RB.out).mono ?_
            rintro e w8 ⟨rfl, rfl⟩
            go_wp2_with fail
            refine (breaks_at n a b _ gr.1 h1 h2 ha hb 2 1 false (by omega) (by omega) (by omega) rfl RU.out).mono ?_
            rintro e wxa ⟨rfl, hbxa⟩
            have gr := gr.next hbxa
            clear rx
            have rx := (gr.2.cell (p := ⟨w1.heap.size, 1, none⟩) sz).trans C1.out
            go_wp2_with fail
            refine (breaks_at n a b _ gr.1 h1 h2 ha hb 2 2 true (by omega) (by omega) (by omega) rfl RV.out).mono ?_
            rintro e wxb ⟨rfl, hbxb⟩
            have gr := gr.next hbxb
            clear rx
            have rx := (gr.2.cell (p := ⟨w1.heap.size, 1, none⟩) sz).trans C1.out
            go_wp2_with fail
            refine (breaks_at n a b _ gr.1 h1 h2 ha hb 2 3 true (by omega) (by omega) (by omega) rfl R3.out).mono ?_
            rintro e wxc ⟨rfl, hbxc⟩
            have gr := gr.next hbxc
            clear rx
            have rx := (gr.2.cell (p := ⟨w1.heap.size, 1, none⟩) sz).trans C1.out
            go_wp2_with fail
            refine (breaks_at n a b _ gr.1 h1 h2 ha hb 2 1 false (by omega) (by omega) (by omega) rfl RU.out).mono ?_
            rintro e wxd ⟨rfl, hbxd⟩
            have gr := gr.next hbxd
            clear rx
            have rx := (gr.2.cell (p := ⟨w1.heap.size, 1, none⟩) sz).trans C1.out
            go_wp2_with fail
            refine (breaks_at n a b _ gr.1 h1 h2 ha hb 2 2 true (by omega) (by omega) (by omega) rfl RV.out).mono ?_
            rintro e wxe ⟨rfl, hbxe⟩
            have gr := gr.next hbxe
            clear rx
            have rx := (gr.2.cell (p := ⟨w1.heap.size, 1, none⟩) sz).trans C1.out
            go_wp2
            go_round
            case rel => exact ⟨2, by omega, by go_num, gr⟩
            case measure => simp [intOf]
        · cases hV : brF 2 2 n a b
          · have RU := Lib.hid hU
            have RV := Lib.hid hV
            have R3 := Lib.hid (show brF 2 3 n a b = true by simp [br_3, hU, hV])
            have RC := Lib.hid (show sgn n S = A - B by rw [hA, hB, hS]; exact top_s2 n a b h1 hV)
            have RS := Lib.hid (show (doF 2 n a b : Int) = (S : Int) by rw [← hS])
            have RA := Lib.hid hA.symm
            have RB := Lib.hid hB.symm
            clear hS hU hV hA hB
            have rx := (gr.2.cell (p := ⟨w1.heap.size, 1, none⟩) sz).trans C1.out
            go_wp2_with fail
            refine (does_at n a b _ gr.1 h1 h2 ha hb 2 ((S : Int)) (by omega) (by omega) rfl RS.out).mono ?_
            rintro e w4 ⟨rfl, hb4⟩
            have gr := gr.next hb4
            clear rx
            have rx := (gr.2.cell (p := ⟨w1.heap.size, 1, none⟩) sz).trans C1.out
            go_wp2_with fail
            refine (signed_at n a a A _ gr.1 h1 h2 ha rfl RA.out).mono ?_
            rintro e w5 ⟨rfl, rfl⟩
            go_wp2_with fail
            refine (signed_at n b b B _ gr.1 h1 h2 hb rfl RB.out).mono ?_
            rintro e w6 ⟨rfl, rfl⟩
            go_wp2_with fail
            refine (signed_at n a a A _ gr.1 h1 h2 ha rfl RA.out).mono ?_
            rintro e w7 ⟨rfl, rfl⟩
            go_wp2_with fail
            refine (signed_at n b b B _ gr.1 h1 h2 hb rfl RB.out).mono ?_
            rintro e w8 ⟨rfl, rfl⟩
            go_wp2_with fail
            refine (breaks_at n a b _ gr.1 h1 h2 ha hb 2 1 true (by omega) (by omega) (by omega) rfl RU.out).mono ?_
            rintro e wxa ⟨rfl, hbxa⟩
            have gr := gr.next hbxa
            clear rx
            have rx := (gr.2.cell (p := ⟨w1.heap.size, 1, none⟩) sz).trans C1.out
            go_wp2_with fail
            refine (breaks_at n a b _ gr.1 h1 h2 ha hb 2 2 false (by omega) (by omega) (by omega) rfl RV.out).mono ?_
            rintro e wxb ⟨rfl, hbxb⟩
            have gr := gr.next hbxb
            clear rx
            have rx := (gr.2.cell (p := ⟨w1.heap.size, 1, none⟩) sz).trans C1.out
            go_wp2_with fail
            refine (signed_at n S ((S : Int)) (A - B) _ gr.1 h1 h2 hSl rfl RC.out).mono ?_
            rintro e wy ⟨rfl, rfl⟩
            go_wp2_with fail
            refine (breaks_at n a b _ gr.1 h1 h2 ha hb 2 3 true (by omega) (by omega) (by omega) rfl R3.out).mono ?_
            rintro e wxc ⟨rfl, hbxc⟩
            have gr := gr.next hbxc
            clear rx
            have rx := (gr.2.cell (p := ⟨w1.heap.size, 1, none⟩) sz).trans C1.out
            go_wp2_with fail
            refine (breaks_at n a b _ gr.1 h1 h2 ha hb 2 1 true (by omega) (by omega) (by omega) rfl RU.out).mono ?_
            rintro e wxd ⟨rfl, hbxd⟩
            have gr := gr.next hbxd
            clear rx
            have rx := (gr.2.cell (p := ⟨w1.heap.size, 1, none⟩) sz).trans C1.out
            go_wp2
            go_round
            case rel => exact ⟨2, by omega, by go_num, gr⟩
            case measure => simp [intOf]
          · have RU := Lib.hid hU
            have RV := Lib.hid hV
            have R3 := Lib.hid (show brF 2 3 n a b = true by simp [br_3, hU, hV])
            have RS := Lib.hid (show (doF 2 n a b : Int) = (S : Int) by rw [← hS])
            have RA := Lib.hid hA.symm
            have RB := Lib.hid hB.symm
            clear hS hU hV hA hB
            have rx := (gr.2.cell (p := ⟨w1.heap.size, 1, none⟩) sz).trans C1.out
            go_wp2_with fail
            refine (does_at n a b _ gr.1 h1 h2 ha hb 2 ((S : Int)) (by omega) (by omega) rfl RS.out).mono ?_
            rintro e w4 ⟨rfl, hb4⟩
            have gr := gr.next hb4
            clear rx
            have rx := (gr.2.cell (p := ⟨w1.heap.size, 1, none⟩) sz).trans C1.out
            go_wp2_with fail
            refine (signed_at n a a A _ gr.1 h1 h2 ha rfl RA.out).mono ?_
            rintro e w5 ⟨rfl, rfl⟩
            go_wp2_with fail
            refine (signed_at n b b B _ gr.1 h1 h2 hb rfl RB.out).mono ?_
            rintro e w6 ⟨rfl, rfl⟩
            go_wp2_with fail
            refine (signed_at n a a A _ gr.1 h1 h2 ha rfl RA.out).mono ?_
            rintro e w7 ⟨rfl, rfl⟩
            go_wp2_with fail
            refine (signed_at n b b B _ gr.1 h1 h2 hb rfl RB.out).mono ?_
            rintro e w8 ⟨rfl, rfl⟩
            go_wp2_with fail
            refine (breaks_at n a b _ gr.1 h1 h2 ha hb 2 1 true (by omega) (by omega) (by omega) rfl RU.out).mono ?_
            rintro e wxa ⟨rfl, hbxa⟩
            have gr := gr.next hbxa
            clear rx
            have rx := (gr.2.cell (p := ⟨w1.heap.size, 1, none⟩) sz).trans C1.out
            go_wp2_with fail
            refine (breaks_at n a b _ gr.1 h1 h2 ha hb 2 2 true (by omega) (by omega) (by omega) rfl RV.out).mono ?_
            rintro e wxb ⟨rfl, hbxb⟩
            have gr := gr.next hbxb
            clear rx
            have rx := (gr.2.cell (p := ⟨w1.heap.size, 1, none⟩) sz).trans C1.out
            go_wp2_with fail
            refine (breaks_at n a b _ gr.1 h1 h2 ha hb 2 3 true (by omega) (by omega) (by omega) rfl R3.out).mono ?_
            rintro e wxc ⟨rfl, hbxc⟩
            have gr := gr.next hbxc
            clear rx
            have rx := (gr.2.cell (p := ⟨w1.heap.size, 1, none⟩) sz).trans C1.out
            go_wp2_with fail
            refine (breaks_at n a b _ gr.1 h1 h2 ha hb 2 1 true (by omega) (by omega) (by omega) rfl RU.out).mono ?_
            rintro e wxd ⟨rfl, hbxd⟩
            have gr := gr.next hbxd
            clear rx
            have rx := (gr.2.cell (p := ⟨w1.heap.size, 1, none⟩) sz).trans C1.out
            go_wp2
            go_round
            case rel => exact ⟨2, by omega, by go_num, gr⟩
            case measure => simp [intOf]
    · as_aux_lemma =>
        obtain ⟨S, hS⟩ : ∃ S, S = doF 3 n a b := ⟨_, rfl⟩
        obtain ⟨A, hA⟩ : ∃ A, A = sgn n a := ⟨_, rfl⟩
        obtain ⟨B, hB⟩ : ∃ B, B = sgn n b := ⟨_, rfl⟩
        have hSl : S < pw n := by rw [hS]; exact wr_lt ((a : Int) * (b : Int))
        have bA := sgn_bounds h1 h2 ha
        have bB := sgn_bounds h1 h2 hb
        rw [← hA] at bA
        rw [← hB] at bB
        obtain ⟨m1, m2⟩ := mul_bounds (x := A) (y := B) (by omega) (by omega)
        cases hU : brF 3 1 n a b
        · by_cases ha0 : a = 0
          · have H0 := Lib.hid ha0
            have da : ((a : Int) != 0) = false := by simp [ha0]
            clear ha0
            cases hV : brF 3 2 n a b
            · have RU := Lib.hid hU
              have RV := Lib.hid hV
              have R3 := Lib.hid (show brF 3 3 n a b = false by simp [br_3, hU, hV])
              have RZ := Lib.hid (show (S : Int) = 0 by have h9 := top_u3 n a b hU; rw [← hS, H0.out] at h9; simpa using h9)
              have RC := Lib.hid (show sgn n S = A * B by rw [hA, hB, hS]; exact top_s3 n a b h1 hV)
              have RS := Lib.hid (show (doF 3 n a b : Int) = 0 by rw [← hS]; exact RZ.out)
              have RA := Lib.hid hA.symm
              have RB := Lib.hid hB.symm
              clear hS hU hV hA hB
              have rx := (gr.2.cell (p := ⟨w1.heap.size, 2, none⟩) sz).trans C2.out
              go_wp2_with fail
              refine (does_at n a b _ gr.1 h1 h2 ha hb 3 (0) (by omega) (by omega) rfl RS.out).mono ?_
              rintro e w4 ⟨rfl, hb4⟩
              have gr := gr.next hb4
              clear rx
              have rx := (gr.2.cell (p := ⟨w1.heap.size, 2, none⟩) sz).trans C2.out
              go_wp2_with fail
              refine (signed_at n a a A _ gr.1 h1 h2 ha rfl RA.out).mono ?_
              rintro e w5 ⟨rfl, rfl⟩
              go_wp2_with fail
              refine (signed_at n b b B _ gr.1 h1 h2 hb rfl RB.out).mono ?_
              rintro e w6 ⟨rfl, rfl⟩
              go_wp2_with fail
              refine (signed_at n a a A _ gr.1 h1 h2 ha rfl RA.out).mono ?_
              rintro e w7 ⟨rfl, rfl⟩
              go_wp2_with fail
              refine (signed_at n b b B _ gr.1 h1 h2 hb rfl RB.out).mono ?_
              rintro e w8 ⟨rfl, rfl⟩
              go_wp2_with fail
              refine (breaks_at n a b _ gr.1 h1 h2 ha hb 3 1 false (by omega) (by omega) (by omega) rfl RU.out).mono ?_
              rintro e wxa ⟨rfl, hbxa⟩
              have gr := gr.next hbxa
              clear rx
              have rx := (gr.2.cell (p := ⟨w1.heap.size, 2, none⟩) sz).trans C2.out
              go_wp2_with fail
              refine (breaks_at n a b _ gr.1 h1 h2 ha hb 3 2 false (by omega) (by omega) (by omega) rfl RV.out).mono ?_
              rintro e wxb ⟨rfl, hbxb⟩
              have gr := gr.next hbxb
              clear rx
              have rx := (gr.2.cell (p := ⟨w1.heap.size, 2, none⟩) sz).trans C2.out
              go_wp2_with fail
              refine (signed_at n S (0) (A * B) _ gr.1 h1 h2 hSl RZ.out RC.out).mono ?_
              rintro e wy ⟨rfl, rfl⟩
              go_wp2_with fail
              refine (breaks_at n a b _ gr.1 h1 h2 ha hb 3 3 false (by omega) (by omega) (by omega) rfl R3.out).mono ?_
              rintro e wxc ⟨rfl, hbxc⟩
              have gr := gr.next hbxc
              clear rx
              have rx := (gr.2.cell (p := ⟨w1.heap.size, 2, none⟩) sz).trans C2.out
              go_wp2_with fail
              refine (breaks_at n a b _ gr.1 h1 h2 ha hb 3 1 false (by omega) (by omega) (by omega) rfl RU.out).mono ?_
              rintro e wxd ⟨rfl, hbxd⟩
              have gr := gr.next hbxd
              clear rx
              have rx := (gr.2.cell (p := ⟨w1.heap.size, 2, none⟩) sz).trans C2.out
              go_wp2_with fail
              refine (breaks_at n a b _ gr.1 h1 h2 ha hb 3 2 false (by omega) (by omega) (by omega) rfl RV.out).mono ?_
              rintro e wxe ⟨rfl, hbxe⟩
              have gr := gr.next hbxe
              clear rx
              have rx := (gr.2.cell (p := ⟨w1.heap.size, 2, none⟩) sz).trans C2.out
              go_wp2
              go_round
              case rel => exact ⟨3, by omega, by go_num, gr⟩
              case measure => simp [intOf]
            · have RU := Lib.hid hU
              have RV := Lib.hid hV
              have R3 := Lib.hid (show brF 3 3 n a b = true by simp [br_3, hU, hV])
              have RZ := Lib.hid (show (S : Int) = 0 by have h9 := top_u3 n a b hU; rw [← hS, H0.out] at h9; simpa using h9)
              have RS := Lib.hid (show (doF 3 n a b : Int) = 0 by rw [← hS]; exact RZ.out)
              have RA := Lib.hid hA.symm
              have RB := Lib.hid hB.symm
              clear hS hU hV hA hB
              have rx := (gr.2.cell (p := ⟨w1.heap.size, 2, none⟩) sz).trans C2.out
              go_wp2_with fail
              refine (does_at n a b _ gr.1 h1 h2 ha hb 3 (0) (by omega) (by omega) rfl RS.out).mono ?_
              rintro e w4 ⟨rfl, hb4⟩
              have gr := gr.next hb4
              clear rx
              have rx := (gr.2.cell (p := ⟨w1.heap.size, 2, none⟩) sz).trans C2.out
              go_wp2_with fail
              refine (signed_at n a a A _ gr.1 h1 h2 ha rfl RA.out).mono ?_
              rintro e w5 ⟨rfl, rfl⟩
              go_wp2_with fail
              refine (signed_at n b b B _ gr.1 h1 h2 hb rfl RB.out).mono ?_
              rintro e w6 ⟨rfl, rfl⟩
              go_wp2_with fail
              refine (signed_at n a a A _ gr.1 h1 h2 ha rfl RA.out).mono ?_
              rintro e w7 ⟨rfl, rfl⟩
              go_wp2_with fail
              refine (signed_at n b b B _ gr.1 h1 h2 hb rfl RB.out).mono ?_
              rintro e w8 ⟨rfl, rfl⟩
              go_wp2_with fail
              refine (breaks_at n a b _ gr.1 h1 h2 ha hb 3 1 false (by omega) (by omega) (by omega) rfl RU.out).mono ?_
              rintro e wxa ⟨rfl, hbxa⟩
              have gr := gr.next hbxa
              clear rx
              have rx := (gr.2.cell (p := ⟨w1.heap.size, 2, none⟩) sz).trans C2.out
              go_wp2_with fail
              refine (breaks_at n a b _ gr.1 h1 h2 ha hb 3 2 true (by omega) (by omega) (by omega) rfl RV.out).mono ?_
              rintro e wxb ⟨rfl, hbxb⟩
              have gr := gr.next hbxb
              clear rx
              have rx := (gr.2.cell (p := ⟨w1.heap.size, 2, none⟩) sz).trans C2.out
              go_wp2_with fail
              refine (breaks_at n a b _ gr.1 h1 h2 ha hb 3 3 true (by omega) (by omega) (by omega) rfl R3.out).mono ?_
              rintro e wxc ⟨rfl, hbxc⟩
              have gr := gr.next hbxc
              clear rx
              have rx := (gr.2.cell (p := ⟨w1.heap.size, 2, none⟩) sz).trans C2.out
              go_wp2_with fail
              refine (breaks_at n a b _ gr.1 h1 h2 ha hb 3 1 false (by omega) (by omega) (by omega) rfl RU.out).mono ?_
              rintro e wxd ⟨rfl, hbxd⟩
              have gr := gr.next hbxd
              clear rx
              have rx := (gr.2.cell (p := ⟨w1.heap.size, 2, none⟩) sz).trans C2.out
              go_wp2_with fail
              refine (breaks_at n a b _ gr.1 h1 h2 ha hb 3 2 true (by omega) (by omega) (by omega) rfl RV.out).mono ?_
              rintro e wxe ⟨rfl, hbxe⟩
              have gr := gr.next hbxe
              clear rx
              have rx := (gr.2.cell (p := ⟨w1.heap.size, 2, none⟩) sz).trans C2.out
              go_wp2
              go_round
              case rel => exact ⟨3, by omega, by go_num, gr⟩
              case measure => simp [intOf]
          · have hab : a * b ≤ 4294967296 := by
              have h9 := top_u3 n a b hU
              rw [← hS, ← Int.natCast_mul] at h9
              omega
            have dg := guard_yes (b := b) (show 0 < a by omega) hab (by omega)
            obtain ⟨q1, q2⟩ := guard_mul (show 0 < a by omega) dg
            have da : ((a : Int) != 0) = true := by simp; omega
            have ha1 : 1 ≤ a := by omega
            clear ha0 hab
            cases hV : brF 3 2 n a b
            · have RU := Lib.hid hU
              have RV := Lib.hid hV
              have R3 := Lib.hid (show brF 3 3 n a b = false by simp [br_3, hU, hV])
              have RZ := Lib.hid (show (S : Int) = (a : Int) * (b : Int) by rw [hS]; exact top_u3 n a b hU)
              have hz1 : 0 ≤ (a : Int) * (b : Int) := by rw [← RZ.out]; omega
              have hz2 : (a : Int) * (b : Int) ≤ 4294967295 := by rw [← RZ.out]; omega
              have RC := Lib.hid (show sgn n S = A * B by rw [hA, hB, hS]; exact top_s3 n a b h1 hV)
              have RS := Lib.hid (show (doF 3 n a b : Int) = (a : Int) * (b : Int) by rw [← hS]; exact RZ.out)
              have RA := Lib.hid hA.symm
              have RB := Lib.hid hB.symm
              clear hS hU hV hA hB
              have rx := (gr.2.cell (p := ⟨w1.heap.size, 2, none⟩) sz).trans C2.out
              go_wp2_with fail
              refine (does_at n a b _ gr.1 h1 h2 ha hb 3 ((a : Int) * (b : Int)) (by omega) (by omega) rfl RS.out).mono ?_
              rintro e w4 ⟨rfl, hb4⟩
              have gr := gr.next hb4
              clear rx
              have rx := (gr.2.cell (p := ⟨w1.heap.size, 2, none⟩) sz).trans C2.out
              go_wp2_with fail
              refine (signed_at n a a A _ gr.1 h1 h2 ha rfl RA.out).mono ?_
              rintro e w5 ⟨rfl, rfl⟩
              go_wp2_with fail
              refine (signed_at n b b B _ gr.1 h1 h2 hb rfl RB.out).mono ?_
              rintro e w6 ⟨rfl, rfl⟩
              go_wp2_with fail
              refine (signed_at n a a A _ gr.1 h1 h2 ha rfl RA.out).mono ?_
              rintro e w7 ⟨rfl, rfl⟩
              go_wp2_with fail
              refine (signed_at n b b B _ gr.1 h1 h2 hb rfl RB.out).mono ?_
              rintro e w8 ⟨rfl, rfl⟩
              go_wp2_with fail
              refine (breaks_at n a b _ gr.1 h1 h2 ha hb 3 1 false (by omega) (by omega) (by omega) rfl RU.out).mono ?_
              rintro e wxa ⟨rfl, hbxa⟩
              have gr := gr.next hbxa
              clear rx
              have rx := (gr.2.cell (p := ⟨w1.heap.size, 2, none⟩) sz).trans C2.out
              go_wp2_with fail
              refine (breaks_at n a b _ gr.1 h1 h2 ha hb 3 2 false (by omega) (by omega) (by omega) rfl RV.out).mono ?_
              rintro e wxb ⟨rfl, hbxb⟩
              have gr := gr.next hbxb
              clear rx
              have rx := (gr.2.cell (p := ⟨w1.heap.size, 2, none⟩) sz).trans C2.out
              go_wp2_with fail
              refine (signed_at n S ((a : Int) * (b : Int)) (A * B) _ gr.1 h1 h2 hSl RZ.out RC.out).mono ?_
              rintro e wy ⟨rfl, rfl⟩
              go_wp2_with fail
              refine (breaks_at n a b _ gr.1 h1 h2 ha hb 3 3 false (by omega) (by omega) (by omega) rfl R3.out).mono ?_
              rintro e wxc ⟨rfl, hbxc⟩
              have gr := gr.next hbxc
              clear rx
              have rx := (gr.2.cell (p := ⟨w1.heap.size, 2, none⟩) sz).trans C2.out
              go_wp2_with fail
              refine (breaks_at n a b _ gr.1 h1 h2 ha hb 3 1 false (by omega) (by omega) (by omega) rfl RU.out).mono ?_
              rintro e wxd ⟨rfl, hbxd⟩
              have gr := gr.next hbxd
              clear rx
              have rx := (gr.2.cell (p := ⟨w1.heap.size, 2, none⟩) sz).trans C2.out
              go_wp2_with fail
              refine (breaks_at n a b _ gr.1 h1 h2 ha hb 3 2 false (by omega) (by omega) (by omega) rfl RV.out).mono ?_
              rintro e wxe ⟨rfl, hbxe⟩
              have gr := gr.next hbxe
              clear rx
              have rx := (gr.2.cell (p := ⟨w1.heap.size, 2, none⟩) sz).trans C2.out
              go_wp2
              go_round
              case rel => exact ⟨3, by omega, by go_num, gr⟩
              case measure => simp [intOf]
            · have RU := Lib.hid hU
              have RV := Lib.hid hV
              have R3 := Lib.hid (show brF 3 3 n a b = true by simp [br_3, hU, hV])
              have RZ := Lib.hid (show (S : Int) = (a : Int) * (b : Int) by rw [hS]; exact top_u3 n a b hU)
              have hz1 : 0 ≤ (a : Int) * (b : Int) := by rw [← RZ.out]; omega
              have hz2 : (a : Int) * (b : Int) ≤ 4294967295 := by rw [← RZ.out]; omega
              have RS := Lib.hid (show (doF 3 n a b : Int) = (a : Int) * (b : Int) by rw [← hS]; exact RZ.out)
              have RA := Lib.hid hA.symm
              have RB := Lib.hid hB.symm
              clear hS hU hV hA hB
              have rx := (gr.2.cell (p := ⟨w1.heap.size, 2, none⟩) sz).trans C2.out
              go_wp2_with fail
              refine (does_at n a b _ gr.1 h1 h2 ha hb 3 ((a : Int) * (b : Int)) (by omega) (by omega) rfl RS.out).mono ?_
              rintro e w4 ⟨rfl, hb4⟩
              have gr := gr.next hb4
              clear rx
              have rx := (gr.2.cell (p := ⟨w1.heap.size, 2, none⟩) sz).trans C2.out
              go_wp2_with fail
              refine (signed_at n a a A _ gr.1 h1 h2 ha rfl RA.out).mono ?_
              rintro e w5 ⟨rfl, rfl⟩
              go_wp2_with fail
              refine (signed_at n b b B _ gr.1 h1 h2 hb rfl RB.out).mono ?_
              rintro e w6 ⟨rfl, rfl⟩
              go_wp2_with fail
              refine (signed_at n a a A _ gr.1 h1 h2 ha rfl RA.out).mono ?_
              rintro e w7 ⟨rfl, rfl⟩
              go_wp2_with fail
              refine (signed_at n b b B _ gr.1 h1 h2 hb rfl RB.out).mono ?_
              rintro e w8 ⟨rfl, rfl⟩
              go_wp2_with fail
              refine (breaks_at n a b _ gr.1 h1 h2 ha hb 3 1 false (by omega) (by omega) (by omega) rfl RU.out).mono ?_
              rintro e wxa ⟨rfl, hbxa⟩
              have gr := gr.next hbxa
              clear rx
              have rx := (gr.2.cell (p := ⟨w1.heap.size, 2, none⟩) sz).trans C2.out
              go_wp2_with fail
              refine (breaks_at n a b _ gr.1 h1 h2 ha hb 3 2 true (by omega) (by omega) (by omega) rfl RV.out).mono ?_
              rintro e wxb ⟨rfl, hbxb⟩
              have gr := gr.next hbxb
              clear rx
              have rx := (gr.2.cell (p := ⟨w1.heap.size, 2, none⟩) sz).trans C2.out
              go_wp2_with fail
              refine (breaks_at n a b _ gr.1 h1 h2 ha hb 3 3 true (by omega) (by omega) (by omega) rfl R3.out).mono ?_
              rintro e wxc ⟨rfl, hbxc⟩
              have gr := gr.next hbxc
              clear rx
              have rx := (gr.2.cell (p := ⟨w1.heap.size, 2, none⟩) sz).trans C2.out
              go_wp2_with fail
              refine (breaks_at n a b _ gr.1 h1 h2 ha hb 3 1 false (by omega) (by omega) (by omega) rfl RU.out).mono ?_
              rintro e wxd ⟨rfl, hbxd⟩
              have gr := gr.next hbxd
              clear rx
              have rx := (gr.2.cell (p := ⟨w1.heap.size, 2, none⟩) sz).trans C2.out
              go_wp2_with fail
              refine (breaks_at n a b _ gr.1 h1 h2 ha hb 3 2 true (by omega) (by omega) (by omega) rfl RV.out).mono ?_
              rintro e wxe ⟨rfl, hbxe⟩
              have gr := gr.next hbxe
              clear rx
              have rx := (gr.2.cell (p := ⟨w1.heap.size, 2, none⟩) sz).trans C2.out
              go_wp2
              go_round
              case rel => exact ⟨3, by omega, by go_num, gr⟩
              case measure => simp [intOf]
        · have ha0 : a ≠ 0 := by
            rintro rfl
            rw [zero_mul_br] at hU
            cases hU
          have da : ((a : Int) != 0) = true := by simp; omega
          have ha1 : 1 ≤ a := by omega
          clear ha0
          cases dg : decide ((b : Int) < 4611686018427387904 / (a : Int))
          · cases hV : brF 3 2 n a b
            · have RU := Lib.hid hU
              have RV := Lib.hid hV
              have R3 := Lib.hid (show brF 3 3 n a b = true by simp [br_3, hU, hV])
              have RC := Lib.hid (show sgn n S = A * B by rw [hA, hB, hS]; exact top_s3 n a b h1 hV)
              have RS := Lib.hid (show (doF 3 n a b : Int) = (S : Int) by rw [← hS])
              have RA := Lib.hid hA.symm
              have RB := Lib.hid hB.symm
              clear hS hU hV hA hB
              have rx := (gr.2.cell (p := ⟨w1.heap.size, 2, none⟩) sz).trans C2.out
              go_wp2_with fail
              refine (does_at n a b _ gr.1 h1 h2 ha hb 3 ((S : Int)) (by omega) (by omega) rfl RS.out).mono ?_
              rintro e w4 ⟨rfl, hb4⟩
              have gr := gr.next hb4
              clear rx
              have rx := (gr.2.cell (p := ⟨w1.heap.size, 2, none⟩) sz).trans C2.out
              go_wp2_with fail
              refine (signed_at n a a A _ gr.1 h1 h2 ha rfl RA.out).mono ?_
              rintro e w5 ⟨rfl, rfl⟩
              go_wp2_with fail
              refine (signed_at n b b B _ gr.1 h1 h2 hb rfl RB.out).mono ?_
              rintro e w6 ⟨rfl, rfl⟩
              go_wp2_with fail
              refine (signed_at n a a A _ gr.1 h1 h2 ha rfl RA.out).mono ?_
              rintro e w7 ⟨rfl, rfl⟩
              go_wp2_with fail
              refine (signed_at n b b B _ gr.1 h1 h2 hb rfl RB.out).mono ?_
              rintro e w8 ⟨rfl, rfl⟩
              go_wp2_with fail
              refine (breaks_at n a b _ gr.1 h1 h2 ha hb 3 1 true (by omega) (by omega) (by omega) rfl RU.out).mono ?_
              rintro e wxa ⟨rfl, hbxa⟩
              have gr := gr.next hbxa
              clear rx
              have rx := (gr.2.cell (p := ⟨w1.heap.size, 2, none⟩) sz).trans C2.out
              go_wp2_with fail
              refine (breaks_at n a b _ gr.1 h1 h2 ha hb 3 2 false (by omega) (by omega) (by omega) rfl RV.out).mono ?_
              rintro e wxb ⟨rfl, hbxb⟩
              have gr := gr.next hbxb
              clear rx
              have rx := (gr.2.cell (p := ⟨w1.heap.size, 2, none⟩) sz).trans C2.out
              go_wp2_with fail
              refine (signed_at n S ((S : Int)) (A * B) _ gr.1 h1 h2 hSl rfl RC.out).mono ?_
              rintro e wy ⟨rfl, rfl⟩
              go_wp2_with fail
              refine (breaks_at n a b _ gr.1 h1 h2 ha hb 3 3 true (by omega) (by omega) (by omega) rfl R3.out).mono ?_
              rintro e wxc ⟨rfl, hbxc⟩
              have gr := gr.next hbxc
              clear rx
              have rx := (gr.2.cell (p := ⟨w1.heap.size, 2, none⟩) sz).trans C2.out
              go_wp2_with fail
              refine (breaks_at n a b _ gr.1 h1 h2 ha hb 3 1 true (by omega) (by omega) (by omega) rfl RU.out).mono ?_
              rintro e wxd ⟨rfl, hbxd⟩
              have gr := gr.next hbxd
              clear rx
              have rx := (gr.2.cell (p := ⟨w1.heap.size, 2, none⟩) sz).trans C2.out
              go_wp2
              go_round
              case rel => exact ⟨3, by omega, by go_num, gr⟩
              case measure => simp [intOf]
            · have RU := Lib.hid hU
              have RV := Lib.hid hV
              have R3 := Lib.hid (show brF 3 3 n a b = true by simp [br_3, hU, hV])
              have RS := Lib.hid (show (doF 3 n a b : Int) = (S : Int) by rw [← hS])
              have RA := Lib.hid hA.symm
              have RB := Lib.hid hB.symm
              clear hS hU hV hA hB
              have rx := (gr.2.cell (p := ⟨w1.heap.size, 2, none⟩) sz).trans C2.out
              go_wp2_with fail
              refine (does_at n a b _ gr.1 h1 h2 ha hb 3 ((S : Int)) (by omega) (by omega) rfl RS.out).mono ?_
              rintro e w4 ⟨rfl, hb4⟩
              have gr := gr.next hb4
              clear rx
              have rx := (gr.2.cell (p := ⟨w1.heap.size, 2, none⟩) sz).trans C2.out
              go_wp2_with fail
              refine (signed_at n a a A _ gr.1 h1 h2 ha rfl RA.out).mono ?_
              rintro e w5 ⟨rfl, rfl⟩
              go_wp2_with fail
              refine (signed_at n b b B _ gr.1 h1 h2 hb rfl RB.out).mono ?_
              rintro e w6 ⟨rfl, rfl⟩
              go_wp2_with fail
              refine (signed_at n a a A _ gr.1 h1 h2 ha rfl RA.out).mono ?_
              rintro e w7 ⟨rfl, rfl⟩
              go_wp2_with fail
              refine (signed_at n b b B _ gr.1 h1 h2 hb rfl RB.out).mono ?_
              rintro e w8 ⟨rfl, rfl⟩
              go_wp2_with fail
              refine (breaks_at n a b _ gr.1 h1 h2 ha hb 3 1 true (by omega) (by omega) (by omega) rfl RU.out).mono ?_
              rintro e wxa ⟨rfl, hbxa⟩
              have gr := gr.next hbxa
              clear rx
              have rx := (gr.2.cell (p := ⟨w1.heap.size, 2, none⟩) sz).trans C2.out
              go_wp2_with fail
              refine (breaks_at n a b _ gr.1 h1 h2 ha hb 3 2 true (by omega) (by omega) (by omega) rfl RV.out).mono ?_
              rintro e wxb ⟨rfl, hbxb⟩
              have gr := gr.next hbxb
              clear rx
              have rx := (gr.2.cell (p := ⟨w1.heap.size, 2, none⟩) sz).trans C2.out
              go_wp2_with fail
              refine (breaks_at n a b _ gr.1 h1 h2 ha hb 3 3 true (by omega) (by omega) (by omega) rfl R3.out).mono ?_
              rintro e wxc ⟨rfl, hbxc⟩
              have gr := gr.next hbxc
              clear rx
              have rx := (gr.2.cell (p := ⟨w1.heap.size, 2, none⟩) sz).trans C2.out
              go_wp2_with fail
              refine (breaks_at n a b _ gr.1 h1 h2 ha hb 3 1 true (by omega) (by omega) (by omega) rfl RU.out).mono ?_
              rintro e wxd ⟨rfl, hbxd⟩
              have gr := gr.next hbxd
              clear rx
              have rx := (gr.2.cell (p := ⟨w1.heap.size, 2, none⟩) sz).trans C2.out
              go_wp2
              go_round
              case rel => exact ⟨3, by omega, by go_num, gr⟩
              case measure => simp [intOf]
          · obtain ⟨q1, q2⟩ := guard_mul (show 0 < a by omega) dg
            cases hV : brF 3 2 n a b
            · have RU := Lib.hid hU
              have RV := Lib.hid hV
              have R3 := Lib.hid (show brF 3 3 n a b = true by simp [br_3, hU, hV])
              have RC := Lib.hid (show sgn n S = A * B by rw [hA, hB, hS]; exact top_s3 n a b h1 hV)
              have RS := Lib.hid (show (doF 3 n a b : Int) = (S : Int) by rw [← hS])
              have RA := Lib.hid hA.symm
              have RB := Lib.hid hB.symm
              clear hS hU hV hA hB
              have rx := (gr.2.cell (p := ⟨w1.heap.size, 2, none⟩) sz).trans C2.out
              go_wp2_with fail
              refine (does_at n a b _ gr.1 h1 h2 ha hb 3 ((S : Int)) (by omega) (by omega) rfl RS.out).mono ?_
              rintro e w4 ⟨rfl, hb4⟩
              have gr := gr.next hb4
              clear rx
              have rx := (gr.2.cell (p := ⟨w1.heap.size, 2, none⟩) sz).trans C2.out
              go_wp2_with fail
              refine (signed_at n a a A _ gr.1 h1 h2 ha rfl RA.out).mono ?_
              rintro e w5 ⟨rfl, rfl⟩
              go_wp2_with fail
              refine (signed_at n b b B _ gr.1 h1 h2 hb rfl RB.out).mono ?_
              rintro e w6 ⟨rfl, rfl⟩
              go_wp2_with fail
              refine (signed_at n a a A _ gr.1 h1 h2 ha rfl RA.out).mono ?_
              rintro e w7 ⟨rfl, rfl⟩
              go_wp2_with fail
              refine (signed_at n b b B _ gr.1 h1 h2 hb rfl RB.out).mono ?_
              rintro e w8 ⟨rfl, rfl⟩
              go_wp2_with fail
              refine (breaks_at n a b _ gr.1 h1 h2 ha hb 3 1 true (by omega) (by omega) (by omega) rfl RU.out).mono ?_
              rintro e wxa ⟨rfl, hbxa⟩
              have gr := gr.next hbxa
              clear rx
              have rx := (gr.2.cell (p := ⟨w1.heap.size, 2, none⟩) sz).trans C2.out
              go_wp2_with fail
              refine (breaks_at n a b _ gr.1 h1 h2 ha hb 3 2 false (by omega) (by omega) (by omega) rfl RV.out).mono ?_
              rintro e wxb ⟨rfl, hbxb⟩
              have gr := gr.next hbxb
              clear rx
              have rx := (gr.2.cell (p := ⟨w1.heap.size, 2, none⟩) sz).trans C2.out
              go_wp2_with fail
              refine (signed_at n S ((S : Int)) (A * B) _ gr.1 h1 h2 hSl rfl RC.out).mono ?_
              rintro e wy ⟨rfl, rfl⟩
              go_wp2_with fail
              refine (breaks_at n a b _ gr.1 h1 h2 ha hb 3 3 true (by omega) (by omega) (by omega) rfl R3.out).mono ?_
              rintro e wxc ⟨rfl, hbxc⟩
              have gr := gr.next hbxc
              clear rx
              have rx := (gr.2.cell (p := ⟨w1.heap.size, 2, none⟩) sz).trans C2.out
              go_wp2_with fail
              refine (breaks_at n a b _ gr.1 h1 h2 ha hb 3 1 true (by omega) (by omega) (by omega) rfl RU.out).mono ?_
              rintro e wxd ⟨rfl, hbxd⟩
              have gr := gr.next hbxd
              clear rx
              have rx := (gr.2.cell (p := ⟨w1.heap.size, 2, none⟩) sz).trans C2.out
              go_wp2
              go_round
              case rel => exact ⟨3, by omega, by go_num, gr⟩
              case measure => simp [intOf]
            · have RU := Lib.hid hU
              have RV := Lib.hid hV
              have R3 := Lib.hid (show brF 3 3 n a b = true by simp [br_3, hU, hV])
              have RS := Lib.hid (show (doF 3 n a b : Int) = (S : Int) by rw [← hS])
              have RA := Lib.hid hA.symm
              have RB := Lib.hid hB.symm
              clear hS hU hV hA hB
              have rx := (gr.2.cell (p := ⟨w1.heap.size, 2, none⟩) sz).trans C2.out
              go_wp2_with fail
              refine (does_at n a b _ gr.1 h1 h2 ha hb 3 ((S : Int)) (by omega) (by omega) rfl RS.out).mono ?_
              rintro e w4 ⟨rfl, hb4⟩
              have gr := gr.next hb4
              clear rx
              have rx := (gr.2.cell (p := ⟨w1.heap.size, 2, none⟩) sz).trans C2.out
              go_wp2_with fail
              refine (signed_at n a a A _ gr.1 h1 h2 ha rfl RA.out).mono ?_
              rintro e w5 ⟨rfl, rfl⟩
              go_wp2_with fail
              refine (signed_at n b b B _ gr.1 h1 h2 hb rfl RB.out).mono ?_
              rintro e w6 ⟨rfl, rfl⟩
              go_wp2_with fail
              refine (signed_at n a a A _ gr.1 h1 h2 ha rfl RA.out).mono ?_
              rintro e w7 ⟨rfl, rfl⟩
              go_wp2_with fail
              refine (signed_at n b b B _ gr.1 h1 h2 hb rfl RB.out).mono ?_
              rintro e w8 ⟨rfl, rfl⟩
              go_wp2_with fail
              refine (breaks_at n a b _ gr.1 h1 h2 ha hb 3 1 true (by omega) (by omega) (by omega) rfl RU.out).mono ?_
              rintro e wxa ⟨rfl, hbxa⟩
              have gr := gr.next hbxa
              clear rx
              have rx := (gr.2.cell (p := ⟨w1.heap.size, 2, none⟩) sz).trans C2.out
              go_wp2_with fail
              refine (breaks_at n a b _ gr.1 h1 h2 ha hb 3 2 true (by omega) (by omega) (by omega) rfl RV.out).mono ?_
              rintro e wxb ⟨rfl, hbxb⟩
              have gr := gr.next hbxb
              clear rx
              have rx := (gr.2.cell (p := ⟨w1.heap.size, 2, none⟩) sz).trans C2.out
              go_wp2_with fail
              refine (breaks_at n a b _ gr.1 h1 h2 ha hb 3 3 true (by omega) (by omega) (by omega) rfl R3.out).mono ?_
              rintro e wxc ⟨rfl, hbxc⟩
              have gr := gr.next hbxc
              clear rx
              have rx := (gr.2.cell (p := ⟨w1.heap.size, 2, none⟩) sz).trans C2.out
              go_wp2_with fail
              refine (breaks_at n a b _ gr.1 h1 h2 ha hb 3 1 true (by omega) (by omega) (by omega) rfl RU.out).mono ?_
              rintro e wxd ⟨rfl, hbxd⟩
              have gr := gr.next hbxd
              clear rx
              have rx := (gr.2.cell (p := ⟨w1.heap.size, 2, none⟩) sz).trans C2.out
              go_wp2
              go_round
              case rel => exact ⟨3, by omega, by go_num, gr⟩
              case measure => simp [intOf]
    · as_aux_lemma =>
        have gw : Way16 (w.alloc o) _ := ⟨gr.1, g3.2.trans (gr.2.mono g3.2.size)⟩
        clear C0 C1 C2 sz
        obtain ⟨L, hL⟩ : ∃ L, L = cmpF 2 n a b := ⟨_, rfl⟩
        obtain ⟨D, hD⟩ : ∃ D, D = doF 2 n a b := ⟨_, rfl⟩
        obtain ⟨E, hE⟩ : ∃ E, E = sgn n D := ⟨_, rfl⟩
        obtain ⟨V, hV⟩ : ∃ V, V = brF 2 2 n a b := ⟨_, rfl⟩
        obtain ⟨X, hX⟩ : ∃ X, X = doF 10 n a b := ⟨_, rfl⟩
        have hDl : D < pw n := by rw [hD]; exact wr_lt ((a : Int) - b)
        have RL := Lib.hid hL.symm
        have RD := Lib.hid (show (doF 2 n a b : Int) = (D : Int) by rw [hD])
        have RE := Lib.hid hE.symm
        have RV := Lib.hid hV.symm
        have RX := Lib.hid (show (doF 10 n a b : Int) = (X : Int) by rw [hX])
        have RU := Lib.hid (show brF 2 1 n a b = L by rw [hL]; exact ult_sub n a b)
        have RS := Lib.hid (show cmpF 6 n a b = (decide (E < 0) != V) by rw [hE, hV, hD]; exact slt_sub h1 h2 ha hb)
        have RQ := Lib.hid (show cmpF 0 n a b = ((X : Int) == 0) by rw [hX]; exact eq_xor n a b)
        clear hL hD hE hV hX
        go_wp2_with fail
        refine (does_at n a b _ gr.1 h1 h2 ha hb 2 (D : Int) (by omega) (by omega) rfl RD.out).mono ?_
        rintro e x1 ⟨rfl, hx1⟩
        have gr := gr.next hx1
        go_wp2_with fail
        refine (does_at n a b _ gr.1 h1 h2 ha hb 10 (X : Int) (by omega) (by omega) rfl RX.out).mono ?_
        rintro e x2 ⟨rfl, hx2⟩
        have gr := gr.next hx2
        go_wp2_with fail
        refine (holds_at n a b _ gr.1 h1 h2 ha hb 2 L (by omega) RL.out).mono ?_
        rintro e x3 ⟨rfl, rfl⟩
        go_wp2_with fail
        refine (breaks_at n a b _ gr.1 h1 h2 ha hb 2 1 L (by omega) (by omega) (by omega) rfl RU.out).mono ?_
        rintro e x4 ⟨rfl, hx4⟩
        have gr := gr.next hx4
        go_wp2_with fail
        refine (holds_at n a b _ gr.1 h1 h2 ha hb 6 (decide (E < 0) != V) (by omega) RS.out).mono ?_
        rintro e x5 ⟨rfl, rfl⟩
        go_wp2_with fail
        refine (signed_at n D (D : Int) E _ gr.1 h1 h2 hDl rfl RE.out).mono ?_
        rintro e x6 ⟨rfl, rfl⟩
        go_wp2_with fail
        refine (breaks_at n a b _ gr.1 h1 h2 ha hb 2 2 V (by omega) (by omega) (by omega) rfl RV.out).mono ?_
        rintro e x7 ⟨rfl, hx7⟩
        have gr := gr.next hx7
        go_wp2_with fail
        refine (holds_at n a b _ gr.1 h1 h2 ha hb 0 ((X : Int) == 0) (by omega) RQ.out).mono ?_
        rintro e x8 ⟨rfl, rfl⟩
        by_cases hn : n < 32
        · have dn1 : decide (n < 32) = true := by simp; omega
          have dn2 : decide ((n : Int) < 32) = true := by simp; omega
          have gw := (⟨gr.1, g3.2.trans (gr.2.mono g3.2.size)⟩ : Way16 (w.alloc o) _)
          go_wp2_with fail
          generalize hW5 : (World.alloc (World.alloc x7 _) _) = W5
          have d0 : W5.cell? ⟨x7.heap.size, 0, none⟩ = some (.int .i64 16) := by rw [← hW5]; simp [go_sem]
          have d1 : W5.cell? ⟨x7.heap.size, 1, none⟩ = some (.int .i64 17) := by rw [← hW5]; simp [go_sem]
          have e0 : W5.cell? ⟨x7.heap.size + 1, 0, none⟩ = some (.int .i64 2) := by rw [← hW5]; simp [go_sem]
          have e1 : W5.cell? ⟨x7.heap.size + 1, 1, none⟩ = some (.int .i64 6) := by rw [← hW5]; simp [go_sem]
          have g5 : Way16 (w.alloc o) W5 := by
            rw [← hW5]
            exact ⟨(gw.1.alloc _).alloc _, (gw.2.alloc (by simpa using gw.2.size) _).alloc (by have := gw.2.size; simp at this ⊢; omega) _⟩
          have sz : x7.heap.size + 1 < W5.heap.size := by rw [← hW5]; simp
          have D0 := Lib.hid d0
          have D1 := Lib.hid d1
          have E0 := Lib.hid e0
          have E1 := Lib.hid e1
          clear hW5 d0 d1 e0 e1 gr gw
          go_loopw [25] (fun i wr => ∃ k : Nat, k ≤ 2 ∧ i = .int .i64 (k : Int) ∧ Way16 W5 wr) (fun i _ => 2 - (intOf i).toNat)
          case atStart => exact ⟨0, by omega, rfl, g5.1, Below.refl _ _⟩
          case round =>
            obtain ⟨k, hk, rfl, gr⟩ := hrel
            obtain rfl | rfl | rfl : k = 0 ∨ k = 1 ∨ k = 2 := by omega
            · have f0 := (gr.2.cell (p := ⟨x7.heap.size, 0, none⟩) (by show x7.heap.size < _; omega)).trans D0.out
              have f1 := (gr.2.cell (p := ⟨x7.heap.size + 1, 0, none⟩) sz).trans E0.out
              have p32 := pw_mono h2
              have c1 : ∀ W, Masks W → Calls Tryd.prog 18 #[.int .i64 2, .int .i64 32, .int .u32 a, .int .u32 b] W fun e w' => e = .returned (.bool L) ∧ W = w' := fun W hW => holds_at 32 a b W hW (by omega) (by omega) (by omega) (by omega) 2 L (by omega) RL.out
              have c2 : ∀ W, Masks W → Calls Tryd.prog 18 #[.int .i64 2, .int .i64 n, .int .u32 a, .int .u32 b] W fun e w' => e = .returned (.bool L) ∧ W = w' := fun W hW => holds_at n a b W hW h1 h2 ha hb 2 L (by omega) RL.out
              have c3 : ∀ W, Masks W → Calls Tryd.prog 18 #[.int .i64 6, .int .i64 32, .int .u32 a, .int .u32 b] W fun e w' => e = .returned (.bool L) ∧ W = w' := fun W hW => holds_at 32 a b W hW (by omega) (by omega) (by omega) (by omega) 6 L (by omega) (by rw [wide_z (by omega) ha hb]; exact RL.out)
              have R1 := Lib.hid c1
              have R2 := Lib.hid c2
              have R3 := Lib.hid c3
              clear c1 c2 c3 p32
              go_wp2_with fail
              refine (ext_z n 32 a _ gr.1 h1 (by omega) hn ha).mono ?_
              rintro e x9 ⟨rfl, rfl⟩
              go_wp2_with fail
              refine (ext_z n 32 b _ gr.1 h1 (by omega) hn hb).mono ?_
              rintro e x9 ⟨rfl, rfl⟩
              go_wp2_with fail
              have gm := gr.1
              go_quiet ((first | (go_at_call 18; with_reducible exact quietM_add gm R1.out) | (go_at_call 18; with_reducible exact quietM_add gm R2.out) | (go_at_call 18; with_reducible exact quietM_add gm R3.out) | (go_at_call 18; with_reducible exact quietM gm R1.out) | (go_at_call 18; with_reducible exact quietM gm R2.out) | (go_at_call 18; with_reducible exact quietM gm R3.out)))
              go_wp2
              go_roundw
              case rel => exact ⟨1, by omega, by go_num, gr.1.drewN _, below_drewN gr.2 _⟩
              case measure => simp [intOf]
            · have f0 := (gr.2.cell (p := ⟨x7.heap.size, 1, none⟩) (by show x7.heap.size < _; omega)).trans D1.out
              have f1 := (gr.2.cell (p := ⟨x7.heap.size + 1, 1, none⟩) sz).trans E1.out
              obtain ⟨S6, hS6⟩ : ∃ S6, S6 = cmpF 6 n a b := ⟨_, rfl⟩
              obtain ⟨PA, hPA⟩ : ∃ PA, PA = wrN 32 (sgn n a) := ⟨_, rfl⟩
              obtain ⟨PB, hPB⟩ : ∃ PB, PB = wrN 32 (sgn n b) := ⟨_, rfl⟩
              have lA : PA < pw 32 := by rw [hPA]; exact wr_lt _
              have lB : PB < pw 32 := by rw [hPB]; exact wr_lt _
              have c1 : ∀ W, Masks W → Calls Tryd.prog 18 #[.int .i64 6, .int .i64 32, .int .u32 PA, .int .u32 PB] W fun e w' => e = .returned (.bool S6) ∧ W = w' := fun W hW => holds_at 32 PA PB W hW (by omega) (by omega) lA lB 6 S6 (by omega) (by rw [hPA, hPB, hS6]; exact wide_s h1 h2 ha hb)
              have c2 : ∀ W, Masks W → Calls Tryd.prog 18 #[.int .i64 6, .int .i64 n, .int .u32 a, .int .u32 b] W fun e w' => e = .returned (.bool S6) ∧ W = w' := fun W hW => holds_at n a b W hW h1 h2 ha hb 6 S6 (by omega) hS6.symm
              have R1 := Lib.hid c1
              have R2 := Lib.hid c2
              have XA := Lib.hid hPA
              have XB := Lib.hid hPB
              clear c1 c2 hPA hPB hS6 lA lB
              go_wp2_with fail
              refine (ext_s n 32 a _ gr.1 h1 (by omega) hn ha).mono ?_
              rw [show Go.Proofs.YtgnaohhopbhihaaDoor.wr 32 (sgn n a) = PA from XA.out.symm]
              rintro e x9 ⟨rfl, rfl⟩
              go_wp2_with fail
              refine (ext_s n 32 b _ gr.1 h1 (by omega) hn hb).mono ?_
              rw [show Go.Proofs.YtgnaohhopbhihaaDoor.wr 32 (sgn n b) = PB from XB.out.symm]
              rintro e x9 ⟨rfl, rfl⟩
              go_wp2_with fail
              have gm := gr.1
              go_quiet ((first | (go_at_call 18; with_reducible exact quietM_add gm R1.out) | (go_at_call 18; with_reducible exact quietM_add gm R2.out) | (go_at_call 18; with_reducible exact quietM gm R1.out) | (go_at_call 18; with_reducible exact quietM gm R2.out)))
              go_wp2
              go_roundw
              case rel => exact ⟨2, by omega, by go_num, gr.1.drewN _, below_drewN gr.2 _⟩
              case measure => simp [intOf]
            · as_aux_lemma =>
                have gv : Way16 (w.alloc o) _ := ⟨gr.1, g5.2.trans (gr.2.mono g5.2.size)⟩
                have z2 := box_cell gv K2.out
                have z3 := box_cell gv K3.out
                by_cases hy : 0 ≤ y ∧ y < n
                · obtain ⟨hy0, hyn⟩ := hy
                  obtain ⟨m, rfl⟩ : ∃ m : Nat, y = m := ⟨y.toNat, by omega⟩
                  have hm : m < n := by omega
                  have hmp := by_lt_pw m n hm
                  have hm32 : m < 32 := by omega
                  have dy : decide (m < n) = true := by simpa using hm
                  have hpm := pw_lt hm
                  have hpm0 := pw_pos m
                  obtain ⟨SH, hSH⟩ : ∃ SH, SH = doF 11 n a m := ⟨_, rfl⟩
                  obtain ⟨Q, hQ⟩ : ∃ Q, Q = doF 12 n a m := ⟨_, rfl⟩
                  obtain ⟨EX, hEX⟩ : ∃ EX, EX = brF 12 4 n a m := ⟨_, rfl⟩
                  obtain ⟨Z, hZ⟩ : ∃ Z, Z = tzF SH n 0 := ⟨_, rfl⟩
                  have lSH : SH < pw n := by rw [hSH]; exact wr_lt ((a : Int) * pw m)
                  have hZm : m ≤ Z := by rw [hZ, hSH]; exact shl_zeros n a m hm
                  have dZ : decide (Z < m) = false := by simp; omega
                  have HP := Lib.hid (pow_word hm32)
                  have H11 := Lib.hid (show hasF 11 n a m = true by simp [hasF, hm])
                  have H12 := Lib.hid (show hasF 12 n a m = true by simp [hasF, hm])
                  have H4 := Lib.hid (show hasF 4 n a (pw m) = true by simp [hasF]; omega)
                  have RSH := Lib.hid (show (doF 11 n a m : Int) = (SH : Int) by rw [hSH])
                  have RQ2 := Lib.hid (show (doF 12 n a m : Int) = (Q : Int) by rw [hQ])
                  have REX := Lib.hid hEX.symm
                  have REX2 := Lib.hid (show brF 4 4 n a (pw m) = EX by rw [exact_same, hEX])
                  have RZ := Lib.hid hZ.symm
                  clear hy0 hyn hSH hQ hEX hZ
                  go_wp2_with fail
                  refine (isWord_yes n m _ h1 h2 hmp).mono ?_
                  rintro e y1 ⟨rfl, rfl⟩
                  go_wp2_with fail
                  rw [HP.out]
                  refine (does_at n a m _ gv.1 h1 h2 ha hmp 11 (SH : Int) (by omega) (by omega) H11.out RSH.out).mono ?_
                  rintro e y2 ⟨rfl, hy2⟩
                  have gv := gv.next hy2
                  have z2 := box_cell gv K2.out
                  go_wp2_with fail
                  refine (does_at n a (pw m) _ gv.1 h1 h2 ha hpm 3 (SH : Int) (by omega) (by omega) rfl RSH.out).mono ?_
                  rintro e y3 ⟨rfl, hy3⟩
                  have gv := gv.next hy3
                  have z2 := box_cell gv K2.out
                  go_wp2_with fail
                  refine (does_at n a m _ gv.1 h1 h2 ha hmp 12 (Q : Int) (by omega) (by omega) H12.out RQ2.out).mono ?_
                  rintro e y4 ⟨rfl, hy4⟩
                  have gv := gv.next hy4
                  have z2 := box_cell gv K2.out
                  go_wp2_with fail
                  refine (does_at n a (pw m) _ gv.1 h1 h2 ha hpm 4 (Q : Int) (by omega) (by omega) H4.out RQ2.out).mono ?_
                  rintro e y5 ⟨rfl, hy5⟩
                  have gv := gv.next hy5
                  have z2 := box_cell gv K2.out
                  go_wp2_with fail
                  refine (trailing_ok n SH _ gv.1 h1 h2 lSH).mono ?_
                  rw [RZ.out]
                  rintro e y6 ⟨rfl, rfl⟩
                  go_wp2_with fail
                  refine (breaks_at n a m _ gv.1 h1 h2 ha hmp 12 4 EX (by omega) (by omega) (by omega) H12.out REX.out).mono ?_
                  rintro e y7 ⟨rfl, hy7⟩
                  have gv := gv.next hy7
                  go_wp2_with fail
                  refine (breaks_at n a (pw m) _ gv.1 h1 h2 ha hpm 4 4 EX (by omega) (by omega) (by omega) H4.out REX2.out).mono ?_
                  rintro e y8 ⟨rfl, hy8⟩
                  have gv := gv.next hy8
                  as_aux_lemma =>
                    obtain ⟨C8, h8⟩ : ∃ C8, C8 = doF 8 n a b := ⟨_, rfl⟩
                    obtain ⟨C9, h9⟩ : ∃ C9, C9 = doF 9 n a b := ⟨_, rfl⟩
                    obtain ⟨I8, hI8⟩ : ∃ I8, I8 = pop 32 C8 := ⟨_, rfl⟩
                    obtain ⟨I9, hI9⟩ : ∃ I9, I9 = pop 32 C9 := ⟨_, rfl⟩
                    obtain ⟨IB, hIB⟩ : ∃ IB, IB = pop 32 b := ⟨_, rfl⟩
                    have l8 : C8 < pw n := by rw [h8]; exact Nat.lt_of_le_of_lt Nat.and_le_left ha
                    have l9 : C9 < pw n := by rw [h9]; exact Nat.or_lt_two_pow ha hb
                    have p8 := pop_le 32 C8
                    have p9 := pop_le 32 C9
                    have pb := pop_le 32 b
                    have pa := pop_le 32 a
                    rw [← hI8] at p8
                    rw [← hI9] at p9
                    rw [← hIB] at pb
                    have hsum := pop_and_or 32 a b
                    have RI := Lib.hid (show (pop 32 a : Int) = (I8 : Int) + (I9 : Int) - (IB : Int) by rw [hI8, hI9, hIB, h8, h9]; show (pop 32 a : Int) = (pop 32 (a &&& b) : Int) + (pop 32 (a ||| b) : Int) - (pop 32 b : Int); omega)
                    have q1 : 0 ≤ (I8 : Int) + (I9 : Int) - (IB : Int) := by rw [← RI.out]; omega
                    have RIB := Lib.hid (show (pop 32 b : Int) = (IB : Int) by rw [hIB])
                    have RI8 := Lib.hid (show (pop 32 C8 : Int) = (I8 : Int) by rw [hI8])
                    have RI9 := Lib.hid (show (pop 32 C9 : Int) = (I9 : Int) by rw [hI9])
                    have R8 := Lib.hid (show (doF 8 n a b : Int) = (C8 : Int) by rw [h8])
                    have R9 := Lib.hid (show (doF 9 n a b : Int) = (C9 : Int) by rw [h9])
                    clear h8 h9 hI8 hI9 hIB hsum pa
                    go_wp2_with fail
                    refine (does_at n a b _ gv.1 h1 h2 ha hb 8 (C8 : Int) (by omega) (by omega) rfl R8.out).mono ?_
                    rintro e v1 ⟨rfl, hv1⟩
                    have gv := gv.next hv1
                    go_wp2_with fail
                    refine (does_at n a b _ gv.1 h1 h2 ha hb 9 (C9 : Int) (by omega) (by omega) rfl R9.out).mono ?_
                    rintro e v2 ⟨rfl, hv2⟩
                    have gv := gv.next hv2
                    have z3 := box_cell gv K3.out
                    go_wp2_with fail
                    refine (ones_at n a _ _ gv.1 h1 h2 ha RI.out).mono ?_
                    rintro e v3 ⟨rfl, rfl⟩
                    go_wp2_with fail
                    refine (ones_at n b _ _ gv.1 h1 h2 hb RIB.out).mono ?_
                    rintro e v3 ⟨rfl, rfl⟩
                    go_wp2_with fail
                    refine (ones_at n C8 _ _ gv.1 h1 h2 l8 RI8.out).mono ?_
                    rintro e v3 ⟨rfl, rfl⟩
                    go_wp2_with fail
                    refine (ones_at n C9 _ _ gv.1 h1 h2 l9 RI9.out).mono ?_
                    rintro e v3 ⟨rfl, rfl⟩
                    go_wp2_with fail
                    by_cases hlb : LanesBad 19 n l a b
                    · refine (lanes_err 19 n l a b _ gv.1 hlb).mono ?_
                      rintro e v4 ⟨rfl, rfl⟩
                      go_wp2
                      go_ret
                      exact ⟨rfl, way_base gv⟩
                    · obtain ⟨lane, c, rfl, s1, s2, hc⟩ := lanes_split n l a b hlb
                      obtain ⟨LF, hLF⟩ : ∃ LF, LF = lanesF false lane a b c := ⟨_, rfl⟩
                      have lLF : LF < pw n := by rw [hLF, hc, Nat.mul_comm]; exact lanesF_lt _ _ _ _ _
                      have HC := Lib.hid hc
                      have RLF := Lib.hid hLF
                      have HM := Lib.hid (lane_mask (n := lane) (by omega))
                      have slane : lane < 32 := by omega
                      clear hlb hLF
                      refine (lanes_add n lane c a b _ gv.1 h1 h2 ha hb s1 s2 hc).mono ?_
                      rw [← RLF.out]
                      rintro e v4 ⟨rfl, nd, rfl⟩
                      clear hc
                      have gv : Way16 (w.alloc o) _ := ⟨gv.1.drewN nd, below_drewN gv.2 nd⟩
                      have z3 := box_cell gv K3.out
                      go_wp2_with fail
                      clear z3
                      go_loopw [56] (fun i wr => ∃ k T : Nat, k ≤ c ∧ T = k * lane ∧ i = .int .i64 (T : Int) ∧ Way16 (w.alloc o) wr) (fun i _ => n - (intOf i).toNat)
                      case atStart => exact ⟨0, 0, by omega, by simp, rfl, gv⟩
                      case round =>
                        obtain ⟨k, T, hk, hT, rfl, gr⟩ := hrel
                        have z3 := box_cell gr K3.out
                        have e1 := HC.out
                        by_cases hkc : k < c
                        · have h3 : (k + 1) * lane ≤ c * lane := Nat.mul_le_mul_right _ hkc
                          rw [Nat.mul_comm c, ← e1, Nat.add_mul, ← hT] at h3
                          have hTl : T + lane ≤ n := by omega
                          obtain ⟨x, hx⟩ : ∃ x, x = a / pw T % pw lane := ⟨_, rfl⟩
                          obtain ⟨z, hz⟩ : ∃ z, z = b / pw T % pw lane := ⟨_, rfl⟩
                          have lx : x < pw lane := by rw [hx]; exact Nat.mod_lt _ (pw_pos lane)
                          have lz : z < pw lane := by rw [hz]; exact Nat.mod_lt _ (pw_pos lane)
                          have HA := Lib.hid (show bits .and .u32 ((a : Int) / 2 ^ T) ((pw lane - 1 : Nat) : Int) = (x : Int) by rw [hx]; exact lane_half lane T a (by omega) (by omega))
                          have HB := Lib.hid (show bits .and .u32 ((b : Int) / 2 ^ T) ((pw lane - 1 : Nat) : Int) = (z : Int) by rw [hz]; exact lane_half lane T b (by omega) (by omega))
                          have HD := Lib.hid (show (doF 1 lane x z : Int) = bits .and .u32 ((LF : Int) / 2 ^ T) ((pw lane - 1 : Nat) : Int) by
                            rw [lane_half lane T LF (by omega) (by omega), RLF.out, hT, lane_at false lane a b s1 c k hkc, hx, hz, hT]
                            rfl)
                          have HT := Lib.hid hT
                          clear hT hx hz h3 e1
                          go_wp2_with fail
                          rw [HM.out, HA.out, HB.out]
                          refine (does_at lane x z _ gr.1 s1 (by omega) lx lz 1 _ (by omega) (by omega) rfl HD.out).mono ?_
                          rintro e v5 ⟨rfl, hv5⟩
                          have gr := gr.next hv5
                          clear z3
                          have z3 := box_cell gr K3.out
                          go_wp2
                          go_roundw
                          case rel => exact ⟨k + 1, T + lane, hkc, by rw [HT.out, Nat.add_mul]; omega, by simp, gr⟩
                          case measure => simp [intOf]; omega
                        · obtain rfl : k = c := by omega
                          have hTn : T = n := by rw [hT, e1, Nat.mul_comm]
                          have HC2 := HC
                          subst hTn
                          clear hT e1
                          go_wp2
                          go_ret
                          exact ⟨rfl, way_base gr⟩
                · by_cases hy0 : 0 ≤ y
                  · have hyn : (n : Int) ≤ y := by omega
                    have dy : decide (y < (n : Int)) = false := by simp; omega
                    clear hy
                    as_aux_lemma =>
                      obtain ⟨C8, h8⟩ : ∃ C8, C8 = doF 8 n a b := ⟨_, rfl⟩
                      obtain ⟨C9, h9⟩ : ∃ C9, C9 = doF 9 n a b := ⟨_, rfl⟩
                      obtain ⟨I8, hI8⟩ : ∃ I8, I8 = pop 32 C8 := ⟨_, rfl⟩
                      obtain ⟨I9, hI9⟩ : ∃ I9, I9 = pop 32 C9 := ⟨_, rfl⟩
                      obtain ⟨IB, hIB⟩ : ∃ IB, IB = pop 32 b := ⟨_, rfl⟩
                      have l8 : C8 < pw n := by rw [h8]; exact Nat.lt_of_le_of_lt Nat.and_le_left ha
                      have l9 : C9 < pw n := by rw [h9]; exact Nat.or_lt_two_pow ha hb
                      have p8 := pop_le 32 C8
                      have p9 := pop_le 32 C9
                      have pb := pop_le 32 b
                      have pa := pop_le 32 a
                      rw [← hI8] at p8
                      rw [← hI9] at p9
                      rw [← hIB] at pb
                      have hsum := pop_and_or 32 a b
                      have RI := Lib.hid (show (pop 32 a : Int) = (I8 : Int) + (I9 : Int) - (IB : Int) by rw [hI8, hI9, hIB, h8, h9]; show (pop 32 a : Int) = (pop 32 (a &&& b) : Int) + (pop 32 (a ||| b) : Int) - (pop 32 b : Int); omega)
                      have q1 : 0 ≤ (I8 : Int) + (I9 : Int) - (IB : Int) := by rw [← RI.out]; omega
                      have RIB := Lib.hid (show (pop 32 b : Int) = (IB : Int) by rw [hIB])
                      have RI8 := Lib.hid (show (pop 32 C8 : Int) = (I8 : Int) by rw [hI8])
                      have RI9 := Lib.hid (show (pop 32 C9 : Int) = (I9 : Int) by rw [hI9])
                      have R8 := Lib.hid (show (doF 8 n a b : Int) = (C8 : Int) by rw [h8])
                      have R9 := Lib.hid (show (doF 9 n a b : Int) = (C9 : Int) by rw [h9])
                      clear h8 h9 hI8 hI9 hIB hsum pa
                      go_wp2_with fail
                      refine (does_at n a b _ gv.1 h1 h2 ha hb 8 (C8 : Int) (by omega) (by omega) rfl R8.out).mono ?_
                      rintro e v1 ⟨rfl, hv1⟩
                      have gv := gv.next hv1
                      go_wp2_with fail
                      refine (does_at n a b _ gv.1 h1 h2 ha hb 9 (C9 : Int) (by omega) (by omega) rfl R9.out).mono ?_
                      rintro e v2 ⟨rfl, hv2⟩
                      have gv := gv.next hv2
                      have z3 := box_cell gv K3.out
                      go_wp2_with fail
                      refine (ones_at n a _ _ gv.1 h1 h2 ha RI.out).mono ?_
                      rintro e v3 ⟨rfl, rfl⟩
                      go_wp2_with fail
                      refine (ones_at n b _ _ gv.1 h1 h2 hb RIB.out).mono ?_
                      rintro e v3 ⟨rfl, rfl⟩
                      go_wp2_with fail
                      refine (ones_at n C8 _ _ gv.1 h1 h2 l8 RI8.out).mono ?_
                      rintro e v3 ⟨rfl, rfl⟩
                      go_wp2_with fail
                      refine (ones_at n C9 _ _ gv.1 h1 h2 l9 RI9.out).mono ?_
                      rintro e v3 ⟨rfl, rfl⟩
                      go_wp2_with fail
                      by_cases hlb : LanesBad 19 n l a b
                      · refine (lanes_err 19 n l a b _ gv.1 hlb).mono ?_
                        rintro e v4 ⟨rfl, rfl⟩
                        go_wp2
                        go_ret
                        exact ⟨rfl, way_base gv⟩
                      · obtain ⟨lane, c, rfl, s1, s2, hc⟩ := lanes_split n l a b hlb
                        obtain ⟨LF, hLF⟩ : ∃ LF, LF = lanesF false lane a b c := ⟨_, rfl⟩
                        have lLF : LF < pw n := by rw [hLF, hc, Nat.mul_comm]; exact lanesF_lt _ _ _ _ _
                        have HC := Lib.hid hc
                        have RLF := Lib.hid hLF
                        have HM := Lib.hid (lane_mask (n := lane) (by omega))
                        have slane : lane < 32 := by omega
                        clear hlb hLF
                        refine (lanes_add n lane c a b _ gv.1 h1 h2 ha hb s1 s2 hc).mono ?_
                        rw [← RLF.out]
                        rintro e v4 ⟨rfl, nd, rfl⟩
                        clear hc
                        have gv : Way16 (w.alloc o) _ := ⟨gv.1.drewN nd, below_drewN gv.2 nd⟩
                        have z3 := box_cell gv K3.out
                        go_wp2_with fail
                        clear z3
                        go_loopw [56] (fun i wr => ∃ k T : Nat, k ≤ c ∧ T = k * lane ∧ i = .int .i64 (T : Int) ∧ Way16 (w.alloc o) wr) (fun i _ => n - (intOf i).toNat)
                        case atStart => exact ⟨0, 0, by omega, by simp, rfl, gv⟩
                        case round =>
                          obtain ⟨k, T, hk, hT, rfl, gr⟩ := hrel
                          have z3 := box_cell gr K3.out
                          have e1 := HC.out
                          by_cases hkc : k < c
                          · have h3 : (k + 1) * lane ≤ c * lane := Nat.mul_le_mul_right _ hkc
                            rw [Nat.mul_comm c, ← e1, Nat.add_mul, ← hT] at h3
                            have hTl : T + lane ≤ n := by omega
                            obtain ⟨x, hx⟩ : ∃ x, x = a / pw T % pw lane := ⟨_, rfl⟩
                            obtain ⟨z, hz⟩ : ∃ z, z = b / pw T % pw lane := ⟨_, rfl⟩
                            have lx : x < pw lane := by rw [hx]; exact Nat.mod_lt _ (pw_pos lane)
                            have lz : z < pw lane := by rw [hz]; exact Nat.mod_lt _ (pw_pos lane)
                            have HA := Lib.hid (show bits .and .u32 ((a : Int) / 2 ^ T) ((pw lane - 1 : Nat) : Int) = (x : Int) by rw [hx]; exact lane_half lane T a (by omega) (by omega))
                            have HB := Lib.hid (show bits .and .u32 ((b : Int) / 2 ^ T) ((pw lane - 1 : Nat) : Int) = (z : Int) by rw [hz]; exact lane_half lane T b (by omega) (by omega))
                            have HD := Lib.hid (show (doF 1 lane x z : Int) = bits .and .u32 ((LF : Int) / 2 ^ T) ((pw lane - 1 : Nat) : Int) by
                              rw [lane_half lane T LF (by omega) (by omega), RLF.out, hT, lane_at false lane a b s1 c k hkc, hx, hz, hT]
                              rfl)
                            have HT := Lib.hid hT
                            clear hT hx hz h3 e1
                            go_wp2_with fail
                            rw [HM.out, HA.out, HB.out]
                            refine (does_at lane x z _ gr.1 s1 (by omega) lx lz 1 _ (by omega) (by omega) rfl HD.out).mono ?_
                            rintro e v5 ⟨rfl, hv5⟩
                            have gr := gr.next hv5
                            clear z3
                            have z3 := box_cell gr K3.out
                            go_wp2
                            go_roundw
                            case rel => exact ⟨k + 1, T + lane, hkc, by rw [HT.out, Nat.add_mul]; omega, by simp, gr⟩
                            case measure => simp [intOf]; omega
                          · obtain rfl : k = c := by omega
                            have hTn : T = n := by rw [hT, e1, Nat.mul_comm]
                            have HC2 := HC
                            subst hTn
                            clear hT e1
                            go_wp2
                            go_ret
                            exact ⟨rfl, way_base gr⟩
                  · have hyl : y < 0 := by omega
                    clear hy hy0
                    as_aux_lemma =>
                      obtain ⟨C8, h8⟩ : ∃ C8, C8 = doF 8 n a b := ⟨_, rfl⟩
                      obtain ⟨C9, h9⟩ : ∃ C9, C9 = doF 9 n a b := ⟨_, rfl⟩
                      obtain ⟨I8, hI8⟩ : ∃ I8, I8 = pop 32 C8 := ⟨_, rfl⟩
                      obtain ⟨I9, hI9⟩ : ∃ I9, I9 = pop 32 C9 := ⟨_, rfl⟩
                      obtain ⟨IB, hIB⟩ : ∃ IB, IB = pop 32 b := ⟨_, rfl⟩
                      have l8 : C8 < pw n := by rw [h8]; exact Nat.lt_of_le_of_lt Nat.and_le_left ha
                      have l9 : C9 < pw n := by rw [h9]; exact Nat.or_lt_two_pow ha hb
                      have p8 := pop_le 32 C8
                      have p9 := pop_le 32 C9
                      have pb := pop_le 32 b
                      have pa := pop_le 32 a
                      rw [← hI8] at p8
                      rw [← hI9] at p9
                      rw [← hIB] at pb
                      have hsum := pop_and_or 32 a b
                      have RI := Lib.hid (show (pop 32 a : Int) = (I8 : Int) + (I9 : Int) - (IB : Int) by rw [hI8, hI9, hIB, h8, h9]; show (pop 32 a : Int) = (pop 32 (a &&& b) : Int) + (pop 32 (a ||| b) : Int) - (pop 32 b : Int); omega)
                      have q1 : 0 ≤ (I8 : Int) + (I9 : Int) - (IB : Int) := by rw [← RI.out]; omega
                      have RIB := Lib.hid (show (pop 32 b : Int) = (IB : Int) by rw [hIB])
                      have RI8 := Lib.hid (show (pop 32 C8 : Int) = (I8 : Int) by rw [hI8])
                      have RI9 := Lib.hid (show (pop 32 C9 : Int) = (I9 : Int) by rw [hI9])
                      have R8 := Lib.hid (show (doF 8 n a b : Int) = (C8 : Int) by rw [h8])
                      have R9 := Lib.hid (show (doF 9 n a b : Int) = (C9 : Int) by rw [h9])
                      clear h8 h9 hI8 hI9 hIB hsum pa
                      go_wp2_with fail
                      refine (does_at n a b _ gv.1 h1 h2 ha hb 8 (C8 : Int) (by omega) (by omega) rfl R8.out).mono ?_
                      rintro e v1 ⟨rfl, hv1⟩
                      have gv := gv.next hv1
                      go_wp2_with fail
                      refine (does_at n a b _ gv.1 h1 h2 ha hb 9 (C9 : Int) (by omega) (by omega) rfl R9.out).mono ?_
                      rintro e v2 ⟨rfl, hv2⟩
                      have gv := gv.next hv2
                      have z3 := box_cell gv K3.out
                      go_wp2_with fail
                      refine (ones_at n a _ _ gv.1 h1 h2 ha RI.out).mono ?_
                      rintro e v3 ⟨rfl, rfl⟩
                      go_wp2_with fail
                      refine (ones_at n b _ _ gv.1 h1 h2 hb RIB.out).mono ?_
                      rintro e v3 ⟨rfl, rfl⟩
                      go_wp2_with fail
                      refine (ones_at n C8 _ _ gv.1 h1 h2 l8 RI8.out).mono ?_
                      rintro e v3 ⟨rfl, rfl⟩
                      go_wp2_with fail
                      refine (ones_at n C9 _ _ gv.1 h1 h2 l9 RI9.out).mono ?_
                      rintro e v3 ⟨rfl, rfl⟩
                      go_wp2_with fail
                      by_cases hlb : LanesBad 19 n l a b
                      · refine (lanes_err 19 n l a b _ gv.1 hlb).mono ?_
                        rintro e v4 ⟨rfl, rfl⟩
                        go_wp2
                        go_ret
                        exact ⟨rfl, way_base gv⟩
                      · obtain ⟨lane, c, rfl, s1, s2, hc⟩ := lanes_split n l a b hlb
                        obtain ⟨LF, hLF⟩ : ∃ LF, LF = lanesF false lane a b c := ⟨_, rfl⟩
                        have lLF : LF < pw n := by rw [hLF, hc, Nat.mul_comm]; exact lanesF_lt _ _ _ _ _
                        have HC := Lib.hid hc
                        have RLF := Lib.hid hLF
                        have HM := Lib.hid (lane_mask (n := lane) (by omega))
                        have slane : lane < 32 := by omega
                        clear hlb hLF
                        refine (lanes_add n lane c a b _ gv.1 h1 h2 ha hb s1 s2 hc).mono ?_
                        rw [← RLF.out]
                        rintro e v4 ⟨rfl, nd, rfl⟩
                        clear hc
                        have gv : Way16 (w.alloc o) _ := ⟨gv.1.drewN nd, below_drewN gv.2 nd⟩
                        have z3 := box_cell gv K3.out
                        go_wp2_with fail
                        clear z3
                        go_loopw [56] (fun i wr => ∃ k T : Nat, k ≤ c ∧ T = k * lane ∧ i = .int .i64 (T : Int) ∧ Way16 (w.alloc o) wr) (fun i _ => n - (intOf i).toNat)
                        case atStart => exact ⟨0, 0, by omega, by simp, rfl, gv⟩
                        case round =>
                          obtain ⟨k, T, hk, hT, rfl, gr⟩ := hrel
                          have z3 := box_cell gr K3.out
                          have e1 := HC.out
                          by_cases hkc : k < c
                          · have h3 : (k + 1) * lane ≤ c * lane := Nat.mul_le_mul_right _ hkc
                            rw [Nat.mul_comm c, ← e1, Nat.add_mul, ← hT] at h3
                            have hTl : T + lane ≤ n := by omega
                            obtain ⟨x, hx⟩ : ∃ x, x = a / pw T % pw lane := ⟨_, rfl⟩
                            obtain ⟨z, hz⟩ : ∃ z, z = b / pw T % pw lane := ⟨_, rfl⟩
                            have lx : x < pw lane := by rw [hx]; exact Nat.mod_lt _ (pw_pos lane)
                            have lz : z < pw lane := by rw [hz]; exact Nat.mod_lt _ (pw_pos lane)
                            have HA := Lib.hid (show bits .and .u32 ((a : Int) / 2 ^ T) ((pw lane - 1 : Nat) : Int) = (x : Int) by rw [hx]; exact lane_half lane T a (by omega) (by omega))
                            have HB := Lib.hid (show bits .and .u32 ((b : Int) / 2 ^ T) ((pw lane - 1 : Nat) : Int) = (z : Int) by rw [hz]; exact lane_half lane T b (by omega) (by omega))
                            have HD := Lib.hid (show (doF 1 lane x z : Int) = bits .and .u32 ((LF : Int) / 2 ^ T) ((pw lane - 1 : Nat) : Int) by
                              rw [lane_half lane T LF (by omega) (by omega), RLF.out, hT, lane_at false lane a b s1 c k hkc, hx, hz, hT]
                              rfl)
                            have HT := Lib.hid hT
                            clear hT hx hz h3 e1
                            go_wp2_with fail
                            rw [HM.out, HA.out, HB.out]
                            refine (does_at lane x z _ gr.1 s1 (by omega) lx lz 1 _ (by omega) (by omega) rfl HD.out).mono ?_
                            rintro e v5 ⟨rfl, hv5⟩
                            have gr := gr.next hv5
                            clear z3
                            have z3 := box_cell gr K3.out
                            go_wp2
                            go_roundw
                            case rel => exact ⟨k + 1, T + lane, hkc, by rw [HT.out, Nat.add_mul]; omega, by simp, gr⟩
                            case measure => simp [intOf]; omega
                          · obtain rfl : k = c := by omega
                            have hTn : T = n := by rw [hT, e1, Nat.mul_comm]
                            have HC2 := HC
                            subst hTn
                            clear hT e1
                            go_wp2
                            go_ret
                            exact ⟨rfl, way_base gr⟩
        · as_aux_lemma =>
            have gv : Way16 (w.alloc o) _ := ⟨gr.1, g3.2.trans (gr.2.mono g3.2.size)⟩
            have z2 := box_cell gv K2.out
            have z3 := box_cell gv K3.out
            by_cases hy : 0 ≤ y ∧ y < n
            · obtain ⟨hy0, hyn⟩ := hy
              obtain ⟨m, rfl⟩ : ∃ m : Nat, y = m := ⟨y.toNat, by omega⟩
              have hm : m < n := by omega
              have hmp := by_lt_pw m n hm
              have hm32 : m < 32 := by omega
              have dy : decide (m < n) = true := by simpa using hm
              have hpm := pw_lt hm
              have hpm0 := pw_pos m
              obtain ⟨SH, hSH⟩ : ∃ SH, SH = doF 11 n a m := ⟨_, rfl⟩
              obtain ⟨Q, hQ⟩ : ∃ Q, Q = doF 12 n a m := ⟨_, rfl⟩
              obtain ⟨EX, hEX⟩ : ∃ EX, EX = brF 12 4 n a m := ⟨_, rfl⟩
              obtain ⟨Z, hZ⟩ : ∃ Z, Z = tzF SH n 0 := ⟨_, rfl⟩
              have lSH : SH < pw n := by rw [hSH]; exact wr_lt ((a : Int) * pw m)
              have hZm : m ≤ Z := by rw [hZ, hSH]; exact shl_zeros n a m hm
              have dZ : decide (Z < m) = false := by simp; omega
              have HP := Lib.hid (pow_word hm32)
              have H11 := Lib.hid (show hasF 11 n a m = true by simp [hasF, hm])
              have H12 := Lib.hid (show hasF 12 n a m = true by simp [hasF, hm])
              have H4 := Lib.hid (show hasF 4 n a (pw m) = true by simp [hasF]; omega)
              have RSH := Lib.hid (show (doF 11 n a m : Int) = (SH : Int) by rw [hSH])
              have RQ2 := Lib.hid (show (doF 12 n a m : Int) = (Q : Int) by rw [hQ])
              have REX := Lib.hid hEX.symm
              have REX2 := Lib.hid (show brF 4 4 n a (pw m) = EX by rw [exact_same, hEX])
              have RZ := Lib.hid hZ.symm
              clear hy0 hyn hSH hQ hEX hZ
              go_wp2_with fail
              refine (isWord_yes n m _ h1 h2 hmp).mono ?_
              rintro e y1 ⟨rfl, rfl⟩
              go_wp2_with fail
              rw [HP.out]
              refine (does_at n a m _ gv.1 h1 h2 ha hmp 11 (SH : Int) (by omega) (by omega) H11.out RSH.out).mono ?_
              rintro e y2 ⟨rfl, hy2⟩
              have gv := gv.next hy2
              have z2 := box_cell gv K2.out
              go_wp2_with fail
              refine (does_at n a (pw m) _ gv.1 h1 h2 ha hpm 3 (SH : Int) (by omega) (by omega) rfl RSH.out).mono ?_
              rintro e y3 ⟨rfl, hy3⟩
              have gv := gv.next hy3
              have z2 := box_cell gv K2.out
              go_wp2_with fail
              refine (does_at n a m _ gv.1 h1 h2 ha hmp 12 (Q : Int) (by omega) (by omega) H12.out RQ2.out).mono ?_
              rintro e y4 ⟨rfl, hy4⟩
              have gv := gv.next hy4
              have z2 := box_cell gv K2.out
              go_wp2_with fail
              refine (does_at n a (pw m) _ gv.1 h1 h2 ha hpm 4 (Q : Int) (by omega) (by omega) H4.out RQ2.out).mono ?_
              rintro e y5 ⟨rfl, hy5⟩
              have gv := gv.next hy5
              have z2 := box_cell gv K2.out
              go_wp2_with fail
              refine (trailing_ok n SH _ gv.1 h1 h2 lSH).mono ?_
              rw [RZ.out]
              rintro e y6 ⟨rfl, rfl⟩
              go_wp2_with fail
              refine (breaks_at n a m _ gv.1 h1 h2 ha hmp 12 4 EX (by omega) (by omega) (by omega) H12.out REX.out).mono ?_
              rintro e y7 ⟨rfl, hy7⟩
              have gv := gv.next hy7
              go_wp2_with fail
              refine (breaks_at n a (pw m) _ gv.1 h1 h2 ha hpm 4 4 EX (by omega) (by omega) (by omega) H4.out REX2.out).mono ?_
              rintro e y8 ⟨rfl, hy8⟩
              have gv := gv.next hy8
              as_aux_lemma =>
                obtain ⟨C8, h8⟩ : ∃ C8, C8 = doF 8 n a b := ⟨_, rfl⟩
                obtain ⟨C9, h9⟩ : ∃ C9, C9 = doF 9 n a b := ⟨_, rfl⟩
                obtain ⟨I8, hI8⟩ : ∃ I8, I8 = pop 32 C8 := ⟨_, rfl⟩
                obtain ⟨I9, hI9⟩ : ∃ I9, I9 = pop 32 C9 := ⟨_, rfl⟩
                obtain ⟨IB, hIB⟩ : ∃ IB, IB = pop 32 b := ⟨_, rfl⟩
                have l8 : C8 < pw n := by rw [h8]; exact Nat.lt_of_le_of_lt Nat.and_le_left ha
                have l9 : C9 < pw n := by rw [h9]; exact Nat.or_lt_two_pow ha hb
                have p8 := pop_le 32 C8
                have p9 := pop_le 32 C9
                have pb := pop_le 32 b
                have pa := pop_le 32 a
                rw [← hI8] at p8
                rw [← hI9] at p9
                rw [← hIB] at pb
                have hsum := pop_and_or 32 a b
                have RI := Lib.hid (show (pop 32 a : Int) = (I8 : Int) + (I9 : Int) - (IB : Int) by rw [hI8, hI9, hIB, h8, h9]; show (pop 32 a : Int) = (pop 32 (a &&& b) : Int) + (pop 32 (a ||| b) : Int) - (pop 32 b : Int); omega)
                have q1 : 0 ≤ (I8 : Int) + (I9 : Int) - (IB : Int) := by rw [← RI.out]; omega
                have RIB := Lib.hid (show (pop 32 b : Int) = (IB : Int) by rw [hIB])
                have RI8 := Lib.hid (show (pop 32 C8 : Int) = (I8 : Int) by rw [hI8])
                have RI9 := Lib.hid (show (pop 32 C9 : Int) = (I9 : Int) by rw [hI9])
                have R8 := Lib.hid (show (doF 8 n a b : Int) = (C8 : Int) by rw [h8])
                have R9 := Lib.hid (show (doF 9 n a b : Int) = (C9 : Int) by rw [h9])
                clear h8 h9 hI8 hI9 hIB hsum pa
                go_wp2_with fail
                refine (does_at n a b _ gv.1 h1 h2 ha hb 8 (C8 : Int) (by omega) (by omega) rfl R8.out).mono ?_
                rintro e v1 ⟨rfl, hv1⟩
                have gv := gv.next hv1
                go_wp2_with fail
                refine (does_at n a b _ gv.1 h1 h2 ha hb 9 (C9 : Int) (by omega) (by omega) rfl R9.out).mono ?_
                rintro e v2 ⟨rfl, hv2⟩
                have gv := gv.next hv2
                have z3 := box_cell gv K3.out
                go_wp2_with fail
                refine (ones_at n a _ _ gv.1 h1 h2 ha RI.out).mono ?_
                rintro e v3 ⟨rfl, rfl⟩
                go_wp2_with fail
                refine (ones_at n b _ _ gv.1 h1 h2 hb RIB.out).mono ?_
                rintro e v3 ⟨rfl, rfl⟩
                go_wp2_with fail
                refine (ones_at n C8 _ _ gv.1 h1 h2 l8 RI8.out).mono ?_
                rintro e v3 ⟨rfl, rfl⟩
                go_wp2_with fail
                refine (ones_at n C9 _ _ gv.1 h1 h2 l9 RI9.out).mono ?_
                rintro e v3 ⟨rfl, rfl⟩
                go_wp2_with fail
                by_cases hlb : LanesBad 19 n l a b
                · refine (lanes_err 19 n l a b _ gv.1 hlb).mono ?_
                  rintro e v4 ⟨rfl, rfl⟩
                  go_wp2
                  go_ret
                  exact ⟨rfl, way_base gv⟩
                · obtain ⟨lane, c, rfl, s1, s2, hc⟩ := lanes_split n l a b hlb
                  obtain ⟨LF, hLF⟩ : ∃ LF, LF = lanesF false lane a b c := ⟨_, rfl⟩
                  have lLF : LF < pw n := by rw [hLF, hc, Nat.mul_comm]; exact lanesF_lt _ _ _ _ _
                  have HC := Lib.hid hc
                  have RLF := Lib.hid hLF
                  have HM := Lib.hid (lane_mask (n := lane) (by omega))
                  have slane : lane < 32 := by omega
                  clear hlb hLF
                  refine (lanes_add n lane c a b _ gv.1 h1 h2 ha hb s1 s2 hc).mono ?_
                  rw [← RLF.out]
                  rintro e v4 ⟨rfl, nd, rfl⟩
                  clear hc
                  have gv : Way16 (w.alloc o) _ := ⟨gv.1.drewN nd, below_drewN gv.2 nd⟩
                  have z3 := box_cell gv K3.out
                  go_wp2_with fail
                  clear z3
                  go_loopw [56] (fun i wr => ∃ k T : Nat, k ≤ c ∧ T = k * lane ∧ i = .int .i64 (T : Int) ∧ Way16 (w.alloc o) wr) (fun i _ => n - (intOf i).toNat)
                  case atStart => exact ⟨0, 0, by omega, by simp, rfl, gv⟩
                  case round =>
                    obtain ⟨k, T, hk, hT, rfl, gr⟩ := hrel
                    have z3 := box_cell gr K3.out
                    have e1 := HC.out
                    by_cases hkc : k < c
                    · have h3 : (k + 1) * lane ≤ c * lane := Nat.mul_le_mul_right _ hkc
                      rw [Nat.mul_comm c, ← e1, Nat.add_mul, ← hT] at h3
                      have hTl : T + lane ≤ n := by omega
                      obtain ⟨x, hx⟩ : ∃ x, x = a / pw T % pw lane := ⟨_, rfl⟩
                      obtain ⟨z, hz⟩ : ∃ z, z = b / pw T % pw lane := ⟨_, rfl⟩
                      have lx : x < pw lane := by rw [hx]; exact Nat.mod_lt _ (pw_pos lane)
                      have lz : z < pw lane := by rw [hz]; exact Nat.mod_lt _ (pw_pos lane)
                      have HA := Lib.hid (show bits .and .u32 ((a : Int) / 2 ^ T) ((pw lane - 1 : Nat) : Int) = (x : Int) by rw [hx]; exact lane_half lane T a (by omega) (by omega))
                      have HB := Lib.hid (show bits .and .u32 ((b : Int) / 2 ^ T) ((pw lane - 1 : Nat) : Int) = (z : Int) by rw [hz]; exact lane_half lane T b (by omega) (by omega))
                      have HD := Lib.hid (show (doF 1 lane x z : Int) = bits .and .u32 ((LF : Int) / 2 ^ T) ((pw lane - 1 : Nat) : Int) by
                        rw [lane_half lane T LF (by omega) (by omega), RLF.out, hT, lane_at false lane a b s1 c k hkc, hx, hz, hT]
                        rfl)
                      have HT := Lib.hid hT
                      clear hT hx hz h3 e1
                      go_wp2_with fail
                      rw [HM.out, HA.out, HB.out]
                      refine (does_at lane x z _ gr.1 s1 (by omega) lx lz 1 _ (by omega) (by omega) rfl HD.out).mono ?_
                      rintro e v5 ⟨rfl, hv5⟩
                      have gr := gr.next hv5
                      clear z3
                      have z3 := box_cell gr K3.out
                      go_wp2
                      go_roundw
                      case rel => exact ⟨k + 1, T + lane, hkc, by rw [HT.out, Nat.add_mul]; omega, by simp, gr⟩
                      case measure => simp [intOf]; omega
                    · obtain rfl : k = c := by omega
                      have hTn : T = n := by rw [hT, e1, Nat.mul_comm]
                      have HC2 := HC
                      subst hTn
                      clear hT e1
                      go_wp2
                      go_ret
                      exact ⟨rfl, way_base gr⟩
            · by_cases hy0 : 0 ≤ y
              · have hyn : (n : Int) ≤ y := by omega
                have dy : decide (y < (n : Int)) = false := by simp; omega
                clear hy
                as_aux_lemma =>
                  obtain ⟨C8, h8⟩ : ∃ C8, C8 = doF 8 n a b := ⟨_, rfl⟩
                  obtain ⟨C9, h9⟩ : ∃ C9, C9 = doF 9 n a b := ⟨_, rfl⟩
                  obtain ⟨I8, hI8⟩ : ∃ I8, I8 = pop 32 C8 := ⟨_, rfl⟩
                  obtain ⟨I9, hI9⟩ : ∃ I9, I9 = pop 32 C9 := ⟨_, rfl⟩
                  obtain ⟨IB, hIB⟩ : ∃ IB, IB = pop 32 b := ⟨_, rfl⟩
                  have l8 : C8 < pw n := by rw [h8]; exact Nat.lt_of_le_of_lt Nat.and_le_left ha
                  have l9 : C9 < pw n := by rw [h9]; exact Nat.or_lt_two_pow ha hb
                  have p8 := pop_le 32 C8
                  have p9 := pop_le 32 C9
                  have pb := pop_le 32 b
                  have pa := pop_le 32 a
                  rw [← hI8] at p8
                  rw [← hI9] at p9
                  rw [← hIB] at pb
                  have hsum := pop_and_or 32 a b
                  have RI := Lib.hid (show (pop 32 a : Int) = (I8 : Int) + (I9 : Int) - (IB : Int) by rw [hI8, hI9, hIB, h8, h9]; show (pop 32 a : Int) = (pop 32 (a &&& b) : Int) + (pop 32 (a ||| b) : Int) - (pop 32 b : Int); omega)
                  have q1 : 0 ≤ (I8 : Int) + (I9 : Int) - (IB : Int) := by rw [← RI.out]; omega
                  have RIB := Lib.hid (show (pop 32 b : Int) = (IB : Int) by rw [hIB])
                  have RI8 := Lib.hid (show (pop 32 C8 : Int) = (I8 : Int) by rw [hI8])
                  have RI9 := Lib.hid (show (pop 32 C9 : Int) = (I9 : Int) by rw [hI9])
                  have R8 := Lib.hid (show (doF 8 n a b : Int) = (C8 : Int) by rw [h8])
                  have R9 := Lib.hid (show (doF 9 n a b : Int) = (C9 : Int) by rw [h9])
                  clear h8 h9 hI8 hI9 hIB hsum pa
                  go_wp2_with fail
                  refine (does_at n a b _ gv.1 h1 h2 ha hb 8 (C8 : Int) (by omega) (by omega) rfl R8.out).mono ?_
                  rintro e v1 ⟨rfl, hv1⟩
                  have gv := gv.next hv1
                  go_wp2_with fail
                  refine (does_at n a b _ gv.1 h1 h2 ha hb 9 (C9 : Int) (by omega) (by omega) rfl R9.out).mono ?_
                  rintro e v2 ⟨rfl, hv2⟩
                  have gv := gv.next hv2
                  have z3 := box_cell gv K3.out
                  go_wp2_with fail
                  refine (ones_at n a _ _ gv.1 h1 h2 ha RI.out).mono ?_
                  rintro e v3 ⟨rfl, rfl⟩
                  go_wp2_with fail
                  refine (ones_at n b _ _ gv.1 h1 h2 hb RIB.out).mono ?_
                  rintro e v3 ⟨rfl, rfl⟩
                  go_wp2_with fail
                  refine (ones_at n C8 _ _ gv.1 h1 h2 l8 RI8.out).mono ?_
                  rintro e v3 ⟨rfl, rfl⟩
                  go_wp2_with fail
                  refine (ones_at n C9 _ _ gv.1 h1 h2 l9 RI9.out).mono ?_
                  rintro e v3 ⟨rfl, rfl⟩
                  go_wp2_with fail
                  by_cases hlb : LanesBad 19 n l a b
                  · refine (lanes_err 19 n l a b _ gv.1 hlb).mono ?_
                    rintro e v4 ⟨rfl, rfl⟩
                    go_wp2
                    go_ret
                    exact ⟨rfl, way_base gv⟩
                  · obtain ⟨lane, c, rfl, s1, s2, hc⟩ := lanes_split n l a b hlb
                    obtain ⟨LF, hLF⟩ : ∃ LF, LF = lanesF false lane a b c := ⟨_, rfl⟩
                    have lLF : LF < pw n := by rw [hLF, hc, Nat.mul_comm]; exact lanesF_lt _ _ _ _ _
                    have HC := Lib.hid hc
                    have RLF := Lib.hid hLF
                    have HM := Lib.hid (lane_mask (n := lane) (by omega))
                    have slane : lane < 32 := by omega
                    clear hlb hLF
                    refine (lanes_add n lane c a b _ gv.1 h1 h2 ha hb s1 s2 hc).mono ?_
                    rw [← RLF.out]
                    rintro e v4 ⟨rfl, nd, rfl⟩
                    clear hc
                    have gv : Way16 (w.alloc o) _ := ⟨gv.1.drewN nd, below_drewN gv.2 nd⟩
                    have z3 := box_cell gv K3.out
                    go_wp2_with fail
                    clear z3
                    go_loopw [56] (fun i wr => ∃ k T : Nat, k ≤ c ∧ T = k * lane ∧ i = .int .i64 (T : Int) ∧ Way16 (w.alloc o) wr) (fun i _ => n - (intOf i).toNat)
                    case atStart => exact ⟨0, 0, by omega, by simp, rfl, gv⟩
                    case round =>
                      obtain ⟨k, T, hk, hT, rfl, gr⟩ := hrel
                      have z3 := box_cell gr K3.out
                      have e1 := HC.out
                      by_cases hkc : k < c
                      · have h3 : (k + 1) * lane ≤ c * lane := Nat.mul_le_mul_right _ hkc
                        rw [Nat.mul_comm c, ← e1, Nat.add_mul, ← hT] at h3
                        have hTl : T + lane ≤ n := by omega
                        obtain ⟨x, hx⟩ : ∃ x, x = a / pw T % pw lane := ⟨_, rfl⟩
                        obtain ⟨z, hz⟩ : ∃ z, z = b / pw T % pw lane := ⟨_, rfl⟩
                        have lx : x < pw lane := by rw [hx]; exact Nat.mod_lt _ (pw_pos lane)
                        have lz : z < pw lane := by rw [hz]; exact Nat.mod_lt _ (pw_pos lane)
                        have HA := Lib.hid (show bits .and .u32 ((a : Int) / 2 ^ T) ((pw lane - 1 : Nat) : Int) = (x : Int) by rw [hx]; exact lane_half lane T a (by omega) (by omega))
                        have HB := Lib.hid (show bits .and .u32 ((b : Int) / 2 ^ T) ((pw lane - 1 : Nat) : Int) = (z : Int) by rw [hz]; exact lane_half lane T b (by omega) (by omega))
                        have HD := Lib.hid (show (doF 1 lane x z : Int) = bits .and .u32 ((LF : Int) / 2 ^ T) ((pw lane - 1 : Nat) : Int) by
                          rw [lane_half lane T LF (by omega) (by omega), RLF.out, hT, lane_at false lane a b s1 c k hkc, hx, hz, hT]
                          rfl)
                        have HT := Lib.hid hT
                        clear hT hx hz h3 e1
                        go_wp2_with fail
                        rw [HM.out, HA.out, HB.out]
                        refine (does_at lane x z _ gr.1 s1 (by omega) lx lz 1 _ (by omega) (by omega) rfl HD.out).mono ?_
                        rintro e v5 ⟨rfl, hv5⟩
                        have gr := gr.next hv5
                        clear z3
                        have z3 := box_cell gr K3.out
                        go_wp2
                        go_roundw
                        case rel => exact ⟨k + 1, T + lane, hkc, by rw [HT.out, Nat.add_mul]; omega, by simp, gr⟩
                        case measure => simp [intOf]; omega
                      · obtain rfl : k = c := by omega
                        have hTn : T = n := by rw [hT, e1, Nat.mul_comm]
                        have HC2 := HC
                        subst hTn
                        clear hT e1
                        go_wp2
                        go_ret
                        exact ⟨rfl, way_base gr⟩
              · have hyl : y < 0 := by omega
                clear hy hy0
                as_aux_lemma =>
                  obtain ⟨C8, h8⟩ : ∃ C8, C8 = doF 8 n a b := ⟨_, rfl⟩
                  obtain ⟨C9, h9⟩ : ∃ C9, C9 = doF 9 n a b := ⟨_, rfl⟩
                  obtain ⟨I8, hI8⟩ : ∃ I8, I8 = pop 32 C8 := ⟨_, rfl⟩
                  obtain ⟨I9, hI9⟩ : ∃ I9, I9 = pop 32 C9 := ⟨_, rfl⟩
                  obtain ⟨IB, hIB⟩ : ∃ IB, IB = pop 32 b := ⟨_, rfl⟩
                  have l8 : C8 < pw n := by rw [h8]; exact Nat.lt_of_le_of_lt Nat.and_le_left ha
                  have l9 : C9 < pw n := by rw [h9]; exact Nat.or_lt_two_pow ha hb
                  have p8 := pop_le 32 C8
                  have p9 := pop_le 32 C9
                  have pb := pop_le 32 b
                  have pa := pop_le 32 a
                  rw [← hI8] at p8
                  rw [← hI9] at p9
                  rw [← hIB] at pb
                  have hsum := pop_and_or 32 a b
                  have RI := Lib.hid (show (pop 32 a : Int) = (I8 : Int) + (I9 : Int) - (IB : Int) by rw [hI8, hI9, hIB, h8, h9]; show (pop 32 a : Int) = (pop 32 (a &&& b) : Int) + (pop 32 (a ||| b) : Int) - (pop 32 b : Int); omega)
                  have q1 : 0 ≤ (I8 : Int) + (I9 : Int) - (IB : Int) := by rw [← RI.out]; omega
                  have RIB := Lib.hid (show (pop 32 b : Int) = (IB : Int) by rw [hIB])
                  have RI8 := Lib.hid (show (pop 32 C8 : Int) = (I8 : Int) by rw [hI8])
                  have RI9 := Lib.hid (show (pop 32 C9 : Int) = (I9 : Int) by rw [hI9])
                  have R8 := Lib.hid (show (doF 8 n a b : Int) = (C8 : Int) by rw [h8])
                  have R9 := Lib.hid (show (doF 9 n a b : Int) = (C9 : Int) by rw [h9])
                  clear h8 h9 hI8 hI9 hIB hsum pa
                  go_wp2_with fail
                  refine (does_at n a b _ gv.1 h1 h2 ha hb 8 (C8 : Int) (by omega) (by omega) rfl R8.out).mono ?_
                  rintro e v1 ⟨rfl, hv1⟩
                  have gv := gv.next hv1
                  go_wp2_with fail
                  refine (does_at n a b _ gv.1 h1 h2 ha hb 9 (C9 : Int) (by omega) (by omega) rfl R9.out).mono ?_
                  rintro e v2 ⟨rfl, hv2⟩
                  have gv := gv.next hv2
                  have z3 := box_cell gv K3.out
                  go_wp2_with fail
                  refine (ones_at n a _ _ gv.1 h1 h2 ha RI.out).mono ?_
                  rintro e v3 ⟨rfl, rfl⟩
                  go_wp2_with fail
                  refine (ones_at n b _ _ gv.1 h1 h2 hb RIB.out).mono ?_
                  rintro e v3 ⟨rfl, rfl⟩
                  go_wp2_with fail
                  refine (ones_at n C8 _ _ gv.1 h1 h2 l8 RI8.out).mono ?_
                  rintro e v3 ⟨rfl, rfl⟩
                  go_wp2_with fail
                  refine (ones_at n C9 _ _ gv.1 h1 h2 l9 RI9.out).mono ?_
                  rintro e v3 ⟨rfl, rfl⟩
                  go_wp2_with fail
                  by_cases hlb : LanesBad 19 n l a b
                  · refine (lanes_err 19 n l a b _ gv.1 hlb).mono ?_
                    rintro e v4 ⟨rfl, rfl⟩
                    go_wp2
                    go_ret
                    exact ⟨rfl, way_base gv⟩
                  · obtain ⟨lane, c, rfl, s1, s2, hc⟩ := lanes_split n l a b hlb
                    obtain ⟨LF, hLF⟩ : ∃ LF, LF = lanesF false lane a b c := ⟨_, rfl⟩
                    have lLF : LF < pw n := by rw [hLF, hc, Nat.mul_comm]; exact lanesF_lt _ _ _ _ _
                    have HC := Lib.hid hc
                    have RLF := Lib.hid hLF
                    have HM := Lib.hid (lane_mask (n := lane) (by omega))
                    have slane : lane < 32 := by omega
                    clear hlb hLF
                    refine (lanes_add n lane c a b _ gv.1 h1 h2 ha hb s1 s2 hc).mono ?_
                    rw [← RLF.out]
                    rintro e v4 ⟨rfl, nd, rfl⟩
                    clear hc
                    have gv : Way16 (w.alloc o) _ := ⟨gv.1.drewN nd, below_drewN gv.2 nd⟩
                    have z3 := box_cell gv K3.out
                    go_wp2_with fail
                    clear z3
                    go_loopw [56] (fun i wr => ∃ k T : Nat, k ≤ c ∧ T = k * lane ∧ i = .int .i64 (T : Int) ∧ Way16 (w.alloc o) wr) (fun i _ => n - (intOf i).toNat)
                    case atStart => exact ⟨0, 0, by omega, by simp, rfl, gv⟩
                    case round =>
                      obtain ⟨k, T, hk, hT, rfl, gr⟩ := hrel
                      have z3 := box_cell gr K3.out
                      have e1 := HC.out
                      by_cases hkc : k < c
                      · have h3 : (k + 1) * lane ≤ c * lane := Nat.mul_le_mul_right _ hkc
                        rw [Nat.mul_comm c, ← e1, Nat.add_mul, ← hT] at h3
                        have hTl : T + lane ≤ n := by omega
                        obtain ⟨x, hx⟩ : ∃ x, x = a / pw T % pw lane := ⟨_, rfl⟩
                        obtain ⟨z, hz⟩ : ∃ z, z = b / pw T % pw lane := ⟨_, rfl⟩
                        have lx : x < pw lane := by rw [hx]; exact Nat.mod_lt _ (pw_pos lane)
                        have lz : z < pw lane := by rw [hz]; exact Nat.mod_lt _ (pw_pos lane)
                        have HA := Lib.hid (show bits .and .u32 ((a : Int) / 2 ^ T) ((pw lane - 1 : Nat) : Int) = (x : Int) by rw [hx]; exact lane_half lane T a (by omega) (by omega))
                        have HB := Lib.hid (show bits .and .u32 ((b : Int) / 2 ^ T) ((pw lane - 1 : Nat) : Int) = (z : Int) by rw [hz]; exact lane_half lane T b (by omega) (by omega))
                        have HD := Lib.hid (show (doF 1 lane x z : Int) = bits .and .u32 ((LF : Int) / 2 ^ T) ((pw lane - 1 : Nat) : Int) by
                          rw [lane_half lane T LF (by omega) (by omega), RLF.out, hT, lane_at false lane a b s1 c k hkc, hx, hz, hT]
                          rfl)
                        have HT := Lib.hid hT
                        clear hT hx hz h3 e1
                        go_wp2_with fail
                        rw [HM.out, HA.out, HB.out]
                        refine (does_at lane x z _ gr.1 s1 (by omega) lx lz 1 _ (by omega) (by omega) rfl HD.out).mono ?_
                        rintro e v5 ⟨rfl, hv5⟩
                        have gr := gr.next hv5
                        clear z3
                        have z3 := box_cell gr K3.out
                        go_wp2
                        go_roundw
                        case rel => exact ⟨k + 1, T + lane, hkc, by rw [HT.out, Nat.add_mul]; omega, by simp, gr⟩
                        case measure => simp [intOf]; omega
                      · obtain rfl : k = c := by omega
                        have hTn : T = n := by rw [hT, e1, Nat.mul_comm]
                        have HC2 := HC
                        subst hTn
                        clear hT e1
                        go_wp2
                        go_ret
                        exact ⟨rfl, way_base gr⟩
end Go.Proofs.YtgnaohhopbhihaaDoor
