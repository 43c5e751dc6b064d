/-
  known returns true.
-/
import Derived.Test.YthkaclmnbahieaaDoorRvN
namespace Go.Proofs.YthkaclmnbahieaaDoor
open Go.RowKit

theorem err_k : errF ⟨15, 5, 0, 0, -1⟩ = 0 := by decide +kernel
theorem wrd_k : wrdF ⟨15, 5, 0, 0, -1⟩ = 4293919379 := by decide +kernel
theorem decI_k : decI 4261584611 = ⟨32, 0, 5, 0, -4⟩ := by decide +kernel
theorem decB_k : decB 4261584611 = true := by decide +kernel
set_option maxRecDepth 100000 in
set_option maxHeartbeats 8000000 in
theorem text_k (w : World) (hL : Laid w) : Calls Tryd.prog 24 #[rvA 15 5 0 0 (-1)] w fun e w' => e = .returned (.tuple #[.string ⟨#[97, 100, 100, 105, 32, 120, 53, 32, 120, 48, 32, 45, 49]⟩, .int .i64 0]) ∧ Below w.heap.size w w' := by
  have HV := Lib.hid (fun w1 h1 => validate_any ⟨15, 5, 0, 0, -1⟩ w1 h1)
  rw [err_k] at HV
  have i5 : (Lib.itoa 5) = [53] := by decide +kernel
  have i0 : (Lib.itoa 0) = [48] := by decide +kernel
  have im : (Lib.itoa (-1)) = [45, 49] := by decide +kernel
  have T5 := Lib.hid (fun w1 h1 => itoa_any 5 (by decide) (by decide) w1 h1)
  have T0 := Lib.hid (fun w1 h1 => itoa_any 0 (by decide) (by decide) w1 h1)
  have Tm := Lib.hid (fun w1 h1 => itoa_any (-1) (by decide) (by decide) w1 h1)
  rw [i5] at T5
  rw [i0] at T0
  rw [im] at Tm
  clear i5 i0 im
  have hb0 : Below w.heap.size w (w.alloc (.cells #[.int .i64 15, .int .i64 5, .int .i64 0, .int .i64 0, .int .i64 (-1)] 23)) := (Below.refl _ _).alloc (Nat.le_refl _) _
  have hx := heap_alloc_new w (.cells #[.int .i64 15, .int .i64 5, .int .i64 0, .int .i64 0, .int .i64 (-1)] 23)
  go_enter Tryd.func24, Tryd.ntmps24
  go_upto_region 1 with fail
  replace hL := hL.below hb0
  generalize World.alloc w _ = W at hx hb0 hL ⊢
  obtain ⟨X, hX⟩ : ∃ X, X = w.heap.size := ⟨_, rfl⟩
  rw [← hX] at hx hb0 ⊢
  have HX := Lib.hid hX
  clear hX
  obtain ⟨x0, x1, x2, x3, x4⟩ := cells5r hx
  go_wp2_with fail
  refine (HV.out _ hL).mono ?_
  rintro e w2 ⟨rfl, hb2⟩
  clear x0 x1 x2 x3 x4
  replace hL := hL.below hb2
  replace hx := (hb2.block _ (lt_of_block hx)).trans hx
  replace hb0 := hb0.trans (hb2.mono (show X ≤ W.heap.size by rw [HX.out]; exact hb0.size))
  clear hb2
  have lX := lt_of_block hx
  have HXX := Lib.hid hx
  obtain ⟨x0, x1, x2, x3, x4⟩ := cells5r hx
  clear hx
  obtain ⟨c0, -, -, -⟩ := hL.fm 15 (by decide)
  obtain ⟨s0, s1, s2, s3, s4, s5, s6⟩ := hL.sh 1 (by decide)
  have n0 : w2.cell? ⟨2, 15, none⟩ = some (.string ⟨#[97, 100, 100, 105]⟩) := hL.nmB.at_ (nm_at (i := 15) (by decide))
  have l2 := block_lt_of_cell n0
  have c0' : w2.cell? ⟨1, 60, none⟩ = some (.int .u32 1) := c0
  have s0' : w2.cell? ⟨0, 7, none⟩ = some (.bool true) := s0
  have s1' : w2.cell? ⟨0, 8, none⟩ = some (.bool true) := s1
  have s2' : w2.cell? ⟨0, 9, none⟩ = some (.bool false) := s2
  have s3' : w2.cell? ⟨0, 10, none⟩ = some (.bool true) := s3
  have s4' : w2.cell? ⟨0, 11, none⟩ = some (.int .i64 (-2048)) := s4
  have s5' : w2.cell? ⟨0, 12, none⟩ = some (.int .i64 2047) := s5
  have s6' : w2.cell? ⟨0, 13, none⟩ = some (.bool false) := s6
  clear c0 s0 s1 s2 s3 s4 s5 s6 HV
  go_upto_region 6 with fail
  have hs := heap_alloc_new w2 (.cells #[.bool true, .bool true, .bool false, .bool true, .int .i64 (-2048), .int .i64 2047, .bool false] 63)
  have hx := (heap_alloc_old w2 (.cells #[.bool true, .bool true, .bool false, .bool true, .int .i64 (-2048), .int .i64 2047, .bool false] 63) lX).trans HXX.out
  have hb1 := hb0.alloc (show X ≤ w2.heap.size from Nat.le_of_lt lX) (.cells #[.bool true, .bool true, .bool false, .bool true, .int .i64 (-2048), .int .i64 2047, .bool false] 63)
  have hL1 := hL.below ((Below.refl _ _).alloc (Nat.le_refl _) (.cells #[.bool true, .bool true, .bool false, .bool true, .int .i64 (-2048), .int .i64 2047, .bool false] 63))
  clear hL hb0 HXX lX x0 x1 x2 x3 x4 n0 l2 c0' s0' s1' s2' s3' s4' s5' s6'
  generalize World.alloc w2 _ = W3 at hs hx hb1 hL1 ⊢
  generalize w2.heap.size = S at hs ⊢
  obtain ⟨x0, x1, x2, x3, x4⟩ := cells5r hx
  obtain ⟨s0, s1, s2, s3, s4, s5, s6⟩ := cells7r hs
  go_wp2_with fail
  refine (T5.out _ hL1).mono ?_
  rintro e v0 ⟨rfl, hbk⟩
  replace hx := (hbk.block _ (lt_of_block hx)).trans hx
  replace hs := (hbk.block _ (lt_of_block hs)).trans hs
  replace hL1 := hL1.below hbk
  replace hb1 := hb1.trans (hbk.mono (show X ≤ W3.heap.size by rw [HX.out]; exact hb1.size))
  clear hbk x0 x1 x2 x3 x4 s0 s1 s2 s3 s4 s5 s6
  obtain ⟨x0, x1, x2, x3, x4⟩ := cells5r hx
  obtain ⟨s0, s1, s2, s3, s4, s5, s6⟩ := cells7r hs
  go_wp2_with fail
  refine (T0.out _ hL1).mono ?_
  rintro e v1 ⟨rfl, hbk⟩
  replace hx := (hbk.block _ (lt_of_block hx)).trans hx
  replace hs := (hbk.block _ (lt_of_block hs)).trans hs
  replace hL1 := hL1.below hbk
  replace hb1 := hb1.trans (hbk.mono (show X ≤ v0.heap.size by rw [HX.out]; exact hb1.size))
  clear hbk x0 x1 x2 x3 x4 s0 s1 s2 s3 s4 s5 s6
  obtain ⟨x0, x1, x2, x3, x4⟩ := cells5r hx
  obtain ⟨s0, s1, s2, s3, s4, s5, s6⟩ := cells7r hs
  go_wp2_with fail
  refine (Tm.out _ hL1).mono ?_
  rintro e v2 ⟨rfl, hbk⟩
  replace hx := (hbk.block _ (lt_of_block hx)).trans hx
  replace hs := (hbk.block _ (lt_of_block hs)).trans hs
  replace hL1 := hL1.below hbk
  replace hb1 := hb1.trans (hbk.mono (show X ≤ v1.heap.size by rw [HX.out]; exact hb1.size))
  clear hbk x0 x1 x2 x3 x4 s0 s1 s2 s3 s4 s5 s6
  obtain ⟨x0, x1, x2, x3, x4⟩ := cells5r hx
  obtain ⟨s0, s1, s2, s3, s4, s5, s6⟩ := cells7r hs
  go_wp2
  refine bodyPost_ret (v := .tuple #[.string ⟨#[97, 100, 100, 105, 32, 120, 53, 32, 120, 48, 32, 45, 49]⟩, .int .i64 0]) (by simp [results, Tryd.results24, go_sem]; rfl) rfl ⟨rfl, by rw [HX.out] at hb1; exact hb1⟩
set_option maxRecDepth 100000 in
set_option maxHeartbeats 8000000 in
theorem known_any (w : World) (hL : Laid w) : Calls Tryd.prog 17 #[] w fun e w' => e = .returned (.bool true) ∧ Below w.heap.size w w' := by
  have HE := Lib.hid (fun w1 h1 => Encode_any ⟨15, 5, 0, 0, -1⟩ w1 h1)
  rw [err_k, wrd_k] at HE
  have HT := Lib.hid (fun w1 h1 => text_k w1 h1)
  have HD := Lib.hid (fun w1 h1 => Decode_any 4261584611 (by decide) w1 h1)
  rw [decI_k, decB_k] at HD
  go_enter Tryd.func17, Tryd.ntmps17
  go_wp2_with fail
  refine (HE.out _ hL).mono ?_
  rintro e w1 ⟨rfl, hb1⟩
  replace hL := hL.below hb1
  go_wp2_with fail
  refine (HT.out _ hL).mono ?_
  rintro e w2 ⟨rfl, hb2⟩
  replace hL := hL.below hb2
  replace hb1 := hb1.trans (hb2.mono hb1.size)
  clear hb2
  go_wp2_with fail
  refine (HD.out _ hL).mono ?_
  rintro e w3 ⟨rfl, hb3⟩
  replace hb1 := hb1.trans (hb3.mono hb1.size)
  clear hb3 hL
  have hb4 := hb1.alloc hb1.size (.cells #[.int .i64 32, .int .i64 0, .int .i64 5, .int .i64 0, .int .i64 (-4)] 23)
  go_wp2
  go_ret
  exact ⟨rfl, hb4⟩
end Go.Proofs.YthkaclmnbahieaaDoor
