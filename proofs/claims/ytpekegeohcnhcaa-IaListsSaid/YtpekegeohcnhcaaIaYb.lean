/-
  The reference's encode, Validate, Encode.
-/
import Derived.Test.YtpekegeohcnhcaaIaYa
namespace Go.Proofs.Ytpekegeohcnhcaa
open Go.RowKit
theorem bod_le (x : Ins) : (bod x).length ≤ 100 := by
  unfold bod wrB
  split <;> (try split) <;> simp [les, le4, le2] <;> (try split) <;> simp
set_option maxRecDepth 100000 in
set_option maxHeartbeats 4000000 in
theorem rEncode_8 (op d s imm : Int) (w : World) (h1 : -9223372036854775808 ≤ imm) (h2 : imm ≤ 9223372036854775807) : Calls Try.prog 26 #[aggI ⟨op, d, s, 8, imm⟩] w (REnd w (valB ⟨op, d, s, 8, imm⟩) (encF ⟨op, d, s, 8, imm⟩)) := by
  obtain ⟨i0, hi, hz0, hz1, hz2⟩ := info_parts infoBy
  have hp := val_parts ⟨op, d, s, 8, imm⟩
  have HM := Lib.hid (fun w1 => rMoves_any ⟨op, d, s, 8, imm⟩ (by simp) h1 h2 w1)
  have HC := Lib.hid (fun w1 => rCounts_any ⟨op, d, s, 8, imm⟩ (by simp) h1 h2 w1)
  have HO := Lib.hid (fun w1 => rOthers_any ⟨op, d, s, 8, imm⟩ (by simp) h1 h2 w1)
  have hl : 0 < (bod ⟨op, d, s, 8, imm⟩).length := wr_pos _ _ _ _
  have hl2 : (bod ⟨op, d, s, 8, imm⟩).length ≤ 100 := bod_le _
  rw [show encF ⟨op, d, s, 8, imm⟩ = bod ⟨op, d, s, 8, imm⟩ from rfl]
  generalize bod ⟨op, d, s, 8, imm⟩ = L at HM HC HO hl hl2 ⊢
  generalize mB ⟨op, d, s, 8, imm⟩ = M at HM hp
  generalize cB ⟨op, d, s, 8, imm⟩ = C at HC hp
  generalize oB ⟨op, d, s, 8, imm⟩ = O at HO hp
  rw [← hp]
  clear hp
  go_enter Try.func26, Try.ntmps26
  go_wp2_with fail
  have hx := heap_alloc_new w (.cells #[.int .i64 op, .int .i64 d, .int .i64 s, .int .i64 8, .int .i64 imm] 23)
  have hb : Below w.heap.size w (w.alloc (.cells #[.int .i64 op, .int .i64 d, .int .i64 s, .int .i64 8, .int .i64 imm] 23)) := (Below.refl _ _).alloc (Nat.le_refl _) _
  generalize World.alloc w _ = W at hx hb ⊢
  refine (HM.out _).mono ?_
  rintro e w1 ⟨V1, rfl, ho1, hw1⟩
  replace hx := (hw1.block _ (lt_of_block hx)).trans hx
  have hlow1 := hb.size
  replace hb := hb.trans (hw1.mono hb.size)
  obtain ⟨x0, x1, x2, x3, x4⟩ := cells5 hx
  cases M
  · clear ho1 hw1
    go_wp2_with fail
    refine (HC.out _).mono ?_
    rintro e w2 ⟨V2, rfl, ho2, hw2⟩
    replace hx := (hw2.block _ (lt_of_block hx)).trans hx
    have hlow2 := hb.size
    replace hb := hb.trans (hw2.mono hb.size)
    obtain ⟨x0, x1, x2, x3, x4⟩ := cells5 hx
    cases C
    · clear ho2 hw2
      go_wp2_with fail
      refine (HO.out _).mono ?_
      rintro e w3 ⟨V3, rfl, ho3, hw3⟩
      replace hx := (hw3.block _ (lt_of_block hx)).trans hx
      have hlow3 := hb.size
      replace hb := hb.trans (hw3.mono hb.size)
      obtain ⟨x0, x1, x2, x3, x4⟩ := cells5 hx
      cases O
      · go_wp2
        refine bodyPost_ret (res2 rfl _ _) rfl ?_
        exact ⟨_, rfl, fun hB => absurd hB (by simp), hb⟩
      · have ho := own_lower (ho3 rfl) hlow3
        clear ho3 hw3
        go_wp2
        refine bodyPost_ret (res2 rfl _ _) rfl ?_
        exact ⟨_, rfl, fun _ => ho, hb⟩
    · have ho := own_lower (ho2 rfl) hlow2
      clear ho2 hw2
      go_wp2
      refine bodyPost_ret (res2 rfl _ _) rfl ?_
      exact ⟨_, rfl, fun _ => ho, hb⟩
  · have ho := own_lower (ho1 rfl) hlow1
    clear ho1 hw1
    go_wp2
    refine bodyPost_ret (res2 rfl _ _) rfl ?_
    exact ⟨_, rfl, fun _ => ho, hb⟩
set_option maxRecDepth 100000 in
set_option maxHeartbeats 4000000 in
theorem rEncode_16 (op d s imm : Int) (w : World) (h1 : -9223372036854775808 ≤ imm) (h2 : imm ≤ 9223372036854775807) : Calls Try.prog 26 #[aggI ⟨op, d, s, 16, imm⟩] w (REnd w (valB ⟨op, d, s, 16, imm⟩) (encF ⟨op, d, s, 16, imm⟩)) := by
  obtain ⟨i0, hi, hz0, hz1, hz2⟩ := info_parts infoBy
  have hp := val_parts ⟨op, d, s, 16, imm⟩
  have HM := Lib.hid (fun w1 => rMoves_any ⟨op, d, s, 16, imm⟩ (by simp) h1 h2 w1)
  have HC := Lib.hid (fun w1 => rCounts_any ⟨op, d, s, 16, imm⟩ (by simp) h1 h2 w1)
  have HO := Lib.hid (fun w1 => rOthers_any ⟨op, d, s, 16, imm⟩ (by simp) h1 h2 w1)
  have hl : 0 < (bod ⟨op, d, s, 16, imm⟩).length := wr_pos _ _ _ _
  have hl2 : (bod ⟨op, d, s, 16, imm⟩).length ≤ 100 := bod_le _
  rw [show encF ⟨op, d, s, 16, imm⟩ = [102] ++ bod ⟨op, d, s, 16, imm⟩ from rfl]
  generalize bod ⟨op, d, s, 16, imm⟩ = L at HM HC HO hl hl2 ⊢
  generalize mB ⟨op, d, s, 16, imm⟩ = M at HM hp
  generalize cB ⟨op, d, s, 16, imm⟩ = C at HC hp
  generalize oB ⟨op, d, s, 16, imm⟩ = O at HO hp
  rw [← hp]
  clear hp
  go_enter Try.func26, Try.ntmps26
  go_wp2_with fail
  have hx := heap_alloc_new w (.cells #[.int .i64 op, .int .i64 d, .int .i64 s, .int .i64 16, .int .i64 imm] 23)
  have hb : Below w.heap.size w (w.alloc (.cells #[.int .i64 op, .int .i64 d, .int .i64 s, .int .i64 16, .int .i64 imm] 23)) := (Below.refl _ _).alloc (Nat.le_refl _) _
  generalize World.alloc w _ = W at hx hb ⊢
  refine (HM.out _).mono ?_
  rintro e w1 ⟨V1, rfl, ho1, hw1⟩
  replace hx := (hw1.block _ (lt_of_block hx)).trans hx
  have hlow1 := hb.size
  replace hb := hb.trans (hw1.mono hb.size)
  obtain ⟨x0, x1, x2, x3, x4⟩ := cells5 hx
  cases M
  · clear ho1 hw1
    go_wp2_with fail
    refine (HC.out _).mono ?_
    rintro e w2 ⟨V2, rfl, ho2, hw2⟩
    replace hx := (hw2.block _ (lt_of_block hx)).trans hx
    have hlow2 := hb.size
    replace hb := hb.trans (hw2.mono hb.size)
    obtain ⟨x0, x1, x2, x3, x4⟩ := cells5 hx
    cases C
    · clear ho2 hw2
      go_wp2_with fail
      refine (HO.out _).mono ?_
      rintro e w3 ⟨V3, rfl, ho3, hw3⟩
      replace hx := (hw3.block _ (lt_of_block hx)).trans hx
      have hlow3 := hb.size
      replace hb := hb.trans (hw3.mono hb.size)
      obtain ⟨x0, x1, x2, x3, x4⟩ := cells5 hx
      cases O
      · go_wp2
        refine bodyPost_ret (res2 rfl _ _) rfl ?_
        exact ⟨_, rfl, fun hB => absurd hB (by simp), hb⟩
      · have ho := own_lower (ho3 rfl) hlow3
        clear ho3 hw3
        obtain ⟨g, c, hv⟩ := own_form ho (by omega)
        subst hv
        have hon := own_lit (W := w3.alloc (.cells #[.int .u8 102] 5)) (l := [102]) (base := w.heap.size) hb.size (heap_alloc_new w3 _) (by simp)
        have ho2 := ho.alloc (.cells #[.int .u8 102] 5)
        have hbn := hb.alloc hb.size (.cells #[.int .u8 102] 5)
        go_wp2_with (at_builtin; refine wpList_append_own _ rfl _ _ 24 rfl w.heap.size 5 i0 (.int .u8 0) 1 1 Try.underlying24 hi hz0 hz1 hz2 rfl (by decide) _ _ _ rfl hon ⟨g, 0, none⟩ L.length c (byV L) rfl ?c0 ?c1 ?c2 ?c3 ?c4 ?c5 ?_)
        case c0 => rw [byV_length, Nat.mul_one]
        case c1 => exact ho2.cells rfl
        case c2 => exact byV_one _
        case c3 => unfold maxLen; simp; omega
        case c4 => simp; omega
        case c5 => exact hbn.size
        intro v3 wn3 ho3 hgr3 _
        have hb3 := hbn.grown hgr3 hbn.size (own_base hon)
        clear hgr3 ho2 hon
        rw [← byV_append] at ho3
        go_wp2
        refine bodyPost_ret (res2 rfl _ _) rfl ?_
        exact ⟨_, rfl, fun _ => by first | exact ho3 | (rw [Nat.add_comm] at ho3; exact ho3), hb3⟩
    · have ho := own_lower (ho2 rfl) hlow2
      clear ho2 hw2
      obtain ⟨g, c, hv⟩ := own_form ho (by omega)
      subst hv
      have hon := own_lit (W := w2.alloc (.cells #[.int .u8 102] 5)) (l := [102]) (base := w.heap.size) hb.size (heap_alloc_new w2 _) (by simp)
      have ho2 := ho.alloc (.cells #[.int .u8 102] 5)
      have hbn := hb.alloc hb.size (.cells #[.int .u8 102] 5)
      go_wp2_with (at_builtin; refine wpList_append_own _ rfl _ _ 24 rfl w.heap.size 5 i0 (.int .u8 0) 1 1 Try.underlying24 hi hz0 hz1 hz2 rfl (by decide) _ _ _ rfl hon ⟨g, 0, none⟩ L.length c (byV L) rfl ?c0 ?c1 ?c2 ?c3 ?c4 ?c5 ?_)
      case c0 => rw [byV_length, Nat.mul_one]
      case c1 => exact ho2.cells rfl
      case c2 => exact byV_one _
      case c3 => unfold maxLen; simp; omega
      case c4 => simp; omega
      case c5 => exact hbn.size
      intro v3 wn3 ho3 hgr3 _
      have hb3 := hbn.grown hgr3 hbn.size (own_base hon)
      clear hgr3 ho2 hon
      rw [← byV_append] at ho3
      go_wp2
      refine bodyPost_ret (res2 rfl _ _) rfl ?_
      exact ⟨_, rfl, fun _ => by first | exact ho3 | (rw [Nat.add_comm] at ho3; exact ho3), hb3⟩
  · have ho := own_lower (ho1 rfl) hlow1
    clear ho1 hw1
    obtain ⟨g, c, hv⟩ := own_form ho (by omega)
    subst hv
    have hon := own_lit (W := w1.alloc (.cells #[.int .u8 102] 5)) (l := [102]) (base := w.heap.size) hb.size (heap_alloc_new w1 _) (by simp)
    have ho2 := ho.alloc (.cells #[.int .u8 102] 5)
    have hbn := hb.alloc hb.size (.cells #[.int .u8 102] 5)
    go_wp2_with (at_builtin; refine wpList_append_own _ rfl _ _ 24 rfl w.heap.size 5 i0 (.int .u8 0) 1 1 Try.underlying24 hi hz0 hz1 hz2 rfl (by decide) _ _ _ rfl hon ⟨g, 0, none⟩ L.length c (byV L) rfl ?c0 ?c1 ?c2 ?c3 ?c4 ?c5 ?_)
    case c0 => rw [byV_length, Nat.mul_one]
    case c1 => exact ho2.cells rfl
    case c2 => exact byV_one _
    case c3 => unfold maxLen; simp; omega
    case c4 => simp; omega
    case c5 => exact hbn.size
    intro v3 wn3 ho3 hgr3 _
    have hb3 := hbn.grown hgr3 hbn.size (own_base hon)
    clear hgr3 ho2 hon
    rw [← byV_append] at ho3
    go_wp2
    refine bodyPost_ret (res2 rfl _ _) rfl ?_
    exact ⟨_, rfl, fun _ => by first | exact ho3 | (rw [Nat.add_comm] at ho3; exact ho3), hb3⟩
set_option maxRecDepth 100000 in
set_option maxHeartbeats 4000000 in
theorem rEncode_32 (op d s imm : Int) (w : World) (h1 : -9223372036854775808 ≤ imm) (h2 : imm ≤ 9223372036854775807) : Calls Try.prog 26 #[aggI ⟨op, d, s, 32, imm⟩] w (REnd w (valB ⟨op, d, s, 32, imm⟩) (encF ⟨op, d, s, 32, imm⟩)) := by
  obtain ⟨i0, hi, hz0, hz1, hz2⟩ := info_parts infoBy
  have hp := val_parts ⟨op, d, s, 32, imm⟩
  have HM := Lib.hid (fun w1 => rMoves_any ⟨op, d, s, 32, imm⟩ (by simp) h1 h2 w1)
  have HC := Lib.hid (fun w1 => rCounts_any ⟨op, d, s, 32, imm⟩ (by simp) h1 h2 w1)
  have HO := Lib.hid (fun w1 => rOthers_any ⟨op, d, s, 32, imm⟩ (by simp) h1 h2 w1)
  have hl : 0 < (bod ⟨op, d, s, 32, imm⟩).length := wr_pos _ _ _ _
  have hl2 : (bod ⟨op, d, s, 32, imm⟩).length ≤ 100 := bod_le _
  rw [show encF ⟨op, d, s, 32, imm⟩ = bod ⟨op, d, s, 32, imm⟩ from rfl]
  generalize bod ⟨op, d, s, 32, imm⟩ = L at HM HC HO hl hl2 ⊢
  generalize mB ⟨op, d, s, 32, imm⟩ = M at HM hp
  generalize cB ⟨op, d, s, 32, imm⟩ = C at HC hp
  generalize oB ⟨op, d, s, 32, imm⟩ = O at HO hp
  rw [← hp]
  clear hp
  go_enter Try.func26, Try.ntmps26
  go_wp2_with fail
  have hx := heap_alloc_new w (.cells #[.int .i64 op, .int .i64 d, .int .i64 s, .int .i64 32, .int .i64 imm] 23)
  have hb : Below w.heap.size w (w.alloc (.cells #[.int .i64 op, .int .i64 d, .int .i64 s, .int .i64 32, .int .i64 imm] 23)) := (Below.refl _ _).alloc (Nat.le_refl _) _
  generalize World.alloc w _ = W at hx hb ⊢
  refine (HM.out _).mono ?_
  rintro e w1 ⟨V1, rfl, ho1, hw1⟩
  replace hx := (hw1.block _ (lt_of_block hx)).trans hx
  have hlow1 := hb.size
  replace hb := hb.trans (hw1.mono hb.size)
  obtain ⟨x0, x1, x2, x3, x4⟩ := cells5 hx
  cases M
  · clear ho1 hw1
    go_wp2_with fail
    refine (HC.out _).mono ?_
    rintro e w2 ⟨V2, rfl, ho2, hw2⟩
    replace hx := (hw2.block _ (lt_of_block hx)).trans hx
    have hlow2 := hb.size
    replace hb := hb.trans (hw2.mono hb.size)
    obtain ⟨x0, x1, x2, x3, x4⟩ := cells5 hx
    cases C
    · clear ho2 hw2
      go_wp2_with fail
      refine (HO.out _).mono ?_
      rintro e w3 ⟨V3, rfl, ho3, hw3⟩
      replace hx := (hw3.block _ (lt_of_block hx)).trans hx
      have hlow3 := hb.size
      replace hb := hb.trans (hw3.mono hb.size)
      obtain ⟨x0, x1, x2, x3, x4⟩ := cells5 hx
      cases O
      · go_wp2
        refine bodyPost_ret (res2 rfl _ _) rfl ?_
        exact ⟨_, rfl, fun hB => absurd hB (by simp), hb⟩
      · have ho := own_lower (ho3 rfl) hlow3
        clear ho3 hw3
        go_wp2
        refine bodyPost_ret (res2 rfl _ _) rfl ?_
        exact ⟨_, rfl, fun _ => ho, hb⟩
    · have ho := own_lower (ho2 rfl) hlow2
      clear ho2 hw2
      go_wp2
      refine bodyPost_ret (res2 rfl _ _) rfl ?_
      exact ⟨_, rfl, fun _ => ho, hb⟩
  · have ho := own_lower (ho1 rfl) hlow1
    clear ho1 hw1
    go_wp2
    refine bodyPost_ret (res2 rfl _ _) rfl ?_
    exact ⟨_, rfl, fun _ => ho, hb⟩
set_option maxRecDepth 100000 in
theorem rEncode_any (x : Ins) (w : World) (h1 : -9223372036854775808 ≤ x.imm) (h2 : x.imm ≤ 9223372036854775807) : Calls Try.prog 26 #[aggI x] w (REnd w (valB x) (encF x)) := by
  obtain ⟨op, d, s, sz, imm⟩ := x
  by_cases e8 : sz = 8
  · subst e8; exact rEncode_8 op d s imm w h1 h2
  by_cases e16 : sz = 16
  · subst e16; exact rEncode_16 op d s imm w h1 h2
  by_cases e32 : sz = 32
  · subst e32; exact rEncode_32 op d s imm w h1 h2
  have hv : valB ⟨op, d, s, sz, imm⟩ = false := by
    unfold valB szB
    rw [decide_eq_false e8, decide_eq_false e16, decide_eq_false e32]
    simp
  rw [hv]
  have f8 : (sz != 8) = true := by simp [e8]
  have f16 : (sz != 16) = true := by simp [e16]
  have f32 : (sz != 32) = true := by simp [e32]
  generalize encF _ = L
  clear hv e8 e16 e32 h1 h2
  go_enter Try.func26, Try.ntmps26
  go_wp2
  refine bodyPost_ret (res2 rfl _ _) rfl ?_
  exact ⟨_, rfl, fun hB => absurd hB (by simp), (Below.refl _ _).alloc (Nat.le_refl _) _⟩
end Go.Proofs.Ytpekegeohcnhcaa
