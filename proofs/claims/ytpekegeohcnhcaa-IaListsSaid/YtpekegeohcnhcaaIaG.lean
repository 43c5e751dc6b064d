/-
  encode of the program at whatever row of the table.
-/
import Derived.Test.YtpekegeohcnhcaaIaF
namespace Go.Proofs.Ytpekegeohcnhcaa
open Go.RowKit

/-- A call that makes a row of bytes. -/
abbrev Makes (f : Nat) (args : Array Value) (L : List Int) : Prop := ∀ w1, Calls Try.prog f args w1 fun e w' => ∃ v, e = .returned v ∧ w'.ownsRow w1.heap.size 5 1 v L.length (byV L) ∧ Below w1.heap.size w1 w'
set_option maxRecDepth 100000 in
set_option maxHeartbeats 4000000 in
theorem encode_row (FC : Array Value) (hFC : Forms FC) (op d s sz imm : Int) (o n z : Int) (ff wf : Nat) (L : List Int) (w : World) (_ : 0 ≤ op) (_ : op ≤ 36) (hidx : FmRow FC op o n z ff wf) (ew : Enters wf)
    (hL : 0 < L.length) (hL2 : L.length ≤ 20) (hw : Makes wf #[.agg #[.int .i64 o, .int .i64 n, .int .i64 z, fv ff, fv wf], aggI ⟨op, d, s, sz, imm⟩] L) :
    Calls Try.prog 25 #[aggI ⟨op, d, s, sz, imm⟩] w fun e w' => ∃ v, e = .returned v ∧ w'.ownsRow w.heap.size 5 1 v ((if sz = 16 then [102] else []) ++ L).length (byV ((if sz = 16 then [102] else []) ++ L)) ∧ Below w.heap.size w w' := by
  obtain ⟨i0, hi, hz0, hz1, hz2⟩ := info_parts infoBy
  obtain ⟨M, hM⟩ : ∃ M, M = (if sz = 16 then [102] else []) ++ L := ⟨_, rfl⟩
  rw [← hM]
  have HM := Lib.hid hM
  clear hM
  have HW := Lib.hid hw
  have HL := Lib.hid hL
  have HL2 := Lib.hid hL2
  clear hw hL hL2
  go_enter Try.func25, Try.ntmps25
  go_upto_region 1 with fail
  have hx := heap_alloc_new w (.cells #[.int .i64 op, .int .i64 d, .int .i64 s, .int .i64 sz, .int .i64 imm] 23)
  have hb : Below w.heap.size w (w.alloc (.cells #[.int .i64 op, .int .i64 d, .int .i64 s, .int .i64 sz, .int .i64 imm] 23)) := (Below.refl _ _).alloc (Nat.le_refl _) _
  generalize World.alloc w _ = W at hx hb ⊢
  obtain ⟨X, hX⟩ : ∃ X, X = w.heap.size := ⟨_, rfl⟩
  rw [← hX] at hx ⊢
  have HX := Lib.hid hX
  have lX := lt_of_block hx
  obtain ⟨x0, -, -, -, -⟩ := cells5 hx
  have HXX := Lib.hid hx
  have hne := World.new_ne W _ x0
  clear hX hx
  go_cut [3] from 4 (fun s3 wx => ∃ F, s3 = .pointer (some ⟨F, 0, none⟩) ∧ wx.heap[F]? = some (.cells #[.int .i64 o, .int .i64 n, .int .i64 z, fv ff, fv wf] 59 (0, 0)) ∧ Below W.heap.size W wx)
  case first =>
    go_region_held3 (fun W' => W'.cell? ⟨X, 0, none⟩ = some (.int .i64 op)) (go_keep) (first | (go_at_call 27; refine (hFC _).mono ?_; rintro e w' ⟨rfl, rfl⟩))
    all_goals go_wp2_with fail
    all_goals go_meet
    all_goals first
      | exact ⟨_, rfl, new_snd W _ _ _, two_below W _ _⟩
      | exact ⟨_, rfl, new_fst W _ _ _, two_below W _ _⟩
  case rest =>
    obtain ⟨F, rfl, hf, hb5⟩ := hcut
    have hx := (hb5.block X lX).trans HXX.out
    replace hb := hb.trans (hb5.mono hb.size)
    obtain ⟨x0, x1, x2, x3, x4⟩ := cells5 hx
    obtain ⟨f0, f1, f2, f3, f4⟩ := cells5 hf
    have HH := Lib.hid hx
    clear hb5 hf hne hx
    by_cases h16 : sz = 16
    · subst h16
      have HM2 := Lib.hid (show M = [102] ++ L from HM.out)
      go_wp2_with fail
      refine (HW.out _).mono ?_
      rintro e w2 ⟨v, rfl, hG, hb2⟩
      have hx2 := (hb2.block _ (lt_of_block HH.out)).trans HH.out
      obtain ⟨g, cap, hv⟩ := own_form hG HL.out
      subst hv
      replace hb := hb.trans (hb2.mono hb.size)
      clear x0 x1 x2 x3 x4 f0 f1 f2 f3 f4 hb2
      obtain ⟨-, -, -, x3, -⟩ := cells5 hx2
      clear hx2
      have hown := own_lit (W := w2.alloc (.cells #[.int .u8 102] 5)) (l := [102]) (base := w.heap.size) hb.size (heap_alloc_new w2 _) (by simp)
      have hG2 := hG.alloc (.cells #[.int .u8 102] 5)
      have hbl := hb.alloc hb.size (.cells #[.int .u8 102] 5)
      go_wp2_with (at_builtin; refine wpList_append_own _ rfl _ _ 24 rfl w.heap.size 5 i0 (.int .u8 0) 1 1 Try.underlying24 hi hz0 hz1 hz2 rfl (by decide) _ _ _ rfl hown ⟨g, 0, none⟩ L.length cap (byV L) rfl ?c0 ?c1 ?c2 ?c3 ?c4 ?c5 ?_)
      case c0 => rw [byV_length, Nat.mul_one]
      case c1 => exact hG2.cells rfl
      case c2 => exact byV_one _
      case c3 => have := HL2.out; unfold maxLen; simp; omega
      case c4 => have := HL2.out; simp; omega
      case c5 => exact hbl.size
      intro v1 w1 hown1 hgrow _
      have hk : Below w.heap.size w w1 := hbl.grown hgrow hbl.size (own_base hown)
      rw [← byV_append] at hown1
      have HO := Lib.hid hown1
      clear hgrow hown hbl hG hG2 x3 hown1
      go_wp2
      go_ret
      exact ⟨_, rfl, by rw [HM2.out, List.length_append]; exact HO.out, hk⟩
    · have HM2 := Lib.hid (show M = L by rw [HM.out, if_neg h16, List.nil_append])
      have q16 : (sz == 16) = false := beq_false_of_ne h16
      go_wp2_with fail
      refine (HW.out _).mono ?_
      rintro e w2 ⟨v, rfl, hG, hb2⟩
      have hx2 := (hb2.block _ (lt_of_block HH.out)).trans HH.out
      have hG2 := own_lower hG hb.size
      replace hb := hb.trans (hb2.mono hb.size)
      clear x0 x1 x2 x3 x4 f0 f1 f2 f3 f4 hb2 hG
      obtain ⟨-, -, -, x3, -⟩ := cells5 hx2
      have HO := Lib.hid hG2
      clear hx2 hG2
      go_wp2
      go_ret
      exact ⟨_, rfl, by rw [HM2.out]; exact HO.out, hb⟩
end Go.Proofs.Ytpekegeohcnhcaa
