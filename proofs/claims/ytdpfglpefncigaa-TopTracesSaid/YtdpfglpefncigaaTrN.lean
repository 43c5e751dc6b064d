/-
  The groups of a number, as the specification writes them.
-/
import Derived.Test.YtdpfglpefncigaaTrM
namespace Go.Proofs.Ytdpfglpefncigaa
open Go.RowKit

def GroupRel (f n base : Nat) (w : World) (z v : Value) (wr : World) : Prop :=
  ∃ (f' n' k' : Nat) (xs' : List Value), z = .int .i64 (n' : Int) ∧ n' < 128 ^ f' ∧ 1 ≤ f' ∧ n' < 9223372036854775000 ∧ wr.ownsRow base 5 1 v k' xs' ∧ Below base w wr ∧
    xs' ++ bytesV (grpF f' n') = bytesV (grpF f n) ∧ k' + (grpF f' n').length = (grpF f n).length ∧ k' + f' ≤ 100000
set_option maxRecDepth 100000 in
set_option maxHeartbeats 2000000 in
theorem group_any (f n : Nat) (hf : n < 128 ^ f) (hf1 : 1 ≤ f) (hn : n < 9223372036854775000) (hk : f ≤ 100000) (w : World) :
    Calls Try.prog 51 #[.int .i64 n] w fun e w' => ∃ v, e = .returned v ∧ w'.ownsRow w.heap.size 5 1 v (grpF f n).length (bytesV (grpF f n)) ∧ Below w.heap.size w w' := by
  obtain ⟨i0, hi, hz0, hz1, hz2⟩ := info_parts infoU8
  have h0 : GroupRel f n w.heap.size w (.int .i64 n) (.slice none 0 0) w := ⟨f, n, 0, [], rfl, hf, hf1, hn, World.ownsRow_nil _ _ _ _, Below.refl _ _, rfl, by omega, by omega⟩
  clear hf hf1 hn hk
  go_enter Try.func51, Try.ntmps51
  go_wp2
  go_loopw [0, 3] (fun z v wr => GroupRel f n w.heap.size w z v wr) (fun z _ _ => (intOf z).toNat)
  case atStart => exact h0
  case round =>
    rename_i v' _
    obtain ⟨f', n', k', xs', rfl, hf, hf1, hn, hown, hb, e1, e2, hk⟩ := hrel
    have hbr : w.heap.size ≤ wr.heap.size := hb.size
    have H1 := Lib.hid e1
    have H2 := Lib.hid e2
    have HF := Lib.hid hf
    clear e1 e2 hf h0
    by_cases h128 : 128 ≤ n'
    · go_wp2_with (at_builtin; refine wpList_append_own _ rfl _ _ 39 rfl w.heap.size 5 i0 (.int .u8 0) 1 1 Try.underlying39 hi hz0 hz1 hz2 rfl (by decide) _ k' xs' rfl (hown.alloc _) ⟨wr.heap.size, 0, none⟩ 1 1 [Value.int .u8 (128 + (n' : Int) % 128)] rfl rfl ?c1 ?c2 ?c3 ?c4 ?c5 ?_)
      case c1 => exact cell_one_new _ _ _
      case c2 => simp [Value.oneCell']
      case c3 => unfold maxLen; omega
      case c4 => omega
      case c5 => simp; omega
      intro v2 w2 hown2 hgrow _
      have hb2 : Below w.heap.size w w2 := (hb.alloc hbr _).grown hgrow (by simp; omega) (own_base (hown.alloc (.cells #[Value.int .u8 (128 + (n' : Int) % 128)] 5)))
      clear hown hgrow
      obtain ⟨g2, cap2, rfl⟩ := own_shape hown2
      go_wp2
      have eb : (128 + (n' : Int) % 128) = ((n' % 128 + 128 : Nat) : Int) := by omega
      rw [eb] at hown2
      obtain ⟨f2, rfl⟩ : ∃ f2, f' = f2 + 2 := by
        match f', hf1, HF.out with
        | 1, _, h => exact absurd h (by omega)
        | f2 + 2, _, _ => exact ⟨f2, rfl⟩
      have hp : n' / 128 < 128 ^ (f2 + 1) := by
        have := HF.out
        rw [show f2 + 2 = (f2 + 1) + 1 by rfl, Nat.pow_succ] at this
        exact Nat.div_lt_of_lt_mul (by omega)
      have eg : grpF (f2 + 2) n' = (n' % 128 + 128) :: grpF (f2 + 1) (n' / 128) := if_neg (by omega)
      have e1 := H1.out
      have e2 := H2.out
      rw [eg] at e1 e2
      refine ⟨⟨f2 + 1, n' / 128, k' + 1, _, rfl, hp, by omega, by omega, hown2, hb2, ?_, ?_, by omega⟩, ?_⟩
      · rw [← e1]
        simp [bytesV]
      · rw [← e2]
        simp
        omega
      · show ((n' : Int) / 128).toNat < ((n' : Int)).toNat
        omega
    · go_wp2_with (at_builtin; refine wpList_append_own _ rfl _ _ 39 rfl w.heap.size 5 i0 (.int .u8 0) 1 1 Try.underlying39 hi hz0 hz1 hz2 rfl (by decide) _ k' xs' rfl (hown.alloc _) ⟨wr.heap.size, 0, none⟩ 1 1 [Value.int .u8 (n' : Int)] rfl rfl ?c1 ?c2 ?c3 ?c4 ?c5 ?_)
      case c1 => exact cell_one_new _ _ _
      case c2 => simp [Value.oneCell']
      case c3 => unfold maxLen; omega
      case c4 => omega
      case c5 => simp; omega
      intro v2 w2 hown2 hgrow _
      have hb2 : Below w.heap.size w w2 := (hb.alloc hbr _).grown hgrow (by simp; omega) (own_base (hown.alloc (.cells #[Value.int .u8 (n' : Int)] 5)))
      clear hown hgrow
      obtain ⟨g2, cap2, rfl⟩ := own_shape hown2
      go_wp2
      obtain ⟨f2, rfl⟩ : ∃ f2, f' = f2 + 1 := ⟨f' - 1, by omega⟩
      have eg : grpF (f2 + 1) n' = [n'] := if_pos (by omega)
      have e1 := H1.out
      have e2 := H2.out
      rw [eg] at e1 e2
      go_ret
      refine ⟨_, rfl, ?_, hb2⟩
      rw [← e1, ← e2]
      exact hown2
end Go.Proofs.Ytdpfglpefncigaa
