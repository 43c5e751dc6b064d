/-
  The closure that writes a number's groups; Encode of package trace.
-/
import Derived.Test.YtdpfglpefncigaaTrJ
import Derived.Laws.AppendOwn
import Derived.Laws.OwnMore
import Derived.OneCell
namespace Go.Proofs.Ytdpfglpefncigaa
open Go.RowKit

/-- The groups of a number, the lowest one first. -/
def grpF : Nat → Nat → List Nat
  | 0, _ => []
  | f + 1, n => if n < 128 then [n] else (n % 128 + 128) :: grpF f (n / 128)
def bytesV (l : List Nat) : List Value := l.map fun (x : Nat) => Value.int .u8 (x : Int)
theorem infoU8 : (Try.prog.info? 5).map (fun i => (i.zero, i.size, i.bytes)) = some (some (.int .u8 0), 1, 1) := by kernel_rfl
theorem ofInt_i64 (a : Nat) (ha : a < 9223372036854775808) : (BitVec.ofInt 64 (a : Int)).toNat = a := by
  rw [BitVec.ofInt_natCast, BitVec.toNat_ofNat]
  exact Nat.mod_eq_of_lt (by omega)
theorem i64_and_nat (a b : Nat) (ha : a < 9223372036854775808) (hb : b < 9223372036854775808) : bits .and .i64 (a : Int) (b : Int) = ((a &&& b : Nat) : Int) := by
  have hx : a &&& b < 2 ^ 63 := Nat.and_lt_two_pow _ (by omega)
  show IntKind.i64.wrap ((BitVec.ofInt 64 (a : Int) &&& BitVec.ofInt 64 (b : Int)).toNat : Int) = _
  rw [BitVec.toNat_and, ofInt_i64 a ha, ofInt_i64 b hb, IntKind.wrap_i64]
  omega
theorem i64_or_nat (a b : Nat) (ha : a < 9223372036854775808) (hb : b < 9223372036854775808) : bits .or .i64 (a : Int) (b : Int) = ((a ||| b : Nat) : Int) := by
  have hx : a ||| b < 2 ^ 63 := Nat.or_lt_two_pow (by omega) (by omega)
  show IntKind.i64.wrap ((BitVec.ofInt 64 (a : Int) ||| BitVec.ofInt 64 (b : Int)).toNat : Int) = _
  rw [BitVec.toNat_or, ofInt_i64 a ha, ofInt_i64 b hb, IntKind.wrap_i64]
  omega
theorem low7 (n : Nat) (h : n < 9223372036854775808) : bits .or .i64 (bits .and .i64 (n : Int) 127) 128 % 256 = ((n % 128 + 128 : Nat) : Int) := by
  have e1 : bits .and .i64 (n : Int) 127 = ((n % 128 : Nat) : Int) := by
    have := i64_and_nat n 127 h (by omega)
    rw [show (127 : Nat) = 2 ^ 7 - 1 by rfl, Nat.and_two_pow_sub_one_eq_mod] at this
    exact this
  have hm := Nat.mod_lt n (show 0 < 128 by omega)
  have e2 : n % 128 ||| 128 = n % 128 + 128 := by
    have := Nat.two_pow_add_eq_or_of_lt (i := 7) hm 1
    simp at this
    rw [Nat.or_comm, ← this]
    omega
  rw [e1]
  have e3 := i64_or_nat (n % 128) 128 (by omega) (by omega)
  rw [e2] at e3
  have e4 : bits .or .i64 ((n % 128 : Nat) : Int) 128 = ((n % 128 + 128 : Nat) : Int) := e3
  rw [e4]
  omega
theorem own_ne {w : World} {base e size k B : Nat} {v : Value} {us : Array Value} {t : TypeId} {fr : Nat × Nat} {xs : List Value} (h : w.ownsRow base e size v k xs) (hB : w.heap[B]? = some (.cells us t fr)) (hne : e ≠ t) : v.ownBlock ≠ some B := by
  rcases h.2 with ⟨rfl, _⟩ | ⟨g', cap, cur, rfl, _, hh, _⟩
  · simp [Value.ownBlock]
  · intro he
    have : g' = B := by simpa [Value.ownBlock] using he
    subst this
    rw [hB] at hh
    injection hh with hh
    injection hh with _ ht
    exact hne ht.symm
theorem grown_block {w w' : World} {row : Option Nat} {B : Nat} {o : Obj} (h : w.grownBy w' row) (hB : w.heap[B]? = some o) (hne : row ≠ some B) : w'.heap[B]? = some o := (h.block B (lt_of_block hB) (fun e => hne e.symm)).trans hB
theorem own_base {w : World} {base e size k : Nat} {v : Value} {xs : List Value} (h : w.ownsRow base e size v k xs) : ∀ g, v.ownBlock = some g → base ≤ g := by
  intro g hg
  rcases h.2 with ⟨rfl, _⟩ | ⟨g', cap, cur, rfl, hb, _⟩
  · simp [Value.ownBlock] at hg
  · have : g' = g := by simpa [Value.ownBlock] using hg
    omega
theorem own_shape {w : World} {base e size k : Nat} {v : Value} {xs : List Value} (h : w.ownsRow base e size v (k + 1) xs) : ∃ g cap, v = .slice (some ⟨g, 0, none⟩) (k + 1) cap := by
  rcases h.2 with ⟨_, h0⟩ | ⟨g, cap, _, rfl, _⟩
  · omega
  · exact ⟨g, cap, rfl⟩
/-- Blocks of other types, and but one, are as they were. -/
def OthersAs (B : Nat) (w w' : World) : Prop := ∀ (P : Nat) (cs : Array Value) (t : TypeId) (fr : Nat × Nat), P ≠ B → 5 ≠ t → w.heap[P]? = some (.cells cs t fr) → w'.heap[P]? = some (.cells cs t fr)
theorem OthersAs.grown {B : Nat} {w wr w2 : World} {base k : Nat} {v : Value} {xs : List Value} (h : OthersAs B w wr) (o : Obj) (u : Value) (hown : (wr.alloc o).ownsRow base 5 1 v k xs) (hg : (wr.alloc o).grownBy w2 v.ownBlock) : OthersAs B w (w2.setCell ⟨B, 0, none⟩ u) := by
  intro P cs t fr hP ht hw
  have h1 := h P cs t fr hP ht hw
  have h2 := (heap_alloc_old wr o (lt_of_block h1)).trans h1
  have h3 := grown_block hg h2 (own_ne hown h2 ht)
  exact (heap_setCell_other w2 ⟨B, 0, none⟩ P u hP).trans h3
def WriteRel (f n B base k : Nat) (xs : List Value) (w : World) (z : Value) (wr : World) : Prop :=
  ∃ (f' n' k' : Nat) (v' : Value) (xs' : List Value), z = .int .i64 (n' : Int) ∧ n' < 128 ^ f' ∧ 1 ≤ f' ∧ n' < 9223372036854775808 ∧ wr.heap[B]? = some (.cells #[v'] 39 (0, 0)) ∧ wr.ownsRow base 5 1 v' k' xs' ∧ Below base w wr ∧ OthersAs B w wr ∧
    xs' ++ bytesV (grpF f' n') = xs ++ bytesV (grpF f n) ∧ k' + (grpF f' n').length = k + (grpF f n).length ∧ k' + f' ≤ 100000
set_option maxRecDepth 100000 in
set_option maxHeartbeats 2000000 in
theorem write_any (f n : Nat) (hf : n < 128 ^ f) (hf1 : 1 ≤ f) (hn : n < 9223372036854775808) (B base k : Nat) (v : Value) (xs : List Value) (w : World) (hB : w.heap[B]? = some (.cells #[v] 39 (0, 0)))
    (hown : w.ownsRow base 5 1 v k xs) (hbB : base ≤ B) (hbw : base ≤ w.heap.size) (hk : k + f ≤ 100000) :
    Calls Try.prog 50 #[.int .i64 n, .pointer (some ⟨B, 0, none⟩)] w fun e w' => e = .returned (.tuple #[]) ∧ ∃ v', w'.heap[B]? = some (.cells #[v'] 39 (0, 0)) ∧ w'.ownsRow base 5 1 v' (k + (grpF f n).length) (xs ++ bytesV (grpF f n)) ∧ Below base w w' ∧ OthersAs B w w' := by
  obtain ⟨i0, hi, hz0, hz1, hz2⟩ := info_parts infoU8
  have h0 : WriteRel f n B base k xs w (.int .i64 n) w := ⟨f, n, k, v, xs, rfl, hf, hf1, hn, hB, hown, Below.refl _ _, fun _ _ _ _ _ _ h => h, rfl, rfl, hk⟩
  clear hf hf1 hn hB hown hk
  go_enter Try.func50, Try.ntmps50
  go_wp2
  go_loopw [0] (fun z wr => WriteRel f n B base k xs w z wr) (fun z _ => (intOf z).toNat)
  case atStart => exact h0
  case round =>
    obtain ⟨f', n', k', v', xs', rfl, hf, hf1, hn, hB, hown, hb, ho, e1, e2, hk⟩ := hrel
    have hcell := cell_of_one hB
    have hfree := free_of_one hB
    have hBlt := lt_of_block hB
    have hbr : base ≤ wr.heap.size := by omega
    have H1 := Lib.hid e1
    have H2 := Lib.hid e2
    have HF := Lib.hid hf
    have HB := Lib.hid hB
    clear e1 e2 hf hB h0
    by_cases h128 : 128 ≤ n'
    · go_wp2_with (at_builtin; refine wpList_append_own _ rfl _ _ 39 rfl base 5 i0 (.int .u8 0) 1 1 Try.underlying39 hi hz0 hz1 hz2 rfl (by decide) _ k' xs' rfl (hown.alloc _) ⟨wr.heap.size, 0, none⟩ 1 1 [Value.int .u8 (bits .or .i64 (bits .and .i64 (n' : Int) 127) 128 % 256)] rfl rfl ?c1 ?c2 ?c3 ?c4 ?c5 ?_)
      case c1 => exact cell_one_new _ _ _
      case c2 => simp [Value.oneCell']
      case c3 => unfold maxLen; omega
      case c4 => omega
      case c5 => simp; omega
      intro v2 w2 hown2 hgrow _
      have hne := own_ne (hown.alloc (.cells #[Value.int .u8 (bits .or .i64 (bits .and .i64 (n' : Int) 127) 128 % 256)] 5)) (t := 39) (B := B) (us := #[v']) ((heap_alloc_old wr _ hBlt).trans HB.out) (by decide)
      have hB2 := grown_block hgrow ((heap_alloc_old wr _ hBlt).trans HB.out) hne
      have hc2 := cell_of_one hB2
      have hf2 := free_of_one hB2
      have hne2 := own_ne hown2 hB2 (by decide)
      have hb2 : Below base w w2 := (hb.alloc hbr _).grown hgrow (by simp; omega) (own_base (hown.alloc (.cells #[Value.int .u8 (bits .or .i64 (bits .and .i64 (n' : Int) 127) 128 % 256)] 5)))
      have hB3 := one_setCell (u := v2) hB2
      have hown3 := ownsRow_setCell_other hown2 (a := ⟨B, 0, none⟩) hne2 v2
      have hb3 : Below base w (w2.setCell ⟨B, 0, none⟩ v2) := hb2.setCell hbB _
      have HB3 := Lib.hid hB3
      have HO := Lib.hid (ho.grown _ v2 (hown.alloc _) hgrow)
      clear hB2 hne hne2 hB3 hcell hfree hown hgrow ho
      obtain ⟨g2, cap2, rfl⟩ := own_shape hown2
      go_wp2
      have eb : bits .or .i64 (bits .and .i64 (n' : Int) 127) 128 % 256 = ((n' % 128 + 128 : Nat) : Int) := low7 n' hn
      rw [eb] at hown3
      obtain ⟨f2, rfl⟩ : ∃ f2, f' = f2 + 2 := by
        match f', hf1, HF.out with
        | 1, _, h => exact absurd h (by omega)
        | f2 + 2, _, _ => exact ⟨f2, rfl⟩
      have hp : n' / 128 < 128 ^ (f2 + 1) := by
        have := HF.out
        rw [show f2 + 2 = (f2 + 1) + 1 by rfl, Nat.pow_succ] at this
        exact Nat.div_lt_of_lt_mul (by omega)
      have eg : grpF (f2 + 2) n' = (n' % 128 + 128) :: grpF (f2 + 1) (n' / 128) := if_neg (by omega)
      have e1 := H1.out
      have e2 := H2.out
      rw [eg] at e1 e2
      refine ⟨⟨f2 + 1, n' / 128, k' + 1, _, _, rfl, hp, by omega, by omega, HB3.out, hown3, hb3, HO.out, ?_, ?_, by omega⟩, ?_⟩
      · rw [← e1]
        simp [bytesV]
      · rw [← e2]
        simp
        omega
      · show ((n' : Int) / 128).toNat < ((n' : Int)).toNat
        omega
    · go_wp2_with (at_builtin; refine wpList_append_own _ rfl _ _ 39 rfl base 5 i0 (.int .u8 0) 1 1 Try.underlying39 hi hz0 hz1 hz2 rfl (by decide) _ k' xs' rfl (hown.alloc _) ⟨wr.heap.size, 0, none⟩ 1 1 [Value.int .u8 (n' : Int)] rfl rfl ?c1 ?c2 ?c3 ?c4 ?c5 ?_)
      case c1 => exact cell_one_new _ _ _
      case c2 => simp [Value.oneCell']
      case c3 => unfold maxLen; omega
      case c4 => omega
      case c5 => simp; omega
      intro v2 w2 hown2 hgrow _
      have hne := own_ne (hown.alloc (.cells #[Value.int .u8 (n' : Int)] 5)) (t := 39) (B := B) (us := #[v']) ((heap_alloc_old wr _ hBlt).trans HB.out) (by decide)
      have hB2 := grown_block hgrow ((heap_alloc_old wr _ hBlt).trans HB.out) hne
      have hc2 := cell_of_one hB2
      have hf2 := free_of_one hB2
      have hne2 := own_ne hown2 hB2 (by decide)
      have hb2 : Below base w w2 := (hb.alloc hbr _).grown hgrow (by simp; omega) (own_base (hown.alloc (.cells #[Value.int .u8 (n' : Int)] 5)))
      have hB3 := one_setCell (u := v2) hB2
      have hown3 := ownsRow_setCell_other hown2 (a := ⟨B, 0, none⟩) hne2 v2
      have hb3 : Below base w (w2.setCell ⟨B, 0, none⟩ v2) := hb2.setCell hbB _
      have HB3 := Lib.hid hB3
      have HO := Lib.hid (ho.grown _ v2 (hown.alloc _) hgrow)
      clear hB2 hne hne2 hB3 hcell hfree hown hgrow ho
      obtain ⟨g2, cap2, rfl⟩ := own_shape hown2
      go_wp2
      obtain ⟨f2, rfl⟩ : ∃ f2, f' = f2 + 1 := ⟨f' - 1, by omega⟩
      have eg : grpF (f2 + 1) n' = [n'] := if_pos (by omega)
      have e1 := H1.out
      have e2 := H2.out
      rw [eg] at e1 e2
      refine bodyPost_end (results_none rfl _ _ _) rfl ?_
      refine ⟨rfl, _, HB3.out, ?_, hb3, HO.out⟩
      rw [← e1, ← e2]
      exact hown3
end Go.Proofs.Ytdpfglpefncigaa
