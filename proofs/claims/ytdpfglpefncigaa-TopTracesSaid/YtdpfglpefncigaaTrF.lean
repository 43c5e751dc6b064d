/-
  ContainsFunc and IndexFunc over a table, for a predicate that may make memory; the predicate of Validate.
-/
import Derived.Test.YtdpfglpefncigaaTrE
import Derived.Shelf.GgClosure.Gives
namespace Go.Proofs.Ytdpfglpefncigaa
open Go.RowKit

/-- What is asked of a predicate: it answers p in every world in which all that lay in w lies unturned, and leaves such a world. -/
def PredOk (g : Nat) (lb : Array Value) (p : Plc → Bool) (w : World) : Prop :=
  ∀ (W : World) (x : Plc), Below w.heap.size w W → Calls Try.prog g (#[aggP x] ++ lb) W fun e w' => e = .returned (.bool (p x)) ∧ Below w.heap.size w w'
/-- The first place of which a predicate holds. -/
def idxF (p : Plc → Bool) (zs : List Plc) : Nat → Nat → Int
  | _, 0 => -1
  | i, f + 1 => if p zs[i]! then (i : Int) else idxF p zs (i + 1) f
theorem idxF_nonneg (p : Plc → Bool) (zs : List Plc) : ∀ f i, decide (0 ≤ idxF p zs i f) = (List.range f).any fun j => p zs[i + j]!
  | 0, i => rfl
  | f + 1, i => by
    rw [List.range_succ_eq_map, List.any_cons, List.any_map]
    show decide _ = (p zs[i]! || _)
    by_cases h : p zs[i]! = true
    · have e : idxF p zs i (f + 1) = (i : Int) := if_pos h
      rw [h, Bool.true_or, decide_eq_true_iff, e]
      omega
    · have e : idxF p zs i (f + 1) = idxF p zs (i + 1) f := if_neg h
      have ih := idxF_nonneg p zs f (i + 1)
      have : (fun j => p zs[i + 1 + j]!) = ((fun j => p zs[i + j]!) ∘ Nat.succ) := by
        funext j
        show p zs[i + 1 + j]! = p zs[i + (j + 1)]!
        rw [show i + 1 + j = i + (j + 1) by omega]
      rw [Bool.eq_false_iff.2 h, Bool.false_or, ← this, ← ih, Bool.eq_iff_iff, decide_eq_true_iff, decide_eq_true_iff, e]
set_option maxHeartbeats 2000000 in
theorem indexFunc_any (p : Plc → Bool) (g : Nat) (lb : Array Value) (eg : ∀ args w, (callFunc g args).run Try.prog w = .ok (.enter g args) w) (b off n c : Nat) (zs : List Plc) (w : World)
    (hp : PredOk g lb p w) (hz : n ≤ zs.length) (hbig : n ≤ 1000) (hL : Lies w b off zs) :
    Calls Try.prog 56 #[.slice (some ⟨b, off, none⟩) n c, .func (.func g) #[] lb] w fun e w' => e = .returned (.int .i64 (idxF p zs 0 n)) ∧ Below w.heap.size w w' := by
  have HL := Lib.hid hL
  have HP := Lib.hid hp
  clear hL hp
  go_enter Try.func56, Try.ntmps56
  go_wp2
  go_loopw [8] (fun z wr => ∃ i : Nat, i ≤ n ∧ z = .int .i64 (i : Int) ∧ Below w.heap.size w wr ∧ idxF p zs i (n - i) = idxF p zs 0 n) (fun z _ => n - (intOf z).toNat)
  case atStart => exact ⟨0, by omega, rfl, Below.refl _ _, rfl⟩
  case round =>
    obtain ⟨i, hi, rfl, hb, hI⟩ := hrel
    by_cases hlt : i < n
    · have ht := (HL.out.below hb).at_ (j := i) (by omega)
      have hs : idxF p zs i (n - i) = if p zs[i]! then (i : Int) else idxF p zs (i + 1) (n - (i + 1)) := by
        rw [show n - i = (n - (i + 1)) + 1 by omega]
        rfl
      have hcall := HP.out wr zs[i]! hb
      rw [hs] at hI
      clear hs
      generalize zs[i]! = x at ht hcall hI
      obtain ⟨pa, pz, pv, pk, pn⟩ := x
      obtain ⟨c0, c1, c2, c3, c4⟩ := ht
      simp only at c0 c1 c2 c3 c4
      obtain ⟨B, hB⟩ : ∃ B, B = p ⟨pa, pz, pv, pk, pn⟩ := ⟨_, rfl⟩
      rw [← hB] at hcall hI
      have HI := Lib.hid hI
      have HC := Lib.hid hcall
      clear hB hI hcall
      cases B
      · go_wp2_with (go_at_fn g; refine HC.out.mono ?_; rintro e w' ⟨rfl, hb'⟩)
        go_roundw
        case rel => exact ⟨i + 1, by omega, by go_num, hb', by have := HI.out; simpa using this⟩
        case measure => simp [intOf]; omega
      · go_wp2_with (go_at_fn g; refine HC.out.mono ?_; rintro e w' ⟨rfl, hb'⟩)
        go_ret
        exact ⟨ret_i (by have := HI.out; simpa using this), hb'⟩
    · have HI := Lib.hid (show (-1 : Int) = idxF p zs 0 n by rw [show n - i = 0 by omega] at hI; exact hI)
      clear hI
      go_wp2
      go_ret
      exact ⟨ret_i (by rw [← HI.out]), hb⟩
theorem containsFunc_any (p : Plc → Bool) (g : Nat) (lb : Array Value) (eg : ∀ args w, (callFunc g args).run Try.prog w = .ok (.enter g args) w) (b off n c : Nat) (zs : List Plc) (w : World)
    (hp : PredOk g lb p w) (hz : n ≤ zs.length) (hbig : n ≤ 1000) (hL : Lies w b off zs) :
    Calls Try.prog 45 #[.slice (some ⟨b, off, none⟩) n c, .func (.func g) #[] lb] w fun e w' => e = .returned (.bool ((List.range n).any fun j => p zs[j]!)) ∧ Below w.heap.size w w' := by
  have hd := idxF_nonneg p zs n 0
  simp only [Nat.zero_add] at hd
  rw [← hd]
  obtain ⟨X, hX⟩ : ∃ X, X = idxF p zs 0 n := ⟨_, rfl⟩
  have HX := Lib.hid hX.symm
  rw [← hX]
  clear hd hX
  go_enter Try.func45, Try.ntmps45
  go_wp2_with fail
  refine (indexFunc_any p g lb eg b off n c zs w hp hz hbig hL).mono ?_
  rw [HX.out]
  rintro e w' ⟨rfl, hb'⟩
  go_wp2
  go_ret
  exact ⟨rfl, hb'⟩
end Go.Proofs.Ytdpfglpefncigaa
