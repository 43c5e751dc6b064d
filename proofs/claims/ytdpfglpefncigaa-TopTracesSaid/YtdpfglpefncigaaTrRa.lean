/-
  The reader of numbers of package trace.
-/
import Derived.Test.YtdpfglpefncigaaTrO
namespace Go.Proofs.Ytdpfglpefncigaa
open Go.RowKit

/-- A number is read: its value, the bytes behind it, whether they are wrong. -/
def rdF : Nat → Nat → Nat → List Nat → Nat × List Nat × Bool
  | 0, _, _, l => (0, l, true)
  | _ + 1, _, _, [] => (0, [], true)
  | s + 1, t, n, x :: l => if x < 128 then (n + x % 128 * 2 ^ t, l, decide (x = 0) && decide (0 < t)) else rdF s (t + 7) (n + x % 128 * 2 ^ t) l
/-- Bytes in memory, below a block. -/
def BytesAt (w : World) (R : Nat) (v : Value) (l : List Nat) : Prop :=
  (l = [] ∧ ∃ A c, v = .slice A 0 c) ∨ (0 < l.length ∧ ∃ g off c, v = .slice (some ⟨g, off, none⟩) l.length c ∧ l.length ≤ c ∧ g < R ∧ ∀ j, j < l.length → l[j]! < 256 ∧ w.cell? ⟨g, off + j, none⟩ = some (.int .u8 (l[j]! : Int)))
/-- But one block, all is as it was. -/
structure But (R : Nat) (w w' : World) : Prop where
  below : Below R w w'
  size : w'.heap.size = w.heap.size
  block : ∀ P, P ≠ R → w'.heap[P]? = w.heap[P]?
theorem But.refl (R : Nat) (w : World) : But R w w := ⟨Below.refl _ _, rfl, fun _ _ => rfl⟩
theorem But.set {R : Nat} {w w' : World} (h : But R w w') (k : Nat) (u : Value) : But R w (w'.setCell ⟨R, k, none⟩ u) :=
  ⟨h.below.setCell (Nat.le_refl _) _, by simpa using h.size, fun P hP => (heap_setCell_other w' ⟨R, k, none⟩ P u hP).trans (h.block P hP)⟩
theorem BytesAt.below {w w' : World} {R : Nat} {v : Value} {l : List Nat} (h : BytesAt w R v l) (hb : Below R w w') : BytesAt w' R v l := by
  rcases h with h | ⟨h0, g, off, c, rfl, hc, hg, hj⟩
  · exact .inl h
  · exact .inr ⟨h0, g, off, c, rfl, hc, hg, fun j hjl => ⟨(hj j hjl).1, (hb.cell (p := ⟨g, off + j, none⟩) hg).trans (hj j hjl).2⟩⟩
theorem cells2 {W : World} {P : Nat} {a b : Value} {t : TypeId} (h : W.heap[P]? = some (.cells #[a, b] t (0, 0))) :
    W.cell? ⟨P, 0, none⟩ = some a ∧ W.cell? ⟨P, 1, none⟩ = some b ∧ W.frozen? ⟨P, 0, none⟩ = false ∧ W.frozen? ⟨P, 1, none⟩ = false := by
  refine ⟨?_, ?_, ?_, ?_⟩ <;> simp [World.cell?, World.frozen?, h]
theorem or_shift (n y t : Nat) (h : n < 2 ^ t) : n ||| (y <<< t) = n + y * 2 ^ t := by
  rw [Nat.or_comm, ← Nat.shiftLeft_add_eq_or_of_lt h, Nat.shiftLeft_eq, Nat.add_comm]
theorem next_bits (n x t : Nat) (hn : n < 2 ^ t) (ht : t ≤ 35) (hx : x < 256) : bits .or .i64 (n : Int) (wrap64 (bits .and .i64 (x : Int) 127 * 2 ^ t)) = ((n + x % 128 * 2 ^ t : Nat) : Int) := by
  have e1 : bits .and .i64 (x : Int) 127 = ((x % 128 : Nat) : Int) := by
    have := i64_and_nat x 127 (by omega) (by omega)
    rw [show (127 : Nat) = 2 ^ 7 - 1 by rfl, Nat.and_two_pow_sub_one_eq_mod] at this
    exact this
  have hm := Nat.mod_lt x (show 0 < 128 by omega)
  have hp : 2 ^ t ≤ 2 ^ 35 := Nat.pow_le_pow_right (by omega) ht
  have hq : x % 128 * 2 ^ t ≤ 127 * 2 ^ 35 := Nat.mul_le_mul (by omega) hp
  have e2 : ((x % 128 : Nat) : Int) * 2 ^ t = ((x % 128 * 2 ^ t : Nat) : Int) := by push_cast; rfl
  rw [e1, e2, show wrap64 ((x % 128 * 2 ^ t : Nat) : Int) = ((x % 128 * 2 ^ t : Nat) : Int) by unfold wrap64; omega, i64_or_nat n _ (by omega) (by omega)]
  have := or_shift n (x % 128) t hn
  rw [Nat.shiftLeft_eq] at this
  rw [this]
theorem next_lt (n x t : Nat) (hn : n < 2 ^ t) : n + x % 128 * 2 ^ t < 2 ^ (t + 7) := by
  have hm := Nat.mod_lt x (show 0 < 128 by omega)
  have : x % 128 * 2 ^ t ≤ 127 * 2 ^ t := Nat.mul_le_mul_right _ (by omega)
  rw [Nat.pow_add]
  omega
theorem set_at0 {W : World} {R : Nat} {a b : Value} {t : TypeId} (h : W.heap[R]? = some (.cells #[a, b] t (0, 0))) (u : Value) : (W.setCell ⟨R, 0, none⟩ u).heap[R]? = some (.cells #[u, b] t (0, 0)) := by
  rw [heap_setCell_same W R 0 _ t u h]
  rfl
theorem set_at1 {W : World} {R : Nat} {a b : Value} {t : TypeId} (h : W.heap[R]? = some (.cells #[a, b] t (0, 0))) (u : Value) : (W.setCell ⟨R, 1, none⟩ u).heap[R]? = some (.cells #[a, u] t (0, 0)) := by
  rw [heap_setCell_same W R 1 _ t u h]
  rfl
theorem set_both {W : World} {R : Nat} {a b : Value} {t : TypeId} (h : W.heap[R]? = some (.cells #[a, b] t (0, 0))) (u : Value) (z z' : Bool) (e : z = z') : ((W.setCell ⟨R, 0, none⟩ u).setCell ⟨R, 1, none⟩ (.bool z)).heap[R]? = some (.cells #[u, .bool z'] t (0, 0)) := by
  subst e
  exact set_at1 (set_at0 h _) _
theorem bytes_next {w w' : World} {D g off c x : Nat} {l : List Nat} (hc : (x :: l).length ≤ c) (hg : g < D) (hj : ∀ j, j < (x :: l).length → (x :: l)[j]! < 256 ∧ w.cell? ⟨g, off + j, none⟩ = some (.int .u8 ((x :: l)[j]! : Int))) (sl : Value)
    (hs : sl = .slice (some ⟨g, off + 1, none⟩) l.length (c - 1) ∨ (c ≤ 1 ∧ ∃ A q, sl = .slice A l.length q)) (hb : Below D w w') : BytesAt w' D sl l := by
  refine BytesAt.below (w := w) ?_ hb
  rw [List.length_cons] at hc
  rcases Nat.eq_zero_or_pos l.length with h0 | h0
  · obtain rfl := List.eq_nil_of_length_eq_zero h0
    rcases hs with rfl | ⟨_, A, q, rfl⟩
    · exact .inl ⟨rfl, _, _, rfl⟩
    · exact .inl ⟨rfl, _, _, rfl⟩
  · rcases hs with rfl | ⟨h1, _⟩
    · refine .inr ⟨h0, g, off + 1, c - 1, rfl, by omega, hg, fun j hjl => ?_⟩
      have := hj (j + 1) (by rw [List.length_cons]; omega)
      rw [List.getElem!_cons_succ, show off + (j + 1) = off + 1 + j by omega] at this
      exact this
    · omega
set_option maxRecDepth 100000 in
set_option maxHeartbeats 4000000 in
theorem next_any (D R : Nat) (hD : D ≤ R) (v : Value) (l : List Nat) (wr0 : Bool) (w : World) (hR : w.heap[R]? = some (.cells #[v, .bool wr0] 78 (0, 0))) (hv : BytesAt w D v l) :
    Calls Try.prog 52 #[.pointer (some ⟨R, 0, none⟩)] w fun e w' => e = .returned (.int .i64 ((rdF 6 0 0 l).1 : Int)) ∧ But R w w' ∧ ∃ v', w'.heap[R]? = some (.cells #[v', .bool (wr0 || (rdF 6 0 0 l).2.2)] 78 (0, 0)) ∧ BytesAt w' D v' (rdF 6 0 0 l).2.1 := by
  obtain ⟨r, hr⟩ : ∃ r, r = rdF 6 0 0 l := ⟨_, rfl⟩
  rw [← hr]
  have HRR := Lib.hid hR
  have HVV := Lib.hid hv
  have HX := Lib.hid hr
  clear hR hv hr
  go_enter Try.func52, Try.ntmps52
  go_wp2
  go_loopw [3, 4] (fun z zt wr => ∃ (s t n : Nat) (l' : List Nat) (v' : Value), z = .int .i64 (n : Int) ∧ zt = .int .i64 (t : Int) ∧ t + 7 * s = 42 ∧ n < 2 ^ t ∧ But R w wr ∧ wr.heap[R]? = some (.cells #[v', .bool wr0] 78 (0, 0)) ∧ BytesAt wr D v' l' ∧ r = rdF s t n l') (fun _ zt _ => 43 - (intOf zt).toNat)
  case atStart => exact ⟨6, 0, 0, l, v, rfl, rfl, by omega, by omega, But.refl _ _, HRR.out, HVV.out, HX.out⟩
  case round =>
    obtain ⟨s, t, n, l', v', rfl, rfl, hst, hn, hb, hR, hv, hr⟩ := hrel
    obtain ⟨c0, c1, f0, f1⟩ := cells2 hR
    have HR := Lib.hid hR
    have HE := Lib.hid hr
    clear hR hr
    cases s with
    | zero =>
      obtain rfl : t = 42 := by omega
      have e : r = (0, l', true) := HE.out
      subst e
      have HS := Lib.hid (set_at1 HR.out (.bool true))
      go_wp2
      go_ret
      exact ⟨rfl, hb.set 1 _, _, by simpa using HS.out, hv.below (((But.refl R wr).set 1 _).below.mono hD)⟩
    | succ s =>
      have dt : decide (t ≤ 35) = true := by simp; omega
      rcases hv with ⟨rfl, A, c, rfl⟩ | ⟨h0, g, off, c, rfl, hc, hg, hj⟩
      · have e : r = (0, [], true) := HE.out
        subst e
        have HS := Lib.hid (set_at1 HR.out (.bool true))
        go_wp2
        go_ret
        exact ⟨rfl, hb.set 1 _, _, by simpa using HS.out, .inl ⟨rfl, _, _, rfl⟩⟩
      · match l', h0, HE, hc, hj with
        | x :: l2, h0, HE, hc, hj =>
        obtain ⟨hx, cx⟩ := hj 0 h0
        simp only [List.getElem!_cons_zero, Nat.add_zero] at hx cx
        have hnb := next_bits n x t hn (by omega) hx
        have HNB := Lib.hid hnb
        clear hnb
        by_cases hx128 : x < 128
        · have HQ := Lib.hid (show r = (n + x % 128 * 2 ^ t, l2, decide (x = 0) && decide (0 < t)) from HE.out.trans (if_pos hx128))
          go_wp2
          all_goals go_ret
          all_goals refine ⟨ret_i ?_, (hb.set 0 _).set 1 _, _, set_both HR.out _ _ _ ?_, ?_⟩
          all_goals first
            | rfl
            | (rw [HQ.out]; exact HNB.out)
            | (rw [HQ.out]; exact bytes_next hc hg hj _ (.inl rfl) ((((But.refl R wr).set 0 _).set 1 _).below.mono hD))
            | (rw [HQ.out]; exact bytes_next hc hg hj _ (.inr ⟨by omega, _, _, rfl⟩) ((((But.refl R wr).set 0 _).set 1 _).below.mono hD))
            | (obtain rfl := ‹x = 0›; rw [HQ.out]; exact HNB.out)
            | (rw [HQ.out]; simp [‹¬x = 0›]; done)
            | (rw [HQ.out]; simp [‹x = 0›]; done)
        · have HQ := Lib.hid (show r = rdF s (t + 7) (n + x % 128 * 2 ^ t) l2 from HE.out.trans (if_neg hx128))
          go_wp2
          refine ⟨⟨s, t + 7, n + x % 128 * 2 ^ t, l2, _, congrArg (Value.int .i64) HNB.out, congrArg (Value.int .i64) (by omega), by omega, next_lt n x t hn, hb.set 0 _, set_at0 HR.out _, bytes_next hc hg hj _ ?_ (((But.refl R wr).set 0 _).below.mono hD), HQ.out⟩, ?_⟩
          · by_cases h1 : c = 1
            · exact .inr ⟨by omega, _, _, by rw [if_pos h1]⟩
            · exact .inl (by rw [if_neg h1])
          · simp [intOf]
            omega
end Go.Proofs.Ytdpfglpefncigaa
