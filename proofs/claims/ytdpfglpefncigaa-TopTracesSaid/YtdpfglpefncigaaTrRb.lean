/-
  What Decode of package trace answers; an empty table.
-/
import Derived.Test.YtdpfglpefncigaaTrRa
namespace Go.Proofs.Ytdpfglpefncigaa
open Go.RowKit

theorem BytesAt.form {w : World} {D : Nat} {v : Value} {l : List Nat} (h : BytesAt w D v l) : ∃ A c, v = .slice A l.length c := by
  rcases h with ⟨rfl, A, c, rfl⟩ | ⟨_, g, off, c, rfl, _⟩
  · exact ⟨A, c, rfl⟩
  · exact ⟨_, c, rfl⟩
/-- A reader's state: the bytes that are left, whether a number was wrong. -/
abbrev RdS := List Nat × Bool
def nxt (s : RdS) : RdS := ((rdF 6 0 0 s.1).2.1, s.2 || (rdF 6 0 0 s.1).2.2)
def num (s : RdS) : Nat := (rdF 6 0 0 s.1).1
def stN : Nat → RdS → RdS
  | 0, s => s
  | k + 1, s => nxt (stN k s)
def rowS (s : RdS) : Nat → RdS
  | 0 => s
  | i + 1 => stN 5 (rowS s i)
def fromS (s : RdS) : Nat → Nat
  | 0 => 0
  | i + 1 => fromS s i + num (rowS s i)
def rowOf (s : RdS) (i : Nat) : Plc := ⟨(fromS s (i + 1) : Nat), (fromS s (i + 1) + num (stN 1 (rowS s i)) : Nat), (num (stN 2 (rowS s i)) : Nat), (num (stN 3 (rowS s i)) : Nat), (num (stN 4 (rowS s i)) : Nat)⟩
def rowsS (s : RdS) (i : Nat) : List Plc := (List.range i).map (rowOf s)
/-- The table whose bytes are told. -/
def decP (l : List Nat) : Option (List Plc) :=
  let s := nxt (l, false)
  let c := num (l, false)
  if s.2 || decide (64 < c) then none
  else if (rowS s c).2 || decide (0 < (rowS s c).1.length) || decide (valF (rowsS s c) ≠ 0) then none
  else some (rowsS s c)
theorem rdF_lt : ∀ s t n l, t + 7 * s = 42 → n < 2 ^ t → (rdF s t n l).1 < 4398046511104
  | 0, _, _, _, _, _ => by simp [rdF]
  | s + 1, _, _, [], _, _ => by simp [rdF]
  | s + 1, t, n, x :: l, h, hn => by
    have hl := next_lt n x t hn
    unfold rdF
    split
    · have hp : 2 ^ (t + 7) ≤ 2 ^ 42 := Nat.pow_le_pow_right (by omega) (by omega)
      show n + x % 128 * 2 ^ t < 4398046511104
      omega
    · exact rdF_lt s (t + 7) _ l (by omega) hl
theorem num_lt (s : RdS) : num s < 4398046511104 := rdF_lt 6 0 0 s.1 (by omega) (by omega)
theorem fromS_lt (s : RdS) : ∀ i, fromS s i ≤ i * 4398046511104
  | 0 => by simp [fromS]
  | i + 1 => by
    have h1 := fromS_lt s i
    have h2 := num_lt (rowS s i)
    unfold fromS
    omega
theorem rowsS_succ (s : RdS) (i : Nat) : rowsS s (i + 1) = rowsS s i ++ [rowOf s i] := by
  unfold rowsS
  rw [List.range_succ, List.map_append]
  rfl
theorem rowsS_length (s : RdS) (i : Nat) : (rowsS s i).length = i := by simp [rowsS]
def placesV (ps : List Plc) : List Value := ps.flatMap encP
theorem placesV_append (a b : List Plc) : placesV (a ++ b) = placesV a ++ placesV b := by simp [placesV]
theorem placesV_at : ∀ (ps : List Plc) (j i : Nat) (v : Value), j < ps.length → (encP ps[j]!)[i]? = some v → (placesV ps)[j * 5 + i]? = some v
  | [], j, _, _, h, _ => absurd h (by simp)
  | p :: ps, 0, i, v, _, h => by
    have hi : i < (encP p).length := (List.getElem?_eq_some_iff.1 h).1
    show (encP p ++ placesV ps)[0 * 5 + i]? = some v
    rw [List.getElem?_append_left (by omega), Nat.zero_mul, Nat.zero_add]
    exact h
  | p :: ps, j + 1, i, v, hj, h => by
    show (encP p ++ placesV ps)[(j + 1) * 5 + i]? = some v
    have hl : (encP p).length = 5 := rfl
    rw [List.getElem?_append_right (by omega), hl, show (j + 1) * 5 + i - 5 = j * 5 + i by omega]
    exact placesV_at ps j i v (by simpa using hj) (by simpa using h)
theorem lies_own {w : World} {base g cap : Nat} {ps : List Plc} (h : w.ownsRow base 33 5 (.slice (some ⟨g, 0, none⟩) ps.length cap) ps.length (placesV ps)) : Lies w g 0 ps := by
  refine ⟨(h.lt g rfl).2, fun j hj i v hv => ?_⟩
  have := h.cells (g := g) rfl (j * 5 + i) v (placesV_at ps j i v hj hv)
  have e : (⟨g, 0, none⟩ : Addr).add (j * 5 + i) = ⟨g, 0 + j * 5 + i, none⟩ := by
    unfold Addr.add
    split
    · rename_i h0
      simp at h0
      simp [h0]
    · simp
  rw [← e]
  exact this
theorem infoPl : (Try.prog.info? 33).map (fun i => (i.zero, i.size, i.bytes)) = some (some (.agg #[.int .i64 0, .int .i64 0, .int .i64 0, .int .i64 0, .int .i64 0]), 5, 40) := by kernel_rfl
set_option maxRecDepth 100000 in
theorem validate_empty (A : Option Addr) (c : Nat) (w : World) : Calls Try.prog 18 #[.slice A 0 c] w fun e w' => e = .returned (.int .i64 0) ∧ Below w.heap.size w w' := by
  go_enter Try.func18, Try.ntmps18
  go_wp2
  go_loopw [12] (fun z wr => z = .int .i64 0 ∧ wr = w) (fun _ _ => 0)
  case atStart => exact ⟨rfl, rfl⟩
  case round =>
    obtain ⟨rfl, rfl⟩ := hrel
    go_wp2
    go_loopw [37] (fun z wr2 => z = .int .i64 0 ∧ wr2 = wr) (fun _ _ => 0)
    case atStart => exact ⟨rfl, rfl⟩
    case round =>
      obtain ⟨rfl, rfl⟩ := hrel
      go_wp2
      go_ret
      exact ⟨rfl, Below.refl _ _⟩
end Go.Proofs.Ytdpfglpefncigaa
