/-
  When the instructions of a stretch are issued.
-/
import Derived.Test.YtjlacdnkncgpaaaTmG
namespace Go.Proofs.Ytjlacdnkncgpaaa
open Go.RowKit

/-- The greatest of a number and of what some registers tell. -/
def mxF (t : Int) (f : Int → Int) (l : List Int) : Int := l.foldl (fun m r => max m (f r)) t
theorem mx_snoc (t : Int) (f : Int → Int) (l : List Int) (r : Int) : mxF t f (l ++ [r]) = max (mxF t f l) (f r) := by simp [mxF]
theorem mx_spec (f : Int → Int) : ∀ (l : List Int) (t : Int), t ≤ mxF t f l ∧ (∀ r ∈ l, f r ≤ mxF t f l) ∧ (mxF t f l = t ∨ ∃ r ∈ l, mxF t f l = f r)
  | [], t => ⟨Int.le_refl _, fun r hr => (by cases hr), Or.inl rfl⟩
  | r :: l, t => by
    obtain ⟨h1, h2, h3⟩ := mx_spec f l (max t (f r))
    have e : mxF t f (r :: l) = mxF (max t (f r)) f l := rfl
    rw [e]
    refine ⟨by omega, fun q hq => ?_, ?_⟩
    · rcases List.mem_cons.1 hq with rfl | hq
      · omega
      · exact h2 q hq
    · rcases h3 with h3 | ⟨q, hq, h3⟩
      · rcases Int.le_total t (f r) with ht | ht
        · exact .inr ⟨r, by simp, by omega⟩
        · exact .inl (by omega)
      · exact .inr ⟨q, by simp [hq], h3⟩
theorem mx_eq {t : Int} {f : Int → Int} {l m : List Int} (h : ∀ r, r ∈ l ↔ r ∈ m) : mxF t f l = mxF t f m := by
  obtain ⟨a1, a2, a3⟩ := mx_spec f l t
  obtain ⟨b1, b2, b3⟩ := mx_spec f m t
  have h1 : mxF t f l ≤ mxF t f m := by
    rcases a3 with a3 | ⟨r, hr, a3⟩
    · omega
    · have := b2 r ((h r).1 hr)
      omega
  have h2 : mxF t f m ≤ mxF t f l := by
    rcases b3 with b3 | ⟨r, hr, b3⟩
    · omega
    · have := a2 r ((h r).2 hr)
      omega
  omega
/-- When the word of a register is there, behind the first instructions. -/
def rdy (zs : List Cod) (out : List Int) : Nat → Int → Int
  | 0, _ => 0
  | i + 1, r => if wrF zs[i]! = r then out[i]! + latF zs[i]!.op else rdy zs out i r
def nxt (out : List Int) (i : Nat) : Int := if i = 0 then 0 else out[i - 1]! + 1
def atF (zs : List Cod) (out : List Int) (i : Nat) : Int := mxF (nxt out i) (rdy zs out i) (rdF zs[i]!)
/-- The cycles of the first instructions. -/
def issL (zs : List Cod) : Nat → List Int
  | 0 => []
  | i + 1 => issL zs i ++ [atF zs (issL zs i) i]
theorem issL_len (zs : List Cod) : ∀ i, (issL zs i).length = i
  | 0 => rfl
  | i + 1 => by rw [issL, List.length_append, issL_len zs i]; rfl
theorem get_app {l : List Int} {y : Int} {j : Nat} (h : j < l.length) : (l ++ [y])[j]! = l[j]! := by
  rw [List.getElem!_eq_getElem?_getD, List.getElem?_append_left h, List.getElem!_eq_getElem?_getD]
theorem get_end (l : List Int) (y : Int) : (l ++ [y])[l.length]! = y := by
  rw [List.getElem!_eq_getElem?_getD, List.getElem?_append_right (Nat.le_refl _), Nat.sub_self]
  rfl
theorem rdy_app (zs : List Cod) {out : List Int} {y : Int} : ∀ i, i ≤ out.length → ∀ r, rdy zs (out ++ [y]) i r = rdy zs out i r
  | 0, _, _ => rfl
  | i + 1, h, r => by
    unfold rdy
    rw [get_app (by omega), rdy_app zs i (by omega)]
theorem lat_pos (op : Int) : 1 ≤ latF op ∧ latF op ≤ 12 := by
  unfold latF
  split
  · omega
  · split
    · omega
    · split <;> omega
theorem iss_bound (zs : List Cod) : ∀ i, (∀ j, j < i → 0 ≤ (issL zs i)[j]! ∧ (issL zs i)[j]! ≤ 13 * j) ∧ (∀ r, 0 ≤ rdy zs (issL zs i) i r ∧ rdy zs (issL zs i) i r ≤ 13 * i) ∧ 0 ≤ nxt (issL zs i) i ∧ nxt (issL zs i) i ≤ 13 * i
  | 0 => ⟨fun j hj => absurd hj (by omega), fun r => by simp [rdy], by simp [nxt], by simp [nxt]⟩
  | i + 1 => by
    obtain ⟨h1, h2, h3, h4⟩ := iss_bound zs i
    have hl := issL_len zs i
    have hat : 0 ≤ atF zs (issL zs i) i ∧ atF zs (issL zs i) i ≤ 13 * i := by
      obtain ⟨m1, m2, m3⟩ := mx_spec (rdy zs (issL zs i) i) (rdF zs[i]!) (nxt (issL zs i) i)
      have e : atF zs (issL zs i) i = mxF (nxt (issL zs i) i) (rdy zs (issL zs i) i) (rdF zs[i]!) := rfl
      rw [e]
      refine ⟨by omega, ?_⟩
      rcases m3 with m3 | ⟨r, -, m3⟩
      · omega
      · rw [m3]
        exact (h2 r).2
    have e : issL zs (i + 1) = issL zs i ++ [atF zs (issL zs i) i] := rfl
    have hend : (issL zs (i + 1))[i]! = atF zs (issL zs i) i := by
      rw [e]
      have := get_end (issL zs i) (atF zs (issL zs i) i)
      rwa [hl] at this
    refine ⟨fun j hj => ?_, fun r => ?_, ?_, ?_⟩
    · by_cases hji : j = i
      · rw [hji, hend]; exact hat
      · rw [e, get_app (by omega)]
        exact h1 j (by omega)
    · have hlat := lat_pos zs[i]!.op
      unfold rdy
      split
      · rw [hend]
        omega
      · rw [e, rdy_app zs i (by omega)]
        have := h2 r
        omega
    · unfold nxt
      rw [if_neg (by omega), Nat.add_sub_cancel, hend]
      omega
    · unfold nxt
      rw [if_neg (by omega), Nat.add_sub_cancel, hend]
      omega
theorem nxt_succ (zs : List Cod) (i : Nat) : nxt (issL zs (i + 1)) (i + 1) = atF zs (issL zs i) i + 1 := by
  have e : issL zs (i + 1) = issL zs i ++ [atF zs (issL zs i) i] := rfl
  unfold nxt
  rw [if_neg (by omega), Nat.add_sub_cancel, e]
  have := get_end (issL zs i) (atF zs (issL zs i) i)
  rw [issL_len] at this
  rw [this]
theorem rdy_succ (zs : List Cod) (i : Nat) (r : Int) : rdy zs (issL zs (i + 1)) (i + 1) r = if wrF zs[i]! = r then atF zs (issL zs i) i + latF zs[i]!.op else rdy zs (issL zs i) i r := by
  have e : issL zs (i + 1) = issL zs i ++ [atF zs (issL zs i) i] := rfl
  have hend := get_end (issL zs i) (atF zs (issL zs i) i)
  rw [issL_len] at hend
  show (if wrF zs[i]! = r then (issL zs (i + 1))[i]! + latF zs[i]!.op else rdy zs (issL zs (i + 1)) i r) = _
  rw [e, hend, rdy_app zs i (by rw [issL_len]; exact Nat.le_refl _)]
/-- What a right instruction has. -/
theorem val_parts {x : Cod} (h : valC x = true) : codB x = true ∧ 0 ≤ x.op ∧ x.op ≤ 23 := by
  unfold valC at h
  rw [Bool.and_eq_true] at h
  exact ⟨h.1, (inB_iff.1 h.2).1, (inB_iff.1 h.2).2⟩
theorem use_rd {x : Cod} (h : valC x = true) : useB x = rdF x ∧ (∀ r ∈ rdF x, 0 ≤ r ∧ r < 200) ∧ ((shF x.op).d = true ↔ 0 ≤ wrF x) ∧ ((shF x.op).d = true → wrF x = x.d ∧ 0 ≤ x.d ∧ x.d < 200) ∧ (wrF x = -1 ∨ wrF x = x.d ∧ 0 ≤ x.d) := by
  have hr := (right_val x).trans h
  clear h
  obtain ⟨op, d, a, b, imm, to⟩ := x
  unfold rightB at hr
  simp only at hr
  split at hr
  · cases hr
  split at hr
  · simp only [inB, plB, Bool.and_eq_true, Bool.or_eq_true, decide_eq_true_eq] at hr
    have hs : shF op = ⟨true, false, false, true, false, false⟩ := by unfold shF; repeat (first | rw [if_neg (by omega)] | rw [if_pos (by omega)])
    have hw : wrF (⟨op, d, a, b, imm, to⟩ : Cod) = d := by unfold wrF; simp only; rw [show inB op 0 20 = true from inB_iff.2 ⟨by omega, by omega⟩]; rfl
    by_cases ha : 0 ≤ a
    · have e1 : rdF (⟨op, d, a, b, imm, to⟩ : Cod) = [] := by unfold rdF; simp only; repeat (first | rw [if_neg (by omega)] | rw [if_pos (by omega)])
      have e2 : useB (⟨op, d, a, b, imm, to⟩ : Cod) = [] := by unfold useB; simp only; rw [hs]; simp [ha]
      rw [e1, e2, hw]
      rw [hs]
      refine ⟨by first | rfl | trivial, fun r hr => ?_, ?_, ?_, ?_⟩
      · cases hr
      · exact ⟨fun _ => (by omega : (0 : Int) ≤ d), fun _ => rfl⟩
      · intro _
        exact ⟨rfl, (by omega : (0 : Int) ≤ d), (by omega : d < 200)⟩
      · exact .inr ⟨rfl, (by omega : (0 : Int) ≤ d)⟩
    · have e1 : rdF (⟨op, d, a, b, imm, to⟩ : Cod) = [] := by unfold rdF; simp only; repeat (first | rw [if_neg (by omega)] | rw [if_pos (by omega)])
      have e2 : useB (⟨op, d, a, b, imm, to⟩ : Cod) = [] := by unfold useB; simp only; rw [hs]; simp [ha]
      rw [e1, e2, hw]
      rw [hs]
      refine ⟨by first | rfl | trivial, fun r hr => ?_, ?_, ?_, ?_⟩
      · cases hr
      · exact ⟨fun _ => (by omega : (0 : Int) ≤ d), fun _ => rfl⟩
      · intro _
        exact ⟨rfl, (by omega : (0 : Int) ≤ d), (by omega : d < 200)⟩
      · exact .inr ⟨rfl, (by omega : (0 : Int) ≤ d)⟩
  split at hr
  · simp only [inB, plB, Bool.and_eq_true, Bool.or_eq_true, decide_eq_true_eq] at hr
    have ha' : 0 ≤ a := by omega
    have hs : shF op = ⟨true, true, false, false, false, false⟩ := by unfold shF; repeat (first | rw [if_neg (by omega)] | rw [if_pos (by omega)])
    have hw : wrF (⟨op, d, a, b, imm, to⟩ : Cod) = d := by unfold wrF; simp only; rw [show inB op 0 20 = true from inB_iff.2 ⟨by omega, by omega⟩]; rfl
    by_cases ha : 0 ≤ a
    · have e1 : rdF (⟨op, d, a, b, imm, to⟩ : Cod) = [a] := by unfold rdF; simp only; repeat (first | rw [if_neg (by omega)] | rw [if_pos (by omega)])
      have e2 : useB (⟨op, d, a, b, imm, to⟩ : Cod) = [a] := by unfold useB; simp only; rw [hs]; simp [ha']
      rw [e1, e2, hw]
      rw [hs]
      refine ⟨by first | rfl | trivial, fun r hr => ?_, ?_, ?_, ?_⟩
      · simp only [List.mem_cons, List.not_mem_nil, or_false] at hr
        omega
      · exact ⟨fun _ => (by omega : (0 : Int) ≤ d), fun _ => rfl⟩
      · intro _
        exact ⟨rfl, (by omega : (0 : Int) ≤ d), (by omega : d < 200)⟩
      · exact .inr ⟨rfl, (by omega : (0 : Int) ≤ d)⟩
    · exact absurd ha' ha
  split at hr
  · simp only [inB, plB, Bool.and_eq_true, Bool.or_eq_true, decide_eq_true_eq] at hr
    have ha' : 0 ≤ a := by omega
    have hs : shF op = ⟨true, true, true, false, false, false⟩ := by unfold shF; repeat (first | rw [if_neg (by omega)] | rw [if_pos (by omega)])
    have hw : wrF (⟨op, d, a, b, imm, to⟩ : Cod) = d := by unfold wrF; simp only; rw [show inB op 0 20 = true from inB_iff.2 ⟨by omega, by omega⟩]; rfl
    by_cases ha : 0 ≤ a
    · have e1 : rdF (⟨op, d, a, b, imm, to⟩ : Cod) = [a, b] := by unfold rdF; simp only; repeat (first | rw [if_neg (by omega)] | rw [if_pos (by omega)])
      have e2 : useB (⟨op, d, a, b, imm, to⟩ : Cod) = [a, b] := by unfold useB; simp only; rw [hs]; simp [ha']
      rw [e1, e2, hw]
      rw [hs]
      refine ⟨by first | rfl | trivial, fun r hr => ?_, ?_, ?_, ?_⟩
      · simp only [List.mem_cons, List.not_mem_nil, or_false] at hr
        omega
      · exact ⟨fun _ => (by omega : (0 : Int) ≤ d), fun _ => rfl⟩
      · intro _
        exact ⟨rfl, (by omega : (0 : Int) ≤ d), (by omega : d < 200)⟩
      · exact .inr ⟨rfl, (by omega : (0 : Int) ≤ d)⟩
    · exact absurd ha' ha
  split at hr
  · simp only [inB, plB, Bool.and_eq_true, Bool.or_eq_true, decide_eq_true_eq] at hr
    have hs : shF op = ⟨true, true, false, true, false, true⟩ := by unfold shF; repeat (first | rw [if_neg (by omega)] | rw [if_pos (by omega)])
    have hw : wrF (⟨op, d, a, b, imm, to⟩ : Cod) = d := by unfold wrF; simp only; rw [show inB op 0 20 = true from inB_iff.2 ⟨by omega, by omega⟩]; rfl
    by_cases ha : 0 ≤ a
    · have e1 : rdF (⟨op, d, a, b, imm, to⟩ : Cod) = [a] := by unfold rdF; simp only; repeat (first | rw [if_neg (by omega)] | rw [if_pos (by omega)])
      have e2 : useB (⟨op, d, a, b, imm, to⟩ : Cod) = [a] := by unfold useB; simp only; rw [hs]; simp [ha]
      rw [e1, e2, hw]
      rw [hs]
      refine ⟨by first | rfl | trivial, fun r hr => ?_, ?_, ?_, ?_⟩
      · simp only [List.mem_cons, List.not_mem_nil, or_false] at hr
        omega
      · exact ⟨fun _ => (by omega : (0 : Int) ≤ d), fun _ => rfl⟩
      · intro _
        exact ⟨rfl, (by omega : (0 : Int) ≤ d), (by omega : d < 200)⟩
      · exact .inr ⟨rfl, (by omega : (0 : Int) ≤ d)⟩
    · have e1 : rdF (⟨op, d, a, b, imm, to⟩ : Cod) = [] := by unfold rdF; simp only; repeat (first | rw [if_neg (by omega)] | rw [if_pos (by omega)])
      have e2 : useB (⟨op, d, a, b, imm, to⟩ : Cod) = [] := by unfold useB; simp only; rw [hs]; simp [ha]
      rw [e1, e2, hw]
      rw [hs]
      refine ⟨by first | rfl | trivial, fun r hr => ?_, ?_, ?_, ?_⟩
      · cases hr
      · exact ⟨fun _ => (by omega : (0 : Int) ≤ d), fun _ => rfl⟩
      · intro _
        exact ⟨rfl, (by omega : (0 : Int) ≤ d), (by omega : d < 200)⟩
      · exact .inr ⟨rfl, (by omega : (0 : Int) ≤ d)⟩
  split at hr
  · simp only [inB, plB, Bool.and_eq_true, Bool.or_eq_true, decide_eq_true_eq] at hr
    have hs : shF op = ⟨false, true, true, true, false, true⟩ := by unfold shF; repeat (first | rw [if_neg (by omega)] | rw [if_pos (by omega)])
    have hw : wrF (⟨op, d, a, b, imm, to⟩ : Cod) = -1 := by unfold wrF; simp only; rw [show inB op 0 20 = false from decide_eq_false (by omega)]; rfl
    by_cases ha : 0 ≤ a
    · have e1 : rdF (⟨op, d, a, b, imm, to⟩ : Cod) = [a, b] := by unfold rdF; simp only; repeat (first | rw [if_neg (by omega)] | rw [if_pos (by omega)])
      have e2 : useB (⟨op, d, a, b, imm, to⟩ : Cod) = [a, b] := by unfold useB; simp only; rw [hs]; simp [ha]
      rw [e1, e2, hw]
      rw [hs]
      refine ⟨by first | rfl | trivial, fun r hr => ?_, ?_, ?_, ?_⟩
      · simp only [List.mem_cons, List.not_mem_nil, or_false] at hr
        omega
      · exact ⟨fun h => Bool.noConfusion h, fun h => (by omega)⟩
      · exact fun h => Bool.noConfusion h
      · exact .inl rfl
    · have e1 : rdF (⟨op, d, a, b, imm, to⟩ : Cod) = [b] := by unfold rdF; simp only; repeat (first | rw [if_neg (by omega)] | rw [if_pos (by omega)])
      have e2 : useB (⟨op, d, a, b, imm, to⟩ : Cod) = [b] := by unfold useB; simp only; rw [hs]; simp [ha]
      rw [e1, e2, hw]
      rw [hs]
      refine ⟨by first | rfl | trivial, fun r hr => ?_, ?_, ?_, ?_⟩
      · simp only [List.mem_cons, List.not_mem_nil, or_false] at hr
        omega
      · exact ⟨fun h => Bool.noConfusion h, fun h => (by omega)⟩
      · exact fun h => Bool.noConfusion h
      · exact .inl rfl
  · cases hr
end Go.Proofs.Ytjlacdnkncgpaaa
