/-
  The stack of the reference's Shared, as mathematics.
-/
import Derived.Test.YtbohigjfdnnomaaGreatDoorTeTh
namespace Go.Proofs.YtbohigjfdnnomaaGreatDoor
open Go.RowKit

/-- The nodes on the stack put in, the top first. -/
def foldS (T : List Nd) : List Nat → List Nd → List Nd
  | [], out => out
  | x :: s, out => foldS T s (ins (tr T x) out).2
/-- The first of the Args that has no place. -/
def firstNeg (a : Nat → Int) : List Int → Int
  | [] => -1
  | x :: l => if a x.toNat < 0 then x else firstNeg a l
theorem firstNeg_none {a : Nat → Int} : ∀ {l : List Int}, (∀ x ∈ l, 0 ≤ x) → firstNeg a l < 0 → ∀ x ∈ l, 0 ≤ a x.toNat
  | [], _, _, x, hx => absurd hx (by simp)
  | y :: l, h0, h, x, hx => by
    rw [firstNeg] at h
    split at h
    · have := h0 y (by simp)
      omega
    · rcases List.mem_cons.1 hx with rfl | hx
      · omega
      · exact firstNeg_none (fun z hz => h0 z (by simp [hz])) h x hx
theorem firstNeg_some {a : Nat → Int} : ∀ {l : List Int}, 0 ≤ firstNeg a l → ∃ j, j < l.length ∧ l[j]! = firstNeg a l ∧ a (firstNeg a l).toNat < 0 ∧ ∀ q, q < j → 0 ≤ a (l[q]!).toNat
  | [], h => by rw [firstNeg] at h; omega
  | y :: l, h => by
    rw [firstNeg] at h ⊢
    split at h
    · rename_i e
      rw [if_pos e]
      exact ⟨0, by simp, rfl, e, fun q hq => absurd hq (by omega)⟩
    · rename_i e
      rw [if_neg e]
      obtain ⟨j, h1, h2, h3, h4⟩ := firstNeg_some h
      refine ⟨j + 1, by simpa using h1, by simpa using h2, h3, fun q hq => ?_⟩
      match q with
      | 0 => simpa using (by omega : 0 ≤ a y.toNat)
      | q + 1 =>
        have := h4 q (by omega)
        simpa using this
/-- What holds of the stack. -/
structure ShM (T : List Nd) (n k : Nat) (out : List Nd) (st : List Nat) (a : Nat → Int) : Prop where
  once : Once out
  inv : ∀ j, j < n → 0 ≤ a j → Has out (tr T j) (a j).toNat
  mem : ∀ x ∈ st, x < n ∧ a x < 0
  chain : ∀ x s, st = x :: s → ∀ y ∈ s, x < y
  fold : foldS T st out = shF T k
  pw : st.Pairwise (· < ·)
theorem shM_start {T : List Nd} {n k : Nat} (hk : k < n) : ShM T n k [] [k] (fun _ => -1) where
  once := once_nil
  inv := fun j _ h => absurd h (by omega)
  mem := fun x hx => by
    rw [List.mem_singleton] at hx
    subst hx
    exact ⟨hk, by omega⟩
  chain := fun x s e y hy => by
    injection e with e1 e2
    subst e2
    simp at hy
  fold := rfl
  pw := List.pairwise_singleton _ _
theorem argT_len (T : List Nd) (x : Nat) : (argT T x).length = T[x]!.args.length := by unfold argT; simp
theorem argT_at {T : List Nd} {x j : Nat} (hj : j < T[x]!.args.length) : (argT T x)[j]! = tr T (T[x]!.args[j]!).toNat := by
  unfold argT
  rw [getElem!_pos _ j (by simpa using hj), List.getElem_map, getElem!_pos _ j hj]
/-- A missing one goes on the stack. -/
theorem ShM.push {T : List Nd} {n k : Nat} {out : List Nd} {x : Nat} {s : List Nat} {a : Nat → Int} (h : ShM T n k out (x :: s) a) (hd : Down T) (hn : n = T.length) {m : Nat} (hm : firstNeg a T[x]!.args = (m : Int)) : ShM T n k out (m :: x :: s) a ∧ m < x := by
  obtain ⟨j, h1, h2, h3, h4⟩ := firstNeg_some (a := a) (l := T[x]!.args) (by omega)
  have hx := h.mem x (by simp)
  have hxT : x < T.length := by omega
  obtain ⟨p, hp, hpx⟩ := hd x hxT j h1
  rw [hm] at h2 h3
  rw [Int.toNat_natCast] at h3
  have e : p = m := by rw [hp] at h2; omega
  subst e
  have hpw : ∀ y ∈ x :: s, p < y := fun y hy => by
    rcases List.mem_cons.1 hy with rfl | hy
    · exact hpx
    · exact Nat.lt_trans hpx (h.chain x s rfl y hy)
  refine ⟨⟨h.once, h.inv, fun y hy => ?_, fun y t e2 z hz => ?_, ?_, List.pairwise_cons.2 ⟨hpw, h.pw⟩⟩, hpx⟩
  · rcases List.mem_cons.1 hy with rfl | hy
    · exact ⟨by omega, h3⟩
    · exact h.mem y hy
  · injection e2 with e3 e4
    subst e3 e4
    exact hpw z hz
  · rw [← h.fold, foldS, foldS, foldS]
    have e5 : tr T p = (argT T x)[j]! := by rw [argT_at h1, hp, Int.toNat_natCast]
    rw [tr_eq hd hxT, e5]
    have := ins_child (op := T[x]!.op) (wi := T[x]!.width) (fl := T[x]!.flags) (im := T[x]!.imm) (cs := argT T x) h.once (j := j) (by rw [argT_len]; exact h1) (fun q hq => by
      rw [argT_at (by omega)]
      obtain ⟨p2, hp2, hp3⟩ := hd x hxT q (by omega)
      have h5 := h4 q hq
      rw [hp2, Int.toNat_natCast] at h5 ⊢
      exact ⟨_, h.inv p2 (by omega) h5⟩)
    exact congrArg (fun z => foldS T s z.2) this
theorem hasL_map {out : List Nd} (f : Nat → Nat) : ∀ (T : List Nd) (l : List Int), (∀ x ∈ l, Has out (tr T x.toNat) (f x.toNat)) → HasL out (l.map fun x => tr T x.toNat) (l.map fun x => f x.toNat)
  | _, [], _ => by rw [List.map_nil, List.map_nil, HasL]
  | T, x :: l, h => by
    rw [List.map_cons, List.map_cons, HasL]
    exact ⟨_, _, rfl, h x (by simp), hasL_map f T l (fun y hy => h y (by simp [hy]))⟩
/-- The node with the places of its Args. -/
def placed (T : List Nd) (a : Nat → Int) (x : Nat) : Nd := ⟨T[x]!.op, T[x]!.width, T[x]!.flags, T[x]!.args.map fun y => a y.toNat, T[x]!.imm⟩
/-- A node the Args of which are placed comes off the stack. -/
theorem ShM.pop {T : List Nd} {n k : Nat} {out : List Nd} {x : Nat} {s : List Nat} {a : Nat → Int} (h : ShM T n k out (x :: s) a) (hd : Down T) (hn : n = T.length) (hm : firstNeg a T[x]!.args < 0) : ShM T n k (addP out (placed T a x)) s (updZ a x ((ix out (placed T a x) : Nat) : Int)) := by
  have hx := h.mem x (by simp)
  have hxT : x < T.length := by omega
  have hnn : ∀ y ∈ T[x]!.args, 0 ≤ y ∧ y.toNat < x := fun y hy => by
    obtain ⟨p, rfl, hp⟩ := down_mem hd hxT hy
    exact ⟨by omega, by omega⟩
  have hall := firstNeg_none (fun y hy => (hnn y hy).1) hm
  have hL : HasL out (argT T x) (T[x]!.args.map fun y => (a y.toNat).toNat) := hasL_map (fun y => (a y).toNat) T T[x]!.args (fun y hy => h.inv _ (by have := hnn y hy; omega) (hall y hy))
  have hargs : (T[x]!.args.map fun y => (a y.toNat).toNat).map (fun (i : Nat) => (i : Int)) = T[x]!.args.map fun y => a y.toNat := by
    rw [List.map_map]
    refine List.map_congr_left fun y hy => ?_
    have := hall y hy
    simp only [Function.comp]
    omega
  have hins : ins (tr T x) out = (ix out (placed T a x), addP out (placed T a x)) := by
    rw [tr_eq hd hxT, ins, show (T[x]!.args.map fun y => tr T y.toNat) = argT T x from rfl, insL_has _ _ _ h.once hL]
    simp only
    rw [hargs]
    rfl
  have hlt : ∀ y ∈ s, x < y := h.chain x s rfl
  have hpre : Pre out (addP out (placed T a x)) := addP_pre _
  refine ⟨addP_once h.once _, fun j hj h0 => ?_, fun y hy => ?_, fun y t e z hz => ?_, ?_, (List.pairwise_cons.1 h.pw).2⟩
  · by_cases e : j = x
    · subst e
      rw [updZ, if_pos rfl, Int.toNat_natCast]
      have := (ins_ok (tr T j) out h.once).2.2
      rw [hins] at this
      exact this
    · simp only [updZ, if_neg e] at h0 ⊢
      exact has_pre hpre _ _ (h.inv j hj h0)
  · have h1 := h.mem y (by simp [hy])
    have h2 := hlt y hy
    simp only [updZ, if_neg (show ¬ y = x by omega)]
    exact h1
  · subst e
    exact (List.pairwise_cons.1 (List.pairwise_cons.1 h.pw).2).1 z hz
  · rw [← h.fold, foldS, hins]
/-- What a cell holds as a number. -/
def cellZ (w : World) (b j : Nat) : Int := match w.cell? ⟨b, j, none⟩ with
  | some (.int _ x) => x
  | _ => 0
/-- The number on top of a row. -/
def topZ (v : Value) (w : World) : Nat := match v with
  | .slice (some ad) (m + 1) _ => (cellZ w ad.block m).toNat
  | _ => 0
def mesZ (R n : Nat) (v : Value) (w : World) : Nat := (n + 1) * cntN (cellZ w R) n + topZ v w
theorem cellZ_row {w : World} {R n : Nat} {a : Nat → Int} (h : RowZ w R n a) : cntN (cellZ w R) n = cntN a n := cntN_congr n fun j hj => by
  unfold cellZ
  rw [(h.cell hj).1]
theorem topZ_row {w : World} {base : Nat} {v : Value} {st : List Int} {x : Nat} (h : w.ownsRow base 3 1 v (st.length + 1) (iV (st ++ [(x : Int)]))) : topZ v w = x := by
  obtain ⟨g, cap, rfl, -, -, -, h5⟩ := own_at h (by omega)
  have := h5 st.length (by omega)
  simp only [topZ, cellZ, this]
  simp
end Go.Proofs.YtbohigjfdnnomaaGreatDoor
