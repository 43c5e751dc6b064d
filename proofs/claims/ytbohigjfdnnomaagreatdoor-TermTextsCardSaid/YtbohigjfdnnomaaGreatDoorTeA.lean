/-
  Terms: nodes as data, and in memory.
-/
import Derived.Test.YtbohigjfdnnomaaGreatDoorBitsS
import Derived.WalkKit
import Derived.IntWalk
import Derived.ProofKit
import Derived.Laws.Rows
import Derived.Laws.AppendOwn
import Derived.Laws.OwnMore
import Derived.WalkLawsBesides
import Derived.WalkSpells
import Derived.Outline
import Derived.OwnWalk
import Derived.OneCell
import Derived.Lib.Hide
import Derived.Deep.QuietTactic
import Derived.BigQuiet
import Derived.StillTailTactics
import Derived.Below
import Derived.Lib.QuietBelow
import Derived.Laws.Tables
import Derived.Deep.Cut
import Derived.Deep.RegionHeld3
import Derived.Great.BuildSlice
namespace Go.Proofs.YtbohigjfdnnomaaGreatDoor
open Go.RowKit

/-- A node. -/
structure Nd where
  op : Int
  width : Int
  flags : Int
  args : List Int
  imm : Int
deriving DecidableEq, Inhabited
/-- A slice of numbers of any sign. -/
def Ints (w : World) (A : Option Addr) (n c : Nat) (l : List Int) : Prop := n = l.length ∧ n ≤ c ∧ c ≤ 9223372036854775807 ∧ (n = 0 ∨ ∃ b off, A = some ⟨b, off, none⟩ ∧ b < w.heap.size ∧ ∀ j, j < n → w.cell? ⟨b, off + j, none⟩ = some (.int .i64 l[j]!))
theorem Ints.below {w w' : World} {A : Option Addr} {n c : Nat} {l : List Int} (h : Ints w A n c l) (hb : Below w.heap.size w w') : Ints w' A n c l := by
  obtain ⟨h1, h2, h3, h4 | ⟨b, off, h4, h5, h6⟩⟩ := h
  · exact ⟨h1, h2, h3, .inl h4⟩
  · exact ⟨h1, h2, h3, .inr ⟨b, off, h4, Nat.lt_of_lt_of_le h5 hb.size, fun j hj => (hb.cell (p := ⟨b, off + j, none⟩) h5).trans (h6 j hj)⟩⟩
theorem Ints.at_ {w : World} {A : Option Addr} {n c : Nat} {l : List Int} (h : Ints w A n c l) {j : Nat} (hj : j < n) : ∃ b off, A = some ⟨b, off, none⟩ ∧ b < w.heap.size ∧ w.cell? ⟨b, off + j, none⟩ = some (.int .i64 l[j]!) := by
  obtain ⟨h1, h2, h3, h4 | ⟨b, off, h4, h5, h6⟩⟩ := h
  · omega
  · exact ⟨b, off, h4, h5, h6 j hj⟩
/-- The five cells of a node. -/
def At5 (w : World) (b o : Nat) (x : Nd) (A : Option Addr) (n c : Nat) : Prop :=
  w.cell? ⟨b, o, none⟩ = some (.int .i64 x.op) ∧ w.cell? ⟨b, o + 1, none⟩ = some (.int .i64 x.width) ∧ w.cell? ⟨b, o + 2, none⟩ = some (.int .i64 x.flags) ∧ w.cell? ⟨b, o + 3, none⟩ = some (.slice A n c) ∧ w.cell? ⟨b, o + 4, none⟩ = some (.int .u32 x.imm)
theorem At5.below {w w' : World} {b o : Nat} {x : Nd} {A : Option Addr} {n c : Nat} (h : At5 w b o x A n c) (hb : b < w.heap.size) (hw : Below w.heap.size w w') : At5 w' b o x A n c :=
  ⟨(hw.cell (p := ⟨b, o, none⟩) hb).trans h.1, (hw.cell (p := ⟨b, o + 1, none⟩) hb).trans h.2.1, (hw.cell (p := ⟨b, o + 2, none⟩) hb).trans h.2.2.1, (hw.cell (p := ⟨b, o + 3, none⟩) hb).trans h.2.2.2.1, (hw.cell (p := ⟨b, o + 4, none⟩) hb).trans h.2.2.2.2⟩
/-- A node as a value: its Args lie in memory. -/
def NodV (w : World) (v : Value) (x : Nd) : Prop := ∃ A n c, v = .agg #[.int .i64 x.op, .int .i64 x.width, .int .i64 x.flags, .slice A n c, .int .u32 x.imm] ∧ Ints w A n c x.args ∧ 0 ≤ x.imm ∧ x.imm < 4294967296
/-- A term in memory. -/
def Term (w : World) (A : Option Addr) (n c : Nat) (T : List Nd) : Prop := n = T.length ∧ n ≤ c ∧ c ≤ 9223372036854775807 ∧ (n = 0 ∨ ∃ b off, A = some ⟨b, off, none⟩ ∧ b < w.heap.size ∧ ∀ j, j < n → ∃ A' n' c', At5 w b (off + j * 5) T[j]! A' n' c' ∧ Ints w A' n' c' T[j]!.args ∧ 0 ≤ T[j]!.imm ∧ T[j]!.imm < 4294967296)
theorem Term.below {w w' : World} {A : Option Addr} {n c : Nat} {T : List Nd} (h : Term w A n c T) (hb : Below w.heap.size w w') : Term w' A n c T := by
  obtain ⟨h1, h2, h3, h4 | ⟨b, off, h4, h5, h6⟩⟩ := h
  · exact ⟨h1, h2, h3, .inl h4⟩
  · refine ⟨h1, h2, h3, .inr ⟨b, off, h4, Nat.lt_of_lt_of_le h5 hb.size, fun j hj => ?_⟩⟩
    obtain ⟨A', n', c', h7, h8, h9⟩ := h6 j hj
    exact ⟨A', n', c', h7.below h5 hb, h8.below hb, h9⟩
theorem Term.at_ {w : World} {A : Option Addr} {n c : Nat} {T : List Nd} (h : Term w A n c T) {j : Nat} (hj : j < n) : ∃ b off A' n' c', A = some ⟨b, off, none⟩ ∧ b < w.heap.size ∧ At5 w b (off + j * 5) T[j]! A' n' c' ∧ Ints w A' n' c' T[j]!.args ∧ 0 ≤ T[j]!.imm ∧ T[j]!.imm < 4294967296 := by
  obtain ⟨h1, h2, h3, h4 | ⟨b, off, h4, h5, h6⟩⟩ := h
  · omega
  · obtain ⟨A', n', c', h7, h8, h9, h10⟩ := h6 j hj
    exact ⟨b, off, A', n', c', h4, h5, h7, h8, h9, h10⟩
theorem cells5 {W : World} {B : Nat} {x : Nd} {A : Option Addr} {n c : Nat} {t : TypeId} (h : W.heap[B]? = some (.cells #[.int .i64 x.op, .int .i64 x.width, .int .i64 x.flags, .slice A n c, .int .u32 x.imm] t (0, 0))) : At5 W B 0 x A n c := by
  refine ⟨?_, ?_, ?_, ?_, ?_⟩ <;> simp [World.cell?, h]
def isOpB (op : Int) : Bool := decide (0 ≤ op ∧ op ≤ 18 ∨ op = 33)
def argN (op : Int) : Int := if 1 ≤ op ∧ op ≤ 14 then 2 else if op = 15 then 3 else if op = 0 ∨ op = 33 then 0 else 1
def immB (x : Nd) : Bool := if x.op = 0 then decide (x.imm < (pw x.width.toNat : Nat)) else if x.op = 33 then decide (x.imm < 4) else if x.op = 14 then decide (x.width = 1) && decide (x.imm ≤ 9) else decide (x.imm = 0)
def argsB (x : Nd) (k : Nat) : Bool := (List.range x.args.length).all fun i => decide (0 ≤ x.args[i]! ∧ x.args[i]! < (k : Int))
/-- Whether a node is right but for the widths of its Args. -/
def headB (x : Nd) : Bool := isOpB x.op && (decide (x.flags = 0) && (decide (1 ≤ x.width ∧ x.width ≤ 32) && decide ((x.args.length : Int) = argN x.op)))
def nodB (x : Nd) (k : Nat) : Bool := headB x && (argsB x k && immB x)
def wOf (T : List Nd) (x : Nd) (i : Nat) : Int := (T[(x.args[i]!).toNat]!).width
def fitB (T : List Nd) (x : Nd) : Bool :=
  if 1 ≤ x.op ∧ x.op ≤ 13 then decide (wOf T x 0 = x.width) && decide (wOf T x 1 = x.width)
  else if x.op = 14 then decide (wOf T x 0 = wOf T x 1)
  else if x.op = 15 then decide (wOf T x 0 = 1) && (decide (wOf T x 1 = x.width) && decide (wOf T x 2 = x.width))
  else if x.op = 16 ∨ x.op = 17 then decide (wOf T x 0 < x.width)
  else if x.op = 18 then decide (x.width < wOf T x 0) else true
def oneB (x y : Nd) : Bool := !(decide (x.op = 33) && (decide (y.op = 33) && (decide (x.imm = y.imm) && decide (x.width ≠ y.width))))
def oneW (T : List Nd) : Bool := (List.range T.length).all fun k => (List.range k).all fun i => oneB T[i]! T[k]!
def nodsB (T : List Nd) : Bool := (List.range T.length).all fun k => nodB T[k]! k
def fitsB (T : List Nd) : Bool := (List.range T.length).all fun k => fitB T T[k]!
/-- What Validate answers. -/
def valF (T : List Nd) : Int := if T.length < 1 ∨ 300 < T.length then 3 else if nodsB T then (if fitsB T then (if oneW T then 0 else 7) else 6) else 1
end Go.Proofs.YtbohigjfdnnomaaGreatDoor
