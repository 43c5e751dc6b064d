/-
  Instructions as data; what fields an operation has.
-/
import Derived.Test.YtjlacdnkncgpaaaRows
import Derived.WalkKit
import Derived.IntWalk
import Derived.ProofKit
import Derived.Laws.Rows
import Derived.WalkLawsBesides
import Derived.WalkSpells
import Derived.Outline
import Derived.OwnWalk
import Derived.Lib.Hide
import Derived.Deep.QuietTactic
import Derived.BigQuiet
import Derived.StillTailTactics
import Derived.Below
namespace Go.Proofs.Ytjlacdnkncgpaaa
open Go.RowKit

/-- An instruction. -/
structure Cod where
  op : Int
  d : Int
  a : Int
  b : Int
  imm : Int
  to : Int
deriving DecidableEq, Inhabited
def encC (x : Cod) : List Value := [.int .i64 x.op, .int .i64 x.d, .int .i64 x.a, .int .i64 x.b, .int .u32 x.imm, .int .i64 x.to]
abbrev aggC (x : Cod) : Value := .agg #[.int .i64 x.op, .int .i64 x.d, .int .i64 x.a, .int .i64 x.b, .int .u32 x.imm, .int .i64 x.to]
theorem ret_b {a b : Bool} (h : a = b) : Ending.returned (.bool a) = .returned (.bool b) := by rw [h]
theorem ret_i {k : IntKind} {a b : Int} (h : a = b) : Ending.returned (.int k a) = .returned (.int k b) := by rw [h]
/-- Which fields an operation has. -/
structure Shp where
  d : Bool
  a : Bool
  b : Bool
  imm : Bool
  to : Bool
  place : Bool
deriving DecidableEq
abbrev aggS (s : Shp) : Value := .agg #[.bool s.d, .bool s.a, .bool s.b, .bool s.imm, .bool s.to, .bool s.place]
def shF (op : Int) : Shp :=
  if op = 0 then ⟨true, false, false, true, false, false⟩ else if op = 1 then ⟨true, true, false, false, false, false⟩
  else if 2 ≤ op ∧ op ≤ 17 then ⟨true, true, true, false, false, false⟩ else if 18 ≤ op ∧ op ≤ 20 then ⟨true, true, false, true, false, true⟩
  else if 21 ≤ op ∧ op ≤ 23 then ⟨false, true, true, true, false, true⟩ else if op = 24 then ⟨false, false, false, false, true, false⟩
  else if op = 25 then ⟨false, true, false, false, true, false⟩ else ⟨false, false, false, false, false, false⟩
set_option maxHeartbeats 2000000 in
theorem shapeOf_any (op : Int) (w : World) : Calls Try.prog 57 #[.int .i64 op] w fun e w' => e = .returned (aggS (shF op)) ∧ Below w.heap.size w w' := by
  by_cases h0 : op = 0
  · subst h0
    go_enter Try.func57, Try.ntmps57
    go_wp2
    exact bodyPost_ret (v := aggS ⟨true, false, false, true, false, false⟩) (by simp [results, Try.results57, go_sem]) rfl ⟨rfl, (Below.refl _ _).alloc (Nat.le_refl _) _⟩
  by_cases h1 : op = 1
  · subst h1
    go_enter Try.func57, Try.ntmps57
    go_wp2
    exact bodyPost_ret (v := aggS ⟨true, true, false, false, false, false⟩) (by simp [results, Try.results57, go_sem]) rfl ⟨rfl, (Below.refl _ _).alloc (Nat.le_refl _) _⟩
  by_cases h2 : 2 ≤ op ∧ op ≤ 17
  · obtain ⟨g1, g2⟩ := h2
    have E := Lib.hid (show shF op = ⟨true, true, true, false, false, false⟩ by unfold shF; repeat (first | rw [if_neg (by omega)] | rw [if_pos (by omega)]))
    go_enter Try.func57, Try.ntmps57
    go_wp2
    exact bodyPost_ret (v := aggS ⟨true, true, true, false, false, false⟩) (by simp [results, Try.results57, go_sem]) rfl ⟨by rw [E.out], (Below.refl _ _).alloc (Nat.le_refl _) _⟩
  by_cases h3 : 18 ≤ op ∧ op ≤ 20
  · obtain ⟨g1, g2⟩ := h3
    have E := Lib.hid (show shF op = ⟨true, true, false, true, false, true⟩ by unfold shF; repeat (first | rw [if_neg (by omega)] | rw [if_pos (by omega)]))
    go_enter Try.func57, Try.ntmps57
    go_wp2
    exact bodyPost_ret (v := aggS ⟨true, true, false, true, false, true⟩) (by simp [results, Try.results57, go_sem]) rfl ⟨by rw [E.out], (Below.refl _ _).alloc (Nat.le_refl _) _⟩
  by_cases h4 : 21 ≤ op ∧ op ≤ 23
  · obtain ⟨g1, g2⟩ := h4
    have E := Lib.hid (show shF op = ⟨false, true, true, true, false, true⟩ by unfold shF; repeat (first | rw [if_neg (by omega)] | rw [if_pos (by omega)]))
    go_enter Try.func57, Try.ntmps57
    go_wp2
    exact bodyPost_ret (v := aggS ⟨false, true, true, true, false, true⟩) (by simp [results, Try.results57, go_sem]) rfl ⟨by rw [E.out], (Below.refl _ _).alloc (Nat.le_refl _) _⟩
  by_cases h5 : op = 24
  · subst h5
    go_enter Try.func57, Try.ntmps57
    go_wp2
    exact bodyPost_ret (v := aggS ⟨false, false, false, false, true, false⟩) (by simp [results, Try.results57, go_sem]) rfl ⟨rfl, (Below.refl _ _).alloc (Nat.le_refl _) _⟩
  by_cases h6 : op = 25
  · subst h6
    go_enter Try.func57, Try.ntmps57
    go_wp2
    exact bodyPost_ret (v := aggS ⟨false, true, false, false, true, false⟩) (by simp [results, Try.results57, go_sem]) rfl ⟨rfl, (Below.refl _ _).alloc (Nat.le_refl _) _⟩
  by_cases g1 : op < 0
  · have E := Lib.hid (show shF op = ⟨false, false, false, false, false, false⟩ by unfold shF; repeat (first | rw [if_neg (by omega)] | rw [if_pos (by omega)]))
    clear h2 h3 h4
    go_enter Try.func57, Try.ntmps57
    go_wp2
    exact bodyPost_ret (v := aggS ⟨false, false, false, false, false, false⟩) (by simp [results, Try.results57, go_sem]) rfl ⟨by rw [E.out], (Below.refl _ _).alloc (Nat.le_refl _) _⟩
  · have g2 : 25 < op := by omega
    have E := Lib.hid (show shF op = ⟨false, false, false, false, false, false⟩ by unfold shF; repeat (first | rw [if_neg (by omega)] | rw [if_pos (by omega)]))
    clear h2 h3 h4
    go_enter Try.func57, Try.ntmps57
    go_wp2
    exact bodyPost_ret (v := aggS ⟨false, false, false, false, false, false⟩) (by simp [results, Try.results57, go_sem]) rfl ⟨by rw [E.out], (Below.refl _ _).alloc (Nat.le_refl _) _⟩
/-- Whether a number fits a field. -/
def fldB (x lim : Int) (has : Bool) : Bool := if has then decide (0 ≤ x ∧ x < lim) else decide (x = 0)
theorem isField_any (x lim : Int) (has : Bool) (w : World) (hl : 0 < lim) : Calls Try.prog 58 #[.int .i64 x, .int .i64 lim, .bool has] w fun e w' => e = .returned (.bool (fldB x lim has)) ∧ w = w' := by
  cases has
  · by_cases h : x = 0
    · subst h
      go_enter Try.func58, Try.ntmps58
      go_wp2
      go_ret
      exact ⟨rfl, rfl⟩
    · have E := Lib.hid (show fldB x lim false = false by simp [fldB, h])
      have d0 : (x == 0) = false := by simp [h]
      go_enter Try.func58, Try.ntmps58
      go_wp2
      go_ret
      exact ⟨ret_b (by rw [E.out]), rfl⟩
  · by_cases h : 0 ≤ x
    · by_cases h2 : x < lim
      · have E := Lib.hid (show fldB x lim true = true by simp [fldB, h, h2])
        have d1 : decide (0 ≤ x) = true := decide_eq_true h
        have d2 : decide (x < lim) = true := decide_eq_true h2
        go_enter Try.func58, Try.ntmps58
        go_wp2
        all_goals go_ret
        all_goals exact ⟨ret_b (by rw [E.out]), rfl⟩
      · have E := Lib.hid (show fldB x lim true = false by simp [fldB, h2])
        have d1 : decide (0 ≤ x) = true := decide_eq_true h
        have d2 : decide (x < lim) = false := decide_eq_false h2
        go_enter Try.func58, Try.ntmps58
        go_wp2
        all_goals go_ret
        all_goals exact ⟨ret_b (by rw [E.out]), rfl⟩
    · have E := Lib.hid (show fldB x lim true = false by simp [fldB, h])
      have d1 : decide (0 ≤ x) = false := decide_eq_false h
      have d0 : (x == 0) = false := by simp; omega
      go_enter Try.func58, Try.ntmps58
      go_wp2
      go_ret
      exact ⟨ret_b (by rw [E.out]), rfl⟩
end Go.Proofs.Ytjlacdnkncgpaaa
