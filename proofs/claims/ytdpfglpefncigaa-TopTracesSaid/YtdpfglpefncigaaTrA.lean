/-
  Places of a table as data; the small functions of both packages.
-/
import Derived.Test.YtdpfglpefncigaaRows
import Derived.WalkKit
import Derived.IntWalk
import Derived.ProofKit
import Derived.Laws.Rows
import Derived.WalkLawsBesides
import Derived.WalkSpells
import Derived.Outline
import Derived.OwnWalk
import Derived.Lib.Hide
import Derived.Deep.QuietTactic
import Derived.BigQuiet
import Derived.StillTailTactics
import Derived.Below
namespace Go.Proofs.Ytdpfglpefncigaa
open Go.RowKit

/-- A place: where it begins and ends, its variable, its kind, its number. -/
structure Plc where
  a : Int
  z : Int
  v : Int
  k : Int
  n : Int
deriving DecidableEq, Inhabited
def encP (p : Plc) : List Value := [.int .i64 p.a, .int .i64 p.z, .int .i64 p.v, .int .i64 p.k, .int .i64 p.n]
abbrev aggP (p : Plc) : Value := .agg #[.int .i64 p.a, .int .i64 p.z, .int .i64 p.v, .int .i64 p.k, .int .i64 p.n]
theorem ret_b {a b : Bool} (h : a = b) : Ending.returned (.bool a) = .returned (.bool b) := by rw [h]
theorem ret_i {k : IntKind} {a b : Int} (h : a = b) : Ending.returned (.int k a) = .returned (.int k b) := by rw [h]
/-- Whether a number is from lo to hi. -/
def inB (n lo hi : Int) : Bool := decide (lo ≤ n ∧ n ≤ hi)
theorem inB_yes {n lo hi : Int} (h1 : lo ≤ n) (h2 : n ≤ hi) : inB n lo hi = true := decide_eq_true ⟨h1, h2⟩
theorem inB_no {n lo hi : Int} (h : n < lo ∨ hi < n) : inB n lo hi = false := decide_eq_false (by omega)
theorem inB_iff {n lo hi : Int} : inB n lo hi = true ↔ lo ≤ n ∧ n ≤ hi := decide_eq_true_iff
theorem isAddress_any (n : Int) (w : World) : Calls Try.prog 60 #[.int .i64 n] w fun e w' => e = .returned (.bool (inB n 0 32768)) ∧ w = w' := by
  by_cases h1 : 0 ≤ n
  · by_cases h2 : n ≤ 32768
    · have E := Lib.hid (inB_yes h1 h2)
      go_enter Try.func60, Try.ntmps60
      go_wp2
      go_ret
      exact ⟨ret_b (by rw [E.out]), rfl⟩
    · have E := Lib.hid (inB_no (lo := 0) (hi := 32768) (n := n) (by omega))
      go_enter Try.func60, Try.ntmps60
      go_wp2
      go_ret
      exact ⟨ret_b (by rw [E.out]), rfl⟩
  · have E := Lib.hid (inB_no (lo := 0) (hi := 32768) (n := n) (by omega))
    go_enter Try.func60, Try.ntmps60
    go_wp2
    go_ret
    exact ⟨ret_b (by rw [E.out]), rfl⟩
theorem isVariable_any (n : Int) (w : World) : Calls Try.prog 59 #[.int .i64 n] w fun e w' => e = .returned (.bool (inB n 0 63)) ∧ w = w' := by
  by_cases h1 : 0 ≤ n
  · by_cases h2 : n ≤ 63
    · have E := Lib.hid (inB_yes h1 h2)
      go_enter Try.func59, Try.ntmps59
      go_wp2
      go_ret
      exact ⟨ret_b (by rw [E.out]), rfl⟩
    · have E := Lib.hid (inB_no (lo := 0) (hi := 63) (n := n) (by omega))
      go_enter Try.func59, Try.ntmps59
      go_wp2
      go_ret
      exact ⟨ret_b (by rw [E.out]), rfl⟩
  · have E := Lib.hid (inB_no (lo := 0) (hi := 63) (n := n) (by omega))
    go_enter Try.func59, Try.ntmps59
    go_wp2
    go_ret
    exact ⟨ret_b (by rw [E.out]), rfl⟩
theorem within_any (n lo hi : Int) (w : World) : Calls Try.prog 41 #[.int .i64 n, .int .i64 lo, .int .i64 hi] w fun e w' => e = .returned (.bool (inB n lo hi)) ∧ w = w' := by
  by_cases h1 : lo ≤ n
  · by_cases h2 : n ≤ hi
    · have E := Lib.hid (inB_yes h1 h2)
      have d1 : decide (lo ≤ n) = true := decide_eq_true h1
      have d2 : decide (n ≤ hi) = true := decide_eq_true h2
      go_enter Try.func41, Try.ntmps41
      go_wp2
      go_ret
      exact ⟨ret_b (by rw [E.out]), rfl⟩
    · have E := Lib.hid (inB_no (lo := lo) (hi := hi) (n := n) (by omega))
      have d1 : decide (lo ≤ n) = true := decide_eq_true h1
      have d2 : decide (n ≤ hi) = false := decide_eq_false h2
      go_enter Try.func41, Try.ntmps41
      go_wp2
      go_ret
      exact ⟨ret_b (by rw [E.out]), rfl⟩
  · have E := Lib.hid (inB_no (lo := lo) (hi := hi) (n := n) (by omega))
    have d1 : decide (lo ≤ n) = false := decide_eq_false h1
    go_enter Try.func41, Try.ntmps41
    go_wp2
    go_ret
    exact ⟨ret_b (by rw [E.out]), rfl⟩
/-- Whether a place covers an address. -/
def covB (p : Plc) (t : Int) : Bool := decide (p.a ≤ t ∧ t < p.z)
theorem covers_any (p : Plc) (t : Int) (w : World) : Calls Try.prog 47 #[aggP p, .int .i64 t] w fun e w' => e = .returned (.bool (covB p t)) ∧ Below w.heap.size w w' := by
  obtain ⟨a, z, v, k, n⟩ := p
  by_cases h1 : a ≤ t
  · by_cases h2 : t < z
    · have E := Lib.hid (show covB ⟨a, z, v, k, n⟩ t = true from decide_eq_true ⟨h1, h2⟩)
      have d1 : decide (a ≤ t) = true := decide_eq_true h1
      have d2 : decide (t < z) = true := decide_eq_true h2
      go_enter Try.func47, Try.ntmps47
      go_wp2
      go_ret
      exact ⟨ret_b (by rw [E.out]), (Below.refl _ _).alloc (Nat.le_refl _) _⟩
    · have E := Lib.hid (show covB ⟨a, z, v, k, n⟩ t = false from decide_eq_false (fun h => h2 h.2))
      have d1 : decide (a ≤ t) = true := decide_eq_true h1
      have d2 : decide (t < z) = false := decide_eq_false h2
      go_enter Try.func47, Try.ntmps47
      go_wp2
      go_ret
      exact ⟨ret_b (by rw [E.out]), (Below.refl _ _).alloc (Nat.le_refl _) _⟩
  · have E := Lib.hid (show covB ⟨a, z, v, k, n⟩ t = false from decide_eq_false (fun h => h1 h.1))
    have d1 : decide (a ≤ t) = false := decide_eq_false h1
    go_enter Try.func47, Try.ntmps47
    go_wp2
    go_ret
    exact ⟨ret_b (by rw [E.out]), (Below.refl _ _).alloc (Nat.le_refl _) _⟩
end Go.Proofs.Ytdpfglpefncigaa
