/-
  TopWords where a word is none.
-/
import Derived.Test.YtgnaohhopbhihaaDoorTopA
import Derived.Test.YtgnaohhopbhihaaDoorLoopG
namespace Go.Proofs.YtgnaohhopbhihaaDoor
open Go.RowKit

theorem does_99 (w : World) (hM : Masks w) : Calls Tryd.prog 13 #[.int .i64 1, .int .i64 4, .int .u32 9, .int .u32 9] w fun e w' => e = .returned (.tuple #[.int .u32 2, .bool true]) ∧ Below w.heap.size w w' := by
  have h := does_some 4 9 9 w hM (by omega) (by omega) (by decide) (by decide) 1 (by omega) (by omega) (by decide)
  rw [show doF 1 4 9 9 = 2 by decide] at h
  exact h
set_option maxRecDepth 100000 in
theorem top_bad (m : Int) (a b : Nat) (y l : Int) (w : World) (hM : Masks w) (a32 : a < 4294967296) (b32 : b < 4294967296) (hbad : m < 1 ∨ 32 < m ∨ pw m.toNat ≤ a ∨ pw m.toNat ≤ b) :
    Calls Tryd.prog 3 #[.int .i64 m, .agg #[.int .u32 a, .int .u32 b, .int .i64 y, .int .i64 l]] w fun e w' => e = .returned (.bool true) ∧ Below w.heap.size w w' := by
  obtain ⟨o, ho⟩ : ∃ o : Obj, o = .cells #[.int .u32 a, .int .u32 b, .int .i64 y, .int .i64 l] 24 := ⟨_, rfl⟩
  have g0 : Way16 (w.alloc o) (w.alloc o) := ⟨hM.alloc o, Below.refl _ _⟩
  have k0 : (w.alloc o).cell? ⟨w.heap.size, 0, none⟩ = some (.int .u32 a) := by rw [ho]; simp [go_sem]
  have k1 : (w.alloc o).cell? ⟨w.heap.size, 1, none⟩ = some (.int .u32 b) := by rw [ho]; simp [go_sem]
  have K0 := Lib.hid k0
  have K1 := Lib.hid k1
  clear k0 k1
  have HB := Lib.hid (show ((1 : Int) < 1 ∨ (13 : Int) < 1) ∨ ((1 : Int) ≤ 1 ∧ (1 : Int) ≤ 13) ∧ (m < 1 ∨ 32 < m ∨ pw m.toNat ≤ a ∨ pw m.toNat ≤ b) from .inr ⟨by omega, hbad⟩)
  by_cases ha : m < 1 ∨ 32 < m ∨ pw m.toNat ≤ a
  · have HA := Lib.hid ha
    clear hbad ha
    go_enter Tryd.func3, Tryd.ntmps3
    go_wp2_with fail
    rw [← ho]
    refine (does_99 _ g0.1).mono ?_
    rintro e w1 ⟨rfl, hb1⟩
    have g1 := g0.next hb1
    have u0 := box_cell g1 K0.out
    have u1 := box_cell g1 K1.out
    go_wp2_with fail
    refine (isWord_no m a _ a32 HA.out).mono ?_
    rintro e w2 ⟨rfl, rfl⟩
    go_wp2_with fail
    refine (do_err 1 m a b _ g1.1 HB.out).mono ?_
    rintro e w3 ⟨rfl, rfl⟩
    go_wp2
    go_ret
    exact ⟨rfl, way_base g1⟩
  · obtain ⟨n, rfl, h1, h2, ha', hb'⟩ : ∃ n : Nat, m = n ∧ 1 ≤ n ∧ n ≤ 32 ∧ a < pw n ∧ pw n ≤ b := by
      exact ⟨m.toNat, by omega, by omega, by omega, by omega, by omega⟩
    have HA := Lib.hid (show (n : Int) < 1 ∨ 32 < (n : Int) ∨ pw (n : Int).toNat ≤ b from .inr (.inr (by simpa using hb')))
    clear hbad ha
    go_enter Tryd.func3, Tryd.ntmps3
    go_wp2_with fail
    rw [← ho]
    refine (does_99 _ g0.1).mono ?_
    rintro e w1 ⟨rfl, hb1⟩
    have g1 := g0.next hb1
    have u0 := box_cell g1 K0.out
    have u1 := box_cell g1 K1.out
    go_wp2_with fail
    refine (isWord_yes n a _ h1 h2 ha').mono ?_
    rintro e w2 ⟨rfl, rfl⟩
    go_wp2_with fail
    refine (isWord_no n b _ b32 HA.out).mono ?_
    rintro e w2 ⟨rfl, rfl⟩
    go_wp2_with fail
    refine (do_err 1 n a b _ g1.1 HB.out).mono ?_
    rintro e w3 ⟨rfl, rfl⟩
    go_wp2
    go_ret
    exact ⟨rfl, way_base g1⟩
end Go.Proofs.YtgnaohhopbhihaaDoor
