/-
  The small functions of both packages: widths, words, signed values, sizes, as contracts. No condition but that the table of masks is laid.
-/
import Derived.Test.YtbohigjfdnnomaaGreatDoorBitsOps
namespace Go.Proofs.YtbohigjfdnnomaaGreatDoor
open Go.RowKit

/-- 2^n, closed to the walk's simp. -/
def pw (n : Nat) : Nat := 2 ^ n
theorem pw_le {n : Nat} (h : n ≤ 32) : 1 ≤ pw n ∧ pw n ≤ 4294967296 := by
  unfold pw
  refine ⟨Nat.one_le_two_pow, ?_⟩
  have := Nat.pow_le_pow_right (n := 2) (by omega) h
  simpa using this
theorem pw_half {n : Nat} (h : 1 ≤ n) : pw n = 2 * pw (n - 1) := by
  unfold pw
  obtain ⟨m, rfl⟩ : ∃ m, n = m + 1 := ⟨n - 1, by omega⟩
  rw [Nat.pow_succ]; simp; omega
theorem pw_dvd {m n : Nat} (h : m ≤ n) : ∃ k, pw n = pw m * k := ⟨2 ^ (n - m), by unfold pw; rw [← Nat.pow_add]; congr 1; omega⟩

/-- The table of masks lies as its text lays it. -/
def Masks (w : World) : Prop := ∀ i : Nat, i ≤ 32 → w.cell? ⟨1, i, none⟩ = some (.int .u32 ((pw i - 1 : Nat) : Int))
theorem Masks.below {B : Nat} {w w1 : World} (h : Masks w) (hb : Below B w w1) (hB : w.heap.size ≤ B) : Masks w1 := fun i hi => by
  have h1 := h i hi
  have h2 : 1 < w.heap.size := block_lt_of_cell h1
  exact (hb.cell (p := ⟨1, i, none⟩) (Nat.lt_of_lt_of_le h2 hB)).trans h1
theorem Masks.alloc {w : World} (h : Masks w) (o : Obj) : Masks (w.alloc o) := h.below ((Below.refl _ _).alloc (Nat.le_refl _) _) (Nat.le_refl _)
theorem ret_of {v v' : Value} (h : v = v') : Ending.returned v = .returned v' := by rw [h]
theorem ret_b {a b : Bool} (h : a = b) : Ending.returned (.bool a) = .returned (.bool b) := by rw [h]
theorem ret_i {k : IntKind} {a b : Int} (h : a = b) : Ending.returned (.int k a) = .returned (.int k b) := by rw [h]
theorem wrap64_in {x : Int} (h1 : -9223372036854775808 ≤ x) (h2 : x ≤ 9223372036854775807) : wrap64 x = x := by unfold wrap64; omega
theorem isWidth_yes (n : Int) (w : World) (h1 : 1 ≤ n) (h2 : n ≤ 32) : Calls Tryz.prog 97 #[.int .i64 n] w fun e w' => e = .returned (.bool true) ∧ w = w' := by
  go_enter Tryz.func97, Tryz.ntmps97
  go_wp2
  go_ret
  exact ⟨rfl, rfl⟩
theorem isWidth_no (n : Int) (w : World) (h1 : n < 1 ∨ 32 < n) : Calls Tryz.prog 97 #[.int .i64 n] w fun e w' => e = .returned (.bool false) ∧ w = w' := by
  rcases h1 with h | h
  · go_enter Tryz.func97, Tryz.ntmps97
    go_wp2
    go_ret
    exact ⟨rfl, rfl⟩
  · have h1 : 1 ≤ n := by omega
    go_enter Tryz.func97, Tryz.ntmps97
    go_wp2
    go_ret
    exact ⟨ret_b (by simp; omega), rfl⟩
theorem refIsWidth_yes (n : Int) (w : World) (h1 : 1 ≤ n) (h2 : n ≤ 32) : Calls Tryz.prog 86 #[.int .i64 n] w fun e w' => e = .returned (.bool true) ∧ w = w' := by
  go_enter Tryz.func86, Tryz.ntmps86
  go_wp2
  go_ret
  exact ⟨rfl, rfl⟩
theorem refIsWidth_no (n : Int) (w : World) (h1 : n < 1 ∨ 32 < n) : Calls Tryz.prog 86 #[.int .i64 n] w fun e w' => e = .returned (.bool false) ∧ w = w' := by
  rcases h1 with h | h
  · go_enter Tryz.func86, Tryz.ntmps86
    go_wp2
    go_ret
    exact ⟨rfl, rfl⟩
  · have h1 : 1 ≤ n := by omega
    go_enter Tryz.func86, Tryz.ntmps86
    go_wp2
    go_ret
    exact ⟨ret_b (by simp; omega), rfl⟩
theorem size_any (n : Nat) (w : World) (h : n ≤ 32) : Calls Tryz.prog 87 #[.int .i64 n] w fun e w' => e = .returned (.int .i64 (pw n : Int)) ∧ w = w' := by
  have hp := pw_le h
  go_enter Tryz.func87, Tryz.ntmps87
  go_wp2
  go_ret
  exact ⟨ret_i (by have e : ((2 : Int) ^ n) = (pw n : Int) := by simp [pw]
                   rw [e]; exact wrap64_in (by omega) (by omega)), rfl⟩
theorem areWords_yes (n x y : Nat) (w : World) (hM : Masks w) (h1 : 1 ≤ n) (h2 : n ≤ 32) (hx : x < pw n) (hy : y < pw n) :
    Calls Tryz.prog 95 #[.int .i64 n, .int .u32 x, .int .u32 y] w fun e w' => e = .returned (.bool true) ∧ w = w' := by
  have hc := hM n h2
  go_enter Tryz.func95, Tryz.ntmps95
  go_wp2
  go_ret
  exact ⟨ret_b (by simp; omega), rfl⟩
theorem areWords_no (n : Int) (x y : Nat) (w : World) (hM : Masks w) (h : n < 1 ∨ 32 < n ∨ pw n.toNat ≤ x ∨ pw n.toNat ≤ y) :
    Calls Tryz.prog 95 #[.int .i64 n, .int .u32 x, .int .u32 y] w fun e w' => e = .returned (.bool false) ∧ w = w' := by
  by_cases hw : n < 1 ∨ 32 < n
  · go_enter Tryz.func95, Tryz.ntmps95
    go_wp2_with (go_at_call 97; refine (isWidth_no _ _ hw).mono ?_; rintro e w' ⟨rfl, rfl⟩)
    go_ret
    exact ⟨rfl, rfl⟩
  · obtain ⟨m, rfl⟩ : ∃ m : Nat, n = m := ⟨n.toNat, by omega⟩
    have h1 : 1 ≤ m := by omega
    have h2 : m ≤ 32 := by omega
    have hc := hM m h2
    have hp := pw_le h2
    have h' : pw m ≤ x ∨ pw m ≤ y := by simpa [show ¬ ((m : Int) < 1) by omega, show ¬ (32 < (m : Int)) by omega] using h
    clear h hw
    by_cases hx : x ≤ pw m - 1
    · go_enter Tryz.func95, Tryz.ntmps95
      go_wp2
      go_ret
      exact ⟨ret_b (by simp; omega), rfl⟩
    · go_enter Tryz.func95, Tryz.ntmps95
      go_wp2
      go_ret
      exact ⟨rfl, rfl⟩
end Go.Proofs.YtbohigjfdnnomaaGreatDoor
