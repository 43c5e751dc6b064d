/-
  Mask, Signed and Of of both packages, and the walk of BitsWords.
-/
import Derived.Test.YtbohigjfdnnomaaGreatDoorBitsK
namespace Go.Proofs.YtbohigjfdnnomaaGreatDoor
open Go.RowKit

theorem areWords0_yes (n x : Nat) (w : World) (hM : Masks w) (h1 : 1 ≤ n) (h2 : n ≤ 32) (hx : x < pw n) :
    Calls Tryz.prog 95 #[.int .i64 n, .int .u32 x, .int .u32 0] w fun e w' => e = .returned (.bool true) ∧ w = w' :=
  areWords_yes n x 0 w hM h1 h2 hx (by have := pw_le h2; omega)
theorem areWords0_no (n : Int) (x : Nat) (w : World) (hM : Masks w) (h : n < 1 ∨ 32 < n ∨ pw n.toNat ≤ x) :
    Calls Tryz.prog 95 #[.int .i64 n, .int .u32 x, .int .u32 0] w fun e w' => e = .returned (.bool false) ∧ w = w' :=
  areWords_no n x 0 w hM (by rcases h with h | h | h <;> simp [h])
theorem isWord_yes (n x : Nat) (w : World) (h1 : 1 ≤ n) (h2 : n ≤ 32) (hx : x < pw n) :
    Calls Tryz.prog 67 #[.int .i64 n, .int .u32 x] w fun e w' => e = .returned (.bool true) ∧ w = w' := by
  have hp := pw_le h2
  go_enter Tryz.func67, Tryz.ntmps67
  go_wp2_with (first
    | (go_at_call 86; refine (refIsWidth_yes _ _ (by omega) (by omega)).mono ?_; rintro e w' ⟨rfl, rfl⟩)
    | (go_at_call 87; refine (size_any n _ h2).mono ?_; rintro e w' ⟨rfl, rfl⟩))
  go_ret
  exact ⟨ret_b (by simp), rfl⟩
theorem isWord_no (n : Int) (x : Nat) (w : World) (x32 : x < 4294967296) (h : n < 1 ∨ 32 < n ∨ pw n.toNat ≤ x) :
    Calls Tryz.prog 67 #[.int .i64 n, .int .u32 x] w fun e w' => e = .returned (.bool false) ∧ w = w' := by
  by_cases hw : n < 1 ∨ 32 < n
  · go_enter Tryz.func67, Tryz.ntmps67
    go_wp2_with (go_at_call 86; refine (refIsWidth_no _ _ hw).mono ?_; rintro e w' ⟨rfl, rfl⟩)
    go_ret
    exact ⟨rfl, rfl⟩
  · obtain ⟨m, rfl⟩ : ∃ m : Nat, n = m := ⟨n.toNat, by omega⟩
    have h1 : 1 ≤ m := by omega
    have h2 : m ≤ 32 := by omega
    have h' : pw m ≤ x := by simpa [show ¬ ((m : Int) < 1) by omega, show ¬ (32 < (m : Int)) by omega] using h
    clear h hw
    go_enter Tryz.func67, Tryz.ntmps67
    go_wp2_with (first
      | (go_at_call 86; refine (refIsWidth_yes _ _ (by omega) (by omega)).mono ?_; rintro e w' ⟨rfl, rfl⟩)
      | (go_at_call 87; refine (size_any m _ h2).mono ?_; rintro e w' ⟨rfl, rfl⟩))
    go_ret
    exact ⟨ret_b (by simp; omega), rfl⟩
theorem wr_sgn (n x : Nat) (hx : x < pw n) : wr n (sgn n x) = x := by
  unfold wr sgn
  have e : ((x : Int)) % (pw n : Int) = x := Int.emod_eq_of_lt (by omega) (by omega)
  split
  · have : ((x : Int) - (pw n : Int)) % (pw n : Int) = x := by rw [Int.sub_emod_right]; exact e
    omega
  · omega

end Go.Proofs.YtbohigjfdnnomaaGreatDoor
