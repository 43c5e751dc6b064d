/-
  Mask, Signed and Of of both packages, and the walk of BitsWords.
-/
import Derived.Test.YtgnaohhopbhihaaDoorBitsK
namespace Go.Proofs.YtgnaohhopbhihaaDoor
open Go.RowKit

theorem areWords0_yes (n x : Nat) (w : World) (hM : Masks w) (h1 : 1 ≤ n) (h2 : n ≤ 32) (hx : x < pw n) :
    Calls Tryd.prog 52 #[.int .i64 n, .int .u32 x, .int .u32 0] w fun e w' => e = .returned (.bool true) ∧ w = w' :=
  areWords_yes n x 0 w hM h1 h2 hx (by have := pw_le h2; omega)
theorem areWords0_no (n : Int) (x : Nat) (w : World) (hM : Masks w) (h : n < 1 ∨ 32 < n ∨ pw n.toNat ≤ x) :
    Calls Tryd.prog 52 #[.int .i64 n, .int .u32 x, .int .u32 0] w fun e w' => e = .returned (.bool false) ∧ w = w' :=
  areWords_no n x 0 w hM (by rcases h with h | h | h <;> simp [h])
theorem isWord_yes (n x : Nat) (w : World) (h1 : 1 ≤ n) (h2 : n ≤ 32) (hx : x < pw n) :
    Calls Tryd.prog 14 #[.int .i64 n, .int .u32 x] w fun e w' => e = .returned (.bool true) ∧ w = w' := by
  have hp := pw_le h2
  go_enter Tryd.func14, Tryd.ntmps14
  go_wp2_with (first
    | (go_at_call 49; refine (refIsWidth_yes _ _ (by omega) (by omega)).mono ?_; rintro e w' ⟨rfl, rfl⟩)
    | (go_at_call 50; refine (size_any n _ h2).mono ?_; rintro e w' ⟨rfl, rfl⟩))
  go_ret
  exact ⟨ret_b (by simp), rfl⟩
theorem isWord_no (n : Int) (x : Nat) (w : World) (x32 : x < 4294967296) (h : n < 1 ∨ 32 < n ∨ pw n.toNat ≤ x) :
    Calls Tryd.prog 14 #[.int .i64 n, .int .u32 x] w fun e w' => e = .returned (.bool false) ∧ w = w' := by
  by_cases hw : n < 1 ∨ 32 < n
  · go_enter Tryd.func14, Tryd.ntmps14
    go_wp2_with (go_at_call 49; refine (refIsWidth_no _ _ hw).mono ?_; rintro e w' ⟨rfl, rfl⟩)
    go_ret
    exact ⟨rfl, rfl⟩
  · obtain ⟨m, rfl⟩ : ∃ m : Nat, n = m := ⟨n.toNat, by omega⟩
    have h1 : 1 ≤ m := by omega
    have h2 : m ≤ 32 := by omega
    have h' : pw m ≤ x := by simpa [show ¬ ((m : Int) < 1) by omega, show ¬ (32 < (m : Int)) by omega] using h
    clear h hw
    go_enter Tryd.func14, Tryd.ntmps14
    go_wp2_with (first
      | (go_at_call 49; refine (refIsWidth_yes _ _ (by omega) (by omega)).mono ?_; rintro e w' ⟨rfl, rfl⟩)
      | (go_at_call 50; refine (size_any m _ h2).mono ?_; rintro e w' ⟨rfl, rfl⟩))
    go_ret
    exact ⟨ret_b (by simp; omega), rfl⟩
theorem mask_ok (n : Nat) (w : World) (hM : Masks w) (h1 : 1 ≤ n) (h2 : n ≤ 32) : Calls Tryd.prog 62 #[.int .i64 n] w fun e w' => e = .returned (.tuple #[.int .u32 (pw n - 1 : Nat), .int .i64 0]) ∧ w = w' := by
  have hc := hM n h2
  go_enter Tryd.func62, Tryd.ntmps62
  go_wp2_with (go_at_call 57; refine (isWidth_yes _ _ (by omega) (by omega)).mono ?_; rintro e w' ⟨rfl, rfl⟩)
  go_ret2
  exact ⟨rfl, rfl⟩
theorem mask_err (n : Int) (w : World) (h : n < 1 ∨ 32 < n) : Calls Tryd.prog 62 #[.int .i64 n] w fun e w' => e = .returned (.tuple #[.int .u32 0, .int .i64 1]) ∧ w = w' := by
  go_enter Tryd.func62, Tryd.ntmps62
  go_wp2_with (go_at_call 57; refine (isWidth_no _ _ h).mono ?_; rintro e w' ⟨rfl, rfl⟩)
  go_ret2
  exact ⟨rfl, rfl⟩
theorem sig_ok (n x : Nat) (w : World) (hM : Masks w) (h1 : 1 ≤ n) (h2 : n ≤ 32) (hx : x < pw n) : Calls Tryd.prog 54 #[.int .i64 n, .int .u32 x] w fun e w' => e = .returned (.tuple #[.int .i64 (sgn n x), .int .i64 0]) ∧ w = w' := by
  go_enter Tryd.func54, Tryd.ntmps54
  go_wp2_with (first
    | (go_at_call 52; refine (areWords0_yes n x _ hM h1 h2 hx).mono ?_; rintro e w' ⟨rfl, rfl⟩)
    | (go_at_call 59; refine (signed_any n x _ hM h1 h2 hx).mono ?_; rintro e w' ⟨rfl, rfl⟩))
  go_ret2
  exact ⟨rfl, rfl⟩
theorem sig_err (n : Int) (x : Nat) (w : World) (hM : Masks w) (h : n < 1 ∨ 32 < n ∨ pw n.toNat ≤ x) : Calls Tryd.prog 54 #[.int .i64 n, .int .u32 x] w fun e w' => e = .returned (.tuple #[.int .i64 0, .int .i64 1]) ∧ w = w' := by
  go_enter Tryd.func54, Tryd.ntmps54
  go_wp2_with (go_at_call 52; refine (areWords0_no n x _ hM h).mono ?_; rintro e w' ⟨rfl, rfl⟩)
  go_ret2
  exact ⟨rfl, rfl⟩
theorem wr_sgn (n x : Nat) (hx : x < pw n) : wr n (sgn n x) = x := by
  unfold wr sgn
  have e : ((x : Int)) % (pw n : Int) = x := Int.emod_eq_of_lt (by omega) (by omega)
  split
  · have : ((x : Int) - (pw n : Int)) % (pw n : Int) = x := by rw [Int.sub_emod_right]; exact e
    omega
  · omega

end Go.Proofs.YtgnaohhopbhihaaDoor
