/-
  Mask, Signed and Of of both packages, and the walk of BitsWords.
-/
import Derived.Test.YtebhahmgbdglnaaDoorBitsK
namespace Go.Proofs.YtebhahmgbdglnaaDoor
open Go.RowKit

theorem areWords0_yes (n x : Nat) (w : World) (hM : Masks w) (h1 : 1 ≤ n) (h2 : n ≤ 32) (hx : x < pw n) :
    Calls Tryd.prog 60 #[.int .i64 n, .int .u32 x, .int .u32 0] w fun e w' => e = .returned (.bool true) ∧ w = w' :=
  areWords_yes n x 0 w hM h1 h2 hx (by have := pw_le h2; omega)
theorem areWords0_no (n : Int) (x : Nat) (w : World) (hM : Masks w) (h : n < 1 ∨ 32 < n ∨ pw n.toNat ≤ x) :
    Calls Tryd.prog 60 #[.int .i64 n, .int .u32 x, .int .u32 0] w fun e w' => e = .returned (.bool false) ∧ w = w' :=
  areWords_no n x 0 w hM (by rcases h with h | h | h <;> simp [h])
theorem isWord_yes (n x : Nat) (w : World) (h1 : 1 ≤ n) (h2 : n ≤ 32) (hx : x < pw n) :
    Calls Tryd.prog 42 #[.int .i64 n, .int .u32 x] w fun e w' => e = .returned (.bool true) ∧ w = w' := by
  have hp := pw_le h2
  go_enter Tryd.func42, Tryd.ntmps42
  go_wp2_with (first
    | (go_at_call 58; refine (refIsWidth_yes _ _ (by omega) (by omega)).mono ?_; rintro e w' ⟨rfl, rfl⟩)
    | (go_at_call 59; refine (size_any n _ h2).mono ?_; rintro e w' ⟨rfl, rfl⟩))
  go_ret
  exact ⟨ret_b (by simp), rfl⟩
theorem isWord_no (n : Int) (x : Nat) (w : World) (x32 : x < 4294967296) (h : n < 1 ∨ 32 < n ∨ pw n.toNat ≤ x) :
    Calls Tryd.prog 42 #[.int .i64 n, .int .u32 x] w fun e w' => e = .returned (.bool false) ∧ w = w' := by
  by_cases hw : n < 1 ∨ 32 < n
  · go_enter Tryd.func42, Tryd.ntmps42
    go_wp2_with (go_at_call 58; refine (refIsWidth_no _ _ hw).mono ?_; rintro e w' ⟨rfl, rfl⟩)
    go_ret
    exact ⟨rfl, rfl⟩
  · obtain ⟨m, rfl⟩ : ∃ m : Nat, n = m := ⟨n.toNat, by omega⟩
    have h1 : 1 ≤ m := by omega
    have h2 : m ≤ 32 := by omega
    have h' : pw m ≤ x := by simpa [show ¬ ((m : Int) < 1) by omega, show ¬ (32 < (m : Int)) by omega] using h
    clear h hw
    go_enter Tryd.func42, Tryd.ntmps42
    go_wp2_with (first
      | (go_at_call 58; refine (refIsWidth_yes _ _ (by omega) (by omega)).mono ?_; rintro e w' ⟨rfl, rfl⟩)
      | (go_at_call 59; refine (size_any m _ h2).mono ?_; rintro e w' ⟨rfl, rfl⟩))
    go_ret
    exact ⟨ret_b (by simp; omega), rfl⟩
theorem mask_ok (n : Nat) (w : World) (hM : Masks w) (h1 : 1 ≤ n) (h2 : n ≤ 32) : Calls Tryd.prog 15 #[.int .i64 n] w fun e w' => e = .returned (.tuple #[.int .u32 (pw n - 1 : Nat), .int .i64 0]) ∧ w = w' := by
  have hc := hM n h2
  go_enter Tryd.func15, Tryd.ntmps15
  go_wp2_with (go_at_call 57; refine (isWidth_yes _ _ (by omega) (by omega)).mono ?_; rintro e w' ⟨rfl, rfl⟩)
  go_ret2
  exact ⟨rfl, rfl⟩
theorem mask_err (n : Int) (w : World) (h : n < 1 ∨ 32 < n) : Calls Tryd.prog 15 #[.int .i64 n] w fun e w' => e = .returned (.tuple #[.int .u32 0, .int .i64 1]) ∧ w = w' := by
  go_enter Tryd.func15, Tryd.ntmps15
  go_wp2_with (go_at_call 57; refine (isWidth_no _ _ h).mono ?_; rintro e w' ⟨rfl, rfl⟩)
  go_ret2
  exact ⟨rfl, rfl⟩
theorem refMask_ok (n : Nat) (w : World) (h1 : 1 ≤ n) (h2 : n ≤ 32) : Calls Tryd.prog 16 #[.int .i64 n] w fun e w' => e = .returned (.tuple #[.int .u32 (pw n - 1 : Nat), .int .i64 0]) ∧ w = w' := by
  have hp := pw_le h2
  go_enter Tryd.func16, Tryd.ntmps16
  go_wp2_with (first
    | (go_at_call 58; refine (refIsWidth_yes _ _ (by omega) (by omega)).mono ?_; rintro e w' ⟨rfl, rfl⟩)
    | (go_at_call 59; refine (size_any n _ h2).mono ?_; rintro e w' ⟨rfl, rfl⟩))
  go_ret2
  refine ⟨?_, rfl⟩
  have e : ((pw n : Nat) : Int) - 1 = ((pw n - 1 : Nat) : Int) := by omega
  simp [e]
theorem refMask_err (n : Int) (w : World) (h : n < 1 ∨ 32 < n) : Calls Tryd.prog 16 #[.int .i64 n] w fun e w' => e = .returned (.tuple #[.int .u32 0, .int .i64 1]) ∧ w = w' := by
  go_enter Tryd.func16, Tryd.ntmps16
  go_wp2_with (go_at_call 58; refine (refIsWidth_no _ _ h).mono ?_; rintro e w' ⟨rfl, rfl⟩)
  go_ret2
  exact ⟨rfl, rfl⟩
theorem sig_ok (n x : Nat) (w : World) (hM : Masks w) (h1 : 1 ≤ n) (h2 : n ≤ 32) (hx : x < pw n) : Calls Tryd.prog 17 #[.int .i64 n, .int .u32 x] w fun e w' => e = .returned (.tuple #[.int .i64 (sgn n x), .int .i64 0]) ∧ w = w' := by
  go_enter Tryd.func17, Tryd.ntmps17
  go_wp2_with (first
    | (go_at_call 60; refine (areWords0_yes n x _ hM h1 h2 hx).mono ?_; rintro e w' ⟨rfl, rfl⟩)
    | (go_at_call 61; refine (signed_any n x _ hM h1 h2 hx).mono ?_; rintro e w' ⟨rfl, rfl⟩))
  go_ret2
  exact ⟨rfl, rfl⟩
theorem sig_err (n : Int) (x : Nat) (w : World) (hM : Masks w) (h : n < 1 ∨ 32 < n ∨ pw n.toNat ≤ x) : Calls Tryd.prog 17 #[.int .i64 n, .int .u32 x] w fun e w' => e = .returned (.tuple #[.int .i64 0, .int .i64 1]) ∧ w = w' := by
  go_enter Tryd.func17, Tryd.ntmps17
  go_wp2_with (go_at_call 60; refine (areWords0_no n x _ hM h).mono ?_; rintro e w' ⟨rfl, rfl⟩)
  go_ret2
  exact ⟨rfl, rfl⟩
theorem refSig_ok (n x : Nat) (w : World) (h1 : 1 ≤ n) (h2 : n ≤ 32) (hx : x < pw n) : Calls Tryd.prog 18 #[.int .i64 n, .int .u32 x] w fun e w' => e = .returned (.tuple #[.int .i64 (sgn n x), .int .i64 0]) ∧ w = w' := by
  go_enter Tryd.func18, Tryd.ntmps18
  go_wp2_with (first
    | (go_at_call 42; refine (isWord_yes n x _ h1 h2 hx).mono ?_; rintro e w' ⟨rfl, rfl⟩)
    | (go_at_call 62; refine (refSign_any n x _ h1 h2 hx).mono ?_; rintro e w' ⟨rfl, rfl⟩))
  go_ret2
  exact ⟨rfl, rfl⟩
theorem refSig_err (n : Int) (x : Nat) (w : World) (x32 : x < 4294967296) (h : n < 1 ∨ 32 < n ∨ pw n.toNat ≤ x) : Calls Tryd.prog 18 #[.int .i64 n, .int .u32 x] w fun e w' => e = .returned (.tuple #[.int .i64 0, .int .i64 1]) ∧ w = w' := by
  go_enter Tryd.func18, Tryd.ntmps18
  go_wp2_with (go_at_call 42; refine (isWord_no n x _ x32 h).mono ?_; rintro e w' ⟨rfl, rfl⟩)
  go_ret2
  exact ⟨rfl, rfl⟩
theorem of_ok (n : Nat) (y : Int) (w : World) (hM : Masks w) (h1 : 1 ≤ n) (h2 : n ≤ 32) : Calls Tryd.prog 19 #[.int .i64 n, .int .i64 y] w fun e w' => e = .returned (.tuple #[.int .u32 (wr n y), .int .i64 0]) ∧ w = w' := by
  go_enter Tryd.func19, Tryd.ntmps19
  go_wp2_with (first
    | (go_at_call 57; refine (isWidth_yes _ _ (by omega) (by omega)).mono ?_; rintro e w' ⟨rfl, rfl⟩)
    | (go_at_call 63; refine (wrap_any n y _ hM h2).mono ?_; rintro e w' ⟨rfl, rfl⟩))
  go_ret2
  exact ⟨rfl, rfl⟩
theorem of_err (n y : Int) (w : World) (h : n < 1 ∨ 32 < n) : Calls Tryd.prog 19 #[.int .i64 n, .int .i64 y] w fun e w' => e = .returned (.tuple #[.int .u32 0, .int .i64 1]) ∧ w = w' := by
  go_enter Tryd.func19, Tryd.ntmps19
  go_wp2_with (go_at_call 57; refine (isWidth_no _ _ h).mono ?_; rintro e w' ⟨rfl, rfl⟩)
  go_ret2
  exact ⟨rfl, rfl⟩
theorem refOf_ok (n : Nat) (y : Int) (w : World) (h1 : 1 ≤ n) (h2 : n ≤ 32) : Calls Tryd.prog 20 #[.int .i64 n, .int .i64 y] w fun e w' => e = .returned (.tuple #[.int .u32 (wr n y), .int .i64 0]) ∧ w = w' := by
  go_enter Tryd.func20, Tryd.ntmps20
  go_wp2_with (first
    | (go_at_call 58; refine (refIsWidth_yes _ _ (by omega) (by omega)).mono ?_; rintro e w' ⟨rfl, rfl⟩)
    | (go_at_call 64; refine (refWrap_any n y _ h2).mono ?_; rintro e w' ⟨rfl, rfl⟩))
  go_ret2
  exact ⟨rfl, rfl⟩
theorem refOf_err (n y : Int) (w : World) (h : n < 1 ∨ 32 < n) : Calls Tryd.prog 20 #[.int .i64 n, .int .i64 y] w fun e w' => e = .returned (.tuple #[.int .u32 0, .int .i64 1]) ∧ w = w' := by
  go_enter Tryd.func20, Tryd.ntmps20
  go_wp2_with (go_at_call 58; refine (refIsWidth_no _ _ h).mono ?_; rintro e w' ⟨rfl, rfl⟩)
  go_ret2
  exact ⟨rfl, rfl⟩
theorem wr_sgn (n x : Nat) (hx : x < pw n) : wr n (sgn n x) = x := by
  unfold wr sgn
  have e : ((x : Int)) % (pw n : Int) = x := Int.emod_eq_of_lt (by omega) (by omega)
  split
  · have : ((x : Int) - (pw n : Int)) % (pw n : Int) = x := by rw [Int.sub_emod_right]; exact e
    omega
  · omega

/-- The walk of BitsWords: whatever the width, the word and the number. -/
theorem words_walk (n : Int) (x : Nat) (y : Int) (w : World) (hM : Masks w) (x32 : x < 4294967296) :
    Calls Tryd.prog 3 #[.int .i64 n, .int .u32 x, .int .i64 y] w fun e w' => e = .returned (.bool true) ∧ Below w.heap.size w w' := by
  by_cases hw : n < 1 ∨ 32 < n
  · have hx : n < 1 ∨ 32 < n ∨ pw n.toNat ≤ x := by omega
    have HW := Lib.hid hw
    have HX := Lib.hid hx
    clear hw hx
    go_enter Tryd.func3, Tryd.ntmps3
    go_wp2_with (first
      | (go_at_call 15; refine (mask_err n _ HW.out).mono ?_; rintro e w' ⟨rfl, rfl⟩)
      | (go_at_call 16; refine (refMask_err n _ HW.out).mono ?_; rintro e w' ⟨rfl, rfl⟩)
      | (go_at_call 17; refine (sig_err n x _ hM HX.out).mono ?_; rintro e w' ⟨rfl, rfl⟩)
      | (go_at_call 18; refine (refSig_err n x _ x32 HX.out).mono ?_; rintro e w' ⟨rfl, rfl⟩)
      | (go_at_call 19; refine (of_err n y _ HW.out).mono ?_; rintro e w' ⟨rfl, rfl⟩)
      | (go_at_call 20; refine (refOf_err n y _ HW.out).mono ?_; rintro e w' ⟨rfl, rfl⟩)
      | (go_at_call 21; refine (known_any _ hM).mono ?_; rintro e w' ⟨rfl, hb⟩))
    go_ret
    exact ⟨rfl, hb⟩
  · obtain ⟨m, rfl⟩ : ∃ m : Nat, n = m := ⟨n.toNat, by omega⟩
    have h1 : 1 ≤ m := by omega
    have h2 : m ≤ 32 := by omega
    by_cases hx : pw m ≤ x
    · have hx' : (m : Int) < 1 ∨ 32 < (m : Int) ∨ pw (m : Int).toNat ≤ x := by right; right; simpa using hx
      have HX := Lib.hid hx'
      clear hx' hw
      go_enter Tryd.func3, Tryd.ntmps3
      go_wp2_with (first
        | (go_at_call 15; refine (mask_ok m _ hM h1 h2).mono ?_; rintro e w' ⟨rfl, rfl⟩)
        | (go_at_call 16; refine (refMask_ok m _ h1 h2).mono ?_; rintro e w' ⟨rfl, rfl⟩)
        | (go_at_call 17; refine (sig_err m x _ hM HX.out).mono ?_; rintro e w' ⟨rfl, rfl⟩)
        | (go_at_call 18; refine (refSig_err m x _ x32 HX.out).mono ?_; rintro e w' ⟨rfl, rfl⟩)
        | (go_at_call 19; refine (of_ok m y _ hM h1 h2).mono ?_; rintro e w' ⟨rfl, rfl⟩)
        | (go_at_call 20; refine (refOf_ok m y _ h1 h2).mono ?_; rintro e w' ⟨rfl, rfl⟩)
        | (go_at_call 21; refine (known_any _ hM).mono ?_; rintro e w' ⟨rfl, hb⟩))
      go_ret
      exact ⟨rfl, hb⟩
    · have hx' : x < pw m := by omega
      have W := Lib.hid (wr_sgn m x hx')
      clear hw hx
      go_enter Tryd.func3, Tryd.ntmps3
      go_wp2_with (first
        | (go_at_call 15; refine (mask_ok m _ hM h1 h2).mono ?_; rintro e w' ⟨rfl, rfl⟩)
        | (go_at_call 16; refine (refMask_ok m _ h1 h2).mono ?_; rintro e w' ⟨rfl, rfl⟩)
        | (go_at_call 17; refine (sig_ok m x _ hM h1 h2 hx').mono ?_; rintro e w' ⟨rfl, rfl⟩)
        | (go_at_call 18; refine (refSig_ok m x _ h1 h2 hx').mono ?_; rintro e w' ⟨rfl, rfl⟩)
        | (go_at_call 19; ((with_reducible refine (of_ok m y _ hM h1 h2).mono ?_); rintro e w' ⟨rfl, rfl⟩))
        | (go_at_call 19; refine (of_ok m (sgn m x) _ hM h1 h2).mono ?_; rw [W.out]; rintro e w' ⟨rfl, rfl⟩)
        | (go_at_call 20; refine (refOf_ok m y _ h1 h2).mono ?_; rintro e w' ⟨rfl, rfl⟩)
        | (go_at_call 21; refine (known_any _ hM).mono ?_; rintro e w' ⟨rfl, hb⟩))
      go_ret
      exact ⟨rfl, hb⟩
end Go.Proofs.YtebhahmgbdglnaaDoor
