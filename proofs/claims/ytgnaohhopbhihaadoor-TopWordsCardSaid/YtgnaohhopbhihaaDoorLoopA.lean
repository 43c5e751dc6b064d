/-
  Package loop and its reference: words, counts, After.
-/
import Derived.Test.YtgnaohhopbhihaaDoorBitsE
namespace Go.Proofs.YtgnaohhopbhihaaDoor
open Go.RowKit

theorem lw_yes (n k B : Nat) (f : Nat → Nat) (w : World) (hM : Masks w) (h1 : 1 ≤ n) (h2 : n ≤ 32) (hk : k ≤ 100)
    (hc : ∀ i, i < k → w.cell? ⟨B, i, none⟩ = some (.int .u32 (f i))) (hf : ∀ i, i < k → f i < pw n) :
    Calls Tryd.prog 61 #[.int .i64 n, .slice (some ⟨B, 0, none⟩) k k] w fun e w' => e = .returned (.bool true) ∧ w = w' := by
  have hp := pw_le h2
  have HF := Lib.hid hf
  have HC := Lib.hid hc
  clear hf hc
  go_enter Tryd.func61, Tryd.ntmps61
  go_wp2_with (go_at_call 62; refine (mask_ok n _ hM h1 h2).mono ?_; rintro e w' ⟨rfl, rfl⟩)
  go_loop [16] (fun z => ∃ i : Nat, i ≤ k ∧ z = .int .i64 (i : Int)) (fun z => k - (intOf z).toNat)
  case atStart => exact ⟨0, by omega, rfl⟩
  case round =>
    obtain ⟨i, hi, rfl⟩ := hrel
    by_cases hlt : i < k
    · have hcell := HC.out i hlt
      have hbnd := HF.out i hlt
      generalize f i = y at *
      go_wp2
      go_round
      case rel => exact ⟨i + 1, by omega, by go_num⟩
      case measure => simp [intOf]; omega
    · go_wp2
      go_ret
      exact ⟨rfl, rfl⟩
theorem lw_no (n k B j : Nat) (f : Nat → Nat) (w : World) (hM : Masks w) (h1 : 1 ≤ n) (h2 : n ≤ 32) (hk : k ≤ 100)
    (hc : ∀ i, i < k → w.cell? ⟨B, i, none⟩ = some (.int .u32 (f i))) (hj : j < k) (hf : pw n ≤ f j) :
    Calls Tryd.prog 61 #[.int .i64 n, .slice (some ⟨B, 0, none⟩) k k] w fun e w' => e = .returned (.bool false) ∧ w = w' := by
  have hp := pw_le h2
  have HF := Lib.hid hf
  have HC := Lib.hid hc
  clear hf hc
  go_enter Tryd.func61, Tryd.ntmps61
  go_wp2_with (go_at_call 62; refine (mask_ok n _ hM h1 h2).mono ?_; rintro e w' ⟨rfl, rfl⟩)
  go_loop [16] (fun z => ∃ i : Nat, i ≤ j ∧ z = .int .i64 (i : Int)) (fun z => k - (intOf z).toNat)
  case atStart => exact ⟨0, by omega, rfl⟩
  case round =>
    obtain ⟨i, hi, rfl⟩ := hrel
    have hlt : i < k := by omega
    have hcell := HC.out i hlt
    by_cases hij : i = j
    · subst hij
      have hbnd := HF.out
      generalize f i = y at *
      go_wp2
      go_ret
      exact ⟨rfl, rfl⟩
    · obtain ⟨y, hy⟩ : ∃ y, y = f i := ⟨_, rfl⟩
      rw [← hy] at hcell
      clear hy
      by_cases hb : pw n ≤ y
      · go_wp2
        go_ret
        exact ⟨rfl, rfl⟩
      · go_wp2
        go_round
        case rel => exact ⟨i + 1, by omega, by go_num⟩
        case measure => simp [intOf]; omega
theorem lw_width (n : Int) (k B : Nat) (f : Nat → Nat) (w : World) (h : n < 1 ∨ 32 < n) (hk : k ≤ 100)
    (hc : ∀ i, i < k → w.cell? ⟨B, i, none⟩ = some (.int .u32 (f i))) :
    Calls Tryd.prog 61 #[.int .i64 n, .slice (some ⟨B, 0, none⟩) k k] w fun e w' => e = .returned (.bool false) ∧ w = w' := by
  have HC := Lib.hid hc
  have HH := Lib.hid h
  clear hc h
  go_enter Tryd.func61, Tryd.ntmps61
  go_wp2_with (go_at_call 62; refine (mask_err n _ HH.out).mono ?_; rintro e w' ⟨rfl, rfl⟩)
  go_loop [16] (fun z => ∃ i : Nat, i ≤ k ∧ z = .int .i64 (i : Int)) (fun z => k - (intOf z).toNat)
  case atStart => exact ⟨0, by omega, rfl⟩
  case round =>
    obtain ⟨i, hi, rfl⟩ := hrel
    by_cases hlt : i < k
    · have hcell := HC.out i hlt
      generalize f i = y at *
      by_cases hb : 0 < y
      · go_wp2
        go_ret
        exact ⟨rfl, rfl⟩
      · obtain rfl : y = 0 := by omega
        go_wp2
        go_round
        case rel => exact ⟨i + 1, by omega, by go_num⟩
        case measure => simp [intOf]; omega
    · go_wp2
      go_ret
      exact ⟨rfl, rfl⟩
theorem isCount_yes (n : Int) (w : World) (h : 0 ≤ n ∧ n ≤ 4294967296) : Calls Tryd.prog 69 #[.int .i64 n] w fun e w' => e = .returned (.bool true) ∧ w = w' := by
  obtain ⟨h1, h2⟩ := h
  go_enter Tryd.func69, Tryd.ntmps69
  go_wp2
  go_ret
  exact ⟨ret_b (by simp; try omega), rfl⟩
theorem isCount_no (n : Int) (w : World) (h : n < 0 ∨ 4294967296 < n) : Calls Tryd.prog 69 #[.int .i64 n] w fun e w' => e = .returned (.bool false) ∧ w = w' := by
  rcases h with h | h
  · go_enter Tryd.func69, Tryd.ntmps69
    go_wp2
    go_ret
    exact ⟨rfl, rfl⟩
  · have h1 : 0 ≤ n := by omega
    go_enter Tryd.func69, Tryd.ntmps69
    go_wp2
    go_ret
    exact ⟨ret_b (by simp; try omega), rfl⟩
theorem cut_any (n : Nat) (x : Nat) (w : World) (hM : Masks w) (h1 : 1 ≤ n) (h2 : n ≤ 32) :
    Calls Tryd.prog 70 #[.int .i64 n, .int .u64 x] w fun e w' => e = .returned (.int .u32 (x % pw n : Nat)) ∧ w = w' := by
  have W := Lib.hid (wrap_eq n (x : Int) h2)
  go_enter Tryd.func70, Tryd.ntmps70
  go_wp2_with (go_at_call 62; refine (mask_ok n _ hM h1 h2).mono ?_; rintro e w' ⟨rfl, rfl⟩)
  go_ret
  refine ⟨ret_i ?_, rfl⟩
  have := W.out
  rw [wr_mod] at this
  exact this
theorem word_any (n : Nat) (x : Nat) (w : World) (h2 : n ≤ 32) (hx : x < 18446744073709551616) :
    Calls Tryd.prog 128 #[.int .i64 n, .int .u64 x] w fun e w' => e = .returned (.int .u32 (x % pw n : Nat)) ∧ w = w' := by
  have hp := pw_le h2
  have e2 : (2 : Int) ^ n = (pw n : Int) := by simp [pw]
  have hm : x % pw n < pw n := Nat.mod_lt _ (by omega)
  have ec : (x : Int) % (pw n : Int) = ((x % pw n : Nat) : Int) := (Int.natCast_emod _ _).symm
  have EC := Lib.hid ec
  clear ec
  go_enter Tryd.func128, Tryd.ntmps128
  go_wp2
  go_ret
  refine ⟨ret_i ?_, rfl⟩
  have := EC.out
  rw [this]
end Go.Proofs.YtgnaohhopbhihaaDoor
