/-
  Extend of both packages.
-/
import Derived.Test.YtbohigjfdnnomaaGreatDoorBitsW
namespace Go.Proofs.YtbohigjfdnnomaaGreatDoor
open Go.RowKit

theorem pw_mono {m n : Nat} (h : m ≤ n) : pw m ≤ pw n := Nat.pow_le_pow_right (by omega) h
theorem wr_of_lt {n x : Nat} (h : x < pw n) : wr n (x : Int) = x := by
  unfold wr
  rw [Int.emod_eq_of_lt (by omega) (by omega)]
  omega
theorem wr_wr {m n : Nat} (y : Int) (h : m ≤ n) : wr m (wr n y : Int) = wr m y := by
  obtain ⟨k, hk⟩ := pw_dvd h
  have e : (wr m (wr n y : Int) : Int) = wr m y := by
    rw [wr_cast, wr_cast, wr_cast]
    exact Int.emod_emod_of_dvd y ⟨k, by rw [hk]; exact Int.natCast_mul _ _⟩
  omega
theorem wr_mod {n x : Nat} : wr n (x : Int) = x % pw n := by
  have := wr_cast (n := n) (x : Int)
  rw [← Int.natCast_emod] at this
  omega

theorem ext_z (f t x : Nat) (w : World) (hM : Masks w) (f1 : 1 ≤ f) (t2 : t ≤ 32) (hft : f < t) (hx : x < pw f) :
    Calls Tryz.prog 74 #[.int .i64 16, .int .i64 f, .int .i64 t, .int .u32 x] w fun e w' => e = .returned (.tuple #[.int .u32 x, .int .i64 0]) ∧ w = w' := by
  go_enter Tryz.func74, Tryz.ntmps74
  go_wp2_with (first
    | (go_at_call 97; refine (isWidth_yes _ _ (by omega) (by omega)).mono ?_; rintro e w' ⟨rfl, rfl⟩)
    | (go_at_call 95; refine (areWords0_yes f x _ hM f1 (by omega) hx).mono ?_; rintro e w' ⟨rfl, rfl⟩))
  go_ret2
  exact ⟨rfl, rfl⟩
theorem ext_s (f t x : Nat) (w : World) (hM : Masks w) (f1 : 1 ≤ f) (t2 : t ≤ 32) (hft : f < t) (hx : x < pw f) :
    Calls Tryz.prog 74 #[.int .i64 17, .int .i64 f, .int .i64 t, .int .u32 x] w fun e w' => e = .returned (.tuple #[.int .u32 (wr t (sgn f x)), .int .i64 0]) ∧ w = w' := by
  go_enter Tryz.func74, Tryz.ntmps74
  go_wp2_with (first
    | (go_at_call 97; refine (isWidth_yes _ _ (by omega) (by omega)).mono ?_; rintro e w' ⟨rfl, rfl⟩)
    | (go_at_call 95; refine (areWords0_yes f x _ hM f1 (by omega) hx).mono ?_; rintro e w' ⟨rfl, rfl⟩)
    | (go_at_call 96; refine (signed_any f x _ hM f1 (by omega) hx).mono ?_; rintro e w' ⟨rfl, rfl⟩)
    | (go_at_call 98; refine (wrap_any t (sgn f x) _ hM t2).mono ?_; rintro e w' ⟨rfl, rfl⟩))
  go_ret2
  exact ⟨rfl, rfl⟩
theorem ext_t (f t x : Nat) (w : World) (hM : Masks w) (t1 : 1 ≤ t) (f2 : f ≤ 32) (hft : t < f) (hx : x < pw f) :
    Calls Tryz.prog 74 #[.int .i64 18, .int .i64 f, .int .i64 t, .int .u32 x] w fun e w' => e = .returned (.tuple #[.int .u32 (wr t (x : Int)), .int .i64 0]) ∧ w = w' := by
  have hc := hM t (by omega)
  have hp := pw_le f2
  go_enter Tryz.func74, Tryz.ntmps74
  go_wp2_with (first
    | (go_at_call 97; refine (isWidth_yes _ _ (by omega) (by omega)).mono ?_; rintro e w' ⟨rfl, rfl⟩)
    | (go_at_call 95; refine (areWords0_yes f x _ hM (by omega) f2 hx).mono ?_; rintro e w' ⟨rfl, rfl⟩))
  go_ret2
  refine ⟨?_, rfl⟩
  have e := and_mask t x (by omega) (by omega)
  rw [wr_mod]
  simp only [Array.getD_eq_getD_getElem?]
  simp [e]
/-- When Extend refuses. -/
def ExtBad (op f t : Int) (x : Nat) : Prop := (t < 1 ∨ 32 < t) ∨ (f < 1 ∨ 32 < f ∨ pw f.toNat ≤ x) ∨ ¬ (op = 16 ∧ f < t ∨ op = 17 ∧ f < t ∨ op = 18 ∧ t < f)
theorem ext_err (op f t : Int) (x : Nat) (w : World) (hM : Masks w) (h : ExtBad op f t x) :
    Calls Tryz.prog 74 #[.int .i64 op, .int .i64 f, .int .i64 t, .int .u32 x] w fun e w' => e = .returned (.tuple #[.int .u32 0, .int .i64 1]) ∧ w = w' := by
  by_cases ht : t < 1 ∨ 32 < t
  · clear h
    go_enter Tryz.func74, Tryz.ntmps74
    go_wp2_with (go_at_call 97; refine (isWidth_no _ _ ht).mono ?_; rintro e w' ⟨rfl, rfl⟩)
    go_ret2
    exact ⟨rfl, rfl⟩
  have t1 : 1 ≤ t := by omega
  have t2 : t ≤ 32 := by omega
  by_cases hf : f < 1 ∨ 32 < f ∨ pw f.toNat ≤ x
  · have HF := Lib.hid hf
    clear h ht hf
    go_enter Tryz.func74, Tryz.ntmps74
    go_wp2_with (first
      | (go_at_call 97; refine (isWidth_yes _ _ (by omega) (by omega)).mono ?_; rintro e w' ⟨rfl, rfl⟩)
      | (go_at_call 95; refine (areWords0_no f x _ hM HF.out).mono ?_; rintro e w' ⟨rfl, rfl⟩))
    go_ret2
    exact ⟨rfl, rfl⟩
  obtain ⟨m, rfl⟩ : ∃ m : Nat, f = m := ⟨f.toNat, by omega⟩
  have f1 : 1 ≤ m := by omega
  have f2 : m ≤ 32 := by omega
  have hx : x < pw m := by have : ¬ pw m ≤ x := fun hh => hf (.inr (.inr (by simpa using hh)))
                           omega
  have hn : ¬ (op = 16 ∧ (m : Int) < t ∨ op = 17 ∧ (m : Int) < t ∨ op = 18 ∧ t < (m : Int)) := by
    rcases h with h | h | h
    · exact absurd h ht
    · exact absurd h hf
    · exact h
  clear h ht hf
  by_cases o1 : op = 16
  · subst o1
    have : ¬ (m : Int) < t := by omega
    clear hn
    go_enter Tryz.func74, Tryz.ntmps74
    go_wp2_with (first
      | (go_at_call 97; refine (isWidth_yes _ _ t1 t2).mono ?_; rintro e w' ⟨rfl, rfl⟩)
      | (go_at_call 95; refine (areWords0_yes m x _ hM f1 f2 hx).mono ?_; rintro e w' ⟨rfl, rfl⟩))
    go_ret2
    exact ⟨rfl, rfl⟩
  by_cases o2 : op = 17
  · subst o2
    have : ¬ (m : Int) < t := by omega
    clear hn
    go_enter Tryz.func74, Tryz.ntmps74
    go_wp2_with (first
      | (go_at_call 97; refine (isWidth_yes _ _ t1 t2).mono ?_; rintro e w' ⟨rfl, rfl⟩)
      | (go_at_call 95; refine (areWords0_yes m x _ hM f1 f2 hx).mono ?_; rintro e w' ⟨rfl, rfl⟩))
    go_ret2
    exact ⟨rfl, rfl⟩
  by_cases o3 : op = 18
  · subst o3
    have : ¬ t < (m : Int) := by omega
    clear hn
    go_enter Tryz.func74, Tryz.ntmps74
    go_wp2_with (first
      | (go_at_call 97; refine (isWidth_yes _ _ t1 t2).mono ?_; rintro e w' ⟨rfl, rfl⟩)
      | (go_at_call 95; refine (areWords0_yes m x _ hM f1 f2 hx).mono ?_; rintro e w' ⟨rfl, rfl⟩))
    go_ret2
    exact ⟨rfl, rfl⟩
  · clear hn
    go_enter Tryz.func74, Tryz.ntmps74
    go_wp2_with (first
      | (go_at_call 97; refine (isWidth_yes _ _ t1 t2).mono ?_; rintro e w' ⟨rfl, rfl⟩)
      | (go_at_call 95; refine (areWords0_yes m x _ hM f1 f2 hx).mono ?_; rintro e w' ⟨rfl, rfl⟩))
    go_ret2
    exact ⟨rfl, rfl⟩

theorem refExt_plain (op : Int) (f t x : Nat) (w : World) (ho : op = 16 ∨ op = 18) (f1 : 1 ≤ f) (f2 : f ≤ 32) (t1 : 1 ≤ t) (t2 : t ≤ 32) (h16 : op = 16 → f < t) (h18 : op = 18 → t < f) (hx : x < pw f) :
    Calls Tryz.prog 70 #[.int .i64 op, .int .i64 f, .int .i64 t, .int .u32 x] w fun e w' => e = .returned (.tuple #[.int .u32 (wr t (x : Int)), .int .i64 0]) ∧ w = w' := by
  have hp := pw_le f2
  rcases ho with rfl | rfl
  · have hft := h16 rfl
    clear h16 h18
    go_enter Tryz.func70, Tryz.ntmps70
    go_wp2_with (first
      | (go_at_call 86; refine (refIsWidth_yes _ _ (by omega) (by omega)).mono ?_; rintro e w' ⟨rfl, rfl⟩)
      | (go_at_call 67; refine (isWord_yes f x _ f1 f2 hx).mono ?_; rintro e w' ⟨rfl, rfl⟩)
      | (go_at_call 91; refine (refWrap_any t (x : Int) _ t2).mono ?_; rintro e w' ⟨rfl, rfl⟩))
    go_ret2
    exact ⟨rfl, rfl⟩
  · have hft := h18 rfl
    clear h16 h18
    go_enter Tryz.func70, Tryz.ntmps70
    go_wp2_with (first
      | (go_at_call 86; refine (refIsWidth_yes _ _ (by omega) (by omega)).mono ?_; rintro e w' ⟨rfl, rfl⟩)
      | (go_at_call 67; refine (isWord_yes f x _ f1 f2 hx).mono ?_; rintro e w' ⟨rfl, rfl⟩)
      | (go_at_call 91; refine (refWrap_any t (x : Int) _ t2).mono ?_; rintro e w' ⟨rfl, rfl⟩))
    go_ret2
    exact ⟨rfl, rfl⟩
theorem refExt_s (f t x : Nat) (w : World) (f1 : 1 ≤ f) (t2 : t ≤ 32) (hft : f < t) (hx : x < pw f) :
    Calls Tryz.prog 70 #[.int .i64 17, .int .i64 f, .int .i64 t, .int .u32 x] w fun e w' => e = .returned (.tuple #[.int .u32 (wr t (sgn f x)), .int .i64 0]) ∧ w = w' := by
  go_enter Tryz.func70, Tryz.ntmps70
  go_wp2_with (first
    | (go_at_call 86; refine (refIsWidth_yes _ _ (by omega) (by omega)).mono ?_; rintro e w' ⟨rfl, rfl⟩)
    | (go_at_call 67; refine (isWord_yes f x _ f1 (by omega) hx).mono ?_; rintro e w' ⟨rfl, rfl⟩)
    | (go_at_call 90; refine (refSign_any f x _ f1 (by omega) hx).mono ?_; rintro e w' ⟨rfl, rfl⟩)
    | (go_at_call 91; refine (refWrap_any t (sgn f x) _ t2).mono ?_; rintro e w' ⟨rfl, rfl⟩))
  go_ret2
  exact ⟨rfl, rfl⟩
theorem refExt_err (op f t : Int) (x : Nat) (w : World) (x32 : x < 4294967296) (h : ExtBad op f t x) :
    Calls Tryz.prog 70 #[.int .i64 op, .int .i64 f, .int .i64 t, .int .u32 x] w fun e w' => e = .returned (.tuple #[.int .u32 0, .int .i64 1]) ∧ w = w' := by
  by_cases ho1 : op < 16
  · clear h
    go_enter Tryz.func70, Tryz.ntmps70
    go_wp2
    go_ret2
    exact ⟨rfl, rfl⟩
  by_cases ho2 : 18 < op
  · clear h
    go_enter Tryz.func70, Tryz.ntmps70
    go_wp2
    go_ret2
    exact ⟨rfl, rfl⟩
  by_cases ht : t < 1 ∨ 32 < t
  · clear h
    go_enter Tryz.func70, Tryz.ntmps70
    go_wp2_with (go_at_call 86; refine (refIsWidth_no _ _ ht).mono ?_; rintro e w' ⟨rfl, rfl⟩)
    go_ret2
    exact ⟨rfl, rfl⟩
  have t1 : 1 ≤ t := by omega
  have t2 : t ≤ 32 := by omega
  by_cases hf : f < 1 ∨ 32 < f ∨ pw f.toNat ≤ x
  · have HF := Lib.hid hf
    clear h ht hf
    go_enter Tryz.func70, Tryz.ntmps70
    go_wp2_with (first
      | (go_at_call 86; refine (refIsWidth_yes _ _ t1 t2).mono ?_; rintro e w' ⟨rfl, rfl⟩)
      | (go_at_call 67; refine (isWord_no f x _ x32 HF.out).mono ?_; rintro e w' ⟨rfl, rfl⟩))
    go_ret2
    exact ⟨rfl, rfl⟩
  obtain ⟨m, rfl⟩ : ∃ m : Nat, f = m := ⟨f.toNat, by omega⟩
  have f1 : 1 ≤ m := by omega
  have f2 : m ≤ 32 := by omega
  have hx : x < pw m := by have : ¬ pw m ≤ x := fun hh => hf (.inr (.inr (by simpa using hh)))
                           omega
  have hn : ¬ (op = 16 ∧ (m : Int) < t ∨ op = 17 ∧ (m : Int) < t ∨ op = 18 ∧ t < (m : Int)) := by
    rcases h with h | h | h
    · exact absurd h ht
    · exact absurd h hf
    · exact h
  clear h ht hf
  by_cases o3 : op = 18
  · subst o3
    have : ¬ t < (m : Int) := by omega
    clear hn
    go_enter Tryz.func70, Tryz.ntmps70
    go_wp2_with (first
      | (go_at_call 86; refine (refIsWidth_yes _ _ t1 t2).mono ?_; rintro e w' ⟨rfl, rfl⟩)
      | (go_at_call 67; refine (isWord_yes m x _ f1 f2 hx).mono ?_; rintro e w' ⟨rfl, rfl⟩))
    go_ret2
    exact ⟨rfl, rfl⟩
  · have : ¬ (m : Int) < t := by omega
    clear hn
    go_enter Tryz.func70, Tryz.ntmps70
    go_wp2_with (first
      | (go_at_call 86; refine (refIsWidth_yes _ _ t1 t2).mono ?_; rintro e w' ⟨rfl, rfl⟩)
      | (go_at_call 67; refine (isWord_yes m x _ f1 f2 hx).mono ?_; rintro e w' ⟨rfl, rfl⟩))
    go_ret2
    exact ⟨rfl, rfl⟩

end Go.Proofs.YtbohigjfdnnomaaGreatDoor
