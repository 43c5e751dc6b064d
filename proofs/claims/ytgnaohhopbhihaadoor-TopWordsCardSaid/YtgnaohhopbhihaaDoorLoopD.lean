/-
  Total of the reference; errors; Ring of both.
-/
import Derived.Test.YtgnaohhopbhihaaDoorLoopC
namespace Go.Proofs.YtgnaohhopbhihaaDoor
open Go.RowKit

theorem tri_even : ∀ h, tri (2 * h) = h * (2 * h - 1)
  | 0 => rfl
  | h + 1 => by
    have ih := tri_even h
    rw [show 2 * (h + 1) = 2 * h + 1 + 1 by omega]
    simp only [tri]
    rw [ih, show 2 * h + 1 + 1 - 1 = 2 * h + 1 by omega, Nat.add_mul, Nat.mul_add, Nat.mul_sub]
    have : h ≤ h * (2 * h) ∨ h = 0 := by
      by_cases e : h = 0
      · exact .inr e
      · exact .inl (Nat.le_mul_of_pos_right _ (by omega))
    omega
theorem tri_odd (h : Nat) : tri (2 * h + 1) = h * (2 * h + 1) := by
  simp only [tri]
  rw [tri_even, Nat.mul_sub, Nat.mul_add]
  have : h ≤ h * (2 * h) ∨ h = 0 := by
    by_cases e : h = 0
    · exact .inr e
    · exact .inl (Nat.le_mul_of_pos_right _ (by omega))
  omega
theorem sum_u64 (a b c P : Nat) (hP : P = tri c) : IntKind.u64.wrap (IntKind.u64.wrap ((c : Int) * (a : Int)) + IntKind.u64.wrap ((P : Int) * (b : Int))) = ((sumS a b c % 18446744073709551616 : Nat) : Int) := by
  have e : ((sumS a b c : Nat) : Int) = (c : Int) * (a : Int) + (P : Int) * (b : Int) := by
    unfold sumS
    rw [hP, Int.natCast_add, Int.natCast_mul, Int.natCast_mul]
  rw [IntKind.wrap_u64, IntKind.wrap_u64, IntKind.wrap_u64, Int.emod_add_emod, Int.add_emod_emod, Int.natCast_emod, e]
  rfl
theorem total16_err (m c : Int) (a b : Nat) (w : World) (hM : Masks w) (h : CntBad m a b c) :
    Calls Tryd.prog 60 #[.int .i64 m, .int .u32 a, .int .u32 b, .int .i64 c] w fun e w' => e = .returned (.tuple #[.int .u32 0, .int .i64 1]) ∧ Below w.heap.size w w' := by
  by_cases hw : m < 1 ∨ 32 < m ∨ pw m.toNat ≤ a ∨ pw m.toNat ≤ b
  · have HW := Lib.hid hw
    clear h hw
    go_enter Tryd.func60, Tryd.ntmps60
    go_wp2_with (go_at_call 61; refine (lw2_no a b w _ m hM HW.out).mono ?_; rintro e w' ⟨rfl, rfl⟩)
    go_ret2
    exact ⟨rfl, (Below.refl _ _).alloc (Nat.le_refl _) _⟩
  · have hc := h.resolve_left hw
    obtain ⟨n, rfl⟩ : ∃ n : Nat, m = n := ⟨m.toNat, by omega⟩
    have h1 : 1 ≤ n := by omega
    have h2 : n ≤ 32 := by omega
    have ha : a < pw n := by have : ¬ pw n ≤ a := fun e => hw (.inr (.inr (.inl (by simpa using e))))
                             omega
    have hb : b < pw n := by have : ¬ pw n ≤ b := fun e => hw (.inr (.inr (.inr (by simpa using e))))
                             omega
    have HC := Lib.hid hc
    clear h hw hc
    go_enter Tryd.func60, Tryd.ntmps60
    go_wp2_with (first
      | (go_at_call 61; refine (lw2_yes n a b w _ hM h1 h2 ha hb).mono ?_; rintro e w' ⟨rfl, rfl⟩)
      | (go_at_call 69; refine (isCount_no _ _ HC.out).mono ?_; rintro e w' ⟨rfl, rfl⟩))
    go_ret2
    exact ⟨rfl, (Below.refl _ _).alloc (Nat.le_refl _) _⟩
end Go.Proofs.YtgnaohhopbhihaaDoor
