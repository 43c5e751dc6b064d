/-
  Which places are right, in both packages.
-/
import Derived.Test.YtdpfglpefncigaaTrA
namespace Go.Proofs.Ytdpfglpefncigaa
open Go.RowKit

def kindB (k n : Int) : Bool := if k = 0 then decide (n ≤ 31) else if k = 1 then decide (n ≤ 32764) else if k = 2 then decide (n ≤ 4294967295) else false
def isPlB (p : Plc) : Bool := inB p.a 0 32768 && inB p.z 0 32768 && decide (p.a < p.z) && inB p.v 0 63 && decide (0 ≤ p.n) && kindB p.k p.n
theorem isAddress_at (n : Int) (B : Bool) (w : World) (h : inB n 0 32768 = B) : Calls Try.prog 60 #[.int .i64 n] w fun e w' => e = .returned (.bool B) ∧ w = w' := by
  subst h
  exact isAddress_any n w
theorem isVariable_at (n : Int) (B : Bool) (w : World) (h : inB n 0 63 = B) : Calls Try.prog 59 #[.int .i64 n] w fun e w' => e = .returned (.bool B) ∧ w = w' := by
  subst h
  exact isVariable_any n w
theorem within_at (n lo hi : Int) (B : Bool) (w : World) (h : inB n lo hi = B) : Calls Try.prog 41 #[.int .i64 n, .int .i64 lo, .int .i64 hi] w fun e w' => e = .returned (.bool B) ∧ w = w' := by
  subst h
  exact within_any n lo hi w
set_option maxHeartbeats 1000000 in
theorem isPlace_any (p : Plc) (w : World) : Calls Try.prog 43 #[aggP p] w fun e w' => e = .returned (.bool (isPlB p)) ∧ Below w.heap.size w w' := by
  obtain ⟨a, z, v, k, n⟩ := p
  cases hA : inB a 0 32768
  · have HA := Lib.hid hA
    clear hA
    go_enter Try.func43, Try.ntmps43
    go_wp2_with (first | (go_at_call 60; ((with_reducible refine (isAddress_at a _ _ HA.out).mono ?_); rintro e w' ⟨rfl, rfl⟩)))
    go_ret
    exact ⟨ret_b (by show false = (inB a 0 32768 && inB z 0 32768 && decide (a < z) && inB v 0 63 && decide (0 ≤ n) && kindB k n); rw [HA.out]; simp), (Below.refl _ _).alloc (Nat.le_refl _) _⟩
  · have HA := Lib.hid hA
    clear hA
    cases hZ : inB z 0 32768
    · have HZ := Lib.hid hZ
      clear hZ
      go_enter Try.func43, Try.ntmps43
      go_wp2_with (first | (go_at_call 60; ((with_reducible refine (isAddress_at a _ _ HA.out).mono ?_); rintro e w' ⟨rfl, rfl⟩)) | (go_at_call 60; ((with_reducible refine (isAddress_at z _ _ HZ.out).mono ?_); rintro e w' ⟨rfl, rfl⟩)))
      go_ret
      exact ⟨ret_b (by show false = (inB a 0 32768 && inB z 0 32768 && decide (a < z) && inB v 0 63 && decide (0 ≤ n) && kindB k n); rw [HA.out, HZ.out]; simp), (Below.refl _ _).alloc (Nat.le_refl _) _⟩
    · have HZ := Lib.hid hZ
      clear hZ
      by_cases hL : a < z
      · have HL := Lib.hid (decide_eq_true hL)
        have dL : decide (z ≤ a) = false := decide_eq_false (by omega)
        cases hV : inB v 0 63
        · have HV := Lib.hid hV
          clear hV
          go_enter Try.func43, Try.ntmps43
          go_wp2_with (first | (go_at_call 60; ((with_reducible refine (isAddress_at a _ _ HA.out).mono ?_); rintro e w' ⟨rfl, rfl⟩)) | (go_at_call 60; ((with_reducible refine (isAddress_at z _ _ HZ.out).mono ?_); rintro e w' ⟨rfl, rfl⟩)) | (go_at_call 59; ((with_reducible refine (isVariable_at v _ _ HV.out).mono ?_); rintro e w' ⟨rfl, rfl⟩)))
          go_ret
          exact ⟨ret_b (by show false = (inB a 0 32768 && inB z 0 32768 && decide (a < z) && inB v 0 63 && decide (0 ≤ n) && kindB k n); rw [HA.out, HZ.out, HL.out, HV.out]; simp), (Below.refl _ _).alloc (Nat.le_refl _) _⟩
        · have HV := Lib.hid hV
          clear hV
          by_cases hN : 0 ≤ n
          · have HN := Lib.hid (decide_eq_true hN)
            have dN : decide (n < 0) = false := decide_eq_false (by omega)
            by_cases k0 : k = 0
            · subst k0
              by_cases q : n ≤ 31
              · have RK := Lib.hid (show kindB 0 n = true by simp [kindB, q])
                have dq : decide (n ≤ 31) = true := decide_eq_true q
                go_enter Try.func43, Try.ntmps43
                go_wp2_with (first | (go_at_call 60; ((with_reducible refine (isAddress_at a _ _ HA.out).mono ?_); rintro e w' ⟨rfl, rfl⟩)) | (go_at_call 60; ((with_reducible refine (isAddress_at z _ _ HZ.out).mono ?_); rintro e w' ⟨rfl, rfl⟩)) | (go_at_call 59; ((with_reducible refine (isVariable_at v _ _ HV.out).mono ?_); rintro e w' ⟨rfl, rfl⟩)))
                go_ret
                exact ⟨ret_b (by show true = (inB a 0 32768 && inB z 0 32768 && decide (a < z) && inB v 0 63 && decide (0 ≤ n) && kindB 0 n); rw [HA.out, HZ.out, HL.out, HV.out, HN.out, RK.out]; rfl), (Below.refl _ _).alloc (Nat.le_refl _) _⟩
              · have RK := Lib.hid (show kindB 0 n = false by simp [kindB]; omega)
                have dq : decide (n ≤ 31) = false := decide_eq_false q
                go_enter Try.func43, Try.ntmps43
                go_wp2_with (first | (go_at_call 60; ((with_reducible refine (isAddress_at a _ _ HA.out).mono ?_); rintro e w' ⟨rfl, rfl⟩)) | (go_at_call 60; ((with_reducible refine (isAddress_at z _ _ HZ.out).mono ?_); rintro e w' ⟨rfl, rfl⟩)) | (go_at_call 59; ((with_reducible refine (isVariable_at v _ _ HV.out).mono ?_); rintro e w' ⟨rfl, rfl⟩)))
                go_ret
                exact ⟨ret_b (by show false = (inB a 0 32768 && inB z 0 32768 && decide (a < z) && inB v 0 63 && decide (0 ≤ n) && kindB 0 n); rw [HA.out, HZ.out, HL.out, HV.out, HN.out, RK.out]; rfl), (Below.refl _ _).alloc (Nat.le_refl _) _⟩
            have dk0 : (k == 0) = false := by simpa using k0
            by_cases k1 : k = 1
            · subst k1
              by_cases q : n ≤ 32764
              · have RK := Lib.hid (show kindB 1 n = true by simp [kindB, q])
                have dq : decide (n ≤ 32764) = true := decide_eq_true q
                go_enter Try.func43, Try.ntmps43
                go_wp2_with (first | (go_at_call 60; ((with_reducible refine (isAddress_at a _ _ HA.out).mono ?_); rintro e w' ⟨rfl, rfl⟩)) | (go_at_call 60; ((with_reducible refine (isAddress_at z _ _ HZ.out).mono ?_); rintro e w' ⟨rfl, rfl⟩)) | (go_at_call 59; ((with_reducible refine (isVariable_at v _ _ HV.out).mono ?_); rintro e w' ⟨rfl, rfl⟩)))
                go_ret
                exact ⟨ret_b (by show true = (inB a 0 32768 && inB z 0 32768 && decide (a < z) && inB v 0 63 && decide (0 ≤ n) && kindB 1 n); rw [HA.out, HZ.out, HL.out, HV.out, HN.out, RK.out]; rfl), (Below.refl _ _).alloc (Nat.le_refl _) _⟩
              · have RK := Lib.hid (show kindB 1 n = false by simp [kindB]; omega)
                have dq : decide (n ≤ 32764) = false := decide_eq_false q
                go_enter Try.func43, Try.ntmps43
                go_wp2_with (first | (go_at_call 60; ((with_reducible refine (isAddress_at a _ _ HA.out).mono ?_); rintro e w' ⟨rfl, rfl⟩)) | (go_at_call 60; ((with_reducible refine (isAddress_at z _ _ HZ.out).mono ?_); rintro e w' ⟨rfl, rfl⟩)) | (go_at_call 59; ((with_reducible refine (isVariable_at v _ _ HV.out).mono ?_); rintro e w' ⟨rfl, rfl⟩)))
                go_ret
                exact ⟨ret_b (by show false = (inB a 0 32768 && inB z 0 32768 && decide (a < z) && inB v 0 63 && decide (0 ≤ n) && kindB 1 n); rw [HA.out, HZ.out, HL.out, HV.out, HN.out, RK.out]; rfl), (Below.refl _ _).alloc (Nat.le_refl _) _⟩
            have dk1 : (k == 1) = false := by simpa using k1
            by_cases k2 : k = 2
            · subst k2
              by_cases q : n ≤ 4294967295
              · have RK := Lib.hid (show kindB 2 n = true by simp [kindB, q])
                have dq : decide (n ≤ 4294967295) = true := decide_eq_true q
                go_enter Try.func43, Try.ntmps43
                go_wp2_with (first | (go_at_call 60; ((with_reducible refine (isAddress_at a _ _ HA.out).mono ?_); rintro e w' ⟨rfl, rfl⟩)) | (go_at_call 60; ((with_reducible refine (isAddress_at z _ _ HZ.out).mono ?_); rintro e w' ⟨rfl, rfl⟩)) | (go_at_call 59; ((with_reducible refine (isVariable_at v _ _ HV.out).mono ?_); rintro e w' ⟨rfl, rfl⟩)))
                go_ret
                exact ⟨ret_b (by show true = (inB a 0 32768 && inB z 0 32768 && decide (a < z) && inB v 0 63 && decide (0 ≤ n) && kindB 2 n); rw [HA.out, HZ.out, HL.out, HV.out, HN.out, RK.out]; rfl), (Below.refl _ _).alloc (Nat.le_refl _) _⟩
              · have RK := Lib.hid (show kindB 2 n = false by simp [kindB]; omega)
                have dq : decide (n ≤ 4294967295) = false := decide_eq_false q
                go_enter Try.func43, Try.ntmps43
                go_wp2_with (first | (go_at_call 60; ((with_reducible refine (isAddress_at a _ _ HA.out).mono ?_); rintro e w' ⟨rfl, rfl⟩)) | (go_at_call 60; ((with_reducible refine (isAddress_at z _ _ HZ.out).mono ?_); rintro e w' ⟨rfl, rfl⟩)) | (go_at_call 59; ((with_reducible refine (isVariable_at v _ _ HV.out).mono ?_); rintro e w' ⟨rfl, rfl⟩)))
                go_ret
                exact ⟨ret_b (by show false = (inB a 0 32768 && inB z 0 32768 && decide (a < z) && inB v 0 63 && decide (0 ≤ n) && kindB 2 n); rw [HA.out, HZ.out, HL.out, HV.out, HN.out, RK.out]; rfl), (Below.refl _ _).alloc (Nat.le_refl _) _⟩
            have dk2 : (k == 2) = false := by simpa using k2
            have RK := Lib.hid (show kindB k n = false by simp [kindB, k0, k1, k2])
            clear k0 k1 k2
            go_enter Try.func43, Try.ntmps43
            go_wp2_with (first | (go_at_call 60; ((with_reducible refine (isAddress_at a _ _ HA.out).mono ?_); rintro e w' ⟨rfl, rfl⟩)) | (go_at_call 60; ((with_reducible refine (isAddress_at z _ _ HZ.out).mono ?_); rintro e w' ⟨rfl, rfl⟩)) | (go_at_call 59; ((with_reducible refine (isVariable_at v _ _ HV.out).mono ?_); rintro e w' ⟨rfl, rfl⟩)))
            go_ret
            exact ⟨ret_b (by show false = (inB a 0 32768 && inB z 0 32768 && decide (a < z) && inB v 0 63 && decide (0 ≤ n) && kindB k n); rw [HA.out, HZ.out, HL.out, HV.out, HN.out, RK.out]; rfl), (Below.refl _ _).alloc (Nat.le_refl _) _⟩
          · have HN := Lib.hid (decide_eq_false hN)
            have dN : decide (n < 0) = true := decide_eq_true (by omega)
            go_enter Try.func43, Try.ntmps43
            go_wp2_with (first | (go_at_call 60; ((with_reducible refine (isAddress_at a _ _ HA.out).mono ?_); rintro e w' ⟨rfl, rfl⟩)) | (go_at_call 60; ((with_reducible refine (isAddress_at z _ _ HZ.out).mono ?_); rintro e w' ⟨rfl, rfl⟩)) | (go_at_call 59; ((with_reducible refine (isVariable_at v _ _ HV.out).mono ?_); rintro e w' ⟨rfl, rfl⟩)))
            go_ret
            exact ⟨ret_b (by show false = (inB a 0 32768 && inB z 0 32768 && decide (a < z) && inB v 0 63 && decide (0 ≤ n) && kindB k n); rw [HA.out, HZ.out, HL.out, HV.out, HN.out]; simp), (Below.refl _ _).alloc (Nat.le_refl _) _⟩
      · have HL := Lib.hid (decide_eq_false hL)
        have dL : decide (z ≤ a) = true := decide_eq_true (by omega)
        go_enter Try.func43, Try.ntmps43
        go_wp2_with (first | (go_at_call 60; ((with_reducible refine (isAddress_at a _ _ HA.out).mono ?_); rintro e w' ⟨rfl, rfl⟩)) | (go_at_call 60; ((with_reducible refine (isAddress_at z _ _ HZ.out).mono ?_); rintro e w' ⟨rfl, rfl⟩)))
        go_ret
        exact ⟨ret_b (by show false = (inB a 0 32768 && inB z 0 32768 && decide (a < z) && inB v 0 63 && decide (0 ≤ n) && kindB k n); rw [HA.out, HZ.out, HL.out]; simp), (Below.refl _ _).alloc (Nat.le_refl _) _⟩
end Go.Proofs.Ytdpfglpefncigaa
