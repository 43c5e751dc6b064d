/-
  Which places are right, by the reference; which one comes before another one.
-/
import Derived.Test.YtdpfglpefncigaaTrB
namespace Go.Proofs.Ytdpfglpefncigaa
open Go.RowKit

def kindR (k n : Int) : Bool := if k = 0 then inB n 0 31 else if k = 1 then inB n 0 32764 else if k = 2 then inB n 0 4294967295 else false
theorem isPlB_ref (p : Plc) : isPlB p = (inB p.a 0 32768 && inB p.z (p.a + 1) 32768 && inB p.v 0 63 && kindR p.k p.n) := by
  obtain ⟨a, z, v, k, n⟩ := p
  unfold isPlB kindR kindB inB
  rw [Bool.eq_iff_iff]
  by_cases k0 : k = 0
  · simp [k0]; omega
  by_cases k1 : k = 1
  · simp [k1]; omega
  by_cases k2 : k = 2
  · simp [k2]; omega
  simp [k0, k1, k2]
set_option maxHeartbeats 1000000 in
theorem refIsPlace_any (p : Plc) (w : World) : Calls Try.prog 48 #[aggP p] w fun e w' => e = .returned (.bool (isPlB p)) ∧ Below w.heap.size w w' := by
  rw [isPlB_ref]
  obtain ⟨a, z, v, k, n⟩ := p
  obtain ⟨X, hX⟩ : ∃ X, X = (inB a 0 32768 && inB z (a + 1) 32768 && inB v 0 63 && kindR k n) := ⟨_, rfl⟩
  show Calls Try.prog 48 _ w fun e w' => e = .returned (.bool (inB a 0 32768 && inB z (a + 1) 32768 && inB v 0 63 && kindR k n)) ∧ _
  rw [← hX]
  have RX := Lib.hid hX
  clear hX
  cases hA : inB a 0 32768
  · have HA := Lib.hid hA
    clear hA
    go_enter Try.func48, Try.ntmps48
    go_wp2_with (first | (go_at_call 41; ((with_reducible refine (within_at a 0 32768 _ _ HA.out).mono ?_); rintro e w' ⟨rfl, rfl⟩)))
    go_ret
    exact ⟨ret_b (by rw [RX.out, HA.out]; simp), (Below.refl _ _).alloc (Nat.le_refl _) _⟩
  · have HA := Lib.hid hA
    obtain ⟨la, lb⟩ := inB_iff.1 hA
    clear hA
    cases hZ : inB z (a + 1) 32768
    · have HZ := Lib.hid hZ
      clear hZ
      go_enter Try.func48, Try.ntmps48
      go_wp2_with (first | (go_at_call 41; ((with_reducible refine (within_at a 0 32768 _ _ HA.out).mono ?_); rintro e w' ⟨rfl, rfl⟩)) | (go_at_call 41; ((with_reducible refine (within_at z (a + 1) 32768 _ _ HZ.out).mono ?_); rintro e w' ⟨rfl, rfl⟩)))
      go_ret
      exact ⟨ret_b (by rw [RX.out, HA.out, HZ.out]; simp), (Below.refl _ _).alloc (Nat.le_refl _) _⟩
    · have HZ := Lib.hid hZ
      clear hZ
      cases hV : inB v 0 63
      · have HV := Lib.hid hV
        clear hV
        go_enter Try.func48, Try.ntmps48
        go_wp2_with (first | (go_at_call 41; ((with_reducible refine (within_at a 0 32768 _ _ HA.out).mono ?_); rintro e w' ⟨rfl, rfl⟩)) | (go_at_call 41; ((with_reducible refine (within_at z (a + 1) 32768 _ _ HZ.out).mono ?_); rintro e w' ⟨rfl, rfl⟩)) | (go_at_call 41; ((with_reducible refine (within_at v 0 63 _ _ HV.out).mono ?_); rintro e w' ⟨rfl, rfl⟩)))
        go_ret
        exact ⟨ret_b (by rw [RX.out, HA.out, HZ.out, HV.out]; simp), (Below.refl _ _).alloc (Nat.le_refl _) _⟩
      · have HV := Lib.hid hV
        clear hV
        by_cases k0 : k = 0
        · subst k0
          obtain ⟨B, hB⟩ : ∃ B, B = inB n 0 31 := ⟨_, rfl⟩
          have HN := Lib.hid hB.symm
          have RK := Lib.hid (show kindR 0 n = B by rw [hB]; rfl)
          clear hB
          go_enter Try.func48, Try.ntmps48
          go_wp2_with (first | (go_at_call 41; ((with_reducible refine (within_at a 0 32768 _ _ HA.out).mono ?_); rintro e w' ⟨rfl, rfl⟩)) | (go_at_call 41; ((with_reducible refine (within_at z (a + 1) 32768 _ _ HZ.out).mono ?_); rintro e w' ⟨rfl, rfl⟩)) | (go_at_call 41; ((with_reducible refine (within_at v 0 63 _ _ HV.out).mono ?_); rintro e w' ⟨rfl, rfl⟩)) | (go_at_call 41; ((with_reducible refine (within_at n 0 31 _ _ HN.out).mono ?_); rintro e w' ⟨rfl, rfl⟩)))
          go_ret
          exact ⟨ret_b (by rw [RX.out, HA.out, HZ.out, HV.out, RK.out]; rfl), (Below.refl _ _).alloc (Nat.le_refl _) _⟩
        have dk0 : (k == 0) = false := by simpa using k0
        by_cases k1 : k = 1
        · subst k1
          obtain ⟨B, hB⟩ : ∃ B, B = inB n 0 32764 := ⟨_, rfl⟩
          have HN := Lib.hid hB.symm
          have RK := Lib.hid (show kindR 1 n = B by rw [hB]; rfl)
          clear hB
          go_enter Try.func48, Try.ntmps48
          go_wp2_with (first | (go_at_call 41; ((with_reducible refine (within_at a 0 32768 _ _ HA.out).mono ?_); rintro e w' ⟨rfl, rfl⟩)) | (go_at_call 41; ((with_reducible refine (within_at z (a + 1) 32768 _ _ HZ.out).mono ?_); rintro e w' ⟨rfl, rfl⟩)) | (go_at_call 41; ((with_reducible refine (within_at v 0 63 _ _ HV.out).mono ?_); rintro e w' ⟨rfl, rfl⟩)) | (go_at_call 41; ((with_reducible refine (within_at n 0 32764 _ _ HN.out).mono ?_); rintro e w' ⟨rfl, rfl⟩)))
          go_ret
          exact ⟨ret_b (by rw [RX.out, HA.out, HZ.out, HV.out, RK.out]; rfl), (Below.refl _ _).alloc (Nat.le_refl _) _⟩
        have dk1 : (k == 1) = false := by simpa using k1
        by_cases k2 : k = 2
        · subst k2
          obtain ⟨B, hB⟩ : ∃ B, B = inB n 0 4294967295 := ⟨_, rfl⟩
          have HN := Lib.hid hB.symm
          have RK := Lib.hid (show kindR 2 n = B by rw [hB]; rfl)
          clear hB
          go_enter Try.func48, Try.ntmps48
          go_wp2_with (first | (go_at_call 41; ((with_reducible refine (within_at a 0 32768 _ _ HA.out).mono ?_); rintro e w' ⟨rfl, rfl⟩)) | (go_at_call 41; ((with_reducible refine (within_at z (a + 1) 32768 _ _ HZ.out).mono ?_); rintro e w' ⟨rfl, rfl⟩)) | (go_at_call 41; ((with_reducible refine (within_at v 0 63 _ _ HV.out).mono ?_); rintro e w' ⟨rfl, rfl⟩)) | (go_at_call 41; ((with_reducible refine (within_at n 0 4294967295 _ _ HN.out).mono ?_); rintro e w' ⟨rfl, rfl⟩)))
          go_ret
          exact ⟨ret_b (by rw [RX.out, HA.out, HZ.out, HV.out, RK.out]; rfl), (Below.refl _ _).alloc (Nat.le_refl _) _⟩
        have dk2 : (k == 2) = false := by simpa using k2
        have RK := Lib.hid (show kindR k n = false by simp [kindR, k0, k1, k2])
        clear k0 k1 k2
        go_enter Try.func48, Try.ntmps48
        go_wp2_with (first | (go_at_call 41; ((with_reducible refine (within_at a 0 32768 _ _ HA.out).mono ?_); rintro e w' ⟨rfl, rfl⟩)) | (go_at_call 41; ((with_reducible refine (within_at z (a + 1) 32768 _ _ HZ.out).mono ?_); rintro e w' ⟨rfl, rfl⟩)) | (go_at_call 41; ((with_reducible refine (within_at v 0 63 _ _ HV.out).mono ?_); rintro e w' ⟨rfl, rfl⟩)))
        go_ret
        exact ⟨ret_b (by rw [RX.out, HA.out, HZ.out, HV.out, RK.out]; rfl), (Below.refl _ _).alloc (Nat.le_refl _) _⟩
/-- Which place comes before another one. -/
def befB (p q : Plc) : Bool := if p.a ≠ q.a then decide (p.a < q.a) else if p.z ≠ q.z then decide (p.z < q.z) else if p.v ≠ q.v then decide (p.v < q.v) else if p.k ≠ q.k then decide (p.k < q.k) else decide (p.n < q.n)
set_option maxHeartbeats 1000000 in
theorem before_any (p q : Plc) (w : World) : Calls Try.prog 49 #[aggP p, aggP q] w fun e w' => e = .returned (.bool (befB p q)) ∧ Below w.heap.size w w' := by
  obtain ⟨a, z, v, k, n⟩ := p
  obtain ⟨b, y, u, l, m⟩ := q
  by_cases e0 : a = b
  · have d0 : (a != b) = false := by simp [e0]
    by_cases e1 : z = y
    · have d1 : (z != y) = false := by simp [e1]
      by_cases e2 : v = u
      · have d2 : (v != u) = false := by simp [e2]
        by_cases e3 : k = l
        · have d3 : (k != l) = false := by simp [e3]
          have RX := Lib.hid (show befB ⟨a, z, v, k, n⟩ ⟨b, y, u, l, m⟩ = decide (n < m) by simp [befB, e0, e1, e2, e3])
          clear e0
          clear e1
          clear e2
          clear e3
          go_enter Try.func49, Try.ntmps49
          go_wp2
          go_ret
          exact ⟨ret_b (by rw [RX.out]), ((Below.refl _ _).alloc (Nat.le_refl _) _).alloc (by simp) _⟩
        · have d3 : (k != l) = true := by simp [e3]
          have RX := Lib.hid (show befB ⟨a, z, v, k, n⟩ ⟨b, y, u, l, m⟩ = decide (k < l) by simp [befB, e0, e1, e2, e3])
          clear e0
          clear e1
          clear e2
          clear e3
          go_enter Try.func49, Try.ntmps49
          go_wp2
          go_ret
          exact ⟨ret_b (by rw [RX.out]), ((Below.refl _ _).alloc (Nat.le_refl _) _).alloc (by simp) _⟩
      · have d2 : (v != u) = true := by simp [e2]
        have RX := Lib.hid (show befB ⟨a, z, v, k, n⟩ ⟨b, y, u, l, m⟩ = decide (v < u) by simp [befB, e0, e1, e2])
        clear e0
        clear e1
        clear e2
        go_enter Try.func49, Try.ntmps49
        go_wp2
        go_ret
        exact ⟨ret_b (by rw [RX.out]), ((Below.refl _ _).alloc (Nat.le_refl _) _).alloc (by simp) _⟩
    · have d1 : (z != y) = true := by simp [e1]
      have RX := Lib.hid (show befB ⟨a, z, v, k, n⟩ ⟨b, y, u, l, m⟩ = decide (z < y) by simp [befB, e0, e1])
      clear e0
      clear e1
      go_enter Try.func49, Try.ntmps49
      go_wp2
      go_ret
      exact ⟨ret_b (by rw [RX.out]), ((Below.refl _ _).alloc (Nat.le_refl _) _).alloc (by simp) _⟩
  · have d0 : (a != b) = true := by simp [e0]
    have RX := Lib.hid (show befB ⟨a, z, v, k, n⟩ ⟨b, y, u, l, m⟩ = decide (a < b) by simp [befB, e0])
    clear e0
    go_enter Try.func49, Try.ntmps49
    go_wp2
    go_ret
    exact ⟨ret_b (by rw [RX.out]), ((Below.refl _ _).alloc (Nat.le_refl _) _).alloc (by simp) _⟩
end Go.Proofs.Ytdpfglpefncigaa
