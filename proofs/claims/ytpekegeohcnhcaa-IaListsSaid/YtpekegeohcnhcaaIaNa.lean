/-
  The reference's number.
-/
import Derived.Test.YtpekegeohcnhcaaIaP
import Derived.Test.YtpekegeohcnhcaaIaGf
namespace Go.Proofs.Ytpekegeohcnhcaa
open Go.RowKit

/-- The number of some bytes from a place on. -/
def nmF (l : List Int) : Nat → Nat → Int
  | _, 0 => 0
  | q, m + 1 => bt l q + 256 * nmF l (q + 1) m
theorem btw_bd {w : World} {A : Option Addr} {n c : Nat} {l : List Int} (h : Byt w A n c l) (q : Nat) : 0 ≤ bt l q ∧ bt l q < 256 := by
  by_cases hq : q < l.length
  · rw [bt_of hq]
    exact h.2.2.2.1 q (by rw [h.1]; exact hq)
  · rw [bt_no hq]
    omega
theorem nmF_bd {w : World} {A : Option Addr} {n c : Nat} {l : List Int} (h : Byt w A n c l) (q m : Nat) (hm : m ≤ 3) : 0 ≤ nmF l q m ∧ nmF l q m ≤ 16777215 := by
  have b0 := btw_bd h q
  have b1 := btw_bd h (q + 1)
  have b2 := btw_bd h (q + 1 + 1)
  have hm' : m = 0 ∨ m = 1 ∨ m = 2 ∨ m = 3 := by omega
  rcases hm' with rfl | rfl | rfl | rfl <;> simp only [nmF] <;> omega
theorem nmF_1 (l : List Int) (p : Nat) : nmF l p 1 = bt l p := by simp [nmF]
theorem nmF_2 (l : List Int) (p : Nat) : nmF l p 2 = nx2 l p := by simp [nmF, nx2]
theorem nmF_4 (l : List Int) (p : Nat) : nmF l p 4 = nx4 l p := by
  simp only [nmF, nx4, show p + 1 + 1 = p + 2 by omega, show p + 2 + 1 = p + 3 by omega]
  omega
set_option maxRecDepth 100000 in
set_option maxHeartbeats 4000000 in
theorem rNumber_yes {w : World} {A : Option Addr} {n c : Nat} {l : List Int} (hB : Byt w A n c l) (p k : Nat) (hk : k ≤ 4) (hp : p ≤ 1000) (h : p + k ≤ n) :
    Calls Try.prog 94 #[.slice A n c, .int .i64 p, .int .i64 k] w fun e w' => e = .returned (.tuple #[.int .i64 (nmF l p k), .bool true]) ∧ w = w' := by
  have hn := hB.2.2.1
  have hnc := hB.2.1
  have d1 : decide ((n : Int) < p + k) = false := decide_eq_false (by omega)
  go_enter Try.func94, Try.ntmps94
  go_wp2_with fail
  go_loop [8, 9] (fun a i => ∃ j : Nat, j ≤ k ∧ i = .int .i64 ((j : Int) - 1) ∧ a = .int .i64 (nmF l (p + j) (k - j))) (fun _ i => (intOf i + 1).toNat)
  case atStart => exact ⟨k, by omega, rfl, by rw [Nat.sub_self]; rfl⟩
  case round =>
    obtain ⟨j, hj, rfl, rfl⟩ := hrel
    cases j with
    | zero =>
      go_wp2
      exact bodyPost_ret (res2 rfl _ _) rfl ⟨rfl, rfl⟩
    | succ j =>
      obtain ⟨b, off, rfl, hb, hc, hc0, hc1⟩ := hB.at_ (j := p + j) (by omega)
      have hbd := nmF_bd hB (p + (j + 1)) (k - (j + 1)) (by omega)
      have e1 : ((p : Int) + (j : Int)).toNat = p + j := by omega
      have HS := Lib.hid (show nmF l (p + j) (k - j) = 256 * nmF l (p + (j + 1)) (k - (j + 1)) + l[p + j]! by
        rw [show k - j = (k - (j + 1)) + 1 by omega]
        show bt l (p + j) + 256 * nmF l (p + j + 1) (k - (j + 1)) = _
        rw [bt_of (by rw [← hB.1]; omega)]
        rw [show p + j + 1 = p + (j + 1) by omega]
        omega)
      generalize nmF l (p + (j + 1)) (k - (j + 1)) = a at hbd HS ⊢
      generalize l[p + j]! = x at hc hc0 hc1 HS
      obtain ⟨ha0, ha1⟩ := hbd
      go_wp2_with fail
      go_round
      case rel => exact ⟨j, by omega, rfl, by rw [HS.out]⟩
      case measure => simp [intOf]
set_option maxRecDepth 100000 in
set_option maxHeartbeats 4000000 in
theorem rNumber_no {w : World} {A : Option Addr} {n c : Nat} {l : List Int} (hB : Byt w A n c l) (p k : Nat) (hk : k ≤ 4) (hp : p ≤ 1000) (h : ¬ p + k ≤ n) :
    Calls Try.prog 94 #[.slice A n c, .int .i64 p, .int .i64 k] w fun e w' => e = .returned (.tuple #[.int .i64 0, .bool false]) ∧ w = w' := by
  have hn := hB.2.2.1
  have hnc := hB.2.1
  have d1 : decide ((n : Int) < p + k) = true := decide_eq_true (by omega)
  clear h
  go_enter Try.func94, Try.ntmps94
  go_wp2
  exact bodyPost_ret (res2 rfl _ _) rfl ⟨rfl, rfl⟩
/-- What the reference's number answers. -/
def numK (l : List Int) (p k : Nat) : Int := if p + k ≤ l.length then nmF l p k else 0
theorem rNumber_any {w : World} {A : Option Addr} {n c : Nat} {l : List Int} (hB : Byt w A n c l) (p k : Nat) (hk : k ≤ 4) (hp : p ≤ 1000) :
    Calls Try.prog 94 #[.slice A n c, .int .i64 p, .int .i64 k] w fun e w' => e = .returned (.tuple #[.int .i64 (numK l p k), .bool (decide (p + k ≤ l.length))]) ∧ w = w' := by
  unfold numK
  by_cases h : p + k ≤ l.length
  · rw [if_pos h, decide_eq_true h]
    exact rNumber_yes hB p k hk hp (by rw [hB.1]; exact h)
  · rw [if_neg h, decide_eq_false h]
    exact rNumber_no hB p k hk hp (by rw [hB.1]; exact h)
theorem numK_1 (l : List Int) (p : Nat) : numK l p 1 = bt l p := by
  unfold numK
  rw [nmF_1]
  split
  · rfl
  · rw [bt_no (by omega)]
theorem numK_2 (l : List Int) (p : Nat) : numK l p 2 = num2 l p := by unfold numK num2; rw [nmF_2]
theorem numK_4 (l : List Int) (p : Nat) : numK l p 4 = num4 l p := by unfold numK num4; rw [nmF_4]
/-! byTwo, byDigit, begins -/
def arithT (k : Nat) : Int := [1, 9, 33, 41, 49, 57, 133].getD k 0
theorem rArith_tab (k : Nat) (hk : k < 7) (w : World) : Calls Try.prog 86 #[.int .i64 ((k : Int) + 7)] w fun e w' => e = .returned (.int .u8 (arithT k)) ∧ w = w' := by
  have h : k = 0 ∨ k = 1 ∨ k = 2 ∨ k = 3 ∨ k = 4 ∨ k = 5 ∨ k = 6 := by omega
  rcases h with rfl | rfl | rfl | rfl | rfl | rfl | rfl
  · exact rArith_7 w
  · exact rArith_8 w
  · exact rArith_9 w
  · exact rArith_10 w
  · exact rArith_11 w
  · exact rArith_12 w
  · exact rArith_13 w
theorem arithT_bd (k : Nat) (hk : k < 7) : 0 ≤ arithT k ∧ arithT k ≤ 255 := by
  have h : k = 0 ∨ k = 1 ∨ k = 2 ∨ k = 3 ∨ k = 4 ∨ k = 5 ∨ k = 6 := by omega
  rcases h with rfl | rfl | rfl | rfl | rfl | rfl | rfl <;> decide
theorem byTwoF_yes (c : Int) (k : Nat) (hk : k < 7) (h : arithT k = c) : byTwoF c = (k : Int) + 7 := by
  subst h
  have h : k = 0 ∨ k = 1 ∨ k = 2 ∨ k = 3 ∨ k = 4 ∨ k = 5 ∨ k = 6 := by omega
  rcases h with rfl | rfl | rfl | rfl | rfl | rfl | rfl <;> decide
theorem byTwoF_no (c : Int) (h : ∀ j, j < 7 → arithT j ≠ c) : byTwoF c = if c = 137 then 0 else -1 := by
  have h0 := h 0 (by omega)
  have h1 := h 1 (by omega)
  have h2 := h 2 (by omega)
  have h3 := h 3 (by omega)
  have h4 := h 4 (by omega)
  have h5 := h 5 (by omega)
  have h6 := h 6 (by omega)
  simp [arithT] at h0 h1 h2 h3 h4 h5 h6
  unfold byTwoF
  rw [if_neg (by omega), if_neg (by omega), if_neg (by omega), if_neg (by omega), if_neg (by omega), if_neg (by omega), if_neg (by omega)]
theorem byTwoF_bd (c : Int) : -1 ≤ byTwoF c ∧ byTwoF c ≤ 12 + 1 := by unfold byTwoF; repeat' split <;> omega
set_option maxRecDepth 100000 in
set_option maxHeartbeats 8000000 in
theorem rByTwo_any (c : Int) (w : World) : Calls Try.prog 96 #[.int .i64 c] w fun e w' => e = .returned (.int .i64 (byTwoF c)) ∧ w = w' := by
  have HA := Lib.hid (fun (k : Nat) (hk : k < 7) w1 => rArith_tab k hk w1)
  go_enter Try.func96, Try.ntmps96
  go_wp2_with fail
  go_loop [3] (fun o => ∃ k : Nat, k ≤ 7 ∧ o = .int .i64 ((k : Int) + 7) ∧ Hid (∀ j, j < k → arithT j ≠ c)) (fun o => 14 - (intOf o).toNat)
  case atStart => exact ⟨0, by omega, rfl, Lib.hid (fun j hj => by omega)⟩
  case round =>
    obtain ⟨k, hk, rfl, HK⟩ := hrel
    by_cases hlt : k < 7
    · cases hq : (arithT k == c)
      · have HN2 := Lib.hid (ne_of_beq_false hq)
        have HA2 := Lib.hid (HA.out k hlt)
        obtain ⟨hb0, hb1⟩ := arithT_bd k hlt
        generalize arithT k = a at HA2 hq hb0 hb1
        go_wp2_with fail
        refine (HA2.out _).mono ?_
        rintro e w2 ⟨rfl, rfl⟩
        go_wp2_with fail
        go_round
        case rel => exact ⟨k + 1, by omega, by first | rfl | (congr 1; omega), Lib.hid (fun j hj => by
          by_cases e : j = k
          · subst e; exact HN2.out
          · exact HK.out j (by omega))⟩
        case measure => simp [intOf]; omega
      · have HR := Lib.hid (byTwoF_yes c k hlt (eq_of_beq hq))
        have HA2 := Lib.hid (HA.out k hlt)
        obtain ⟨hb0, hb1⟩ := arithT_bd k hlt
        generalize arithT k = a at HA2 hq hb0 hb1
        go_wp2_with fail
        refine (HA2.out _).mono ?_
        rintro e w2 ⟨rfl, rfl⟩
        go_wp2
        go_ret
        exact ⟨ret_i HR.out.symm, rfl⟩
    · obtain rfl : k = 7 := by omega
      have HR := Lib.hid (byTwoF_no c (fun j hj => HK.out j hj))
      clear hlt hk
      by_cases h137 : c = 137
      · subst h137
        go_wp2
        go_ret
        exact ⟨ret_i (by rw [HR.out]; rfl), rfl⟩
      · have hf : (c == 137) = false := beq_false_of_ne h137
        have HR2 := Lib.hid (show byTwoF c = -1 by rw [HR.out, if_neg h137])
        clear h137
        go_wp2
        go_ret
        exact ⟨ret_i HR2.out.symm, rfl⟩


def dgT_81 (k : Nat) : Int := [0, 1, 4, 5, 6, 7].getD k 0
theorem dgT_81_at (k : Nat) (hk : k < 6) (w : World) : Calls Try.prog 85 #[.int .i64 ((k : Int) + 14)] w fun e w' => e = .returned (.int .i64 (dgT_81 k)) ∧ w = w' := by
  have h : k = 0 ∨ k = 1 ∨ k = 2 ∨ k = 3 ∨ k = 4 ∨ k = 5 := by omega
  rcases h with rfl | rfl | rfl | rfl | rfl | rfl
  · exact rDigit_14 w
  · exact rDigit_15 w
  · exact rDigit_16 w
  · exact rDigit_17 w
  · exact rDigit_18 w
  · exact rDigit_19 w
theorem dgT_81_yes (r : Int) (k : Nat) (hk : k < 6) (h : dgT_81 k = r) : dig81 r = (k : Int) + 14 := by
  subst h
  have h : k = 0 ∨ k = 1 ∨ k = 2 ∨ k = 3 ∨ k = 4 ∨ k = 5 := by omega
  rcases h with rfl | rfl | rfl | rfl | rfl | rfl <;> decide
theorem dgT_81_no (r : Int) (hr : 0 ≤ r ∧ r < 8) (h : ∀ j, j < 6 → dgT_81 j ≠ r) : dig81 r = -1 := by
  have h0 := h 0 (by omega)
  have h1 := h 1 (by omega)
  have h2 := h 2 (by omega)
  have h3 := h 3 (by omega)
  have h4 := h 4 (by omega)
  have h5 := h 5 (by omega)
  simp [dgT_81] at h0 h1 h2 h3 h4 h5
  have h : r = 0 ∨ r = 1 ∨ r = 2 ∨ r = 3 ∨ r = 4 ∨ r = 5 ∨ r = 6 ∨ r = 7 := by omega
  rcases h with rfl | rfl | rfl | rfl | rfl | rfl | rfl | rfl <;> first | decide | omega
set_option maxRecDepth 100000 in
set_option maxHeartbeats 8000000 in
theorem rByDigit_81 (r : Int) (hr : 0 ≤ r ∧ r < 8) (w : World) : Calls Try.prog 97 #[.int .i64 14, .int .i64 19, .int .i64 r] w fun e w' => e = .returned (.int .i64 (dig81 r)) ∧ w = w' := by
  have HA := Lib.hid (fun (k : Nat) (hk : k < 6) w1 => dgT_81_at k hk w1)
  have HR0 := Lib.hid hr
  clear hr
  go_enter Try.func97, Try.ntmps97
  go_wp2_with fail
  go_loop [7] (fun o => ∃ k : Nat, k ≤ 6 ∧ o = .int .i64 ((k : Int) + 14) ∧ Hid (∀ j, j < k → dgT_81 j ≠ r)) (fun o => 19 + 1 - (intOf o).toNat)
  case atStart => exact ⟨0, by omega, rfl, Lib.hid (fun j hj => by omega)⟩
  case round =>
    obtain ⟨k, hk, rfl, HK⟩ := hrel
    by_cases hlt : k < 6
    · cases hq : (dgT_81 k == r)
      · have HN2 := Lib.hid (ne_of_beq_false hq)
        have HA2 := Lib.hid (HA.out k hlt)
        generalize dgT_81 k = a at HA2 hq
        go_wp2_with fail
        refine (HA2.out _).mono ?_
        rintro e w2 ⟨rfl, rfl⟩
        go_wp2_with fail
        go_round
        case rel => exact ⟨k + 1, by omega, by first | rfl | (congr 1; omega), Lib.hid (fun j hj => by
          by_cases e : j = k
          · subst e; exact HN2.out
          · exact HK.out j (by omega))⟩
        case measure => simp [intOf]; omega
      · have HR := Lib.hid (dgT_81_yes r k hlt (eq_of_beq hq))
        have HA2 := Lib.hid (HA.out k hlt)
        generalize dgT_81 k = a at HA2 hq
        go_wp2_with fail
        refine (HA2.out _).mono ?_
        rintro e w2 ⟨rfl, rfl⟩
        go_wp2
        go_ret
        exact ⟨ret_i HR.out.symm, rfl⟩
    · obtain rfl : k = 6 := by omega
      have HR := Lib.hid (dgT_81_no r HR0.out (fun j hj => HK.out j hj))
      clear hlt hk
      go_wp2
      go_ret
      exact ⟨ret_i HR.out.symm, rfl⟩
def dgT_d3 (k : Nat) : Int := [4, 5, 7].getD k 0
theorem dgT_d3_at (k : Nat) (hk : k < 3) (w : World) : Calls Try.prog 85 #[.int .i64 ((k : Int) + 21)] w fun e w' => e = .returned (.int .i64 (dgT_d3 k)) ∧ w = w' := by
  have h : k = 0 ∨ k = 1 ∨ k = 2 := by omega
  rcases h with rfl | rfl | rfl
  · exact rDigit_21 w
  · exact rDigit_22 w
  · exact rDigit_23 w
theorem dgT_d3_yes (r : Int) (k : Nat) (hk : k < 3) (h : dgT_d3 k = r) : digd3 r = (k : Int) + 21 := by
  subst h
  have h : k = 0 ∨ k = 1 ∨ k = 2 := by omega
  rcases h with rfl | rfl | rfl <;> decide
theorem dgT_d3_no (r : Int) (hr : 0 ≤ r ∧ r < 8) (h : ∀ j, j < 3 → dgT_d3 j ≠ r) : digd3 r = -1 := by
  have h0 := h 0 (by omega)
  have h1 := h 1 (by omega)
  have h2 := h 2 (by omega)
  simp [dgT_d3] at h0 h1 h2
  have h : r = 0 ∨ r = 1 ∨ r = 2 ∨ r = 3 ∨ r = 4 ∨ r = 5 ∨ r = 6 ∨ r = 7 := by omega
  rcases h with rfl | rfl | rfl | rfl | rfl | rfl | rfl | rfl <;> first | decide | omega
set_option maxRecDepth 100000 in
set_option maxHeartbeats 8000000 in
theorem rByDigit_d3 (r : Int) (hr : 0 ≤ r ∧ r < 8) (w : World) : Calls Try.prog 97 #[.int .i64 21, .int .i64 23, .int .i64 r] w fun e w' => e = .returned (.int .i64 (digd3 r)) ∧ w = w' := by
  have HA := Lib.hid (fun (k : Nat) (hk : k < 3) w1 => dgT_d3_at k hk w1)
  have HR0 := Lib.hid hr
  clear hr
  go_enter Try.func97, Try.ntmps97
  go_wp2_with fail
  go_loop [7] (fun o => ∃ k : Nat, k ≤ 3 ∧ o = .int .i64 ((k : Int) + 21) ∧ Hid (∀ j, j < k → dgT_d3 j ≠ r)) (fun o => 23 + 1 - (intOf o).toNat)
  case atStart => exact ⟨0, by omega, rfl, Lib.hid (fun j hj => by omega)⟩
  case round =>
    obtain ⟨k, hk, rfl, HK⟩ := hrel
    by_cases hlt : k < 3
    · cases hq : (dgT_d3 k == r)
      · have HN2 := Lib.hid (ne_of_beq_false hq)
        have HA2 := Lib.hid (HA.out k hlt)
        generalize dgT_d3 k = a at HA2 hq
        go_wp2_with fail
        refine (HA2.out _).mono ?_
        rintro e w2 ⟨rfl, rfl⟩
        go_wp2_with fail
        go_round
        case rel => exact ⟨k + 1, by omega, by first | rfl | (congr 1; omega), Lib.hid (fun j hj => by
          by_cases e : j = k
          · subst e; exact HN2.out
          · exact HK.out j (by omega))⟩
        case measure => simp [intOf]; omega
      · have HR := Lib.hid (dgT_d3_yes r k hlt (eq_of_beq hq))
        have HA2 := Lib.hid (HA.out k hlt)
        generalize dgT_d3 k = a at HA2 hq
        go_wp2_with fail
        refine (HA2.out _).mono ?_
        rintro e w2 ⟨rfl, rfl⟩
        go_wp2
        go_ret
        exact ⟨ret_i HR.out.symm, rfl⟩
    · obtain rfl : k = 3 := by omega
      have HR := Lib.hid (dgT_d3_no r HR0.out (fun j hj => HK.out j hj))
      clear hlt hk
      go_wp2
      go_ret
      exact ⟨ret_i HR.out.symm, rfl⟩
def dgT_f7 (k : Nat) : Int := [2, 3, 6, 7].getD k 0
theorem dgT_f7_at (k : Nat) (hk : k < 4) (w : World) : Calls Try.prog 85 #[.int .i64 ((k : Int) + 24)] w fun e w' => e = .returned (.int .i64 (dgT_f7 k)) ∧ w = w' := by
  have h : k = 0 ∨ k = 1 ∨ k = 2 ∨ k = 3 := by omega
  rcases h with rfl | rfl | rfl | rfl
  · exact rDigit_24 w
  · exact rDigit_25 w
  · exact rDigit_26 w
  · exact rDigit_27 w
theorem dgT_f7_yes (r : Int) (k : Nat) (hk : k < 4) (h : dgT_f7 k = r) : digf7 r = (k : Int) + 24 := by
  subst h
  have h : k = 0 ∨ k = 1 ∨ k = 2 ∨ k = 3 := by omega
  rcases h with rfl | rfl | rfl | rfl <;> decide
theorem dgT_f7_no (r : Int) (hr : 0 ≤ r ∧ r < 8) (h : ∀ j, j < 4 → dgT_f7 j ≠ r) : digf7 r = -1 := by
  have h0 := h 0 (by omega)
  have h1 := h 1 (by omega)
  have h2 := h 2 (by omega)
  have h3 := h 3 (by omega)
  simp [dgT_f7] at h0 h1 h2 h3
  have h : r = 0 ∨ r = 1 ∨ r = 2 ∨ r = 3 ∨ r = 4 ∨ r = 5 ∨ r = 6 ∨ r = 7 := by omega
  rcases h with rfl | rfl | rfl | rfl | rfl | rfl | rfl | rfl <;> first | decide | omega
set_option maxRecDepth 100000 in
set_option maxHeartbeats 8000000 in
theorem rByDigit_f7 (r : Int) (hr : 0 ≤ r ∧ r < 8) (w : World) : Calls Try.prog 97 #[.int .i64 24, .int .i64 27, .int .i64 r] w fun e w' => e = .returned (.int .i64 (digf7 r)) ∧ w = w' := by
  have HA := Lib.hid (fun (k : Nat) (hk : k < 4) w1 => dgT_f7_at k hk w1)
  have HR0 := Lib.hid hr
  clear hr
  go_enter Try.func97, Try.ntmps97
  go_wp2_with fail
  go_loop [7] (fun o => ∃ k : Nat, k ≤ 4 ∧ o = .int .i64 ((k : Int) + 24) ∧ Hid (∀ j, j < k → dgT_f7 j ≠ r)) (fun o => 27 + 1 - (intOf o).toNat)
  case atStart => exact ⟨0, by omega, rfl, Lib.hid (fun j hj => by omega)⟩
  case round =>
    obtain ⟨k, hk, rfl, HK⟩ := hrel
    by_cases hlt : k < 4
    · cases hq : (dgT_f7 k == r)
      · have HN2 := Lib.hid (ne_of_beq_false hq)
        have HA2 := Lib.hid (HA.out k hlt)
        generalize dgT_f7 k = a at HA2 hq
        go_wp2_with fail
        refine (HA2.out _).mono ?_
        rintro e w2 ⟨rfl, rfl⟩
        go_wp2_with fail
        go_round
        case rel => exact ⟨k + 1, by omega, by first | rfl | (congr 1; omega), Lib.hid (fun j hj => by
          by_cases e : j = k
          · subst e; exact HN2.out
          · exact HK.out j (by omega))⟩
        case measure => simp [intOf]; omega
      · have HR := Lib.hid (dgT_f7_yes r k hlt (eq_of_beq hq))
        have HA2 := Lib.hid (HA.out k hlt)
        generalize dgT_f7 k = a at HA2 hq
        go_wp2_with fail
        refine (HA2.out _).mono ?_
        rintro e w2 ⟨rfl, rfl⟩
        go_wp2
        go_ret
        exact ⟨ret_i HR.out.symm, rfl⟩
    · obtain rfl : k = 4 := by omega
      have HR := Lib.hid (dgT_f7_no r HR0.out (fun j hj => HK.out j hj))
      clear hlt hk
      go_wp2
      go_ret
      exact ⟨ret_i HR.out.symm, rfl⟩


theorem drewNQ {B q : Nat} {w w' : World} (h : Below B w w') : Below B w (w'.drewN q) := ⟨h.os, h.tape, h.output, h.size, h.block⟩
theorem pre_take {a b : List Int} : pre a b = decide (a.length ≤ b.length ∧ ∀ j, j < a.length → a[j]! = b[j]!) := by
  rw [Bool.eq_iff_iff, pre_iff, decide_eq_true_eq]
  constructor
  · rintro ⟨t, rfl⟩
    refine ⟨by simp, fun j hj => ?_⟩
    simp [List.getElem!_eq_getElem?_getD, List.getElem?_append_left hj]
  · rintro ⟨h1, h2⟩
    refine ⟨b.drop a.length, ?_⟩
    have e : a = b.take a.length := by
      apply List.ext_getElem
      · simp; omega
      · intro j hj hj2
        have := h2 j hj
        simp [hj, show j < b.length by omega] at this
        simp [this]
    conv => lhs; lhs; rw [e]
    exact List.take_append_drop _ _
set_option maxRecDepth 100000 in
set_option maxHeartbeats 8000000 in
theorem rBegins_any {w : World} {A A2 : Option Addr} {n c m c2 : Nat} {l l2 : List Int} (hB : Byt w A n c l) (hB2 : Byt w A2 m c2 l2) :
    Calls Try.prog 75 #[.slice A n c, .slice A2 m c2] w fun e w' => e = .returned (.bool (pre l2 l)) ∧ Below w.heap.size w w' := by
  have hn := hB.2.2.1
  have hnc := hB.2.1
  have hm := hB2.2.2.1
  have hmc := hB2.2.1
  have HL := Lib.hid hB.1
  have HL2 := Lib.hid hB2.1
  by_cases hlen : m ≤ n
  · have d1 : decide ((n : Int) < m) = false := decide_eq_false (by omega)
    have HB := Lib.hid hB
    have HB2 := Lib.hid hB2
    clear hB hB2
    go_enter Try.func75, Try.ntmps75
    go_wp2_with fail
    go_loopw [5] (fun i wr => ∃ k : Nat, k ≤ m ∧ i = .int .i64 k ∧ Hid (∀ j, j < k → l2[j]! = l[j]!) ∧ Below w.heap.size w wr) (fun i _ => m - (intOf i).toNat)
    case atStart => exact ⟨0, by omega, rfl, Lib.hid (fun j hj => by omega), Below.refl _ _⟩
    case round =>
      obtain ⟨k, hk, rfl, HK, hb⟩ := hrel
      by_cases hlt : k < m
      · obtain ⟨b1, o1, hA1, -, hc, hx0, hx1⟩ := (HB.out.below hb).at_ (j := k) (by omega)
        obtain ⟨b2, o2, hA2, -, hc2, hy0, hy1⟩ := (HB2.out.below hb).at_ (j := k) hlt
        subst hA1 hA2
        have hkn : (k : Int) < n := by omega
        have hkm : (k : Int) < m := by omega
        have hk0 : (0 : Int) ≤ k := by omega
        cases hq : (l[k]! != l2[k]!)
        · have HN := Lib.hid (show l2[k]! = l[k]! by simp only [bne_eq_false_iff_eq] at hq; exact hq.symm)
          generalize hlk : l[k]! = x at hc hx0 hx1 hq HN
          generalize hrk : l2[k]! = y at hc2 hy0 hy1 hq HN
          have HLK := Lib.hid hlk
          have HRK := Lib.hid hrk
          clear hlk hrk
          go_wp2_with fail
          go_quiet (fail)
          go_wp2_with fail
          go_roundw
          case rel => exact ⟨k + 1, by omega, by go_num, Lib.hid (fun j hj => by
            by_cases e : j = k
            · subst e; rw [HLK.out, HRK.out]; exact HN.out
            · exact HK.out j (by omega)), drewNQ hb⟩
          case measure => simp [intOf]; omega
        · have HN := Lib.hid (show l2[k]! ≠ l[k]! by intro e; rw [e] at hq; simp at hq)
          have HPF := Lib.hid (show pre l2 l = false by
            rw [pre_take, decide_eq_false]
            rintro ⟨-, h2⟩
            exact HN.out (h2 k (by rw [← HL2.out]; exact hlt)))
          generalize l[k]! = x at hc hx0 hx1 hq
          generalize l2[k]! = y at hc2 hy0 hy1 hq
          go_wp2_with fail
          go_quiet (fail)
          go_wp2
          go_ret
          exact ⟨ret_b HPF.out.symm, drewNQ hb⟩
      · obtain rfl : k = m := by omega
        have HPT := Lib.hid (show pre l2 l = true by
          rw [pre_take, decide_eq_true_eq]
          exact ⟨by rw [← HL2.out, ← HL.out]; exact hlen, fun j hj => HK.out j (by rw [HL2.out]; exact hj)⟩)
        clear hlt hk
        go_wp2
        go_ret
        exact ⟨ret_b HPT.out.symm, hb⟩
  · have hnm : n < m := by omega
    have HPF := Lib.hid (show pre l2 l = false by
      rw [pre_take, decide_eq_false]
      rintro ⟨h1, -⟩
      rw [← HL2.out, ← HL.out] at h1
      exact hlen h1)
    clear hlen hB hB2
    go_enter Try.func75, Try.ntmps75
    go_wp2
    go_ret
    exact ⟨ret_b HPF.out.symm, Below.refl _ _⟩
end Go.Proofs.Ytpekegeohcnhcaa
