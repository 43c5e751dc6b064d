/-
  Package loop and its reference: words of a call, After.
-/
import Derived.Test.YtgnaohhopbhihaaDoorLoopA
namespace Go.Proofs.YtgnaohhopbhihaaDoor
open Go.RowKit

theorem rWord_yes (n x : Nat) (w : World) (h2 : n ≤ 32) (hx : x < pw n) : Calls Tryd.prog 127 #[.int .i64 n, .int .u32 x] w fun e w' => e = .returned (.bool true) ∧ w = w' := by
  have hp := pw_le h2
  by_cases h : n = 32
  · subst h
    go_enter Tryd.func127, Tryd.ntmps127
    go_wp2
    go_ret
    exact ⟨rfl, rfl⟩
  · have e2 : (2 : Int) ^ n = (pw n : Int) := by simp [pw]
    have hpn := pw_mono (m := n) (n := 31) (by omega)
    have e31 : pw 31 = 2147483648 := by decide
    have hpn2 : pw n ≤ 2147483648 := by omega
    clear e31 hpn
    go_enter Tryd.func127, Tryd.ntmps127
    go_wp2
    go_ret
    exact ⟨ret_b (by simp; try omega), rfl⟩
theorem rWord_no (n x : Nat) (w : World) (h2 : n ≤ 32) (x32 : x < 4294967296) (hx : pw n ≤ x) : Calls Tryd.prog 127 #[.int .i64 n, .int .u32 x] w fun e w' => e = .returned (.bool false) ∧ w = w' := by
  have h : n ≠ 32 := by
    rintro rfl
    have : pw 32 = 4294967296 := by decide
    omega
  have e2 : (2 : Int) ^ n = (pw n : Int) := by simp [pw]
  have hpn := pw_mono (m := n) (n := 31) (by omega)
  have e31 : pw 31 = 2147483648 := by decide
  have hpn2 : pw n ≤ 2147483648 := by omega
  clear e31 hpn
  go_enter Tryd.func127, Tryd.ntmps127
  go_wp2
  go_ret
  exact ⟨ret_b (by simp; try omega), rfl⟩
theorem worded_yes (n k B : Nat) (c : Int) (f : Nat → Nat) (w : World) (h1 : 1 ≤ n) (h2 : n ≤ 32) (hc0 : 0 ≤ c) (hc1 : c ≤ 4294967296) (hk : k ≤ 100)
    (hc : ∀ i, i < k → w.cell? ⟨B, i, none⟩ = some (.int .u32 (f i))) (hf : ∀ i, i < k → f i < pw n) :
    Calls Tryd.prog 66 #[.int .i64 n, .int .i64 c, .slice (some ⟨B, 0, none⟩) k k] w fun e w' => e = .returned (.int .i64 0) ∧ w = w' := by
  have HF := Lib.hid hf
  have HC := Lib.hid hc
  have d1 : decide ((n : Int) < 1) = false := by simp; omega
  clear hf hc
  go_enter Tryd.func66, Tryd.ntmps66
  go_wp2
  go_loop [7] (fun z => ∃ i : Nat, i ≤ k ∧ z = .int .i64 (i : Int)) (fun z => k - (intOf z).toNat)
  case atStart => exact ⟨0, by omega, rfl⟩
  case round =>
    obtain ⟨i, hi, rfl⟩ := hrel
    by_cases hlt : i < k
    · have hcell := HC.out i hlt
      have hbnd := HF.out i hlt
      generalize f i = y at *
      go_wp2_with (go_at_call 127; refine (rWord_yes n y _ h2 hbnd).mono ?_; rintro e w' ⟨rfl, rfl⟩)
      go_round
      case rel => exact ⟨i + 1, by omega, by go_num⟩
      case measure => simp [intOf]; omega
    · go_wp2
      go_ret
      exact ⟨rfl, rfl⟩
theorem worded_no (n k B j : Nat) (c : Int) (f : Nat → Nat) (w : World) (h1 : 1 ≤ n) (h2 : n ≤ 32) (hc0 : 0 ≤ c) (hc1 : c ≤ 4294967296) (hk : k ≤ 100)
    (hc : ∀ i, i < k → w.cell? ⟨B, i, none⟩ = some (.int .u32 (f i))) (h32 : ∀ i, i < k → f i < 4294967296) (hj : j < k) (hf : pw n ≤ f j) :
    Calls Tryd.prog 66 #[.int .i64 n, .int .i64 c, .slice (some ⟨B, 0, none⟩) k k] w fun e w' => e = .returned (.int .i64 1) ∧ w = w' := by
  have HF := Lib.hid hf
  have HC := Lib.hid hc
  have H32 := Lib.hid h32
  have d1 : decide ((n : Int) < 1) = false := by simp; omega
  clear hf hc h32
  go_enter Tryd.func66, Tryd.ntmps66
  go_wp2
  go_loop [7] (fun z => ∃ i : Nat, i ≤ j ∧ z = .int .i64 (i : Int)) (fun z => k - (intOf z).toNat)
  case atStart => exact ⟨0, by omega, rfl⟩
  case round =>
    obtain ⟨i, hi, rfl⟩ := hrel
    have hlt : i < k := by omega
    have hcell := HC.out i hlt
    have hb32 := H32.out i hlt
    by_cases hij : i = j
    · subst hij
      have hbnd := HF.out
      generalize f i = y at *
      go_wp2_with (go_at_call 127; refine (rWord_no n y _ h2 hb32 hbnd).mono ?_; rintro e w' ⟨rfl, rfl⟩)
      go_ret
      exact ⟨rfl, rfl⟩
    · obtain ⟨y, hy⟩ : ∃ y, y = f i := ⟨_, rfl⟩
      rw [← hy] at hcell hb32
      clear hy
      by_cases hb : pw n ≤ y
      · go_wp2_with (go_at_call 127; refine (rWord_no n y _ h2 hb32 hb).mono ?_; rintro e w' ⟨rfl, rfl⟩)
        go_ret
        exact ⟨rfl, rfl⟩
      · go_wp2_with (go_at_call 127; refine (rWord_yes n y _ h2 (by omega)).mono ?_; rintro e w' ⟨rfl, rfl⟩)
        go_round
        case rel => exact ⟨i + 1, by omega, by go_num⟩
        case measure => simp [intOf]; omega
theorem worded_bad (n c : Int) (S : Value) (w : World) (h : n < 1 ∨ 32 < n ∨ c < 0 ∨ 4294967296 < c) :
    Calls Tryd.prog 66 #[.int .i64 n, .int .i64 c, S] w fun e w' => e = .returned (.int .i64 1) ∧ w = w' := by
  by_cases a1 : n < 1
  · clear h
    go_enter Tryd.func66, Tryd.ntmps66
    go_wp2
    go_ret
    exact ⟨rfl, rfl⟩
  by_cases a2 : 32 < n
  · clear h
    go_enter Tryd.func66, Tryd.ntmps66
    go_wp2
    go_ret
    exact ⟨rfl, rfl⟩
  by_cases a3 : c < 0
  · clear h
    go_enter Tryd.func66, Tryd.ntmps66
    go_wp2
    go_ret
    exact ⟨rfl, rfl⟩
  · have a4 : 4294967296 < c := by omega
    clear h
    go_enter Tryd.func66, Tryd.ntmps66
    go_wp2
    go_ret
    exact ⟨rfl, rfl⟩
theorem two_cells (w : World) (a b T : Nat) : ∀ i, i < 2 → (w.alloc (.cells #[.int .u32 a, .int .u32 b] T)).cell? ⟨w.heap.size, i, none⟩ = some (.int .u32 ((if i = 0 then a else b : Nat) : Int)) := by
  intro i hi
  obtain rfl | rfl : i = 0 ∨ i = 1 := by omega
  · simp [go_sem]
  · simp [go_sem]
theorem one_cell (w : World) (a T : Nat) : ∀ i, i < 1 → (w.alloc (.cells #[.int .u32 a] T)).cell? ⟨w.heap.size, i, none⟩ = some (.int .u32 (a : Int)) := by
  intro i hi
  obtain rfl : i = 0 := by omega
  simp [go_sem]
section
variable (n a b : Nat) (w : World) (T : Nat)
theorem lw2_yes (hM : Masks w) (h1 : 1 ≤ n) (h2 : n ≤ 32) (ha : a < pw n) (hb : b < pw n) :
    Calls Tryd.prog 61 #[.int .i64 n, .slice (some ⟨w.heap.size, 0, none⟩) 2 2] (w.alloc (.cells #[.int .u32 a, .int .u32 b] T)) fun e w' => e = .returned (.bool true) ∧ w.alloc (.cells #[.int .u32 a, .int .u32 b] T) = w' :=
  lw_yes n 2 w.heap.size (fun i => if i = 0 then a else b) _ (hM.alloc _) h1 h2 (by omega) (two_cells w a b T) (by intro i _; split <;> assumption)
theorem lw2_no (m : Int) (hM : Masks w) (h : m < 1 ∨ 32 < m ∨ pw m.toNat ≤ a ∨ pw m.toNat ≤ b) :
    Calls Tryd.prog 61 #[.int .i64 m, .slice (some ⟨w.heap.size, 0, none⟩) 2 2] (w.alloc (.cells #[.int .u32 a, .int .u32 b] T)) fun e w' => e = .returned (.bool false) ∧ w.alloc (.cells #[.int .u32 a, .int .u32 b] T) = w' := by
  by_cases hw : m < 1 ∨ 32 < m
  · exact lw_width m 2 w.heap.size (fun i => if i = 0 then a else b) _ hw (by omega) (two_cells w a b T)
  obtain ⟨n, rfl⟩ : ∃ n : Nat, m = n := ⟨m.toNat, by omega⟩
  have hab : pw n ≤ a ∨ pw n ≤ b := by
    rcases h with h | h | h | h
    · omega
    · omega
    · exact .inl (by simpa using h)
    · exact .inr (by simpa using h)
  by_cases ha : pw n ≤ a
  · exact lw_no n 2 w.heap.size 0 (fun i => if i = 0 then a else b) _ (hM.alloc _) (by omega) (by omega) (by omega) (two_cells w a b T) (by omega) (by simpa using ha)
  · exact lw_no n 2 w.heap.size 1 (fun i => if i = 0 then a else b) _ (hM.alloc _) (by omega) (by omega) (by omega) (two_cells w a b T) (by omega) (by simpa using hab.resolve_left ha)
theorem wd2_yes (c : Int) (h1 : 1 ≤ n) (h2 : n ≤ 32) (hc0 : 0 ≤ c) (hc1 : c ≤ 4294967296) (ha : a < pw n) (hb : b < pw n) :
    Calls Tryd.prog 66 #[.int .i64 n, .int .i64 c, .slice (some ⟨w.heap.size, 0, none⟩) 2 2] (w.alloc (.cells #[.int .u32 a, .int .u32 b] T)) fun e w' => e = .returned (.int .i64 0) ∧ w.alloc (.cells #[.int .u32 a, .int .u32 b] T) = w' :=
  worded_yes n 2 w.heap.size c (fun i => if i = 0 then a else b) _ h1 h2 hc0 hc1 (by omega) (two_cells w a b T) (by intro i _; split <;> assumption)
theorem wd2_no (m c : Int) (a32 : a < 4294967296) (b32 : b < 4294967296) (h : (m < 1 ∨ 32 < m ∨ c < 0 ∨ 4294967296 < c) ∨ pw m.toNat ≤ a ∨ pw m.toNat ≤ b) :
    Calls Tryd.prog 66 #[.int .i64 m, .int .i64 c, .slice (some ⟨w.heap.size, 0, none⟩) 2 2] (w.alloc (.cells #[.int .u32 a, .int .u32 b] T)) fun e w' => e = .returned (.int .i64 1) ∧ w.alloc (.cells #[.int .u32 a, .int .u32 b] T) = w' := by
  by_cases hw : m < 1 ∨ 32 < m ∨ c < 0 ∨ 4294967296 < c
  · exact worded_bad m c _ _ hw
  have hab' := h.resolve_left hw
  obtain ⟨n, rfl⟩ : ∃ n : Nat, m = n := ⟨m.toNat, by omega⟩
  have hab : pw n ≤ a ∨ pw n ≤ b := by simpa using hab'
  have h32 : ∀ i, i < 2 → (if i = 0 then a else b) < 4294967296 := by intro i _; split <;> assumption
  by_cases ha : pw n ≤ a
  · exact worded_no n 2 w.heap.size 0 c (fun i => if i = 0 then a else b) _ (by omega) (by omega) (by omega) (by omega) (by omega) (two_cells w a b T) h32 (by omega) (by simpa using ha)
  · exact worded_no n 2 w.heap.size 1 c (fun i => if i = 0 then a else b) _ (by omega) (by omega) (by omega) (by omega) (by omega) (two_cells w a b T) h32 (by omega) (by simpa using hab.resolve_left ha)
end
/-- What After gives. -/
def aftF (n a b c : Nat) : Nat := (a + c * b) % pw n
theorem u64_bounds {a b c : Nat} (ha : a ≤ 4294967295) (hb : b ≤ 4294967295) (hc : c ≤ 4294967296) : 0 ≤ (c : Int) * (b : Int) ∧ (a : Int) + (c : Int) * (b : Int) ≤ 18446744073709551615 ∧ (a : Int) + (c : Int) * (b : Int) = ((a + c * b : Nat) : Int) := by
  have hm : c * b ≤ 4294967296 * 4294967295 := Nat.mul_le_mul hc hb
  refine ⟨?_, ?_, by rw [Int.natCast_add, Int.natCast_mul]⟩
  · rw [← Int.natCast_mul]; omega
  · rw [← Int.natCast_mul]; omega
theorem after_ok (n a b c : Nat) (w : World) (hM : Masks w) (h1 : 1 ≤ n) (h2 : n ≤ 32) (ha : a < pw n) (hb : b < pw n) (hc : c ≤ 4294967296) :
    Calls Tryd.prog 29 #[.int .i64 n, .int .u32 a, .int .u32 b, .int .i64 c] w fun e w' => e = .returned (.tuple #[.int .u32 (aftF n a b c), .int .i64 0]) ∧ Below w.heap.size w w' := by
  have hp := pw_le h2
  have hM1 := fun o => hM.alloc o
  obtain ⟨m1, m2, hcast⟩ := u64_bounds (a := a) (b := b) (c := c) (by omega) (by omega) hc
  have HH := Lib.hid hcast
  clear hcast
  go_enter Tryd.func29, Tryd.ntmps29
  go_wp2_with (first
    | (go_at_call 61; refine (lw2_yes n a b w _ hM h1 h2 ha hb).mono ?_; rintro e w' ⟨rfl, rfl⟩)
    | (go_at_call 69; refine (isCount_yes _ _ (by omega)).mono ?_; rintro e w' ⟨rfl, rfl⟩)
    | (go_at_call 70; rw [HH.out]; refine (cut_any n (a + c * b) _ (hM1 _) h1 h2).mono ?_; rintro e w' ⟨rfl, rfl⟩))
  go_ret2
  exact ⟨rfl, (Below.refl _ _).alloc (Nat.le_refl _) _⟩
theorem refAfter_ok (n a b c : Nat) (w : World) (h1 : 1 ≤ n) (h2 : n ≤ 32) (ha : a < pw n) (hb : b < pw n) (hc : c ≤ 4294967296) :
    Calls Tryd.prog 67 #[.int .i64 n, .int .u32 a, .int .u32 b, .int .i64 c] w fun e w' => e = .returned (.tuple #[.int .u32 (aftF n a b c), .int .i64 0]) ∧ Below w.heap.size w w' := by
  have hp := pw_le h2
  obtain ⟨m1, m2, hcast⟩ := u64_bounds (a := a) (b := b) (c := c) (by omega) (by omega) hc
  have hlt : a + c * b < 18446744073709551616 := by omega
  have HH := Lib.hid hcast
  have HL := Lib.hid hlt
  clear hcast hlt
  go_enter Tryd.func67, Tryd.ntmps67
  go_wp2_with (first
    | (go_at_call 66; refine (wd2_yes n a b w _ c h1 h2 (by omega) (by omega) ha hb).mono ?_; rintro e w' ⟨rfl, rfl⟩)
    | (go_at_call 128; rw [HH.out]; refine (word_any n (a + c * b) _ h2 HL.out).mono ?_; rintro e w' ⟨rfl, rfl⟩))
  go_ret2
  exact ⟨rfl, (Below.refl _ _).alloc (Nat.le_refl _) _⟩
/-- When After and Total refuse. -/
def CntBad (m : Int) (a b : Nat) (c : Int) : Prop := (m < 1 ∨ 32 < m ∨ pw m.toNat ≤ a ∨ pw m.toNat ≤ b) ∨ c < 0 ∨ 4294967296 < c
theorem cnt_split (m c : Int) (a b : Nat) (h : ¬ CntBad m a b c) : ∃ n k : Nat, m = n ∧ c = k ∧ 1 ≤ n ∧ n ≤ 32 ∧ a < pw n ∧ b < pw n ∧ k ≤ 4294967296 := by
  unfold CntBad at h
  exact ⟨m.toNat, c.toNat, by omega, by omega, by omega, by omega, by omega, by omega, by omega⟩
theorem after_err (m c : Int) (a b : Nat) (w : World) (hM : Masks w) (h : CntBad m a b c) :
    Calls Tryd.prog 29 #[.int .i64 m, .int .u32 a, .int .u32 b, .int .i64 c] w fun e w' => e = .returned (.tuple #[.int .u32 0, .int .i64 1]) ∧ Below w.heap.size w w' := by
  by_cases hw : m < 1 ∨ 32 < m ∨ pw m.toNat ≤ a ∨ pw m.toNat ≤ b
  · have HW := Lib.hid hw
    clear h hw
    go_enter Tryd.func29, Tryd.ntmps29
    go_wp2_with (go_at_call 61; refine (lw2_no a b w _ m hM HW.out).mono ?_; rintro e w' ⟨rfl, rfl⟩)
    go_ret2
    exact ⟨rfl, (Below.refl _ _).alloc (Nat.le_refl _) _⟩
  · have hc := h.resolve_left hw
    obtain ⟨n, rfl⟩ : ∃ n : Nat, m = n := ⟨m.toNat, by omega⟩
    have h1 : 1 ≤ n := by omega
    have h2 : n ≤ 32 := by omega
    have ha : a < pw n := by have : ¬ pw n ≤ a := fun e => hw (.inr (.inr (.inl (by simpa using e))))
                             omega
    have hb : b < pw n := by have : ¬ pw n ≤ b := fun e => hw (.inr (.inr (.inr (by simpa using e))))
                             omega
    have HC := Lib.hid hc
    clear h hw hc
    go_enter Tryd.func29, Tryd.ntmps29
    go_wp2_with (first
      | (go_at_call 61; refine (lw2_yes n a b w _ hM h1 h2 ha hb).mono ?_; rintro e w' ⟨rfl, rfl⟩)
      | (go_at_call 69; refine (isCount_no _ _ HC.out).mono ?_; rintro e w' ⟨rfl, rfl⟩))
    go_ret2
    exact ⟨rfl, (Below.refl _ _).alloc (Nat.le_refl _) _⟩
theorem refAfter_err (m c : Int) (a b : Nat) (w : World) (a32 : a < 4294967296) (b32 : b < 4294967296) (h : CntBad m a b c) :
    Calls Tryd.prog 67 #[.int .i64 m, .int .u32 a, .int .u32 b, .int .i64 c] w fun e w' => e = .returned (.tuple #[.int .u32 0, .int .i64 1]) ∧ Below w.heap.size w w' := by
  have h' : (m < 1 ∨ 32 < m ∨ c < 0 ∨ 4294967296 < c) ∨ pw m.toNat ≤ a ∨ pw m.toNat ≤ b := by unfold CntBad at h; omega
  have HH := Lib.hid h'
  clear h h'
  go_enter Tryd.func67, Tryd.ntmps67
  go_wp2_with (go_at_call 66; refine (wd2_no a b w _ m c a32 b32 HH.out).mono ?_; rintro e w' ⟨rfl, rfl⟩)
  go_ret2
  exact ⟨rfl, (Below.refl _ _).alloc (Nat.le_refl _) _⟩
end Go.Proofs.YtgnaohhopbhihaaDoor
