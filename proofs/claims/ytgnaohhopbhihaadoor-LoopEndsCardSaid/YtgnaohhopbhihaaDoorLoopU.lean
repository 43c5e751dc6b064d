/-
  Trips of package loop, at every input.
-/
import Derived.Test.YtgnaohhopbhihaaDoorLoopT2
namespace Go.Proofs.YtgnaohhopbhihaaDoor
open Go.RowKit

theorem behind_wr {n x s : Nat} (hs : s < pw n) : wr n ((x : Int) - (s : Int)) = behind n x s := by
  have hp := pw_pos n
  have e := wr_cast (n := n) ((x : Int) - (s : Int))
  have e2 : ((x : Int) - (s : Int)) % (pw n : Int) = ((x + pw n - s : Nat) : Int) % (pw n : Int) := by
    rw [show ((x + pw n - s : Nat) : Int) = ((x : Int) - (s : Int)) + (pw n : Int) by omega, Int.add_emod_right]
  rw [e2, ← Int.natCast_emod] at e
  unfold behind
  omega
theorem shifted_wr {n x : Nat} : wr n ((x : Int) + (pw (n - 1) : Int)) = shifted n x := by
  have e := wr_mod (n := n) (x := x + pw (n - 1))
  rw [Int.natCast_add] at e
  exact e
theorem diff_and {n x s : Nat} (h2 : n ≤ 32) (hs : s < pw n) : IntKind.u64.wrap (bits .and .u32 (((x : Int) - (s : Int)) % 4294967296) ((pw n - 1 : Nat) : Int)) = (behind n x s : Int) := by
  have hp := pw_le h2
  have hb : behind n x s < pw n := Nat.mod_lt _ (pw_pos n)
  rw [wrap_eq n _ h2, behind_wr hs, IntKind.wrap_u64]
  omega
theorem trip_err (p m : Int) (a b c : Nat) (w : World) (hM : Masks w) (h : TripBad p m a b c) :
    Calls Tryd.prog 24 #[.int .i64 p, .int .i64 m, .int .u32 a, .int .u32 b, .int .u32 c] w fun e w' => e = .returned (.tuple #[.int .i64 0, .bool false, .int .i64 1]) ∧ Below w.heap.size w w' := by
  by_cases hw : m < 1 ∨ 32 < m ∨ pw m.toNat ≤ a ∨ pw m.toNat ≤ b ∨ pw m.toNat ≤ c
  · have HW := Lib.hid hw
    clear h hw
    go_enter Tryd.func24, Tryd.ntmps24
    go_wp2_with (go_at_call 61; refine (lw3_no a b c w _ m hM HW.out).mono ?_; rintro e w' ⟨rfl, rfl⟩)
    go_ret3
    exact ⟨rfl, (Below.refl _ _).alloc (Nat.le_refl _) _⟩
  · have hp := h.resolve_left hw
    obtain ⟨n, rfl⟩ : ∃ n : Nat, m = n := ⟨m.toNat, by omega⟩
    have h1 : 1 ≤ n := by omega
    have h2 : n ≤ 32 := by omega
    have hh : ¬ pw n ≤ a ∧ ¬ pw n ≤ b ∧ ¬ pw n ≤ c := ⟨fun e => hw (.inr (.inr (.inl (by simpa using e)))), fun e => hw (.inr (.inr (.inr (.inl (by simpa using e))))), fun e => hw (.inr (.inr (.inr (.inr (by simpa using e)))))⟩
    have ha : a < pw n := by omega
    have hb : b < pw n := by omega
    have hc : c < pw n := by omega
    clear h hw hh
    by_cases hp0 : p < 0
    · clear hp
      go_enter Tryd.func24, Tryd.ntmps24
      go_wp2_with (go_at_call 61; refine (lw3_yes n a b c w _ hM h1 h2 ha hb hc).mono ?_; rintro e w' ⟨rfl, rfl⟩)
      go_ret3
      exact ⟨rfl, (Below.refl _ _).alloc (Nat.le_refl _) _⟩
    · have hp9 : 9 < p := by omega
      clear hp
      go_enter Tryd.func24, Tryd.ntmps24
      go_wp2_with (go_at_call 61; refine (lw3_yes n a b c w _ hM h1 h2 ha hb hc).mono ?_; rintro e w' ⟨rfl, rfl⟩)
      go_ret3
      exact ⟨rfl, (Below.refl _ _).alloc (Nat.le_refl _) _⟩
theorem ends_any (p c n : Nat) (hp : 1 ≤ p) (hp5 : p ≤ 5) (h2 : n ≤ 32) (hc : c < pw n) :
    (∃ lo hi : Nat, EndsR p n c lo hi ∧ ∀ W, Calls Tryd.prog 63 #[.int .i64 p, .int .u32 c, .int .u32 (pw n - 1 : Nat)] W fun e w' => e = .returned (.tuple #[.int .u32 lo, .int .u32 hi, .bool true]) ∧ W = w') ∨
    ((∀ x, x < pw n → cmpF p n x c = true) ∧ ∀ W, Calls Tryd.prog 63 #[.int .i64 p, .int .u32 c, .int .u32 (pw n - 1 : Nat)] W fun e w' => (∃ x y : Int, e = .returned (.tuple #[.int .u32 x, .int .u32 y, .bool false])) ∧ W = w') := by
  have hpn := pw_le h2
  obtain rfl | rfl | rfl | rfl | rfl : p = 1 ∨ p = 2 ∨ p = 3 ∨ p = 4 ∨ p = 5 := by omega
  · exact .inl ⟨c, c, endsR_1 hc, fun W => ends_1 c _ W⟩
  · exact .inl ⟨c, pw n - 1, endsR_2 hc, fun W => ends_2 c _ W⟩
  · by_cases h : c < pw n - 1
    · exact .inl ⟨c + 1, pw n - 1, endsR_3 h, fun W => ends_3_yes c _ W h (by omega)⟩
    · exact .inr ⟨fun x hx => by simp [cmpF]; omega, fun W => ends_3_no c _ W (by omega)⟩
  · exact .inl ⟨0, c, endsR_4 hc, fun W => ends_4 c _ W⟩
  · by_cases h : 0 < c
    · exact .inl ⟨0, c - 1, endsR_5 hc h, fun W => ends_5_yes c _ W h (by omega)⟩
    · obtain rfl : c = 0 := by omega
      exact .inr ⟨fun x hx => by simp [cmpF], fun W => ends_5_no _ W⟩
section
variable (n a b c : Nat) (w : World)
theorem trip_zero (p : Nat) (hM : Masks w) (hp : p < 10) (h1 : 1 ≤ n) (h2 : n ≤ 32) (ha : a < pw n) (hb : b < pw n) (hc : c < pw n) (hk : cmpF p n a c = false) :
    Calls Tryd.prog 24 #[.int .i64 p, .int .i64 n, .int .u32 a, .int .u32 b, .int .u32 c] w fun e w' => e = .returned (.tuple #[.int .i64 0, .bool true, .int .i64 0]) ∧ Below w.heap.size w w' := by
  have hM1 := fun o => hM.alloc o
  have K := Lib.hid hk
  clear hk
  go_enter Tryd.func24, Tryd.ntmps24
  go_wp2_with (first
    | (go_at_call 61; refine (lw3_yes n a b c w _ hM h1 h2 ha hb hc).mono ?_; rintro e w' ⟨rfl, rfl⟩)
    | (go_at_call 56; refine (cmp_ok p n a c _ (hM1 _) hp h1 h2 ha hc).mono ?_; rw [K.out]; rintro e w' ⟨rfl, rfl⟩))
  go_ret3
  exact ⟨rfl, (Below.refl _ _).alloc (Nat.le_refl _) _⟩
theorem trip_eq (hM : Masks w) (h1 : 1 ≤ n) (h2 : n ≤ 32) (ha : a < pw n) (hb : b < pw n) (hc : c < pw n) (hk : cmpF 0 n a c = true) :
    Calls Tryd.prog 24 #[.int .i64 0, .int .i64 n, .int .u32 a, .int .u32 b, .int .u32 c] w fun e w' => e = .returned (.tuple #[.int .i64 (if b = 0 then 0 else 1 : Nat), .bool (decide (b ≠ 0)), .int .i64 0]) ∧ Below w.heap.size w w' := by
  have hM1 := fun o => hM.alloc o
  have hp := pw_le h2
  have K := Lib.hid hk
  clear hk
  by_cases h0 : b = 0
  · subst h0
    go_enter Tryd.func24, Tryd.ntmps24
    go_wp2_with (first
      | (go_at_call 61; refine (lw3_yes n a 0 c w _ hM h1 h2 ha hb hc).mono ?_; rintro e w' ⟨rfl, rfl⟩)
      | (go_at_call 56; refine (cmp_ok 0 n a c _ (hM1 _) (by omega) h1 h2 ha hc).mono ?_; rw [K.out]; rintro e w' ⟨rfl, rfl⟩)
      | (go_at_call 62; refine (mask_ok n _ (hM1 _) (by omega) (by omega)).mono ?_; rintro e w' ⟨rfl, rfl⟩))
    go_ret3
    exact ⟨rfl, (Below.refl _ _).alloc (Nat.le_refl _) _⟩
  · have db : ((b : Int) != 0) = true := by simp; omega
    have hb1 : 1 ≤ b := by omega
    rw [if_neg h0, decide_eq_true h0]
    go_enter Tryd.func24, Tryd.ntmps24
    go_wp2_with (first
      | (go_at_call 61; refine (lw3_yes n a b c w _ hM h1 h2 ha hb hc).mono ?_; rintro e w' ⟨rfl, rfl⟩)
      | (go_at_call 56; refine (cmp_ok 0 n a c _ (hM1 _) (by omega) h1 h2 ha hc).mono ?_; rw [K.out]; rintro e w' ⟨rfl, rfl⟩)
      | (go_at_call 62; refine (mask_ok n _ (hM1 _) (by omega) (by omega)).mono ?_; rintro e w' ⟨rfl, rfl⟩))
    go_ret3
    exact ⟨rfl, (Below.refl _ _).alloc (Nat.le_refl _) _⟩
set_option maxRecDepth 100000 in
set_option maxHeartbeats 1000000 in
theorem trip_uns (p lo hi : Nat) (hM : Masks w) (h1 : 1 ≤ n) (h2 : n ≤ 32) (ha : a < pw n) (hb : b < pw n) (hc : c < pw n) (hp : 1 ≤ p) (hp5 : p ≤ 5) (hk : cmpF p n a c = true) (hE : EndsR p n c lo hi)
    (he : ∀ W, Calls Tryd.prog 63 #[.int .i64 p, .int .u32 c, .int .u32 (pw n - 1 : Nat)] W fun e w' => e = .returned (.tuple #[.int .u32 lo, .int .u32 hi, .bool true]) ∧ W = w') :
    Calls Tryd.prog 24 #[.int .i64 p, .int .i64 n, .int .u32 a, .int .u32 b, .int .u32 c] w fun e w' => e = .returned (.tuple #[.int .i64 (firstF (b + 1) b (pw n) (behind n lo a) (behind n hi a)).1, .bool (firstF (b + 1) b (pw n) (behind n lo a) (behind n hi a)).2, .int .i64 0]) ∧ Below w.heap.size w w' := by
  have hM1 := fun o => hM.alloc o
  have hpn := pw_le h2
  obtain ⟨t1, t2, t3⟩ := trips_first ha hb hE hk
  have hF := firstF_ok (b + 1) b (pw n) (behind n lo a) (behind n hi a) (by omega) hb t2 t3
  have hK := firstR_lt hF (pw_pos n)
  have F := Lib.hid (first_any (b + 1) b (pw n) (behind n lo a) (behind n hi a) (by omega) hb t2 t3 hpn.2)
  have hz : (firstF (b + 1) b (pw n) (behind n lo a) (behind n hi a)).2 = false → (firstF (b + 1) b (pw n) (behind n lo a) (behind n hi a)).1 = 0 := by
    intro h
    rcases hF with ⟨h', _⟩ | ⟨h', _⟩
    · rw [h] at h'; cases h'
    · rw [h']
  have D1 := Lib.hid (diff_and (x := lo) h2 ha)
  have D2 := Lib.hid (diff_and (x := hi) h2 ha)
  generalize firstF (b + 1) b (pw n) (behind n lo a) (behind n hi a) = r at *
  obtain ⟨k, is⟩ := r
  simp only at hK F hz ⊢
  have M1 : ((pw n - 1 : Nat) : Int) + 1 = ((pw n : Nat) : Int) := by omega
  have K := Lib.hid hk
  have E := Lib.hid he
  have Z := Lib.hid hz
  clear hk he hF t1 hE hz
  go_enter Tryd.func24, Tryd.ntmps24
  go_wp2_with (first
    | (go_at_call 61; refine (lw3_yes n a b c w _ hM h1 h2 ha hb hc).mono ?_; rintro e w' ⟨rfl, rfl⟩)
    | (go_at_call 56; refine (cmp_ok p n a c _ (hM1 _) (by omega) h1 h2 ha hc).mono ?_; rw [K.out]; rintro e w' ⟨rfl, rfl⟩)
    | (go_at_call 62; refine (mask_ok n _ (hM1 _) (by omega) (by omega)).mono ?_; rintro e w' ⟨rfl, rfl⟩)
    | (go_at_call 63; refine (E.out _).mono ?_; rintro e w' ⟨rfl, rfl⟩))
  rw [D1.out, D2.out]
  refine (F.out _).mono ?_
  rintro e w' ⟨rfl, d, rfl⟩
  cases is
  · obtain rfl := Z.out rfl
    go_wp2
    go_ret3
    exact ⟨rfl, below_drewN ((Below.refl _ _).alloc (Nat.le_refl _) _) _⟩
  · go_wp2
    go_ret3
    exact ⟨rfl, below_drewN ((Below.refl _ _).alloc (Nat.le_refl _) _) _⟩
theorem trip_uns_no (p : Nat) (hM : Masks w) (h1 : 1 ≤ n) (h2 : n ≤ 32) (ha : a < pw n) (hb : b < pw n) (hc : c < pw n) (hp : 1 ≤ p) (hp5 : p ≤ 5) (hk : cmpF p n a c = true)
    (he : ∀ W, Calls Tryd.prog 63 #[.int .i64 p, .int .u32 c, .int .u32 (pw n - 1 : Nat)] W fun e w' => (∃ x y : Int, e = .returned (.tuple #[.int .u32 x, .int .u32 y, .bool false])) ∧ W = w') :
    Calls Tryd.prog 24 #[.int .i64 p, .int .i64 n, .int .u32 a, .int .u32 b, .int .u32 c] w fun e w' => e = .returned (.tuple #[.int .i64 0, .bool false, .int .i64 0]) ∧ Below w.heap.size w w' := by
  have hM1 := fun o => hM.alloc o
  have K := Lib.hid hk
  have E := Lib.hid he
  clear hk he
  go_enter Tryd.func24, Tryd.ntmps24
  go_wp2_with (first
    | (go_at_call 61; refine (lw3_yes n a b c w _ hM h1 h2 ha hb hc).mono ?_; rintro e w' ⟨rfl, rfl⟩)
    | (go_at_call 56; refine (cmp_ok p n a c _ (hM1 _) (by omega) h1 h2 ha hc).mono ?_; rw [K.out]; rintro e w' ⟨rfl, rfl⟩)
    | (go_at_call 62; refine (mask_ok n _ (hM1 _) (by omega) (by omega)).mono ?_; rintro e w' ⟨rfl, rfl⟩)
    | (go_at_call 63; refine (E.out _).mono ?_; rintro e w' ⟨⟨x, y, rfl⟩, rfl⟩))
  go_ret3
  exact ⟨rfl, (Below.refl _ _).alloc (Nat.le_refl _) _⟩
theorem half_eq {n : Nat} (h1 : 1 ≤ n) (h2 : n ≤ 32) : ((pw n - 1 : Nat) : Int) / 2 + 1 = ((pw (n - 1) : Nat) : Int) := by
  have h := pw_half h1
  have := pw_le (n := n - 1) (by omega)
  omega
theorem sum_and {n x : Nat} (h2 : n ≤ 32) : bits .and .u32 (((x : Int) + ((pw (n - 1) : Nat) : Int)) % 4294967296) ((pw n - 1 : Nat) : Int) = (shifted n x : Int) := by
  rw [wrap_eq n _ h2, shifted_wr]
set_option maxRecDepth 100000 in
set_option maxHeartbeats 2000000 in
theorem trip_sig (p q lo hi : Nat) (hM : Masks w) (h1 : 1 ≤ n) (h2 : n ≤ 32) (ha : a < pw n) (hb : b < pw n) (hc : c < pw n) (hp : 6 ≤ p) (hp9 : p ≤ 9) (hq : q = p - 4) (hk : cmpF p n a c = true) (hE : EndsR q n (shifted n c) lo hi) (hk' : cmpF q n (shifted n a) (shifted n c) = true)
    (he : ∀ W, Calls Tryd.prog 63 #[.int .i64 q, .int .u32 (shifted n c), .int .u32 (pw n - 1 : Nat)] W fun e w' => e = .returned (.tuple #[.int .u32 lo, .int .u32 hi, .bool true]) ∧ W = w') :
    Calls Tryd.prog 24 #[.int .i64 p, .int .i64 n, .int .u32 a, .int .u32 b, .int .u32 c] w fun e w' => e = .returned (.tuple #[.int .i64 (firstF (b + 1) b (pw n) (behind n lo (shifted n a)) (behind n hi (shifted n a))).1, .bool (firstF (b + 1) b (pw n) (behind n lo (shifted n a)) (behind n hi (shifted n a))).2, .int .i64 0]) ∧ Below w.heap.size w w' := by
  have hM1 := fun o => hM.alloc o
  have hpn := pw_le h2
  have hs := shifted_lt n a
  obtain ⟨t1, t2, t3⟩ := trips_first hs hb hE hk'
  have hF := firstF_ok (b + 1) b (pw n) (behind n lo (shifted n a)) (behind n hi (shifted n a)) (by omega) hb t2 t3
  have hK := firstR_lt hF (pw_pos n)
  have F := Lib.hid (first_any (b + 1) b (pw n) (behind n lo (shifted n a)) (behind n hi (shifted n a)) (by omega) hb t2 t3 hpn.2)
  have hz : (firstF (b + 1) b (pw n) (behind n lo (shifted n a)) (behind n hi (shifted n a))).2 = false → (firstF (b + 1) b (pw n) (behind n lo (shifted n a)) (behind n hi (shifted n a))).1 = 0 := by
    intro h
    rcases hF with ⟨h', _⟩ | ⟨h', _⟩
    · rw [h] at h'; cases h'
    · rw [h']
  have D1 := Lib.hid (diff_and (x := lo) h2 hs)
  have D2 := Lib.hid (diff_and (x := hi) h2 hs)
  have S1 := Lib.hid (sum_and (x := a) h2)
  have S2 := Lib.hid (sum_and (x := c) h2)
  have HF := Lib.hid (half_eq h1 h2)
  generalize firstF (b + 1) b (pw n) (behind n lo (shifted n a)) (behind n hi (shifted n a)) = r at *
  obtain ⟨k, is⟩ := r
  simp only at hK F hz ⊢
  have M1 : ((pw n - 1 : Nat) : Int) + 1 = ((pw n : Nat) : Int) := by omega
  have K := Lib.hid hk
  have E := Lib.hid he
  have Z := Lib.hid hz
  clear hk he hF t1 hE hz hk'
  obtain ⟨rfl, rfl⟩ | ⟨rfl, rfl⟩ | ⟨rfl, rfl⟩ | ⟨rfl, rfl⟩ : (p = 6 ∧ q = 2) ∨ (p = 7 ∧ q = 3) ∨ (p = 8 ∧ q = 4) ∨ (p = 9 ∧ q = 5) := by omega
  · clear hp hp9 hq
    go_enter Tryd.func24, Tryd.ntmps24
    go_wp2_with (first
      | (go_at_call 61; refine (lw3_yes n a b c w _ hM h1 h2 ha hb hc).mono ?_; rintro e w' ⟨rfl, rfl⟩)
      | (go_at_call 56; refine (cmp_ok 6 n a c _ (hM1 _) (by omega) h1 h2 ha hc).mono ?_; rw [K.out]; rintro e w' ⟨rfl, rfl⟩)
      | (go_at_call 62; refine (mask_ok n _ (hM1 _) (by omega) (by omega)).mono ?_; rintro e w' ⟨rfl, rfl⟩))
    rw [HF.out, S1.out, S2.out]
    refine (E.out _).mono ?_
    rintro e w' ⟨rfl, rfl⟩
    go_wp2_with fail
    rw [D1.out, D2.out]
    refine (F.out _).mono ?_
    rintro e w' ⟨rfl, d, rfl⟩
    cases is
    · obtain rfl := Z.out rfl
      go_wp2
      go_ret3
      exact ⟨rfl, below_drewN ((Below.refl _ _).alloc (Nat.le_refl _) _) _⟩
    · go_wp2
      go_ret3
      exact ⟨rfl, below_drewN ((Below.refl _ _).alloc (Nat.le_refl _) _) _⟩
  · clear hp hp9 hq
    go_enter Tryd.func24, Tryd.ntmps24
    go_wp2_with (first
      | (go_at_call 61; refine (lw3_yes n a b c w _ hM h1 h2 ha hb hc).mono ?_; rintro e w' ⟨rfl, rfl⟩)
      | (go_at_call 56; refine (cmp_ok 7 n a c _ (hM1 _) (by omega) h1 h2 ha hc).mono ?_; rw [K.out]; rintro e w' ⟨rfl, rfl⟩)
      | (go_at_call 62; refine (mask_ok n _ (hM1 _) (by omega) (by omega)).mono ?_; rintro e w' ⟨rfl, rfl⟩))
    rw [HF.out, S1.out, S2.out]
    refine (E.out _).mono ?_
    rintro e w' ⟨rfl, rfl⟩
    go_wp2_with fail
    rw [D1.out, D2.out]
    refine (F.out _).mono ?_
    rintro e w' ⟨rfl, d, rfl⟩
    cases is
    · obtain rfl := Z.out rfl
      go_wp2
      go_ret3
      exact ⟨rfl, below_drewN ((Below.refl _ _).alloc (Nat.le_refl _) _) _⟩
    · go_wp2
      go_ret3
      exact ⟨rfl, below_drewN ((Below.refl _ _).alloc (Nat.le_refl _) _) _⟩
  · clear hp hp9 hq
    go_enter Tryd.func24, Tryd.ntmps24
    go_wp2_with (first
      | (go_at_call 61; refine (lw3_yes n a b c w _ hM h1 h2 ha hb hc).mono ?_; rintro e w' ⟨rfl, rfl⟩)
      | (go_at_call 56; refine (cmp_ok 8 n a c _ (hM1 _) (by omega) h1 h2 ha hc).mono ?_; rw [K.out]; rintro e w' ⟨rfl, rfl⟩)
      | (go_at_call 62; refine (mask_ok n _ (hM1 _) (by omega) (by omega)).mono ?_; rintro e w' ⟨rfl, rfl⟩))
    rw [HF.out, S1.out, S2.out]
    refine (E.out _).mono ?_
    rintro e w' ⟨rfl, rfl⟩
    go_wp2_with fail
    rw [D1.out, D2.out]
    refine (F.out _).mono ?_
    rintro e w' ⟨rfl, d, rfl⟩
    cases is
    · obtain rfl := Z.out rfl
      go_wp2
      go_ret3
      exact ⟨rfl, below_drewN ((Below.refl _ _).alloc (Nat.le_refl _) _) _⟩
    · go_wp2
      go_ret3
      exact ⟨rfl, below_drewN ((Below.refl _ _).alloc (Nat.le_refl _) _) _⟩
  · clear hp hp9 hq
    go_enter Tryd.func24, Tryd.ntmps24
    go_wp2_with (first
      | (go_at_call 61; refine (lw3_yes n a b c w _ hM h1 h2 ha hb hc).mono ?_; rintro e w' ⟨rfl, rfl⟩)
      | (go_at_call 56; refine (cmp_ok 9 n a c _ (hM1 _) (by omega) h1 h2 ha hc).mono ?_; rw [K.out]; rintro e w' ⟨rfl, rfl⟩)
      | (go_at_call 62; refine (mask_ok n _ (hM1 _) (by omega) (by omega)).mono ?_; rintro e w' ⟨rfl, rfl⟩))
    rw [HF.out, S1.out, S2.out]
    refine (E.out _).mono ?_
    rintro e w' ⟨rfl, rfl⟩
    go_wp2_with fail
    rw [D1.out, D2.out]
    refine (F.out _).mono ?_
    rintro e w' ⟨rfl, d, rfl⟩
    cases is
    · obtain rfl := Z.out rfl
      go_wp2
      go_ret3
      exact ⟨rfl, below_drewN ((Below.refl _ _).alloc (Nat.le_refl _) _) _⟩
    · go_wp2
      go_ret3
      exact ⟨rfl, below_drewN ((Below.refl _ _).alloc (Nat.le_refl _) _) _⟩
set_option maxRecDepth 100000 in
set_option maxHeartbeats 2000000 in
theorem trip_sig_no (p q : Nat) (hM : Masks w) (h1 : 1 ≤ n) (h2 : n ≤ 32) (ha : a < pw n) (hb : b < pw n) (hc : c < pw n) (hp : 6 ≤ p) (hp9 : p ≤ 9) (hq : q = p - 4) (hk : cmpF p n a c = true)
    (he : ∀ W, Calls Tryd.prog 63 #[.int .i64 q, .int .u32 (shifted n c), .int .u32 (pw n - 1 : Nat)] W fun e w' => (∃ x y : Int, e = .returned (.tuple #[.int .u32 x, .int .u32 y, .bool false])) ∧ W = w') :
    Calls Tryd.prog 24 #[.int .i64 p, .int .i64 n, .int .u32 a, .int .u32 b, .int .u32 c] w fun e w' => e = .returned (.tuple #[.int .i64 0, .bool false, .int .i64 0]) ∧ Below w.heap.size w w' := by
  have hM1 := fun o => hM.alloc o
  have hpn := pw_le h2
  have hs := shifted_lt n a
  have S1 := Lib.hid (sum_and (x := a) h2)
  have S2 := Lib.hid (sum_and (x := c) h2)
  have HF := Lib.hid (half_eq h1 h2)
  have K := Lib.hid hk
  have E := Lib.hid he
  clear hk he
  obtain ⟨rfl, rfl⟩ | ⟨rfl, rfl⟩ | ⟨rfl, rfl⟩ | ⟨rfl, rfl⟩ : (p = 6 ∧ q = 2) ∨ (p = 7 ∧ q = 3) ∨ (p = 8 ∧ q = 4) ∨ (p = 9 ∧ q = 5) := by omega
  · clear hp hp9 hq
    go_enter Tryd.func24, Tryd.ntmps24
    go_wp2_with (first
      | (go_at_call 61; refine (lw3_yes n a b c w _ hM h1 h2 ha hb hc).mono ?_; rintro e w' ⟨rfl, rfl⟩)
      | (go_at_call 56; refine (cmp_ok 6 n a c _ (hM1 _) (by omega) h1 h2 ha hc).mono ?_; rw [K.out]; rintro e w' ⟨rfl, rfl⟩)
      | (go_at_call 62; refine (mask_ok n _ (hM1 _) (by omega) (by omega)).mono ?_; rintro e w' ⟨rfl, rfl⟩))
    rw [HF.out, S1.out, S2.out]
    refine (E.out _).mono ?_
    rintro e w' ⟨⟨x, y, rfl⟩, rfl⟩
    go_wp2_with fail
    go_ret3
    exact ⟨rfl, (Below.refl _ _).alloc (Nat.le_refl _) _⟩
  · clear hp hp9 hq
    go_enter Tryd.func24, Tryd.ntmps24
    go_wp2_with (first
      | (go_at_call 61; refine (lw3_yes n a b c w _ hM h1 h2 ha hb hc).mono ?_; rintro e w' ⟨rfl, rfl⟩)
      | (go_at_call 56; refine (cmp_ok 7 n a c _ (hM1 _) (by omega) h1 h2 ha hc).mono ?_; rw [K.out]; rintro e w' ⟨rfl, rfl⟩)
      | (go_at_call 62; refine (mask_ok n _ (hM1 _) (by omega) (by omega)).mono ?_; rintro e w' ⟨rfl, rfl⟩))
    rw [HF.out, S1.out, S2.out]
    refine (E.out _).mono ?_
    rintro e w' ⟨⟨x, y, rfl⟩, rfl⟩
    go_wp2_with fail
    go_ret3
    exact ⟨rfl, (Below.refl _ _).alloc (Nat.le_refl _) _⟩
  · clear hp hp9 hq
    go_enter Tryd.func24, Tryd.ntmps24
    go_wp2_with (first
      | (go_at_call 61; refine (lw3_yes n a b c w _ hM h1 h2 ha hb hc).mono ?_; rintro e w' ⟨rfl, rfl⟩)
      | (go_at_call 56; refine (cmp_ok 8 n a c _ (hM1 _) (by omega) h1 h2 ha hc).mono ?_; rw [K.out]; rintro e w' ⟨rfl, rfl⟩)
      | (go_at_call 62; refine (mask_ok n _ (hM1 _) (by omega) (by omega)).mono ?_; rintro e w' ⟨rfl, rfl⟩))
    rw [HF.out, S1.out, S2.out]
    refine (E.out _).mono ?_
    rintro e w' ⟨⟨x, y, rfl⟩, rfl⟩
    go_wp2_with fail
    go_ret3
    exact ⟨rfl, (Below.refl _ _).alloc (Nat.le_refl _) _⟩
  · clear hp hp9 hq
    go_enter Tryd.func24, Tryd.ntmps24
    go_wp2_with (first
      | (go_at_call 61; refine (lw3_yes n a b c w _ hM h1 h2 ha hb hc).mono ?_; rintro e w' ⟨rfl, rfl⟩)
      | (go_at_call 56; refine (cmp_ok 9 n a c _ (hM1 _) (by omega) h1 h2 ha hc).mono ?_; rw [K.out]; rintro e w' ⟨rfl, rfl⟩)
      | (go_at_call 62; refine (mask_ok n _ (hM1 _) (by omega) (by omega)).mono ?_; rintro e w' ⟨rfl, rfl⟩))
    rw [HF.out, S1.out, S2.out]
    refine (E.out _).mono ?_
    rintro e w' ⟨⟨x, y, rfl⟩, rfl⟩
    go_wp2_with fail
    go_ret3
    exact ⟨rfl, (Below.refl _ _).alloc (Nat.le_refl _) _⟩
end
end Go.Proofs.YtgnaohhopbhihaaDoor
