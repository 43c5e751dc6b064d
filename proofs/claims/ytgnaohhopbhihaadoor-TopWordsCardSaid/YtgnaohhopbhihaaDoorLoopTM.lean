/-
  Plain facts for counts: the first number whose multiple falls between two bounds, and after how many steps a count ends.
-/
import Derived.Test.YtgnaohhopbhihaaDoorLoopR
namespace Go.Proofs.YtgnaohhopbhihaaDoor
open Go.RowKit

def InR (a m lo hi k : Nat) : Prop := lo ≤ a * k % m ∧ a * k % m ≤ hi
def firstF : Nat → Nat → Nat → Nat → Nat → Nat × Bool
  | 0, _, _, _, _ => (0, false)
  | f + 1, a, m, lo, hi =>
    if lo = 0 then (0, true) else if a = 0 then (0, false)
    else if a * ((lo - 1) / a + 1) ≤ hi then ((lo - 1) / a + 1, true)
    else if (firstF f (m % a) a ((a - hi % a) % a) ((a - lo % a) % a)).2 = true then
      ((lo + m * (firstF f (m % a) a ((a - hi % a) % a) ((a - lo % a) % a)).1 - 1) / a + 1, true)
    else (0, false)
def FirstR (a m lo hi : Nat) (r : Nat × Bool) : Prop :=
  (r.2 = true ∧ InR a m lo hi r.1 ∧ ∀ j, j < r.1 → ¬ InR a m lo hi j) ∨ (r = (0, false) ∧ ∀ j, ¬ InR a m lo hi j)
theorem firstR_lt {a m lo hi : Nat} {r : Nat × Bool} (h : FirstR a m lo hi r) (hm : 0 < m) : r.1 < m := by
  rcases h with ⟨_, h1, h2⟩ | ⟨rfl, _⟩
  · rcases Nat.lt_or_ge r.1 m with h | h
    · exact h
    · exfalso
      refine h2 (r.1 - m) (by omega) ?_
      have e : a * r.1 = a * (r.1 - m) + m * a := by
        rw [Nat.mul_comm m a, ← Nat.mul_add]; congr 1; omega
      unfold InR at h1 ⊢
      rw [e, Nat.add_mul_mod_self_left] at h1
      exact h1
  · exact hm
section
variable {a m lo hi q : Nat}
theorem div_between {x y a q : Nat} (h1 : a * q ≤ x) (h2 : x < a * (q + 1)) (hy : y = x - a * q) : x % a = y := by
  have hlt : y < a := by rw [Nat.mul_add] at h2; omega
  have e : x = y + a * q := by omega
  rw [e, Nat.add_mul_mod_self_left, Nat.mod_eq_of_lt hlt]
theorem sub_lo (ha : 0 < a) (l1 : a * q < lo) (l2 : lo < a * (q + 1)) : (a - lo % a) % a = a * (q + 1) - lo ∧ 0 < a * (q + 1) - lo ∧ a * (q + 1) - lo < a := by
  have e := div_between (Nat.le_of_lt l1) l2 rfl
  rw [e]
  rw [Nat.mul_add] at l2 ⊢
  rw [Nat.mod_eq_of_lt (by omega)]
  omega
theorem down (ha : 0 < a) (l1 : a * q < lo) (l2 : lo ≤ hi) (l3 : hi < a * (q + 1)) {x : Nat} (h : InR a m lo hi x) :
    InR (m % a) a ((a - hi % a) % a) ((a - lo % a) % a) (a * x / m) ∧ lo + m * (a * x / m) ≤ a * x := by
  obtain ⟨e1, p1, p2⟩ := sub_lo ha l1 (by omega)
  obtain ⟨e2, p3, p4⟩ := sub_lo ha (lo := hi) (by omega) l3
  unfold InR at h ⊢
  rw [e1, e2]
  have hd := Nat.div_add_mod (a * x) m
  generalize a * x / m = y at *
  generalize a * x % m = t at *
  have e3 : m % a * y % a = m * y % a := by rw [Nat.mod_mul_mod]
  have hx : q + 1 ≤ x := by
    rcases Nat.lt_or_ge q x with h | h
    · exact h
    · have := Nat.mul_le_mul_left a h
      omega
  have e4 : a * x = a * (q + 1) + a * (x - (q + 1)) := by rw [← Nat.mul_add]; congr 1; omega
  have e5 : m * y = (a * (q + 1) - t) + a * (x - (q + 1)) := by omega
  have e6 : m * y % a = a * (q + 1) - t := by
    rw [e5, Nat.add_mul_mod_self_left, Nat.mod_eq_of_lt]
    rw [Nat.mul_add] at *
    omega
  rw [e3, e6]
  omega
theorem up (ha : 0 < a) (hhi : hi < m) (l1 : a * q < lo) (l2 : lo ≤ hi) (l3 : hi < a * (q + 1)) {y : Nat} (h : InR (m % a) a ((a - hi % a) % a) ((a - lo % a) % a) y) :
    InR a m lo hi ((lo + m * y - 1) / a + 1) := by
  obtain ⟨e1, p1, p2⟩ := sub_lo ha l1 (by omega)
  obtain ⟨e2, p3, p4⟩ := sub_lo ha (lo := hi) (by omega) l3
  unfold InR at h ⊢
  rw [e1, e2] at h
  have e3 : m % a * y % a = m * y % a := by rw [Nat.mod_mul_mod]
  rw [e3] at h
  have hd := Nat.div_add_mod (m * y) a
  have hs := Nat.mod_lt (m * y) ha
  generalize m * y / a = z at *
  generalize m * y % a = s at *
  generalize hP : m * y = P at *
  have e4 : a * (z + q + 1) = a * z + a * (q + 1) := by rw [← Nat.mul_add, Nat.add_assoc]
  have e5 : a * (z + q) = a * z + a * q := Nat.mul_add _ _ _
  have e6 : a * (q + 1) = a * q + a := by rw [Nat.mul_add, Nat.mul_one]
  have e7 : (lo + P - 1) / a = z + q := by
    refine Nat.div_eq_of_lt_le ?_ ?_
    · rw [Nat.mul_comm, e5]; omega
    · rw [Nat.mul_comm, e4]; omega
  have e8 : a * (z + q + 1) = (a * (q + 1) - s) + m * y := by rw [hP]; omega
  rw [e7, e8, Nat.add_mul_mod_self_left, Nat.mod_eq_of_lt (by omega)]
  omega
end
theorem firstF_ok : ∀ f a m lo hi, a < f → a < m → lo ≤ hi → hi < m → FirstR a m lo hi (firstF f a m lo hi)
  | 0, a, m, lo, hi, h, _, _, _ => absurd h (by omega)
  | f + 1, a, m, lo, hi, hf, ham, hlh, hhm => by
    rw [firstF]
    by_cases h0 : lo = 0
    · rw [if_pos h0]
      exact .inl ⟨rfl, by simp [InR, h0], fun j hj => absurd hj (by simp)⟩
    rw [if_neg h0]
    by_cases ha : a = 0
    · rw [if_pos ha]
      refine .inr ⟨rfl, fun j => ?_⟩
      simp [InR, ha]
      omega
    rw [if_neg ha]
    have ha0 : 0 < a := by omega
    have q1 : a * ((lo - 1) / a) ≤ lo - 1 := Nat.mul_div_le _ _
    have q2 : lo - 1 < a * ((lo - 1) / a + 1) := Nat.lt_mul_div_succ _ ha0
    generalize (lo - 1) / a = q at *
    by_cases hq : a * (q + 1) ≤ hi
    · rw [if_pos hq]
      refine .inl ⟨rfl, ?_, fun j hj => ?_⟩
      · unfold InR
        simp only
        rw [Nat.mod_eq_of_lt (by omega)]
        omega
      · unfold InR
        have hj1 : j ≤ q := by simp at hj; omega
        have := Nat.mul_le_mul_left a hj1
        rw [Nat.mod_eq_of_lt (by omega)]
        omega
    rw [if_neg hq]
    obtain ⟨e1, p1, p2⟩ := sub_lo ha0 (lo := lo) (q := q) (by omega) (by omega)
    obtain ⟨e2, p3, p4⟩ := sub_lo ha0 (lo := hi) (q := q) (by omega) (by omega)
    have ih := firstF_ok f (m % a) a ((a - hi % a) % a) ((a - lo % a) % a) (by have := Nat.mod_lt m ha0; omega) (Nat.mod_lt _ ha0) (by omega) (by omega)
    have dn := fun x => down (m := m) ha0 (q := q) (lo := lo) (hi := hi) (x := x) (by omega) hlh (by omega)
    have upp := fun y => up ha0 hhm (q := q) (lo := lo) (hi := hi) (y := y) (by omega) hlh (by omega)
    generalize firstF f (m % a) a ((a - hi % a) % a) ((a - lo % a) % a) = r at *
    rcases ih with ⟨i1, i2, i3⟩ | ⟨rfl, i3⟩
    · rw [if_pos i1]
      refine .inl ⟨rfl, upp _ i2, fun j hj hin => ?_⟩
      obtain ⟨d1, d2⟩ := dn j hin
      have hk : r.1 ≤ a * j / m := by
        rcases Nat.lt_or_ge (a * j / m) r.1 with h | h
        · exact absurd d1 (i3 _ h)
        · exact h
      have hmk := Nat.mul_le_mul_left m hk
      have h5 : a * ((lo + m * r.1 - 1) / a) ≤ lo + m * r.1 - 1 := Nat.mul_div_le _ _
      have h6 : j ≤ (lo + m * r.1 - 1) / a := by simp at hj; omega
      have h7 := Nat.mul_le_mul_left a h6
      omega
    · rw [if_neg (by simp)]
      exact .inr ⟨rfl, fun j hin => i3 _ (dn j hin).1⟩
theorem md {M x : Nat} (h : x < 2 * M) : x % M = if x < M then x else x - M := by
  split
  · exact Nat.mod_eq_of_lt (by assumption)
  · rw [Nat.mod_eq_sub_mod (by omega), Nat.mod_eq_of_lt (by omega)]
/-- The words from lo to hi, seen from s, which is none of them. -/
theorem seen {M s lo hi t : Nat} (hs : s < M) (ht : t < M) (hl : lo ≤ hi) (hh : hi < M) (hn : ¬ (lo ≤ s ∧ s ≤ hi)) :
    (((lo + M - s) % M ≤ t ∧ t ≤ (hi + M - s) % M) ↔ (lo ≤ (s + t) % M ∧ (s + t) % M ≤ hi)) ∧ (lo + M - s) % M ≤ (hi + M - s) % M ∧ (hi + M - s) % M < M := by
  rw [md (by omega : lo + M - s < 2 * M), md (by omega : hi + M - s < 2 * M), md (by omega : s + t < 2 * M)]
  split <;> split <;> split <;> omega
theorem pw_pos (n : Nat) : 0 < pw n := Nat.two_pow_pos n
theorem aft_zero {n a b : Nat} (ha : a < pw n) : aftF n a b 0 = a := by
  unfold aftF
  rw [Nat.zero_mul, Nat.add_zero, Nat.mod_eq_of_lt ha]
theorem aft_lt (n a b j : Nat) : aftF n a b j < pw n := Nat.mod_lt _ (pw_pos n)
theorem aft_ring {n b : Nat} (a j : Nat) (hb : b < pw n) : aftF n a b (j + ringF n b) = aftF n a b j := by
  have h := ring_back n b hb
  unfold aftF at *
  rw [Nat.zero_add] at h
  rw [Nat.add_mul, ← Nat.add_assoc, Nat.add_mod _ (ringF n b * b), h, Nat.add_zero, Nat.mod_mod]
/-- What Trips says of a count of words: after how many steps it ends, if it does. -/
def TripsR (p n a b c k : Nat) (is : Bool) : Prop :=
  (is = true ∧ cmpF p n (aftF n a b k) c = false ∧ ∀ j, j < k → cmpF p n (aftF n a b j) c = true) ∨ (is = false ∧ k = 0 ∧ ∀ j, cmpF p n (aftF n a b j) c = true)
theorem tripsR_lt {p n a b c k : Nat} {is : Bool} (h : TripsR p n a b c k is) (hb : b < pw n) (hr : 0 < ringF n b) : k < ringF n b := by
  rcases h with ⟨_, h1, h2⟩ | ⟨_, rfl, _⟩
  · rcases Nat.lt_or_ge k (ringF n b) with h | h
    · exact h
    · exfalso
      have e := aft_ring a (k - ringF n b) hb
      rw [show k - ringF n b + ringF n b = k by omega] at e
      rw [e] at h1
      rw [h2 (k - ringF n b) (by omega)] at h1
      cases h1
  · exact hr
theorem trips_zero {p n a b c : Nat} (ha : a < pw n) (h : cmpF p n a c = false) : TripsR p n a b c 0 true :=
  .inl ⟨rfl, by rw [aft_zero ha]; exact h, fun j hj => absurd hj (by omega)⟩
theorem trips_eq_no {n a c : Nat} (ha : a < pw n) (h : cmpF 0 n a c = true) : TripsR 0 n a 0 c 0 false := by
  refine .inr ⟨rfl, rfl, fun j => ?_⟩
  unfold aftF
  rw [Nat.mul_zero, Nat.add_zero, Nat.mod_eq_of_lt ha]
  exact h
theorem trips_eq_yes {n a b c : Nat} (ha : a < pw n) (hb : b < pw n) (h0 : 0 < b) (h : cmpF 0 n a c = true) : TripsR 0 n a b c 1 true := by
  have hac : a = c := by simpa [cmpF] using h
  refine .inl ⟨rfl, ?_, fun j hj => ?_⟩
  · have e : aftF n a b 1 ≠ c := by
      unfold aftF
      rw [Nat.one_mul, md (by omega : a + b < 2 * pw n)]
      split <;> omega
    simpa [cmpF] using e
  · obtain rfl : j = 0 := by omega
    rw [aft_zero ha]
    exact h
/-- The words of which a predicate does not hold are those from lo to hi. -/
def EndsR (p n c lo hi : Nat) : Prop := lo ≤ hi ∧ hi < pw n ∧ ∀ x, x < pw n → (cmpF p n x c = false ↔ (lo ≤ x ∧ x ≤ hi))
theorem endsR_1 {n c : Nat} (hc : c < pw n) : EndsR 1 n c c c := ⟨by omega, hc, fun x hx => by simp [cmpF]; omega⟩
theorem endsR_2 {n c : Nat} (hc : c < pw n) : EndsR 2 n c c (pw n - 1) := ⟨by omega, by omega, fun x hx => by simp [cmpF]; omega⟩
theorem endsR_3 {n c : Nat} (hc : c < pw n - 1) : EndsR 3 n c (c + 1) (pw n - 1) := ⟨by omega, by omega, fun x hx => by simp [cmpF]; omega⟩
theorem endsR_4 {n c : Nat} (hc : c < pw n) : EndsR 4 n c 0 c := ⟨by omega, hc, fun x hx => by simp [cmpF]⟩
theorem endsR_5 {n c : Nat} (hc : c < pw n) (h0 : 0 < c) : EndsR 5 n c 0 (c - 1) := ⟨by omega, by omega, fun x hx => by simp [cmpF]; omega⟩
theorem trips_all_3 {n a b c : Nat} (h : c = pw n - 1) : TripsR 3 n a b c 0 false :=
  .inr ⟨rfl, rfl, fun j => by have := aft_lt n a b j; simp [cmpF]; omega⟩
theorem trips_all_5 {n a b : Nat} : TripsR 5 n a b 0 0 false :=
  .inr ⟨rfl, rfl, fun j => by simp [cmpF]⟩
/-- How far behind s a word comes. -/
def behind (n x s : Nat) : Nat := (x + pw n - s) % pw n
theorem trips_first {p n a b c lo hi : Nat} (ha : a < pw n) (hb : b < pw n) (hE : EndsR p n c lo hi) (h : cmpF p n a c = true) :
    TripsR p n a b c (firstF (b + 1) b (pw n) (behind n lo a) (behind n hi a)).1 (firstF (b + 1) b (pw n) (behind n lo a) (behind n hi a)).2 ∧ behind n lo a ≤ behind n hi a ∧ behind n hi a < pw n := by
  obtain ⟨e1, e2, e3⟩ := hE
  have hp := pw_pos n
  have hn : ¬ (lo ≤ a ∧ a ≤ hi) := by
    intro hh
    have := (e3 a ha).2 hh
    rw [h] at this
    cases this
  obtain ⟨_, s2, s3⟩ := seen ha hp e1 e2 hn
  refine ⟨?_, s2, s3⟩
  have key : ∀ j, InR b (pw n) (behind n lo a) (behind n hi a) j ↔ cmpF p n (aftF n a b j) c = false := fun j => by
    rw [e3 _ (aft_lt n a b j)]
    have := (seen ha (Nat.mod_lt (b * j) hp) e1 e2 hn).1
    unfold InR behind aftF
    rw [this, Nat.mul_comm j b, Nat.add_mod_mod]
  have hF := firstF_ok (b + 1) b (pw n) (behind n lo a) (behind n hi a) (by omega) hb s2 s3
  generalize firstF (b + 1) b (pw n) (behind n lo a) (behind n hi a) = r at *
  have neg : ∀ j, ¬ InR b (pw n) (behind n lo a) (behind n hi a) j → cmpF p n (aftF n a b j) c = true := fun j hj => by
    cases hc : cmpF p n (aftF n a b j) c
    · exact absurd ((key j).2 hc) hj
    · rfl
  rcases hF with ⟨i1, i2, i3⟩ | ⟨rfl, i3⟩
  · exact .inl ⟨i1, (key _).1 i2, fun j hj => neg j (i3 j hj)⟩
  · exact .inr ⟨rfl, rfl, fun j => neg j (i3 j)⟩
/-- A word with half of all added: signed words come into the order of words. -/
def shifted (n x : Nat) : Nat := (x + pw (n - 1)) % pw n
theorem shifted_lt (n x : Nat) : shifted n x < pw n := Nat.mod_lt _ (pw_pos n)
theorem sgn_shifted {n x : Nat} (h1 : 1 ≤ n) (hx : x < pw n) : sgn n x = (shifted n x : Int) - (pw (n - 1) : Nat) := by
  have hh := pw_half h1
  unfold sgn shifted
  rw [md (by omega : x + pw (n - 1) < 2 * pw n)]
  split <;> split <;> omega
theorem cmp_shifted {p n x c : Nat} (h1 : 1 ≤ n) (hp : 6 ≤ p) (hp9 : p ≤ 9) (hx : x < pw n) (hc : c < pw n) : cmpF p n x c = cmpF (p - 4) n (shifted n x) (shifted n c) := by
  have e1 := sgn_shifted h1 hx
  have e2 := sgn_shifted h1 hc
  obtain rfl | rfl | rfl | rfl : p = 6 ∨ p = 7 ∨ p = 8 ∨ p = 9 := by omega
  all_goals
    simp [cmpF, e1, e2]
theorem aft_shifted (n a b j : Nat) : aftF n (shifted n a) b j = shifted n (aftF n a b j) := by
  unfold aftF shifted
  rw [Nat.mod_add_mod, Nat.mod_add_mod]
  congr 1
  omega
theorem trips_shifted {p n a b c k : Nat} {is : Bool} (h1 : 1 ≤ n) (hp : 6 ≤ p) (hp9 : p ≤ 9) (hc : c < pw n) (h : TripsR (p - 4) n (shifted n a) b (shifted n c) k is) : TripsR p n a b c k is := by
  have e : ∀ j, cmpF (p - 4) n (aftF n (shifted n a) b j) (shifted n c) = cmpF p n (aftF n a b j) c := fun j => by
    rw [aft_shifted, ← cmp_shifted h1 hp hp9 (aft_lt n a b j) hc]
  unfold TripsR at *
  simp only [e] at h
  exact h
end Go.Proofs.YtgnaohhopbhihaaDoor
