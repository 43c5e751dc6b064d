/-
  The function first of package loop, at every input below 2^32.
-/
import Derived.Test.YtgnaohhopbhihaaDoorLoopT
namespace Go.Proofs.YtgnaohhopbhihaaDoor
open Go.RowKit

theorem quietD {P : Program} {f : FuncId} {args : Array Value} {v : Value} {w : World} {n : Nat} (c : ∀ W, Calls P f args W fun e w' => e = .returned v ∧ ∃ d, w' = W.drewN d) : Calls P f args (w.drewN n) fun e w2 => e = .returned v ∧ ∃ m, w2 = w.drewN m :=
  (c _).mono fun _ _ ⟨he, m, hm⟩ => ⟨he, n + m, by rw [hm, World.drewN_drewN]⟩
set_option maxHeartbeats 1000000 in
theorem first_rec (a m lo hi q P m1 h1 H1 H2 l1 L1 L2 K MK S Q : Nat) (B : Bool) (w : World) (hlo : 0 < lo) (ha : 0 < a)
    (hq : ((lo : Int) - 1) / (a : Int) = (q : Int)) (hq2 : q < 4294967296) (hP : (a : Int) * ((q : Int) + 1) = (P : Int)) (hP2 : hi < P) (hP3 : P ≤ 18446744073709551615)
    (e1 : (m : Int).tmod (a : Int) = (m1 : Int)) (e2 : (hi : Int).tmod (a : Int) = (h1 : Int)) (e3 : IntKind.u64.wrap ((a : Int) - (h1 : Int)) = (H1 : Int)) (e4 : (H1 : Int).tmod (a : Int) = (H2 : Int))
    (e5 : (lo : Int).tmod (a : Int) = (l1 : Int)) (e6 : IntKind.u64.wrap ((a : Int) - (l1 : Int)) = (L1 : Int)) (e7 : (L1 : Int).tmod (a : Int) = (L2 : Int))
    (ih : ∀ W, Calls Tryd.prog 64 #[.int .u64 m1, .int .u64 a, .int .u64 H2, .int .u64 L2] W fun e w' => e = .returned (.tuple #[.int .u64 K, .bool B]) ∧ ∃ d, w' = W.drewN d)
    (f1 : (m : Int) * (K : Int) = (MK : Int)) (f2 : MK + lo ≤ 18446744073709551615) (f3 : (lo : Int) + (MK : Int) - 1 = (S : Int)) (f4 : (S : Int) / (a : Int) = (Q : Int)) (f5 : Q < 18446744073709551615) :
    Calls Tryd.prog 64 #[.int .u64 a, .int .u64 m, .int .u64 lo, .int .u64 hi] w fun e w' => e = .returned (.tuple #[.int .u64 (if B then Q + 1 else 0 : Nat), .bool B]) ∧ ∃ d, w' = w.drewN d := by
  have IH := Lib.hid ih
  clear ih
  go_enter Tryd.func64, Tryd.ntmps64
  go_wp2
  go_quiet ((go_at_call 64; exact quietD IH.out))
  cases B
  · go_wp2
    go_ret2
    exact ⟨rfl, _, rfl⟩
  · go_wp2
    go_ret2
    exact ⟨rfl, _, rfl⟩
theorem first_zero (a m hi : Nat) (w : World) :
    Calls Tryd.prog 64 #[.int .u64 a, .int .u64 m, .int .u64 0, .int .u64 hi] w fun e w' => e = .returned (.tuple #[.int .u64 0, .bool true]) ∧ ∃ d, w' = w.drewN d := by
  go_enter Tryd.func64, Tryd.ntmps64
  go_wp2
  go_ret2
  exact ⟨rfl, 0, rfl⟩
theorem first_none (m lo hi : Nat) (w : World) (hlo : 0 < lo) :
    Calls Tryd.prog 64 #[.int .u64 0, .int .u64 m, .int .u64 lo, .int .u64 hi] w fun e w' => e = .returned (.tuple #[.int .u64 0, .bool false]) ∧ ∃ d, w' = w.drewN d := by
  go_enter Tryd.func64, Tryd.ntmps64
  go_wp2
  go_ret2
  exact ⟨rfl, 0, rfl⟩
theorem first_here (a m lo hi q P : Nat) (w : World) (hlo : 0 < lo) (hl : lo ≤ 4294967296) (ha : 0 < a)
    (hq : ((lo : Int) - 1) / (a : Int) = (q : Int)) (hq2 : q < 4294967296) (hP : (a : Int) * ((q : Int) + 1) = (P : Int)) (hP2 : P ≤ hi) (hP3 : P ≤ 18446744073709551615) :
    Calls Tryd.prog 64 #[.int .u64 a, .int .u64 m, .int .u64 lo, .int .u64 hi] w fun e w' => e = .returned (.tuple #[.int .u64 (q + 1 : Nat), .bool true]) ∧ ∃ d, w' = w.drewN d := by
  go_enter Tryd.func64, Tryd.ntmps64
  go_wp2
  go_ret2
  exact ⟨rfl, 0, rfl⟩
theorem tmod_nat (x y : Nat) : (x : Int).tmod (y : Int) = ((x % y : Nat) : Int) := by
  rw [Int.tmod_eq_emod_of_nonneg (by omega)]
  exact (Int.natCast_emod _ _).symm
theorem first_any : ∀ (f a m lo hi : Nat), a < f → a < m → lo ≤ hi → hi < m → m ≤ 4294967296 → ∀ w, Calls Tryd.prog 64 #[.int .u64 a, .int .u64 m, .int .u64 lo, .int .u64 hi] w fun e w' =>
    e = .returned (.tuple #[.int .u64 ((firstF f a m lo hi).1 : Nat), .bool (firstF f a m lo hi).2]) ∧ ∃ d, w' = w.drewN d
  | 0, a, m, lo, hi, h, _, _, _, _ => absurd h (by omega)
  | f + 1, a, m, lo, hi, hf, ham, hlh, hhm, hm => fun w => by
    have hbound := firstR_lt (firstF_ok (f + 1) a m lo hi hf ham hlh hhm) (by omega)
    rw [firstF] at hbound ⊢
    by_cases h0 : lo = 0
    · subst h0
      rw [if_pos rfl]
      exact first_zero a m hi w
    rw [if_neg h0] at hbound ⊢
    by_cases ha : a = 0
    · subst ha
      rw [if_pos rfl]
      exact first_none m lo hi w (by omega)
    rw [if_neg ha] at hbound ⊢
    have ha0 : 0 < a := by omega
    have q0 : (lo - 1) / a ≤ lo - 1 := Nat.div_le_self _ _
    have q1 : a * ((lo - 1) / a) ≤ lo - 1 := Nat.mul_div_le _ _
    have q2 : lo - 1 < a * ((lo - 1) / a + 1) := Nat.lt_mul_div_succ _ ha0
    have q3 : ((lo : Int) - 1) / (a : Int) = (((lo - 1) / a : Nat) : Int) := by
      rw [Int.natCast_ediv, show ((lo - 1 : Nat) : Int) = (lo : Int) - 1 by omega]
    generalize (lo - 1) / a = q at *
    have q4 : (a : Int) * ((q : Int) + 1) = ((a * (q + 1) : Nat) : Int) := by rw [Int.natCast_mul]; rfl
    have q5 : a * (q + 1) = a * q + a := by rw [Nat.mul_add, Nat.mul_one]
    by_cases hq : a * (q + 1) ≤ hi
    · rw [if_pos hq]
      exact first_here a m lo hi q (a * (q + 1)) w (by omega) (by omega) ha0 q3 (by omega) q4 hq (by omega)
    rw [if_neg hq] at hbound ⊢
    obtain ⟨d1, p1, p2⟩ := sub_lo ha0 (lo := lo) (q := q) (by omega) (by omega)
    obtain ⟨d2, p3, p4⟩ := sub_lo ha0 (lo := hi) (q := q) (by omega) (by omega)
    have a1 := Nat.mod_lt m ha0
    have a2 := Nat.mod_lt hi ha0
    have a3 := Nat.mod_lt lo ha0
    have ok := firstR_lt (firstF_ok f (m % a) a ((a - hi % a) % a) ((a - lo % a) % a) (by omega) a1 (by omega) (by omega)) ha0
    have ih := first_any f (m % a) a ((a - hi % a) % a) ((a - lo % a) % a) (by omega) a1 (by omega) (by omega) (by omega)
    have t1 := tmod_nat m a
    have t2 := tmod_nat hi a
    have t3 : IntKind.u64.wrap ((a : Int) - ((hi % a : Nat) : Int)) = ((a - hi % a : Nat) : Int) := by rw [IntKind.wrap_u64]; omega
    have t4 := tmod_nat (a - hi % a) a
    have t5 := tmod_nat lo a
    have t6 : IntKind.u64.wrap ((a : Int) - ((lo % a : Nat) : Int)) = ((a - lo % a : Nat) : Int) := by rw [IntKind.wrap_u64]; omega
    have t7 := tmod_nat (a - lo % a) a
    generalize firstF f (m % a) a ((a - hi % a) % a) ((a - lo % a) % a) = r at *
    obtain ⟨K, B⟩ := r
    simp only at ih ok hbound ⊢
    have hmk : m * K ≤ 4294967296 * K := Nat.mul_le_mul_right _ hm
    have u1 : (m : Int) * (K : Int) = ((m * K : Nat) : Int) := (Int.natCast_mul _ _).symm
    have u2 : (lo : Int) + ((m * K : Nat) : Int) - 1 = ((lo + m * K - 1 : Nat) : Int) := by omega
    have u3 : ((lo + m * K - 1 : Nat) : Int) / (a : Int) = (((lo + m * K - 1) / a : Nat) : Int) := (Int.natCast_ediv _ _).symm
    have u4 : (lo + m * K - 1) / a ≤ lo + m * K - 1 := Nat.div_le_self _ _
    have main := first_rec a m lo hi q (a * (q + 1)) (m % a) (hi % a) (a - hi % a) ((a - hi % a) % a) (lo % a) (a - lo % a) ((a - lo % a) % a) K (m * K) (lo + m * K - 1) ((lo + m * K - 1) / a) B w (by omega) ha0 q3 (by omega) q4 (by omega) (by omega) t1 t2 t3 t4 t5 t6 t7 ih u1 (by omega) u2 u3 (by omega)
    cases B
    · simpa using main
    · simpa using main
end Go.Proofs.YtgnaohhopbhihaaDoor
