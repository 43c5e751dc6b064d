/-
  The walk of BitsLanes.
-/
import Derived.Test.YtgnaohhopbhihaaDoorBitsQ
namespace Go.Proofs.YtgnaohhopbhihaaDoor
open Go.RowKit

theorem lane_at (s : Bool) (lane a b : Nat) (hl : 1 ≤ lane) : ∀ c k, k < c → lanesF s lane a b c / pw (k * lane) % pw lane = laneW s lane (k * lane) a b
  | 0, k, h => by omega
  | c + 1, k, h => by
    have hpos : 0 < pw (k * lane) := Nat.two_pow_pos _
    have hS := lanesF_lt s lane a b c
    simp only [lanesF]
    by_cases e : k = c
    · subst e
      rw [Nat.add_mul_div_right _ _ hpos, Nat.div_eq_of_lt hS, Nat.zero_add]
      exact Nat.mod_eq_of_lt (laneW_lt _ _ _ _ _)
    · have ih := lane_at s lane a b hl c k (by omega)
      obtain ⟨d, hd⟩ : ∃ d, c = k + 1 + d := ⟨c - (k + 1), by omega⟩
      have hP : pw (c * lane) = pw lane * pw (d * lane) * pw (k * lane) := by
        rw [← pw_add, ← pw_add]
        congr 1
        subst hd
        rw [Nat.add_mul, Nat.add_mul]; omega
      rw [hP, ← Nat.mul_assoc, Nat.add_mul_div_right _ _ hpos, Nat.mul_comm (pw lane), ← Nat.mul_assoc, Nat.add_mul_mod_self_right]
      exact ih
theorem wr_back (s : Bool) {n x y : Nat} (hx : x < pw n) : wr n (if !s then ((wr n (if s then (x : Int) - y else x + y) : Nat) : Int) - y else ((wr n (if s then (x : Int) - y else x + y) : Nat) : Int) + y) = x := by
  have e : ((x : Int)) % (pw n : Int) = x := Int.emod_eq_of_lt (by omega) (by omega)
  have h : ∀ z : Int, (wr n z : Int) = z % (pw n : Int) := fun z => wr_cast z
  have : ((wr n (if !s then ((wr n (if s then (x : Int) - y else x + y) : Nat) : Int) - y else ((wr n (if s then (x : Int) - y else x + y) : Nat) : Int) + y) : Nat) : Int) = x := by
    cases s
    · simp only [Bool.not_false, if_true, Bool.false_eq_true, if_false]
      rw [h, h, Int.sub_eq_add_neg, Int.emod_add_emod, ← Int.sub_eq_add_neg, Int.add_sub_cancel, e]
    · simp only [Bool.not_true, if_true, Bool.false_eq_true, if_false]
      rw [h, h, Int.emod_add_emod, Int.sub_add_cancel, e]
  omega
theorem lanes_back (s : Bool) (lane a b c : Nat) (hl : 1 ≤ lane) : ∀ k, k ≤ c → lanesF (!s) lane (lanesF s lane a b c) b k = a % pw (k * lane)
  | 0, _ => by simp [lanesF, pw, Nat.mod_one]
  | k + 1, h => by
    have ih := lanes_back s lane a b c hl k (by omega)
    have hW : laneW (!s) lane (k * lane) (lanesF s lane a b c) b = a / pw (k * lane) % pw lane := by
      unfold laneW
      rw [lane_at s lane a b hl c k (by omega)]
      exact wr_back s (Nat.mod_lt _ (Nat.two_pow_pos _))
    simp only [lanesF]
    rw [ih, hW, show (k + 1) * lane = k * lane + lane by rw [Nat.add_mul]; omega, pw_add, Nat.mod_mul, Nat.mul_comm (pw (k * lane))]
theorem lanes_undo (s : Bool) (n lane a b c : Nat) (hl : 1 ≤ lane) (hc : n = lane * c) (ha : a < pw n) : lanesF (!s) lane (lanesF s lane a b c) b c = a := by
  rw [lanes_back s lane a b c hl c (Nat.le_refl _), Nat.mul_comm c, ← hc, Nat.mod_eq_of_lt ha]

/-- When Lanes refuses. -/
def LanesBad (op n l : Int) (a b : Nat) : Prop := (op ≠ 19 ∧ op ≠ 20) ∨ (n < 1 ∨ 32 < n ∨ pw n.toNat ≤ a ∨ pw n.toNat ≤ b) ∨ (l < 1 ∨ n ≤ l ∨ n % l ≠ 0)
theorem lanes_err (op n l : Int) (a b : Nat) (w : World) (hM : Masks w) (h : LanesBad op n l a b) :
    Calls Tryd.prog 22 #[.int .i64 op, .int .i64 n, .int .i64 l, .int .u32 a, .int .u32 b] w fun e w' => e = .returned (.tuple #[.int .u32 0, .int .i64 1]) ∧ w = w' := by
  by_cases ho : op ≠ 19 ∧ op ≠ 20
  · obtain ⟨o1, o2⟩ := ho
    clear h
    go_enter Tryd.func22, Tryd.ntmps22
    go_wp2
    go_ret2
    exact ⟨rfl, rfl⟩
  by_cases hn : n < 1 ∨ 32 < n ∨ pw n.toNat ≤ a ∨ pw n.toNat ≤ b
  · have HN := Lib.hid hn
    clear h hn
    obtain rfl | rfl : op = 19 ∨ op = 20 := by omega
    all_goals
      go_enter Tryd.func22, Tryd.ntmps22
      go_wp2_with (go_at_call 52; refine (areWords_no n a b _ hM HN.out).mono ?_; rintro e w' ⟨rfl, rfl⟩)
      go_ret2
      exact ⟨rfl, rfl⟩
  · obtain ⟨m, rfl⟩ : ∃ m : Nat, n = m := ⟨n.toNat, by omega⟩
    have h1 : 1 ≤ m := by omega
    have h2 : m ≤ 32 := by omega
    have ha : a < pw m := by have : ¬ pw m ≤ a := fun hh => hn (.inr (.inr (.inl (by simpa using hh))))
                             omega
    have hb : b < pw m := by have : ¬ pw m ≤ b := fun hh => hn (.inr (.inr (.inr (by simpa using hh))))
                             omega
    have hl : l < 1 ∨ (m : Int) ≤ l ∨ (m : Int) % l ≠ 0 := by
      rcases h with h | h | h
      · exact absurd h ho
      · exact absurd h hn
      · exact h
    clear h hn
    obtain rfl | rfl : op = 19 ∨ op = 20 := by omega
    all_goals
      clear ho
      by_cases l1 : l < 1
      · clear hl
        go_enter Tryd.func22, Tryd.ntmps22
        go_wp2_with (go_at_call 52; refine (areWords_yes m a b _ hM h1 h2 ha hb).mono ?_; rintro e w' ⟨rfl, rfl⟩)
        go_ret2
        exact ⟨rfl, rfl⟩
      by_cases l2 : (m : Int) ≤ l
      · clear hl
        go_enter Tryd.func22, Tryd.ntmps22
        go_wp2_with (go_at_call 52; refine (areWords_yes m a b _ hM h1 h2 ha hb).mono ?_; rintro e w' ⟨rfl, rfl⟩)
        go_ret2
        exact ⟨rfl, rfl⟩
      · have l3 : ((m : Int) % l != 0) = true := by
          have : (m : Int) % l ≠ 0 := (hl.resolve_left l1).resolve_left l2
          simpa using this
        clear hl
        go_enter Tryd.func22, Tryd.ntmps22
        go_wp2_with (go_at_call 52; refine (areWords_yes m a b _ hM h1 h2 ha hb).mono ?_; rintro e w' ⟨rfl, rfl⟩)
        go_ret2
        exact ⟨rfl, rfl⟩
end Go.Proofs.YtgnaohhopbhihaaDoor
