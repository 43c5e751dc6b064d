/-
  Trips of both packages at every input; the walk of LoopTrips.
-/
import Derived.Test.YtgnaohhopbhihaaDoorLoopU
import Derived.Test.YtgnaohhopbhihaaDoorLoopG
namespace Go.Proofs.YtgnaohhopbhihaaDoor
open Go.RowKit

theorem trips_ok (p n a b c : Nat) (hp : p < 10) (h1 : 1 ≤ n) (h2 : n ≤ 32) (ha : a < pw n) (hb : b < pw n) (hc : c < pw n) : ∃ (k : Nat) (is : Bool), TripsR p n a b c k is ∧
    ∀ w, Masks w → Calls Tryd.prog 24 #[.int .i64 p, .int .i64 n, .int .u32 a, .int .u32 b, .int .u32 c] w fun e w' => e = .returned (.tuple #[.int .i64 k, .bool is, .int .i64 0]) ∧ Below w.heap.size w w' := by
  have hpn := pw_le h2
  cases hk : cmpF p n a c
  · exact ⟨0, true, trips_zero ha hk, fun w hM => trip_zero n a b c w p hM hp h1 h2 ha hb hc hk⟩
  by_cases hp0 : p = 0
  · subst hp0
    by_cases h0 : b = 0
    · subst h0
      exact ⟨0, false, trips_eq_no ha hk, fun w hM => by simpa using trip_eq n a 0 c w hM h1 h2 ha hb hc hk⟩
    · exact ⟨1, true, trips_eq_yes ha hb (by omega) hk, fun w hM => by simpa [h0] using trip_eq n a b c w hM h1 h2 ha hb hc hk⟩
  by_cases h6 : p < 6
  · exact uns p n a b c (by omega) (by omega) h1 h2 ha hb hc hk
  · exact sig p n a b c (by omega) (by omega) h1 h2 ha hb hc hk
where
  uns (p n a b c : Nat) (hp : 1 ≤ p) (hp5 : p ≤ 5) (h1 : 1 ≤ n) (h2 : n ≤ 32) (ha : a < pw n) (hb : b < pw n) (hc : c < pw n) (hk : cmpF p n a c = true) : ∃ (k : Nat) (is : Bool), TripsR p n a b c k is ∧
    ∀ w, Masks w → Calls Tryd.prog 24 #[.int .i64 p, .int .i64 n, .int .u32 a, .int .u32 b, .int .u32 c] w fun e w' => e = .returned (.tuple #[.int .i64 k, .bool is, .int .i64 0]) ∧ Below w.heap.size w w' := by
    have hpn := pw_le h2
    rcases ends_any p c n hp hp5 h2 hc with ⟨lo, hi, hE, he⟩ | ⟨hA, he⟩
    · exact ⟨_, _, (trips_first ha hb hE hk).1, fun w hM => trip_uns n a b c w p lo hi hM h1 h2 ha hb hc hp hp5 hk hE he⟩
    · exact ⟨0, false, .inr ⟨rfl, rfl, fun j => hA _ (aft_lt n a b j)⟩, fun w hM => trip_uns_no n a b c w p hM h1 h2 ha hb hc hp hp5 hk he⟩
  sig (p n a b c : Nat) (hp : 6 ≤ p) (hp9 : p ≤ 9) (h1 : 1 ≤ n) (h2 : n ≤ 32) (ha : a < pw n) (hb : b < pw n) (hc : c < pw n) (hk : cmpF p n a c = true) : ∃ (k : Nat) (is : Bool), TripsR p n a b c k is ∧
    ∀ w, Masks w → Calls Tryd.prog 24 #[.int .i64 p, .int .i64 n, .int .u32 a, .int .u32 b, .int .u32 c] w fun e w' => e = .returned (.tuple #[.int .i64 k, .bool is, .int .i64 0]) ∧ Below w.heap.size w w' := by
    have hpn := pw_le h2
    have hk' : cmpF (p - 4) n (shifted n a) (shifted n c) = true := by rw [← cmp_shifted h1 hp hp9 ha hc]; exact hk
    rcases ends_any (p - 4) (shifted n c) n (by omega) (by omega) h2 (shifted_lt n c) with ⟨lo, hi, hE, he⟩ | ⟨hA, he⟩
    · exact ⟨_, _, trips_shifted h1 hp hp9 hc (trips_first (shifted_lt n a) hb hE hk').1, fun w hM => trip_sig n a b c w p _ lo hi hM h1 h2 ha hb hc hp hp9 rfl hk hE hk' he⟩
    · exact ⟨0, false, trips_shifted h1 hp hp9 hc (.inr ⟨rfl, rfl, fun j => hA _ (aft_lt n _ b j)⟩), fun w hM => trip_sig_no n a b c w p _ hM h1 h2 ha hb hc hp hp9 rfl hk he⟩
end Go.Proofs.YtgnaohhopbhihaaDoor
