/-
  The numbers of a set; isNode.
-/
import Derived.Test.YtchkckflpmepkaaFwA
namespace Go.Proofs.Ytchkckflpmepkaa
open Go.RowKit

theorem setL_le (s : NS) (m : Nat) : (setL s m).length ≤ m := by
  have := setL_len (s := s) m
  omega
set_option maxRecDepth 100000 in
set_option maxHeartbeats 2000000 in
theorem list_any (s : NS) (w : World) : Calls Try.prog 42 #[.agg (setA s)] w fun e w' => ∃ v, e = .returned v ∧ w'.ownsRow w.heap.size 3 1 v (setL s 10).length (nV (setL s 10)) ∧ Below w.heap.size w w' := by
  obtain ⟨i0, hi, hz0, hz1, hz2⟩ := info_parts infoI
  go_enter Try.func42, Try.ntmps42
  go_wp2_with (refine wpList_load_row rfl 52 (.tmp 1) rfl w.heap.size rfl 52 (setA s) (0, 0) _ (heap_alloc_new w _) Try.underlying52 rfl (setA_info s) ?_)
  have hb0 : Below w.heap.size w (w.alloc (.cells (setA s) 52)) := (Below.refl _ _).alloc (Nat.le_refl _) _
  generalize World.alloc w _ = W0 at hb0 ⊢
  go_loopw [3, 7] (fun vl zi wr => ∃ i : Nat, i ≤ 10 ∧ zi = .int .i64 (i : Int) ∧ wr.ownsRow w.heap.size 3 1 vl (setL s i).length (nV (setL s i)) ∧ Below w.heap.size w wr) (fun _ zi _ => 10 - (intOf zi).toNat)
  case atStart => exact ⟨0, by omega, rfl, World.ownsRow_nil _ _ _ _, hb0⟩
  case round =>
    obtain ⟨i, hin, rfl, hown, hb⟩ := hrel
    by_cases hlt : i < 10
    · have hidx := fun W => setA_idx s hlt W
      have hle := setL_le s i
      have HS := Lib.hid (setL_succ (s := s) (m := i))
      cases hs : s i
      · rw [hs] at hidx HS
        have HS2 := Lib.hid (show setL s (i + 1) = setL s i from HS.out.trans (List.append_nil _))
        clear HS hs
        go_wp2
        go_roundw
        case rel => exact ⟨i + 1, by omega, by go_num, by rw [HS2.out]; exact hown, hb⟩
        case measure => simp [intOf]; omega
      · rw [hs] at hidx HS
        clear hs
        go_wp2_with (at_builtin; refine wpList_append_own _ rfl _ _ 25 rfl w.heap.size 3 i0 (.int .i64 0) 1 8 Try.underlying25 hi hz0 hz1 hz2 rfl (by decide) _ _ _ rfl (hown.alloc _) ⟨wr.heap.size, 0, none⟩ 1 1 [.int .i64 (i : Int)] rfl rfl ?k1 ?k2 ?k3 ?k4 ?k5 ?_)
        case k2 => simp [Value.oneCell']
        case k3 => unfold maxLen; omega
        case k4 => omega
        case k5 => have := hb.size; simp; omega
        intro v2 w7 hown7 hgrow _
        have hb5 : Below w.heap.size w w7 := (hb.alloc hb.size _).grown hgrow (by have := hb.size; simp; omega) (own_base (hown.alloc (.cells #[.int .i64 (i : Int)] 3)))
        have HO8 := Lib.hid (show w7.ownsRow w.heap.size 3 1 v2 (setL s (i + 1)).length (nV (setL s (i + 1))) by
          rw [HS.out, List.length_append, nV_app]
          exact hown7)
        clear hown hown7 hgrow hb hle
        go_wp2
        go_roundw
        case rel => exact ⟨i + 1, by omega, by go_num, HO8.out, hb5⟩
        case measure => simp [intOf]; omega
    · obtain rfl : i = 10 := by omega
      go_wp2
      go_ret
      exact ⟨_, rfl, hown, hb⟩
set_option maxRecDepth 100000 in
theorem size_any (s : NS) (w : World) : Calls Try.prog 62 #[.agg (setA s)] w fun e w' => e = .returned (.int .i64 ((setL s 10).length : Int)) ∧ Below w.heap.size w w' := by
  have hle := setL_le s 10
  go_enter Try.func62, Try.ntmps62
  go_wp2_with (refine wpList_load_row rfl 52 (.tmp 1) rfl w.heap.size rfl 52 (setA s) (0, 0) _ (heap_alloc_new w _) Try.underlying52 rfl (setA_info s) ?_)
  have hb0 : Below w.heap.size w (w.alloc (.cells (setA s) 52)) := (Below.refl _ _).alloc (Nat.le_refl _) _
  generalize World.alloc w _ = W0 at hb0 ⊢
  refine (list_any s W0).mono ?_
  rintro e w1 ⟨v, rfl, hown, hb1⟩
  obtain ⟨A, c, rfl, -⟩ := own_nats hown
  clear hown
  go_wp2
  go_ret
  exact ⟨rfl, hb0.trans (hb1.mono hb0.size)⟩
/-- Whether a number is one of a node. -/
def nodeB (v : Int) (n : Nat) : Bool := decide (0 ≤ v ∧ v < n)
theorem isNode_any (A : Option Addr) (n c : Nat) (v : Int) (w : World) (_ : n ≤ 4611686018427387904) : Calls Try.prog 45 #[.slice A n c, .int .i64 v] w fun e w' => e = .returned (.bool (nodeB v n)) ∧ w = w' := by
  by_cases h1 : 0 ≤ v
  · by_cases h2 : v < n
    · have E := Lib.hid (show nodeB v n = true from decide_eq_true (show 0 ≤ v ∧ v < n from ⟨h1, h2⟩))
      have d1 : decide (0 ≤ v) = true := decide_eq_true h1
      have d2 : decide (v < (n : Int)) = true := decide_eq_true h2
      go_enter Try.func45, Try.ntmps45
      go_wp2
      go_ret
      exact ⟨ret_b (by rw [E.out]), rfl⟩
    · have E := Lib.hid (show nodeB v n = false from decide_eq_false (show ¬ (0 ≤ v ∧ v < n) from fun h => h2 h.2))
      have d1 : decide (0 ≤ v) = true := decide_eq_true h1
      have d2 : decide (v < (n : Int)) = false := decide_eq_false h2
      go_enter Try.func45, Try.ntmps45
      go_wp2
      go_ret
      exact ⟨ret_b (by rw [E.out]), rfl⟩
  · have E := Lib.hid (show nodeB v n = false from decide_eq_false (show ¬ (0 ≤ v ∧ v < n) from fun h => h1 h.1))
    have d1 : decide (0 ≤ v) = false := decide_eq_false h1
    go_enter Try.func45, Try.ntmps45
    go_wp2
    go_ret
    exact ⟨ret_b (by rw [E.out]), rfl⟩
end Go.Proofs.Ytchkckflpmepkaa
