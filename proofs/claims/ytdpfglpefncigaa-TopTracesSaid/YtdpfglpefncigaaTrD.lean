/-
  The order of places by package trace: Compare, Or, compare.
-/
import Derived.Test.YtdpfglpefncigaaTrC
namespace Go.Proofs.Ytdpfglpefncigaa
open Go.RowKit

def cmpI (x y : Int) : Int := if x < y then -1 else if y < x then 1 else 0
theorem isNaN_any (x : Int) (w : World) : Calls Try.prog 65 #[.int .i64 x] w fun e w' => e = .returned (.bool false) ∧ w' = w := by
  go_enter Try.func65, Try.ntmps65
  go_wp2
  go_ret
  exact ⟨ret_b (by simp), rfl⟩
theorem cmp_any (x y : Int) (w : World) : Calls Try.prog 62 #[.int .i64 x, .int .i64 y] w fun e w' => e = .returned (.int .i64 (cmpI x y)) ∧ w' = w := by
  by_cases h1 : x < y
  · have d1 : decide (x < y) = true := decide_eq_true h1
    have E := Lib.hid (show cmpI x y = -1 from if_pos h1)
    go_enter Try.func62, Try.ntmps62
    go_wp2_with (go_at_call 65; refine (isNaN_any _ _).mono ?_; rintro e w' ⟨rfl, rfl⟩)
    go_ret
    exact ⟨ret_i (by rw [E.out]), rfl⟩
  · have d1 : decide (x < y) = false := decide_eq_false h1
    by_cases h2 : y < x
    · have d2 : decide (y < x) = true := decide_eq_true h2
      have E := Lib.hid (show cmpI x y = 1 by unfold cmpI; rw [if_neg h1, if_pos h2])
      go_enter Try.func62, Try.ntmps62
      go_wp2_with (go_at_call 65; refine (isNaN_any _ _).mono ?_; rintro e w' ⟨rfl, rfl⟩)
      go_ret
      exact ⟨ret_i (by rw [E.out]), rfl⟩
    · have d2 : decide (y < x) = false := decide_eq_false h2
      have E := Lib.hid (show cmpI x y = 0 by unfold cmpI; rw [if_neg h1, if_neg h2])
      go_enter Try.func62, Try.ntmps62
      go_wp2_with (go_at_call 65; refine (isNaN_any _ _).mono ?_; rintro e w' ⟨rfl, rfl⟩)
      go_ret
      exact ⟨ret_i (by rw [E.out]), rfl⟩
/-- The first number that is not 0. -/
def orF (x : Nat → Int) : Nat → Nat → Int
  | _, 0 => 0
  | i, f + 1 => if x i ≠ 0 then x i else orF x (i + 1) f
theorem or_any (B n : Nat) (x : Nat → Int) (w : World) (hn : n ≤ 100) (hc : ∀ i, i < n → w.cell? ⟨B, i, none⟩ = some (.int .i64 (x i))) :
    Calls Try.prog 61 #[.slice (some ⟨B, 0, none⟩) n n] w fun e w' => e = .returned (.int .i64 (orF x 0 n)) ∧ w = w' := by
  have HC := Lib.hid hc
  clear hc
  go_enter Try.func61, Try.ntmps61
  go_wp2
  go_loop [8] (fun z => ∃ i : Nat, i ≤ n ∧ z = .int .i64 (i : Int) ∧ orF x i (n - i) = orF x 0 n) (fun z => n - (intOf z).toNat)
  case atStart => exact ⟨0, by omega, rfl, rfl⟩
  case round =>
    obtain ⟨i, hi, rfl, hO⟩ := hrel
    by_cases hlt : i < n
    · have hcell := HC.out i hlt
      have hs : orF x i (n - i) = if x i ≠ 0 then x i else orF x (i + 1) (n - (i + 1)) := by
        rw [show n - i = (n - (i + 1)) + 1 by omega]
        rfl
      have HO := Lib.hid (hs.symm.trans hO)
      clear hO hs
      generalize hy : x i = y at *
      have HY := Lib.hid hy
      clear hy
      by_cases h0 : y = 0
      · subst h0
        go_wp2
        go_round
        case rel => exact ⟨i + 1, by omega, by go_num, by have := HO.out; simpa using this⟩
        case measure => simp [intOf]; omega
      · have d0 : (y != 0) = true := by simp [h0]
        have HO2 := Lib.hid (show y = orF x 0 n by have := HO.out; rwa [if_pos h0] at this)
        clear h0 HO
        go_wp2
        go_ret
        exact ⟨ret_i (by rw [← HO2.out]), rfl⟩
    · have HO := Lib.hid (show (0 : Int) = orF x 0 n by rw [show n - i = 0 by omega] at hO; exact hO)
      clear hO
      go_wp2
      go_ret
      exact ⟨ret_i (by rw [← HO.out]), rfl⟩
/-- What compare answers. -/
def cmpP (p q : Plc) : Int := orF (fun i => if i = 0 then cmpI p.a q.a else if i = 1 then cmpI p.z q.z else if i = 2 then cmpI p.v q.v else if i = 3 then cmpI p.k q.k else cmpI p.n q.n) 0 5
theorem cmpI_ne {x y : Int} : cmpI x y ≠ 0 ↔ x ≠ y := by
  unfold cmpI
  split
  · constructor <;> intro <;> omega
  · split
    · constructor <;> intro <;> omega
    · constructor
      · intro h; exact absurd rfl h
      · intro h; omega
theorem cmpI_lt {x y : Int} (h : x ≠ y) : (0 ≤ cmpI x y) ↔ ¬ (x < y) := by
  unfold cmpI
  split
  · constructor <;> intro <;> omega
  · rw [if_pos (by omega)]
    constructor <;> intro <;> omega
theorem cmpI_self (x : Int) : cmpI x x = 0 := by
  unfold cmpI
  rw [if_neg (by omega), if_neg (by omega)]
theorem dec_le (x y : Int) : decide (y ≤ x) = !decide (x < y) := by
  rw [Bool.eq_iff_iff]
  simp
theorem cmpP_bef (p q : Plc) : decide (0 ≤ cmpP p q) = !befB p q := by
  unfold cmpP befB
  simp only [orF]
  by_cases e0 : p.a = q.a
  · by_cases e1 : p.z = q.z
    · by_cases e2 : p.v = q.v
      · by_cases e3 : p.k = q.k
        · by_cases e4 : p.n = q.n
          · simp [e0, e1, e2, e3, e4, cmpI_self]
          · have h := cmpI_ne.2 e4
            simp [e0, e1, e2, e3, e4, cmpI_self, h, cmpI_lt e4, dec_le]
        · have h := cmpI_ne.2 e3
          simp [e0, e1, e2, e3, cmpI_self, h, cmpI_lt e3, dec_le]
      · have h := cmpI_ne.2 e2
        simp [e0, e1, e2, cmpI_self, h, cmpI_lt e2, dec_le]
    · have h := cmpI_ne.2 e1
      simp [e0, e1, cmpI_self, h, cmpI_lt e1, dec_le]
  · have h := cmpI_ne.2 e0
    simp [e0, h, cmpI_lt e0, dec_le]
theorem five_cells (w : World) (T : Nat) (x0 x1 x2 x3 x4 : Int) (f : Nat → Int) (h0 : f 0 = x0) (h1 : f 1 = x1) (h2 : f 2 = x2) (h3 : f 3 = x3) (h4 : f 4 = x4) :
    ∀ i, i < 5 → (w.alloc (.cells #[.int .i64 x0, .int .i64 x1, .int .i64 x2, .int .i64 x3, .int .i64 x4] T)).cell? ⟨w.heap.size, i, none⟩ = some (.int .i64 (f i)) := by
  intro i hi
  obtain rfl | rfl | rfl | rfl | rfl : i = 0 ∨ i = 1 ∨ i = 2 ∨ i = 3 ∨ i = 4 := by omega
  · rw [h0]; simp [go_sem]
  · rw [h1]; simp [go_sem]
  · rw [h2]; simp [go_sem]
  · rw [h3]; simp [go_sem]
  · rw [h4]; simp [go_sem]
set_option maxRecDepth 100000 in
set_option maxHeartbeats 1000000 in
theorem compare_any (p q : Plc) (w : World) : Calls Try.prog 44 #[aggP p, aggP q] w fun e w' => e = .returned (.int .i64 (cmpP p q)) ∧ Below w.heap.size w w' := by
  obtain ⟨a, z, v, k, n⟩ := p
  obtain ⟨b, y, u, l, m⟩ := q
  go_enter Try.func44, Try.ntmps44
  go_wp2
  generalize hW : World.alloc (World.alloc w _) _ = W2
  have c0 : W2.cell? ⟨w.heap.size, 0, none⟩ = some (.int .i64 a) := by rw [← hW]; simp [go_sem]
  have c1 : W2.cell? ⟨w.heap.size, 1, none⟩ = some (.int .i64 z) := by rw [← hW]; simp [go_sem]
  have c2 : W2.cell? ⟨w.heap.size, 2, none⟩ = some (.int .i64 v) := by rw [← hW]; simp [go_sem]
  have c3 : W2.cell? ⟨w.heap.size, 3, none⟩ = some (.int .i64 k) := by rw [← hW]; simp [go_sem]
  have c4 : W2.cell? ⟨w.heap.size, 4, none⟩ = some (.int .i64 n) := by rw [← hW]; simp [go_sem]
  have d0 : W2.cell? ⟨w.heap.size + 1, 0, none⟩ = some (.int .i64 b) := by rw [← hW]; simp [go_sem]
  have d1 : W2.cell? ⟨w.heap.size + 1, 1, none⟩ = some (.int .i64 y) := by rw [← hW]; simp [go_sem]
  have d2 : W2.cell? ⟨w.heap.size + 1, 2, none⟩ = some (.int .i64 u) := by rw [← hW]; simp [go_sem]
  have d3 : W2.cell? ⟨w.heap.size + 1, 3, none⟩ = some (.int .i64 l) := by rw [← hW]; simp [go_sem]
  have d4 : W2.cell? ⟨w.heap.size + 1, 4, none⟩ = some (.int .i64 m) := by rw [← hW]; simp [go_sem]
  have hb : Below w.heap.size w W2 := by rw [← hW]; exact ((Below.refl _ _).alloc (Nat.le_refl _) _).alloc (by simp) _
  clear hW
  refine wp_region_still_tail 25 (by kernel_rfl) (by kernel_rfl) ?_
  simp only [List.take_succ_cons, List.take_zero, List.drop_succ_cons, List.drop_zero]
  iterate 4 still_step
  still_call (cmp_any a b _)
  iterate 4 still_step
  still_call (cmp_any z y _)
  iterate 4 still_step
  still_call (cmp_any v u _)
  iterate 4 still_step
  still_call (cmp_any k l _)
  iterate 4 still_step
  still_call (cmp_any n m _)
  refine wpStill_nil ?_
  have hb3 : Below w.heap.size w W2.drew := ⟨hb.os, hb.tape, hb.output, hb.size, hb.block⟩
  change wpList _ _ _ _ _ W2.drew
  generalize W2.drew = W3 at hb3
  clear c0 c1 c2 c3 c4 d0 d1 d2 d3 d4 hb
  go_wp2_with fail
  refine (or_any _ 5 (fun i => if i = 0 then cmpI a b else if i = 1 then cmpI z y else if i = 2 then cmpI v u else if i = 3 then cmpI k l else cmpI n m) _ (by omega) (five_cells W3 _ _ _ _ _ _ _ rfl rfl rfl rfl rfl)).mono ?_
  rintro e w' ⟨rfl, rfl⟩
  go_wp2
  go_ret
  exact ⟨rfl, hb3.alloc (by simpa using hb3.size) _⟩
end Go.Proofs.Ytdpfglpefncigaa
