/-
  Find of both packages; the law of it.
-/
import Derived.Test.YtdpfglpefncigaaTrS
namespace Go.Proofs.Ytdpfglpefncigaa
open Go.RowKit

theorem fndF_spec (zs : List Plc) (v t : Int) : ∀ f i, (∃ k, i ≤ k ∧ k < i + f ∧ zs[k]!.v = v ∧ covB zs[k]! t = true ∧ fndF zs v t i f = some zs[k]!) ∨ (fndF zs v t i f = none ∧ ∀ j, i ≤ j → j < i + f → ¬ (zs[j]!.v = v ∧ covB zs[j]! t = true))
  | 0, i => .inr ⟨rfl, fun j h1 h2 => absurd h2 (by omega)⟩
  | f + 1, i => by
    unfold fndF
    by_cases h : zs[i]!.v = v ∧ covB zs[i]! t = true
    · rw [if_pos h]
      exact .inl ⟨i, by omega, by omega, h.1, h.2, rfl⟩
    · rw [if_neg h]
      rcases fndF_spec zs v t f (i + 1) with ⟨k, h1, h2, h3, h4, h5⟩ | ⟨h1, h2⟩
      · exact .inl ⟨k, by omega, by omega, h3, h4, h5⟩
      · refine .inr ⟨h1, fun j h3 h4 => ?_⟩
        by_cases hj : j = i
        · rw [hj]
          exact h
        · exact h2 j (by omega) (by omega)
theorem covB_iff {p : Plc} {t : Int} : covB p t = true ↔ p.a ≤ t ∧ t < p.z := decide_eq_true_iff
theorem fnd_some {zs : List Plc} {v t : Int} {p : Plc} (h : fnd zs v t = some p) : ∃ k, k < zs.length ∧ zs[k]! = p ∧ p.v = v ∧ p.a ≤ t ∧ t < p.z := by
  unfold fnd at h
  rcases fndF_spec zs v t zs.length 0 with ⟨k, h1, h2, h3, h4, h5⟩ | ⟨h1, _⟩
  · rw [h5] at h
    injection h with h
    rw [h] at h3 h4
    exact ⟨k, by omega, h, h3, covB_iff.1 h4⟩
  · rw [h1] at h
    cases h
theorem fnd_none {zs : List Plc} {v t : Int} (h : fnd zs v t = none) {j : Nat} (hj : j < zs.length) : ¬ (zs[j]!.v = v ∧ zs[j]!.a ≤ t ∧ t < zs[j]!.z) := by
  unfold fnd at h
  rcases fndF_spec zs v t zs.length 0 with ⟨k, h1, h2, h3, h4, h5⟩ | ⟨_, h2⟩
  · rw [h5] at h
    cases h
  · exact fun ⟨a, b⟩ => h2 j (by omega) (by omega) ⟨a, covB_iff.2 b⟩
theorem chk_ok {zs : List Plc} {v x y : Int} (h : chkF zs v x y = 0) : valF zs = 0 ∧ inB v 0 63 = true ∧ inB x 0 32768 = true ∧ inB y 0 32768 = true ∧ x ≤ y := by
  unfold chkF at h
  split at h
  · rename_i h1
    exact absurd h h1
  · rename_i h1
    split at h
    · rename_i h2
      simp only [Bool.and_eq_true, decide_eq_true_eq] at h2
      exact ⟨by omega, h2.1.1.1, h2.1.1.2, h2.1.2, h2.2⟩
    · omega
theorem chk_val {zs : List Plc} {v x y : Int} (h : valF zs ≠ 0) : chkF zs v x y = valF zs := by
  unfold chkF
  rw [if_pos h]
theorem chk_no {zs : List Plc} {v x y : Int} (h : valF zs = 0) (h2 : (inB v 0 63 && inB x 0 32768 && inB y 0 32768 && decide (x ≤ y)) = false) : chkF zs v x y = 1 := by
  unfold chkF
  rw [if_neg (by omega), if_neg (by rw [h2]; simp)]
theorem chk_yes {zs : List Plc} {v x y : Int} (h : valF zs = 0) (h2 : (inB v 0 63 && inB x 0 32768 && inB y 0 32768 && decide (x ≤ y)) = true) : chkF zs v x y = 0 := by
  unfold chkF
  rw [if_neg (by omega), if_pos h2]
/-- What Find answers. -/
def fP (zs : List Plc) (v t : Int) : Plc := if chkF zs v t t = 0 then (fnd zs v t).getD zeroP else zeroP
def fB (zs : List Plc) (v t : Int) : Bool := if chkF zs v t t = 0 then (fnd zs v t).isSome else false
theorem fP_bad {zs : List Plc} {v t : Int} (h : chkF zs v t t ≠ 0) : fP zs v t = zeroP := if_neg h
theorem fB_bad {zs : List Plc} {v t : Int} (h : chkF zs v t t ≠ 0) : fB zs v t = false := if_neg h
theorem fP_good {zs : List Plc} {v t : Int} (h : chkF zs v t t = 0) : fP zs v t = (fnd zs v t).getD zeroP := if_pos h
theorem fB_good {zs : List Plc} {v t : Int} (h : chkF zs v t t = 0) : fB zs v t = (fnd zs v t).isSome := if_pos h
theorem fB_yes {zs : List Plc} {v t : Int} (h : fB zs v t = true) : (fP zs v t).v = v ∧ (fP zs v t).a ≤ t ∧ t < (fP zs v t).z := by
  by_cases h0 : chkF zs v t t = 0
  · rw [fB_good h0] at h
    rw [fP_good h0]
    cases hf : fnd zs v t with
    | none => rw [hf] at h; cases h
    | some p =>
      obtain ⟨k, _, _, h3, h4, h5⟩ := fnd_some hf
      exact ⟨h3, h4, h5⟩
  · rw [fB_bad h0] at h
    cases h
theorem zero_le_chk {zs : List Plc} {v t : Int} (h : chkF zs v t t = 0) : zs.length ≤ 64 := (valF_ok (chk_ok h).1).1

set_option maxRecDepth 100000 in
set_option maxHeartbeats 1000000 in
theorem Find_bad {w : World} {A : Option Addr} {n c : Nat} {zs : List Plc} (h : Tab w A n c zs) (v t : Int) (hX : chkF zs v t t ≠ 0) :
    Calls Try.prog 21 #[.slice A n c, .int .i64 v, .int .i64 t] w fun e w' => e = .returned (.tuple #[aggP zeroP, .bool false, .int .i64 (chkF zs v t t)]) ∧ Below w.heap.size w w' := by
  obtain ⟨X, hX'⟩ : ∃ X, X = chkF zs v t t := ⟨_, rfl⟩
  have HC := Lib.hid (fun w1 (hb : Below w.heap.size w w1) => check_tab (h.below hb) v t t)
  rw [← hX'] at hX HC ⊢
  clear hX' h
  have dX : (X != 0) = true := by simp [hX]
  go_enter Try.func21, Try.ntmps21
  go_wp2_with fail
  generalize hW : World.alloc w _ = W0
  have r0 : W0.cell? ⟨w.heap.size, 0, none⟩ = some (.int .i64 0) := by rw [← hW]; simp [go_sem]
  have r1 : W0.cell? ⟨w.heap.size, 1, none⟩ = some (.int .i64 0) := by rw [← hW]; simp [go_sem]
  have r2 : W0.cell? ⟨w.heap.size, 2, none⟩ = some (.int .i64 0) := by rw [← hW]; simp [go_sem]
  have r3 : W0.cell? ⟨w.heap.size, 3, none⟩ = some (.int .i64 0) := by rw [← hW]; simp [go_sem]
  have r4 : W0.cell? ⟨w.heap.size, 4, none⟩ = some (.int .i64 0) := by rw [← hW]; simp [go_sem]
  have s0 : W0.frozen? ⟨w.heap.size, 0, none⟩ = false := by rw [← hW]; exact new_free _ _ _ _
  have s1 : W0.frozen? ⟨w.heap.size, 1, none⟩ = false := by rw [← hW]; exact new_free _ _ _ _
  have s2 : W0.frozen? ⟨w.heap.size, 2, none⟩ = false := by rw [← hW]; exact new_free _ _ _ _
  have s3 : W0.frozen? ⟨w.heap.size, 3, none⟩ = false := by rw [← hW]; exact new_free _ _ _ _
  have s4 : W0.frozen? ⟨w.heap.size, 4, none⟩ = false := by rw [← hW]; exact new_free _ _ _ _
  have hb0 : Below w.heap.size w W0 := by rw [← hW]; exact (Below.refl _ _).alloc (Nat.le_refl _) _
  have sz0 : w.heap.size < W0.heap.size := by rw [← hW]; simp
  have R0 := Lib.hid r0
  have R1 := Lib.hid r1
  have R2 := Lib.hid r2
  have R3 := Lib.hid r3
  have R4 := Lib.hid r4
  have S0 := Lib.hid s0
  have S1 := Lib.hid s1
  have S2 := Lib.hid s2
  have S3 := Lib.hid s3
  have S4 := Lib.hid s4
  clear hW r0 r1 r2 r3 r4 s0 s1 s2 s3 s4
  refine (HC.out _ hb0).mono ?_
  rintro e w1 ⟨rfl, hb1⟩
  have hbw := hb0.trans (hb1.mono hb0.size)
  have x0 := (hb1.cell (p := ⟨w.heap.size, 0, none⟩) sz0).trans R0.out
  have y0 := (hb1.frozen (p := ⟨w.heap.size, 0, none⟩) sz0).trans S0.out
  have x1 := (hb1.cell (p := ⟨w.heap.size, 1, none⟩) sz0).trans R1.out
  have y1 := (hb1.frozen (p := ⟨w.heap.size, 1, none⟩) sz0).trans S1.out
  have x2 := (hb1.cell (p := ⟨w.heap.size, 2, none⟩) sz0).trans R2.out
  have y2 := (hb1.frozen (p := ⟨w.heap.size, 2, none⟩) sz0).trans S2.out
  have x3 := (hb1.cell (p := ⟨w.heap.size, 3, none⟩) sz0).trans R3.out
  have y3 := (hb1.frozen (p := ⟨w.heap.size, 3, none⟩) sz0).trans S3.out
  have x4 := (hb1.cell (p := ⟨w.heap.size, 4, none⟩) sz0).trans R4.out
  have y4 := (hb1.frozen (p := ⟨w.heap.size, 4, none⟩) sz0).trans S4.out
  have hp5 := put5_at zeroP x0 x1 x2 x3 x4
  have hpb := put5_below zeroP hbw (Nat.le_refl _)
  have HP5 := Lib.hid hp5
  clear hp5
  go_wp2
  obtain ⟨p0, p1, p2, p3, p4⟩ := HP5.out
  change bodyPost _ _ _ _ _ (put5 _ _ zeroP)
  exact bodyPost_ret (v := .tuple #[aggP zeroP, .bool false, .int .i64 X]) (by simp [results, Try.results21, go_sem, p0, p1, p2, p3, p4]) rfl ⟨by rfl, hpb⟩

set_option maxRecDepth 100000 in
set_option maxHeartbeats 1000000 in
theorem Find_zero {w : World} {A : Option Addr} {n c : Nat} {zs : List Plc} (h : Tab w A n c zs) (v t : Int) (hX : chkF zs v t t = 0) (hf : (fnd zs v t).getD zeroP = ⟨0, 0, 0, 0, 0⟩) :
    Calls Try.prog 21 #[.slice A n c, .int .i64 v, .int .i64 t] w fun e w' => e = .returned (.tuple #[aggP ⟨0, 0, 0, 0, 0⟩, .bool false, .int .i64 0]) ∧ Below w.heap.size w w' := by
  have HC := Lib.hid (fun w1 (hb : Below w.heap.size w w1) => hX ▸ check_tab (h.below hb) v t t)
  have HF := Lib.hid (fun w1 (hb : Below w.heap.size w w1) => hf ▸ find_tab (h.below hb) v t (zero_le_chk hX))
  clear h hX hf
  go_enter Try.func21, Try.ntmps21
  go_wp2_with fail
  generalize hW : World.alloc w _ = W0
  have r0 : W0.cell? ⟨w.heap.size, 0, none⟩ = some (.int .i64 0) := by rw [← hW]; simp [go_sem]
  have r1 : W0.cell? ⟨w.heap.size, 1, none⟩ = some (.int .i64 0) := by rw [← hW]; simp [go_sem]
  have r2 : W0.cell? ⟨w.heap.size, 2, none⟩ = some (.int .i64 0) := by rw [← hW]; simp [go_sem]
  have r3 : W0.cell? ⟨w.heap.size, 3, none⟩ = some (.int .i64 0) := by rw [← hW]; simp [go_sem]
  have r4 : W0.cell? ⟨w.heap.size, 4, none⟩ = some (.int .i64 0) := by rw [← hW]; simp [go_sem]
  have s0 : W0.frozen? ⟨w.heap.size, 0, none⟩ = false := by rw [← hW]; exact new_free _ _ _ _
  have s1 : W0.frozen? ⟨w.heap.size, 1, none⟩ = false := by rw [← hW]; exact new_free _ _ _ _
  have s2 : W0.frozen? ⟨w.heap.size, 2, none⟩ = false := by rw [← hW]; exact new_free _ _ _ _
  have s3 : W0.frozen? ⟨w.heap.size, 3, none⟩ = false := by rw [← hW]; exact new_free _ _ _ _
  have s4 : W0.frozen? ⟨w.heap.size, 4, none⟩ = false := by rw [← hW]; exact new_free _ _ _ _
  have hb0 : Below w.heap.size w W0 := by rw [← hW]; exact (Below.refl _ _).alloc (Nat.le_refl _) _
  have sz0 : w.heap.size < W0.heap.size := by rw [← hW]; simp
  have R0 := Lib.hid r0
  have R1 := Lib.hid r1
  have R2 := Lib.hid r2
  have R3 := Lib.hid r3
  have R4 := Lib.hid r4
  have S0 := Lib.hid s0
  have S1 := Lib.hid s1
  have S2 := Lib.hid s2
  have S3 := Lib.hid s3
  have S4 := Lib.hid s4
  clear hW r0 r1 r2 r3 r4 s0 s1 s2 s3 s4
  refine (HC.out _ hb0).mono ?_
  rintro e w1 ⟨rfl, hb1⟩
  have hbw := hb0.trans (hb1.mono hb0.size)
  go_wp2_with fail
  refine (HF.out _ hbw).mono ?_
  rintro e w2 ⟨rfl, hb2⟩
  have hbz := hb1.trans (hb2.mono hb1.size)
  have hbw := hb0.trans (hbz.mono hb0.size)
  have x0 := (hbz.cell (p := ⟨w.heap.size, 0, none⟩) sz0).trans R0.out
  have y0 := (hbz.frozen (p := ⟨w.heap.size, 0, none⟩) sz0).trans S0.out
  have x1 := (hbz.cell (p := ⟨w.heap.size, 1, none⟩) sz0).trans R1.out
  have y1 := (hbz.frozen (p := ⟨w.heap.size, 1, none⟩) sz0).trans S1.out
  have x2 := (hbz.cell (p := ⟨w.heap.size, 2, none⟩) sz0).trans R2.out
  have y2 := (hbz.frozen (p := ⟨w.heap.size, 2, none⟩) sz0).trans S2.out
  have x3 := (hbz.cell (p := ⟨w.heap.size, 3, none⟩) sz0).trans R3.out
  have y3 := (hbz.frozen (p := ⟨w.heap.size, 3, none⟩) sz0).trans S3.out
  have x4 := (hbz.cell (p := ⟨w.heap.size, 4, none⟩) sz0).trans R4.out
  have y4 := (hbz.frozen (p := ⟨w.heap.size, 4, none⟩) sz0).trans S4.out
  go_wp2
  generalize hW : World.alloc w2 _ = W2
  have t0 : W2.cell? ⟨w2.heap.size, 0, none⟩ = some (.int .i64 0) := by rw [← hW]; simp [go_sem]
  have t1 : W2.cell? ⟨w2.heap.size, 1, none⟩ = some (.int .i64 0) := by rw [← hW]; simp [go_sem]
  have t2 : W2.cell? ⟨w2.heap.size, 2, none⟩ = some (.int .i64 0) := by rw [← hW]; simp [go_sem]
  have t3 : W2.cell? ⟨w2.heap.size, 3, none⟩ = some (.int .i64 0) := by rw [← hW]; simp [go_sem]
  have t4 : W2.cell? ⟨w2.heap.size, 4, none⟩ = some (.int .i64 0) := by rw [← hW]; simp [go_sem]
  have hb4 : Below w2.heap.size w2 W2 := by rw [← hW]; exact (Below.refl _ _).alloc (Nat.le_refl _) _
  have u0 := keep_cell hb4 (Nat.lt_of_lt_of_le sz0 hbz.size) x0
  have u1 := keep_cell hb4 (Nat.lt_of_lt_of_le sz0 hbz.size) x1
  have u2 := keep_cell hb4 (Nat.lt_of_lt_of_le sz0 hbz.size) x2
  have u3 := keep_cell hb4 (Nat.lt_of_lt_of_le sz0 hbz.size) x3
  have u4 := keep_cell hb4 (Nat.lt_of_lt_of_le sz0 hbz.size) x4
  have f0 := (hb4.frozen (p := ⟨w.heap.size, 0, none⟩) (Nat.lt_of_lt_of_le sz0 hbz.size)).trans y0
  have f1 := (hb4.frozen (p := ⟨w.heap.size, 1, none⟩) (Nat.lt_of_lt_of_le sz0 hbz.size)).trans y1
  have f2 := (hb4.frozen (p := ⟨w.heap.size, 2, none⟩) (Nat.lt_of_lt_of_le sz0 hbz.size)).trans y2
  have f3 := (hb4.frozen (p := ⟨w.heap.size, 3, none⟩) (Nat.lt_of_lt_of_le sz0 hbz.size)).trans y3
  have f4 := (hb4.frozen (p := ⟨w.heap.size, 4, none⟩) (Nat.lt_of_lt_of_le sz0 hbz.size)).trans y4
  have hb5 := hbw.trans (hb4.mono hbw.size)
  have hlt2 := Nat.lt_of_lt_of_le sz0 hbz.size
  have hne1 : ¬ w.heap.size = w2.heap.size := by omega
  have hne2 : ¬ w2.heap.size = w.heap.size := by omega
  clear hW x0 x1 x2 x3 x4 y0 y1 y2 y3 y4
  have HP5 := Lib.hid (put5_at ⟨0, 0, 0, 0, 0⟩ u0 u1 u2 u3 u4)
  go_region
  change Exit.then _ _ _ _ ((put5 W2 w.heap.size ⟨0, 0, 0, 0, 0⟩).drew)
  obtain ⟨p0, p1, p2, p3, p4⟩ := HP5.out
  have g0 : ((put5 W2 w.heap.size ⟨0, 0, 0, 0, 0⟩).drew).cell? ⟨w.heap.size, 0, none⟩ = some (.int .i64 0) := drew_cell p0
  have g1 : ((put5 W2 w.heap.size ⟨0, 0, 0, 0, 0⟩).drew).cell? ⟨w.heap.size, 1, none⟩ = some (.int .i64 0) := drew_cell p1
  have g2 : ((put5 W2 w.heap.size ⟨0, 0, 0, 0, 0⟩).drew).cell? ⟨w.heap.size, 2, none⟩ = some (.int .i64 0) := drew_cell p2
  have g3 : ((put5 W2 w.heap.size ⟨0, 0, 0, 0, 0⟩).drew).cell? ⟨w.heap.size, 3, none⟩ = some (.int .i64 0) := drew_cell p3
  have g4 : ((put5 W2 w.heap.size ⟨0, 0, 0, 0, 0⟩).drew).cell? ⟨w.heap.size, 4, none⟩ = some (.int .i64 0) := drew_cell p4
  have hb9 : Below w.heap.size w ((put5 W2 w.heap.size ⟨0, 0, 0, 0, 0⟩).drew) := drewR (put5_below _ hb5 (Nat.le_refl _))
  generalize (put5 W2 w.heap.size ⟨0, 0, 0, 0, 0⟩).drew = W9 at g0 g1 g2 g3 g4 hb9 ⊢
  clear p0 p1 p2 p3 p4 u0 u1 u2 u3 u4 f0 f1 f2 f3 f4 t0 t1 t2 t3 t4
  go_wp2
  exact bodyPost_ret (v := .tuple #[aggP ⟨0, 0, 0, 0, 0⟩, .bool false, .int .i64 0]) (by simp [results, Try.results21, go_sem, g0, g1, g2, g3, g4]) rfl ⟨rfl, hb9⟩

set_option maxRecDepth 100000 in
set_option maxHeartbeats 1000000 in
theorem Find_a {w : World} {A : Option Addr} {n c : Nat} {zs : List Plc} (h : Tab w A n c zs) (v t : Int) (hX : chkF zs v t t = 0) (pa pz pv pk pn : Int) (ha : ¬ pa = 0) (hf : (fnd zs v t).getD zeroP = ⟨pa, pz, pv, pk, pn⟩) :
    Calls Try.prog 21 #[.slice A n c, .int .i64 v, .int .i64 t] w fun e w' => e = .returned (.tuple #[aggP ⟨pa, pz, pv, pk, pn⟩, .bool true, .int .i64 0]) ∧ Below w.heap.size w w' := by
  have HC := Lib.hid (fun w1 (hb : Below w.heap.size w w1) => hX ▸ check_tab (h.below hb) v t t)
  have HF := Lib.hid (fun w1 (hb : Below w.heap.size w w1) => hf ▸ find_tab (h.below hb) v t (zero_le_chk hX))
  clear h hX hf
  go_enter Try.func21, Try.ntmps21
  go_wp2_with fail
  generalize hW : World.alloc w _ = W0
  have r0 : W0.cell? ⟨w.heap.size, 0, none⟩ = some (.int .i64 0) := by rw [← hW]; simp [go_sem]
  have r1 : W0.cell? ⟨w.heap.size, 1, none⟩ = some (.int .i64 0) := by rw [← hW]; simp [go_sem]
  have r2 : W0.cell? ⟨w.heap.size, 2, none⟩ = some (.int .i64 0) := by rw [← hW]; simp [go_sem]
  have r3 : W0.cell? ⟨w.heap.size, 3, none⟩ = some (.int .i64 0) := by rw [← hW]; simp [go_sem]
  have r4 : W0.cell? ⟨w.heap.size, 4, none⟩ = some (.int .i64 0) := by rw [← hW]; simp [go_sem]
  have s0 : W0.frozen? ⟨w.heap.size, 0, none⟩ = false := by rw [← hW]; exact new_free _ _ _ _
  have s1 : W0.frozen? ⟨w.heap.size, 1, none⟩ = false := by rw [← hW]; exact new_free _ _ _ _
  have s2 : W0.frozen? ⟨w.heap.size, 2, none⟩ = false := by rw [← hW]; exact new_free _ _ _ _
  have s3 : W0.frozen? ⟨w.heap.size, 3, none⟩ = false := by rw [← hW]; exact new_free _ _ _ _
  have s4 : W0.frozen? ⟨w.heap.size, 4, none⟩ = false := by rw [← hW]; exact new_free _ _ _ _
  have hb0 : Below w.heap.size w W0 := by rw [← hW]; exact (Below.refl _ _).alloc (Nat.le_refl _) _
  have sz0 : w.heap.size < W0.heap.size := by rw [← hW]; simp
  have R0 := Lib.hid r0
  have R1 := Lib.hid r1
  have R2 := Lib.hid r2
  have R3 := Lib.hid r3
  have R4 := Lib.hid r4
  have S0 := Lib.hid s0
  have S1 := Lib.hid s1
  have S2 := Lib.hid s2
  have S3 := Lib.hid s3
  have S4 := Lib.hid s4
  clear hW r0 r1 r2 r3 r4 s0 s1 s2 s3 s4
  refine (HC.out _ hb0).mono ?_
  rintro e w1 ⟨rfl, hb1⟩
  have hbw := hb0.trans (hb1.mono hb0.size)
  go_wp2_with fail
  refine (HF.out _ hbw).mono ?_
  rintro e w2 ⟨rfl, hb2⟩
  have hbz := hb1.trans (hb2.mono hb1.size)
  have hbw := hb0.trans (hbz.mono hb0.size)
  have x0 := (hbz.cell (p := ⟨w.heap.size, 0, none⟩) sz0).trans R0.out
  have y0 := (hbz.frozen (p := ⟨w.heap.size, 0, none⟩) sz0).trans S0.out
  have x1 := (hbz.cell (p := ⟨w.heap.size, 1, none⟩) sz0).trans R1.out
  have y1 := (hbz.frozen (p := ⟨w.heap.size, 1, none⟩) sz0).trans S1.out
  have x2 := (hbz.cell (p := ⟨w.heap.size, 2, none⟩) sz0).trans R2.out
  have y2 := (hbz.frozen (p := ⟨w.heap.size, 2, none⟩) sz0).trans S2.out
  have x3 := (hbz.cell (p := ⟨w.heap.size, 3, none⟩) sz0).trans R3.out
  have y3 := (hbz.frozen (p := ⟨w.heap.size, 3, none⟩) sz0).trans S3.out
  have x4 := (hbz.cell (p := ⟨w.heap.size, 4, none⟩) sz0).trans R4.out
  have y4 := (hbz.frozen (p := ⟨w.heap.size, 4, none⟩) sz0).trans S4.out
  go_wp2
  generalize hW : World.alloc w2 _ = W2
  have t0 : W2.cell? ⟨w2.heap.size, 0, none⟩ = some (.int .i64 pa) := by rw [← hW]; simp [go_sem]
  have t1 : W2.cell? ⟨w2.heap.size, 1, none⟩ = some (.int .i64 pz) := by rw [← hW]; simp [go_sem]
  have t2 : W2.cell? ⟨w2.heap.size, 2, none⟩ = some (.int .i64 pv) := by rw [← hW]; simp [go_sem]
  have t3 : W2.cell? ⟨w2.heap.size, 3, none⟩ = some (.int .i64 pk) := by rw [← hW]; simp [go_sem]
  have t4 : W2.cell? ⟨w2.heap.size, 4, none⟩ = some (.int .i64 pn) := by rw [← hW]; simp [go_sem]
  have hb4 : Below w2.heap.size w2 W2 := by rw [← hW]; exact (Below.refl _ _).alloc (Nat.le_refl _) _
  have u0 := keep_cell hb4 (Nat.lt_of_lt_of_le sz0 hbz.size) x0
  have u1 := keep_cell hb4 (Nat.lt_of_lt_of_le sz0 hbz.size) x1
  have u2 := keep_cell hb4 (Nat.lt_of_lt_of_le sz0 hbz.size) x2
  have u3 := keep_cell hb4 (Nat.lt_of_lt_of_le sz0 hbz.size) x3
  have u4 := keep_cell hb4 (Nat.lt_of_lt_of_le sz0 hbz.size) x4
  have f0 := (hb4.frozen (p := ⟨w.heap.size, 0, none⟩) (Nat.lt_of_lt_of_le sz0 hbz.size)).trans y0
  have f1 := (hb4.frozen (p := ⟨w.heap.size, 1, none⟩) (Nat.lt_of_lt_of_le sz0 hbz.size)).trans y1
  have f2 := (hb4.frozen (p := ⟨w.heap.size, 2, none⟩) (Nat.lt_of_lt_of_le sz0 hbz.size)).trans y2
  have f3 := (hb4.frozen (p := ⟨w.heap.size, 3, none⟩) (Nat.lt_of_lt_of_le sz0 hbz.size)).trans y3
  have f4 := (hb4.frozen (p := ⟨w.heap.size, 4, none⟩) (Nat.lt_of_lt_of_le sz0 hbz.size)).trans y4
  have hb5 := hbw.trans (hb4.mono hbw.size)
  have hlt2 := Nat.lt_of_lt_of_le sz0 hbz.size
  have hne1 : ¬ w.heap.size = w2.heap.size := by omega
  have hne2 : ¬ w2.heap.size = w.heap.size := by omega
  clear hW x0 x1 x2 x3 x4 y0 y1 y2 y3 y4
  have HP5 := Lib.hid (put5_at ⟨pa, pz, pv, pk, pn⟩ u0 u1 u2 u3 u4)
  go_region
  change Exit.then _ _ _ _ ((put5 W2 w.heap.size ⟨pa, pz, pv, pk, pn⟩).drew)
  obtain ⟨p0, p1, p2, p3, p4⟩ := HP5.out
  have g0 : ((put5 W2 w.heap.size ⟨pa, pz, pv, pk, pn⟩).drew).cell? ⟨w.heap.size, 0, none⟩ = some (.int .i64 pa) := drew_cell p0
  have g1 : ((put5 W2 w.heap.size ⟨pa, pz, pv, pk, pn⟩).drew).cell? ⟨w.heap.size, 1, none⟩ = some (.int .i64 pz) := drew_cell p1
  have g2 : ((put5 W2 w.heap.size ⟨pa, pz, pv, pk, pn⟩).drew).cell? ⟨w.heap.size, 2, none⟩ = some (.int .i64 pv) := drew_cell p2
  have g3 : ((put5 W2 w.heap.size ⟨pa, pz, pv, pk, pn⟩).drew).cell? ⟨w.heap.size, 3, none⟩ = some (.int .i64 pk) := drew_cell p3
  have g4 : ((put5 W2 w.heap.size ⟨pa, pz, pv, pk, pn⟩).drew).cell? ⟨w.heap.size, 4, none⟩ = some (.int .i64 pn) := drew_cell p4
  have hb9 : Below w.heap.size w ((put5 W2 w.heap.size ⟨pa, pz, pv, pk, pn⟩).drew) := drewR (put5_below _ hb5 (Nat.le_refl _))
  generalize (put5 W2 w.heap.size ⟨pa, pz, pv, pk, pn⟩).drew = W9 at g0 g1 g2 g3 g4 hb9 ⊢
  clear p0 p1 p2 p3 p4 u0 u1 u2 u3 u4 f0 f1 f2 f3 f4 t0 t1 t2 t3 t4
  go_wp2
  exact bodyPost_ret (v := .tuple #[aggP ⟨pa, pz, pv, pk, pn⟩, .bool true, .int .i64 0]) (by simp [results, Try.results21, go_sem, g0, g1, g2, g3, g4]) rfl ⟨rfl, hb9⟩

set_option maxRecDepth 100000 in
set_option maxHeartbeats 1000000 in
theorem Find_z {w : World} {A : Option Addr} {n c : Nat} {zs : List Plc} (h : Tab w A n c zs) (v t : Int) (hX : chkF zs v t t = 0) (pz pv pk pn : Int) (ha : ¬ pz = 0) (hf : (fnd zs v t).getD zeroP = ⟨0, pz, pv, pk, pn⟩) :
    Calls Try.prog 21 #[.slice A n c, .int .i64 v, .int .i64 t] w fun e w' => e = .returned (.tuple #[aggP ⟨0, pz, pv, pk, pn⟩, .bool true, .int .i64 0]) ∧ Below w.heap.size w w' := by
  have HC := Lib.hid (fun w1 (hb : Below w.heap.size w w1) => hX ▸ check_tab (h.below hb) v t t)
  have HF := Lib.hid (fun w1 (hb : Below w.heap.size w w1) => hf ▸ find_tab (h.below hb) v t (zero_le_chk hX))
  clear h hX hf
  go_enter Try.func21, Try.ntmps21
  go_wp2_with fail
  generalize hW : World.alloc w _ = W0
  have r0 : W0.cell? ⟨w.heap.size, 0, none⟩ = some (.int .i64 0) := by rw [← hW]; simp [go_sem]
  have r1 : W0.cell? ⟨w.heap.size, 1, none⟩ = some (.int .i64 0) := by rw [← hW]; simp [go_sem]
  have r2 : W0.cell? ⟨w.heap.size, 2, none⟩ = some (.int .i64 0) := by rw [← hW]; simp [go_sem]
  have r3 : W0.cell? ⟨w.heap.size, 3, none⟩ = some (.int .i64 0) := by rw [← hW]; simp [go_sem]
  have r4 : W0.cell? ⟨w.heap.size, 4, none⟩ = some (.int .i64 0) := by rw [← hW]; simp [go_sem]
  have s0 : W0.frozen? ⟨w.heap.size, 0, none⟩ = false := by rw [← hW]; exact new_free _ _ _ _
  have s1 : W0.frozen? ⟨w.heap.size, 1, none⟩ = false := by rw [← hW]; exact new_free _ _ _ _
  have s2 : W0.frozen? ⟨w.heap.size, 2, none⟩ = false := by rw [← hW]; exact new_free _ _ _ _
  have s3 : W0.frozen? ⟨w.heap.size, 3, none⟩ = false := by rw [← hW]; exact new_free _ _ _ _
  have s4 : W0.frozen? ⟨w.heap.size, 4, none⟩ = false := by rw [← hW]; exact new_free _ _ _ _
  have hb0 : Below w.heap.size w W0 := by rw [← hW]; exact (Below.refl _ _).alloc (Nat.le_refl _) _
  have sz0 : w.heap.size < W0.heap.size := by rw [← hW]; simp
  have R0 := Lib.hid r0
  have R1 := Lib.hid r1
  have R2 := Lib.hid r2
  have R3 := Lib.hid r3
  have R4 := Lib.hid r4
  have S0 := Lib.hid s0
  have S1 := Lib.hid s1
  have S2 := Lib.hid s2
  have S3 := Lib.hid s3
  have S4 := Lib.hid s4
  clear hW r0 r1 r2 r3 r4 s0 s1 s2 s3 s4
  refine (HC.out _ hb0).mono ?_
  rintro e w1 ⟨rfl, hb1⟩
  have hbw := hb0.trans (hb1.mono hb0.size)
  go_wp2_with fail
  refine (HF.out _ hbw).mono ?_
  rintro e w2 ⟨rfl, hb2⟩
  have hbz := hb1.trans (hb2.mono hb1.size)
  have hbw := hb0.trans (hbz.mono hb0.size)
  have x0 := (hbz.cell (p := ⟨w.heap.size, 0, none⟩) sz0).trans R0.out
  have y0 := (hbz.frozen (p := ⟨w.heap.size, 0, none⟩) sz0).trans S0.out
  have x1 := (hbz.cell (p := ⟨w.heap.size, 1, none⟩) sz0).trans R1.out
  have y1 := (hbz.frozen (p := ⟨w.heap.size, 1, none⟩) sz0).trans S1.out
  have x2 := (hbz.cell (p := ⟨w.heap.size, 2, none⟩) sz0).trans R2.out
  have y2 := (hbz.frozen (p := ⟨w.heap.size, 2, none⟩) sz0).trans S2.out
  have x3 := (hbz.cell (p := ⟨w.heap.size, 3, none⟩) sz0).trans R3.out
  have y3 := (hbz.frozen (p := ⟨w.heap.size, 3, none⟩) sz0).trans S3.out
  have x4 := (hbz.cell (p := ⟨w.heap.size, 4, none⟩) sz0).trans R4.out
  have y4 := (hbz.frozen (p := ⟨w.heap.size, 4, none⟩) sz0).trans S4.out
  go_wp2
  generalize hW : World.alloc w2 _ = W2
  have t0 : W2.cell? ⟨w2.heap.size, 0, none⟩ = some (.int .i64 0) := by rw [← hW]; simp [go_sem]
  have t1 : W2.cell? ⟨w2.heap.size, 1, none⟩ = some (.int .i64 pz) := by rw [← hW]; simp [go_sem]
  have t2 : W2.cell? ⟨w2.heap.size, 2, none⟩ = some (.int .i64 pv) := by rw [← hW]; simp [go_sem]
  have t3 : W2.cell? ⟨w2.heap.size, 3, none⟩ = some (.int .i64 pk) := by rw [← hW]; simp [go_sem]
  have t4 : W2.cell? ⟨w2.heap.size, 4, none⟩ = some (.int .i64 pn) := by rw [← hW]; simp [go_sem]
  have hb4 : Below w2.heap.size w2 W2 := by rw [← hW]; exact (Below.refl _ _).alloc (Nat.le_refl _) _
  have u0 := keep_cell hb4 (Nat.lt_of_lt_of_le sz0 hbz.size) x0
  have u1 := keep_cell hb4 (Nat.lt_of_lt_of_le sz0 hbz.size) x1
  have u2 := keep_cell hb4 (Nat.lt_of_lt_of_le sz0 hbz.size) x2
  have u3 := keep_cell hb4 (Nat.lt_of_lt_of_le sz0 hbz.size) x3
  have u4 := keep_cell hb4 (Nat.lt_of_lt_of_le sz0 hbz.size) x4
  have f0 := (hb4.frozen (p := ⟨w.heap.size, 0, none⟩) (Nat.lt_of_lt_of_le sz0 hbz.size)).trans y0
  have f1 := (hb4.frozen (p := ⟨w.heap.size, 1, none⟩) (Nat.lt_of_lt_of_le sz0 hbz.size)).trans y1
  have f2 := (hb4.frozen (p := ⟨w.heap.size, 2, none⟩) (Nat.lt_of_lt_of_le sz0 hbz.size)).trans y2
  have f3 := (hb4.frozen (p := ⟨w.heap.size, 3, none⟩) (Nat.lt_of_lt_of_le sz0 hbz.size)).trans y3
  have f4 := (hb4.frozen (p := ⟨w.heap.size, 4, none⟩) (Nat.lt_of_lt_of_le sz0 hbz.size)).trans y4
  have hb5 := hbw.trans (hb4.mono hbw.size)
  have hlt2 := Nat.lt_of_lt_of_le sz0 hbz.size
  have hne1 : ¬ w.heap.size = w2.heap.size := by omega
  have hne2 : ¬ w2.heap.size = w.heap.size := by omega
  clear hW x0 x1 x2 x3 x4 y0 y1 y2 y3 y4
  have HP5 := Lib.hid (put5_at ⟨0, pz, pv, pk, pn⟩ u0 u1 u2 u3 u4)
  go_region
  change Exit.then _ _ _ _ ((put5 W2 w.heap.size ⟨0, pz, pv, pk, pn⟩).drew)
  obtain ⟨p0, p1, p2, p3, p4⟩ := HP5.out
  have g0 : ((put5 W2 w.heap.size ⟨0, pz, pv, pk, pn⟩).drew).cell? ⟨w.heap.size, 0, none⟩ = some (.int .i64 0) := drew_cell p0
  have g1 : ((put5 W2 w.heap.size ⟨0, pz, pv, pk, pn⟩).drew).cell? ⟨w.heap.size, 1, none⟩ = some (.int .i64 pz) := drew_cell p1
  have g2 : ((put5 W2 w.heap.size ⟨0, pz, pv, pk, pn⟩).drew).cell? ⟨w.heap.size, 2, none⟩ = some (.int .i64 pv) := drew_cell p2
  have g3 : ((put5 W2 w.heap.size ⟨0, pz, pv, pk, pn⟩).drew).cell? ⟨w.heap.size, 3, none⟩ = some (.int .i64 pk) := drew_cell p3
  have g4 : ((put5 W2 w.heap.size ⟨0, pz, pv, pk, pn⟩).drew).cell? ⟨w.heap.size, 4, none⟩ = some (.int .i64 pn) := drew_cell p4
  have hb9 : Below w.heap.size w ((put5 W2 w.heap.size ⟨0, pz, pv, pk, pn⟩).drew) := drewR (put5_below _ hb5 (Nat.le_refl _))
  generalize (put5 W2 w.heap.size ⟨0, pz, pv, pk, pn⟩).drew = W9 at g0 g1 g2 g3 g4 hb9 ⊢
  clear p0 p1 p2 p3 p4 u0 u1 u2 u3 u4 f0 f1 f2 f3 f4 t0 t1 t2 t3 t4
  go_wp2
  exact bodyPost_ret (v := .tuple #[aggP ⟨0, pz, pv, pk, pn⟩, .bool true, .int .i64 0]) (by simp [results, Try.results21, go_sem, g0, g1, g2, g3, g4]) rfl ⟨rfl, hb9⟩

theorem Find_tab {w : World} {A : Option Addr} {n c : Nat} {zs : List Plc} (h : Tab w A n c zs) (v t : Int) :
    Calls Try.prog 21 #[.slice A n c, .int .i64 v, .int .i64 t] w fun e w' => e = .returned (.tuple #[aggP (fP zs v t), .bool (fB zs v t), .int .i64 (chkF zs v t t)]) ∧ Below w.heap.size w w' := by
  by_cases hX : chkF zs v t t = 0
  · rw [fP_good hX, fB_good hX, hX]
    cases hf : fnd zs v t with
    | none => exact Find_zero h v t hX (by rw [hf]; rfl)
    | some p =>
      obtain ⟨k, hk, rfl, _⟩ := fnd_some hf
      have hp := (okAt_place (okAll_at (valF_ok (chk_ok hX).1).2 hk))
      have hlt := ok_place (zs := zs) (n := zs.length) (fun j hj => okAll_at (valF_ok (chk_ok hX).1).2 hj) hk
      generalize zs[k]! = p at hf hlt
      obtain ⟨pa, pz, pv, pk, pn⟩ := p
      by_cases ha : pa = 0
      · subst ha
        exact Find_z h v t hX pz pv pk pn (by simp at hlt; omega) (by rw [hf]; rfl)
      · exact Find_a h v t hX pa pz pv pk pn ha (by rw [hf]; rfl)
  · rw [fP_bad hX, fB_bad hX]
    exact Find_bad h v t hX

set_option maxRecDepth 100000 in
set_option maxHeartbeats 1000000 in
theorem refFind_bad {w : World} {A : Option Addr} {n c : Nat} {zs : List Plc} (h : Tab w A n c zs) (v t : Int) (hX : chkF zs v t t ≠ 0) :
    Calls Try.prog 22 #[.slice A n c, .int .i64 v, .int .i64 t] w fun e w' => e = .returned (.tuple #[aggP zeroP, .bool false, .int .i64 (chkF zs v t t)]) ∧ Below w.heap.size w w' := by
  by_cases hV : valF zs = 0
  · have hE : chkF zs v t t = 1 := by
      rcases Bool.eq_false_or_eq_true (inB v 0 63 && inB t 0 32768 && inB t 0 32768 && decide (t ≤ t)) with h2 | h2
      · exact absurd (chk_yes hV h2) hX
      · exact chk_no hV h2
    rw [hE]
    have HC := Lib.hid (fun w1 (hb : Below w.heap.size w w1) => hV ▸ refValidate_tab (h.below hb))
    have h2 : (inB v 0 63 && inB t 0 32768) = false := by
      rcases Bool.eq_false_or_eq_true (inB v 0 63 && inB t 0 32768) with h2 | h2
      · exact absurd (chk_yes (x := t) (y := t) hV (by rw [h2]; simp at h2; rw [h2.2]; simp)) hX
      · exact h2
    clear h hX hE hV
    cases hA : inB v 0 63
    · have HA := Lib.hid hA
      clear hA h2
      go_enter Try.func22, Try.ntmps22
      go_wp2_with fail
      generalize hW : World.alloc w _ = W0
      have r0 : W0.cell? ⟨w.heap.size, 0, none⟩ = some (.int .i64 0) := by rw [← hW]; simp [go_sem]
      have r1 : W0.cell? ⟨w.heap.size, 1, none⟩ = some (.int .i64 0) := by rw [← hW]; simp [go_sem]
      have r2 : W0.cell? ⟨w.heap.size, 2, none⟩ = some (.int .i64 0) := by rw [← hW]; simp [go_sem]
      have r3 : W0.cell? ⟨w.heap.size, 3, none⟩ = some (.int .i64 0) := by rw [← hW]; simp [go_sem]
      have r4 : W0.cell? ⟨w.heap.size, 4, none⟩ = some (.int .i64 0) := by rw [← hW]; simp [go_sem]
      have s0 : W0.frozen? ⟨w.heap.size, 0, none⟩ = false := by rw [← hW]; exact new_free _ _ _ _
      have s1 : W0.frozen? ⟨w.heap.size, 1, none⟩ = false := by rw [← hW]; exact new_free _ _ _ _
      have s2 : W0.frozen? ⟨w.heap.size, 2, none⟩ = false := by rw [← hW]; exact new_free _ _ _ _
      have s3 : W0.frozen? ⟨w.heap.size, 3, none⟩ = false := by rw [← hW]; exact new_free _ _ _ _
      have s4 : W0.frozen? ⟨w.heap.size, 4, none⟩ = false := by rw [← hW]; exact new_free _ _ _ _
      have hb0 : Below w.heap.size w W0 := by rw [← hW]; exact (Below.refl _ _).alloc (Nat.le_refl _) _
      have sz0 : w.heap.size < W0.heap.size := by rw [← hW]; simp
      have R0 := Lib.hid r0
      have R1 := Lib.hid r1
      have R2 := Lib.hid r2
      have R3 := Lib.hid r3
      have R4 := Lib.hid r4
      have S0 := Lib.hid s0
      have S1 := Lib.hid s1
      have S2 := Lib.hid s2
      have S3 := Lib.hid s3
      have S4 := Lib.hid s4
      clear hW r0 r1 r2 r3 r4 s0 s1 s2 s3 s4
      refine (HC.out _ hb0).mono ?_
      rintro e w1 ⟨rfl, hb1⟩
      have hbw := hb0.trans (hb1.mono hb0.size)
      have x0 := (hb1.cell (p := ⟨w.heap.size, 0, none⟩) sz0).trans R0.out
      have y0 := (hb1.frozen (p := ⟨w.heap.size, 0, none⟩) sz0).trans S0.out
      have x1 := (hb1.cell (p := ⟨w.heap.size, 1, none⟩) sz0).trans R1.out
      have y1 := (hb1.frozen (p := ⟨w.heap.size, 1, none⟩) sz0).trans S1.out
      have x2 := (hb1.cell (p := ⟨w.heap.size, 2, none⟩) sz0).trans R2.out
      have y2 := (hb1.frozen (p := ⟨w.heap.size, 2, none⟩) sz0).trans S2.out
      have x3 := (hb1.cell (p := ⟨w.heap.size, 3, none⟩) sz0).trans R3.out
      have y3 := (hb1.frozen (p := ⟨w.heap.size, 3, none⟩) sz0).trans S3.out
      have x4 := (hb1.cell (p := ⟨w.heap.size, 4, none⟩) sz0).trans R4.out
      have y4 := (hb1.frozen (p := ⟨w.heap.size, 4, none⟩) sz0).trans S4.out
      have hp5 := put5_at zeroP x0 x1 x2 x3 x4
      have hpb := put5_below zeroP hbw (Nat.le_refl _)
      have HP5 := Lib.hid hp5
      clear hp5
      go_wp2_with (go_at_call 41; ((with_reducible refine (within_at v 0 63 _ _ HA.out).mono ?_); rintro e w' ⟨rfl, rfl⟩))
      obtain ⟨p0, p1, p2, p3, p4⟩ := HP5.out
      change bodyPost _ _ _ _ _ (put5 _ _ zeroP)
      exact bodyPost_ret (v := .tuple #[aggP zeroP, .bool false, .int .i64 1]) (by simp [results, Try.results22, go_sem, p0, p1, p2, p3, p4]) rfl ⟨rfl, hpb⟩
    · have HA := Lib.hid hA
      have HB := Lib.hid (show inB t 0 32768 = false by rw [hA] at h2; simpa using h2)
      clear hA h2
      go_enter Try.func22, Try.ntmps22
      go_wp2_with fail
      generalize hW : World.alloc w _ = W0
      have r0 : W0.cell? ⟨w.heap.size, 0, none⟩ = some (.int .i64 0) := by rw [← hW]; simp [go_sem]
      have r1 : W0.cell? ⟨w.heap.size, 1, none⟩ = some (.int .i64 0) := by rw [← hW]; simp [go_sem]
      have r2 : W0.cell? ⟨w.heap.size, 2, none⟩ = some (.int .i64 0) := by rw [← hW]; simp [go_sem]
      have r3 : W0.cell? ⟨w.heap.size, 3, none⟩ = some (.int .i64 0) := by rw [← hW]; simp [go_sem]
      have r4 : W0.cell? ⟨w.heap.size, 4, none⟩ = some (.int .i64 0) := by rw [← hW]; simp [go_sem]
      have s0 : W0.frozen? ⟨w.heap.size, 0, none⟩ = false := by rw [← hW]; exact new_free _ _ _ _
      have s1 : W0.frozen? ⟨w.heap.size, 1, none⟩ = false := by rw [← hW]; exact new_free _ _ _ _
      have s2 : W0.frozen? ⟨w.heap.size, 2, none⟩ = false := by rw [← hW]; exact new_free _ _ _ _
      have s3 : W0.frozen? ⟨w.heap.size, 3, none⟩ = false := by rw [← hW]; exact new_free _ _ _ _
      have s4 : W0.frozen? ⟨w.heap.size, 4, none⟩ = false := by rw [← hW]; exact new_free _ _ _ _
      have hb0 : Below w.heap.size w W0 := by rw [← hW]; exact (Below.refl _ _).alloc (Nat.le_refl _) _
      have sz0 : w.heap.size < W0.heap.size := by rw [← hW]; simp
      have R0 := Lib.hid r0
      have R1 := Lib.hid r1
      have R2 := Lib.hid r2
      have R3 := Lib.hid r3
      have R4 := Lib.hid r4
      have S0 := Lib.hid s0
      have S1 := Lib.hid s1
      have S2 := Lib.hid s2
      have S3 := Lib.hid s3
      have S4 := Lib.hid s4
      clear hW r0 r1 r2 r3 r4 s0 s1 s2 s3 s4
      refine (HC.out _ hb0).mono ?_
      rintro e w1 ⟨rfl, hb1⟩
      have hbw := hb0.trans (hb1.mono hb0.size)
      have x0 := (hb1.cell (p := ⟨w.heap.size, 0, none⟩) sz0).trans R0.out
      have y0 := (hb1.frozen (p := ⟨w.heap.size, 0, none⟩) sz0).trans S0.out
      have x1 := (hb1.cell (p := ⟨w.heap.size, 1, none⟩) sz0).trans R1.out
      have y1 := (hb1.frozen (p := ⟨w.heap.size, 1, none⟩) sz0).trans S1.out
      have x2 := (hb1.cell (p := ⟨w.heap.size, 2, none⟩) sz0).trans R2.out
      have y2 := (hb1.frozen (p := ⟨w.heap.size, 2, none⟩) sz0).trans S2.out
      have x3 := (hb1.cell (p := ⟨w.heap.size, 3, none⟩) sz0).trans R3.out
      have y3 := (hb1.frozen (p := ⟨w.heap.size, 3, none⟩) sz0).trans S3.out
      have x4 := (hb1.cell (p := ⟨w.heap.size, 4, none⟩) sz0).trans R4.out
      have y4 := (hb1.frozen (p := ⟨w.heap.size, 4, none⟩) sz0).trans S4.out
      have hp5 := put5_at zeroP x0 x1 x2 x3 x4
      have hpb := put5_below zeroP hbw (Nat.le_refl _)
      have HP5 := Lib.hid hp5
      clear hp5
      go_wp2_with (first | (go_at_call 41; ((with_reducible refine (within_at v 0 63 _ _ HA.out).mono ?_); rintro e w' ⟨rfl, rfl⟩)) | (go_at_call 41; ((with_reducible refine (within_at t 0 32768 _ _ HB.out).mono ?_); rintro e w' ⟨rfl, rfl⟩)))
      obtain ⟨p0, p1, p2, p3, p4⟩ := HP5.out
      change bodyPost _ _ _ _ _ (put5 _ _ zeroP)
      exact bodyPost_ret (v := .tuple #[aggP zeroP, .bool false, .int .i64 1]) (by simp [results, Try.results22, go_sem, p0, p1, p2, p3, p4]) rfl ⟨rfl, hpb⟩
  · rw [chk_val hV]
    obtain ⟨X, hX'⟩ : ∃ X, X = valF zs := ⟨_, rfl⟩
    have HC := Lib.hid (fun w1 (hb : Below w.heap.size w w1) => refValidate_tab (h.below hb))
    rw [← hX'] at hV HC ⊢
    clear hX' h hX
    have dX : (X != 0) = true := by simp [hV]
    go_enter Try.func22, Try.ntmps22
    go_wp2_with fail
    generalize hW : World.alloc w _ = W0
    have r0 : W0.cell? ⟨w.heap.size, 0, none⟩ = some (.int .i64 0) := by rw [← hW]; simp [go_sem]
    have r1 : W0.cell? ⟨w.heap.size, 1, none⟩ = some (.int .i64 0) := by rw [← hW]; simp [go_sem]
    have r2 : W0.cell? ⟨w.heap.size, 2, none⟩ = some (.int .i64 0) := by rw [← hW]; simp [go_sem]
    have r3 : W0.cell? ⟨w.heap.size, 3, none⟩ = some (.int .i64 0) := by rw [← hW]; simp [go_sem]
    have r4 : W0.cell? ⟨w.heap.size, 4, none⟩ = some (.int .i64 0) := by rw [← hW]; simp [go_sem]
    have s0 : W0.frozen? ⟨w.heap.size, 0, none⟩ = false := by rw [← hW]; exact new_free _ _ _ _
    have s1 : W0.frozen? ⟨w.heap.size, 1, none⟩ = false := by rw [← hW]; exact new_free _ _ _ _
    have s2 : W0.frozen? ⟨w.heap.size, 2, none⟩ = false := by rw [← hW]; exact new_free _ _ _ _
    have s3 : W0.frozen? ⟨w.heap.size, 3, none⟩ = false := by rw [← hW]; exact new_free _ _ _ _
    have s4 : W0.frozen? ⟨w.heap.size, 4, none⟩ = false := by rw [← hW]; exact new_free _ _ _ _
    have hb0 : Below w.heap.size w W0 := by rw [← hW]; exact (Below.refl _ _).alloc (Nat.le_refl _) _
    have sz0 : w.heap.size < W0.heap.size := by rw [← hW]; simp
    have R0 := Lib.hid r0
    have R1 := Lib.hid r1
    have R2 := Lib.hid r2
    have R3 := Lib.hid r3
    have R4 := Lib.hid r4
    have S0 := Lib.hid s0
    have S1 := Lib.hid s1
    have S2 := Lib.hid s2
    have S3 := Lib.hid s3
    have S4 := Lib.hid s4
    clear hW r0 r1 r2 r3 r4 s0 s1 s2 s3 s4
    refine (HC.out _ hb0).mono ?_
    rintro e w1 ⟨rfl, hb1⟩
    have hbw := hb0.trans (hb1.mono hb0.size)
    have x0 := (hb1.cell (p := ⟨w.heap.size, 0, none⟩) sz0).trans R0.out
    have y0 := (hb1.frozen (p := ⟨w.heap.size, 0, none⟩) sz0).trans S0.out
    have x1 := (hb1.cell (p := ⟨w.heap.size, 1, none⟩) sz0).trans R1.out
    have y1 := (hb1.frozen (p := ⟨w.heap.size, 1, none⟩) sz0).trans S1.out
    have x2 := (hb1.cell (p := ⟨w.heap.size, 2, none⟩) sz0).trans R2.out
    have y2 := (hb1.frozen (p := ⟨w.heap.size, 2, none⟩) sz0).trans S2.out
    have x3 := (hb1.cell (p := ⟨w.heap.size, 3, none⟩) sz0).trans R3.out
    have y3 := (hb1.frozen (p := ⟨w.heap.size, 3, none⟩) sz0).trans S3.out
    have x4 := (hb1.cell (p := ⟨w.heap.size, 4, none⟩) sz0).trans R4.out
    have y4 := (hb1.frozen (p := ⟨w.heap.size, 4, none⟩) sz0).trans S4.out
    have hp5 := put5_at zeroP x0 x1 x2 x3 x4
    have hpb := put5_below zeroP hbw (Nat.le_refl _)
    have HP5 := Lib.hid hp5
    clear hp5
    go_wp2
    obtain ⟨p0, p1, p2, p3, p4⟩ := HP5.out
    change bodyPost _ _ _ _ _ (put5 _ _ zeroP)
    exact bodyPost_ret (v := .tuple #[aggP zeroP, .bool false, .int .i64 X]) (by simp [results, Try.results22, go_sem, p0, p1, p2, p3, p4]) rfl ⟨by rfl, hpb⟩

theorem put5_size (W : World) (B : Nat) (p : Plc) : (put5 W B p).heap.size = W.heap.size := by simp [put5, World.setCell]
set_option maxRecDepth 100000 in
set_option maxHeartbeats 1000000 in
theorem RefFind_tab {w : World} {A : Option Addr} {n c : Nat} {zs : List Plc} (h : Tab w A n c zs) (v t : Int) :
    Calls Try.prog 22 #[.slice A n c, .int .i64 v, .int .i64 t] w fun e w' => e = .returned (.tuple #[aggP (fP zs v t), .bool (fB zs v t), .int .i64 (chkF zs v t t)]) ∧ Below w.heap.size w w' := by
  by_cases hX : chkF zs v t t = 0
  · rw [fP_good hX, fB_good hX, hX]
    have HC := Lib.hid (fun w1 (hb : Below w.heap.size w w1) => (chk_ok hX).1 ▸ refValidate_tab (h.below hb))
    have HF := Lib.hid (fun w1 (hb : Below w.heap.size w w1) => refFind_tab (h.below hb) v t (zero_le_chk hX))
    have HA := Lib.hid (chk_ok hX).2.1
    have HB := Lib.hid (chk_ok hX).2.2.1
    clear h hX
    generalize (fnd zs v t).getD zeroP = P at HF ⊢
    generalize (fnd zs v t).isSome = B at HF ⊢
    obtain ⟨pa, pz, pv, pk, pn⟩ := P
    go_enter Try.func22, Try.ntmps22
    go_wp2_with fail
    generalize hW : World.alloc w _ = W0
    have r0 : W0.cell? ⟨w.heap.size, 0, none⟩ = some (.int .i64 0) := by rw [← hW]; simp [go_sem]
    have r1 : W0.cell? ⟨w.heap.size, 1, none⟩ = some (.int .i64 0) := by rw [← hW]; simp [go_sem]
    have r2 : W0.cell? ⟨w.heap.size, 2, none⟩ = some (.int .i64 0) := by rw [← hW]; simp [go_sem]
    have r3 : W0.cell? ⟨w.heap.size, 3, none⟩ = some (.int .i64 0) := by rw [← hW]; simp [go_sem]
    have r4 : W0.cell? ⟨w.heap.size, 4, none⟩ = some (.int .i64 0) := by rw [← hW]; simp [go_sem]
    have s0 : W0.frozen? ⟨w.heap.size, 0, none⟩ = false := by rw [← hW]; exact new_free _ _ _ _
    have s1 : W0.frozen? ⟨w.heap.size, 1, none⟩ = false := by rw [← hW]; exact new_free _ _ _ _
    have s2 : W0.frozen? ⟨w.heap.size, 2, none⟩ = false := by rw [← hW]; exact new_free _ _ _ _
    have s3 : W0.frozen? ⟨w.heap.size, 3, none⟩ = false := by rw [← hW]; exact new_free _ _ _ _
    have s4 : W0.frozen? ⟨w.heap.size, 4, none⟩ = false := by rw [← hW]; exact new_free _ _ _ _
    have hb0 : Below w.heap.size w W0 := by rw [← hW]; exact (Below.refl _ _).alloc (Nat.le_refl _) _
    have sz0 : w.heap.size < W0.heap.size := by rw [← hW]; simp
    have R0 := Lib.hid r0
    have R1 := Lib.hid r1
    have R2 := Lib.hid r2
    have R3 := Lib.hid r3
    have R4 := Lib.hid r4
    have S0 := Lib.hid s0
    have S1 := Lib.hid s1
    have S2 := Lib.hid s2
    have S3 := Lib.hid s3
    have S4 := Lib.hid s4
    clear hW r0 r1 r2 r3 r4 s0 s1 s2 s3 s4
    refine (HC.out _ hb0).mono ?_
    rintro e w1 ⟨rfl, hb1⟩
    have hbw := hb0.trans (hb1.mono hb0.size)
    go_wp2_with (first | (go_at_call 41; ((with_reducible refine (within_at v 0 63 _ _ HA.out).mono ?_); rintro e w' ⟨rfl, rfl⟩)) | (go_at_call 41; ((with_reducible refine (within_at t 0 32768 _ _ HB.out).mono ?_); rintro e w' ⟨rfl, rfl⟩)) | (go_at_call 42; fail))
    refine (HF.out _ hbw).mono ?_
    rintro e w2 ⟨rfl, hb2⟩
    have hbz := hb1.trans (hb2.mono hb1.size)
    have hbw := hb0.trans (hbz.mono hb0.size)
    have x0 := (hbz.cell (p := ⟨w.heap.size, 0, none⟩) sz0).trans R0.out
    have y0 := (hbz.frozen (p := ⟨w.heap.size, 0, none⟩) sz0).trans S0.out
    have x1 := (hbz.cell (p := ⟨w.heap.size, 1, none⟩) sz0).trans R1.out
    have y1 := (hbz.frozen (p := ⟨w.heap.size, 1, none⟩) sz0).trans S1.out
    have x2 := (hbz.cell (p := ⟨w.heap.size, 2, none⟩) sz0).trans R2.out
    have y2 := (hbz.frozen (p := ⟨w.heap.size, 2, none⟩) sz0).trans S2.out
    have x3 := (hbz.cell (p := ⟨w.heap.size, 3, none⟩) sz0).trans R3.out
    have y3 := (hbz.frozen (p := ⟨w.heap.size, 3, none⟩) sz0).trans S3.out
    have x4 := (hbz.cell (p := ⟨w.heap.size, 4, none⟩) sz0).trans R4.out
    have y4 := (hbz.frozen (p := ⟨w.heap.size, 4, none⟩) sz0).trans S4.out
    have HP5 := Lib.hid (put5_at ⟨pa, pz, pv, pk, pn⟩ x0 x1 x2 x3 x4)
    have hpb := put5_below ⟨pa, pz, pv, pk, pn⟩ hbw (Nat.le_refl _)
    have hlt2 := Nat.lt_of_lt_of_le sz0 hbz.size
    have hsz : (put5 w2 w.heap.size ⟨pa, pz, pv, pk, pn⟩).heap.size = w2.heap.size := put5_size _ _ _
    have hba : Below (put5 w2 w.heap.size ⟨pa, pz, pv, pk, pn⟩).heap.size (put5 w2 w.heap.size ⟨pa, pz, pv, pk, pn⟩) ((put5 w2 w.heap.size ⟨pa, pz, pv, pk, pn⟩).alloc (.cells #[.int .i64 pa, .int .i64 pz, .int .i64 pv, .int .i64 pk, .int .i64 pn] 33)) := (Below.refl _ _).alloc (Nat.le_refl _) _
    have hpb := hpb.trans (hba.mono (by rw [hsz]; omega))
    obtain ⟨p0, p1, p2, p3, p4⟩ := HP5.out
    have HQ := Lib.hid (And.intro (keep_cell hba (by rw [hsz]; omega) p0) (And.intro (keep_cell hba (by rw [hsz]; omega) p1) (And.intro (keep_cell hba (by rw [hsz]; omega) p2) (And.intro (keep_cell hba (by rw [hsz]; omega) p3) (keep_cell hba (by rw [hsz]; omega) p4)))))
    have hne1 : ¬ w.heap.size = w2.heap.size := by omega
    have hne2 : ¬ w2.heap.size = w.heap.size := by omega
    clear hsz hba p0 p1 p2 p3 p4
    go_wp2
    change bodyPost _ _ _ _ _ ((put5 w2 w.heap.size ⟨pa, pz, pv, pk, pn⟩).alloc (.cells #[.int .i64 pa, .int .i64 pz, .int .i64 pv, .int .i64 pk, .int .i64 pn] 33))
    obtain ⟨p0, p1, p2, p3, p4⟩ := HQ.out
    exact bodyPost_ret (v := .tuple #[aggP ⟨pa, pz, pv, pk, pn⟩, .bool B, .int .i64 0]) (by simp only [results, Try.results22]; simp [go_sem, p0, p1, p2, p3, p4]) rfl ⟨rfl, hpb⟩
  · rw [fP_bad hX, fB_bad hX]
    exact refFind_bad h v t hX
end Go.Proofs.Ytdpfglpefncigaa
