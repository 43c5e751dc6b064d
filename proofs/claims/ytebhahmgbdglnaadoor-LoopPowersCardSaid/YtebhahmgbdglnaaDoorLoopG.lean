/-
  The walk of LoopSums.
-/
import Derived.Test.YtebhahmgbdglnaaDoorLoopF
import Derived.StillTailTactics
namespace Go.Proofs.YtebhahmgbdglnaaDoor
open Go.RowKit

theorem box_cell {w w1 : World} {o : Obj} {i : Nat} {v : Value} (h : Way16 (w.alloc o) w1) (hv : (w.alloc o).cell? ⟨w.heap.size, i, none⟩ = some v) : w1.cell? ⟨w.heap.size, i, none⟩ = some v :=
  (h.2.cell (p := ⟨w.heap.size, i, none⟩) (by simp)).trans hv
theorem Masks.drew {w : World} (h : Masks w) : Masks w.drew := fun i hi => by
  have := h i hi
  simpa [go_sem] using this
theorem below_drew {w w1 : World} (h : Below w.drew.heap.size w.drew w1) : Below w.heap.size w w1 := ⟨h.os, h.tape, h.output, h.size, h.block⟩
theorem way_base {w w1 : World} {o : Obj} (h : Way16 (w.alloc o) w1) : Below w.heap.size w w1 :=
  ((Below.refl _ _).alloc (Nat.le_refl _) _).trans (h.2.mono (by simp))
set_option maxHeartbeats 1000000 in
theorem sums_walk (p m : Int) (a b d : Nat) (c : Int) (w : World) (hM : Masks w) (a32 : a < 4294967296) (b32 : b < 4294967296) :
    Calls Tryd.prog 12 #[.agg #[.int .i64 p, .int .i64 m, .int .u32 a, .int .u32 b, .int .u32 d], .int .i64 c] w fun e w' => e = .returned (.bool true) ∧ Below w.heap.size w w' := by
  obtain ⟨o, ho⟩ : ∃ o : Obj, o = .cells #[.int .i64 p, .int .i64 m, .int .u32 a, .int .u32 b, .int .u32 d] 56 := ⟨_, rfl⟩
  have g0 : Way16 (w.alloc o) (w.alloc o) := ⟨hM.alloc o, Below.refl _ _⟩
  have k1 : (w.alloc o).cell? ⟨w.heap.size, 1, none⟩ = some (.int .i64 m) := by rw [ho]; simp [go_sem]
  have k2 : (w.alloc o).cell? ⟨w.heap.size, 2, none⟩ = some (.int .u32 a) := by rw [ho]; simp [go_sem]
  have k3 : (w.alloc o).cell? ⟨w.heap.size, 3, none⟩ = some (.int .u32 b) := by rw [ho]; simp [go_sem]
  have K1 := Lib.hid k1
  have K2 := Lib.hid k2
  have K3 := Lib.hid k3
  clear k1 k2 k3
  by_cases hbad : CntBad m a b c
  · have HB := Lib.hid hbad
    clear hbad
    go_enter Tryd.func12, Tryd.ntmps12
    go_wp2_with fail
    rw [← ho]
    refine (after_err m c a b _ g0.1 HB.out).mono ?_
    rintro e w1 ⟨rfl, hb1⟩
    have g1 := g0.next hb1
    have u1 := box_cell g1 K1.out
    have u2 := box_cell g1 K2.out
    have u3 := box_cell g1 K3.out
    go_wp2_with fail
    refine (refAfter_err m c a b _ a32 b32 HB.out).mono ?_
    rintro e w2 ⟨rfl, hb2⟩
    have g2 := g1.next hb2
    have v1 := box_cell g2 K1.out
    have v2 := box_cell g2 K2.out
    have v3 := box_cell g2 K3.out
    go_wp2_with fail
    refine (total16_err m c a b _ g2.1 HB.out).mono ?_
    rintro e w3 ⟨rfl, hb3⟩
    have g3 := g2.next hb3
    have x1 := box_cell g3 K1.out
    have x2 := box_cell g3 K2.out
    have x3 := box_cell g3 K3.out
    go_wp2_with fail
    refine (refTotal16_err m c a b _ a32 b32 HB.out).mono ?_
    rintro e w4 ⟨rfl, hb4⟩
    have g4 := g3.next hb4
    go_wp2_with fail
    refine (known16_any _ g4.1).mono ?_
    rintro e w5 ⟨rfl, hb5⟩
    go_wp2
    go_ret
    exact ⟨rfl, way_base (g4.next hb5)⟩
  obtain ⟨n, k, rfl, rfl, h1, h2, ha, hb, hk⟩ := cnt_split m c a b hbad
  clear hbad
  obtain ⟨A, hA⟩ : ∃ A, A = aftF n a b k := ⟨_, rfl⟩
  obtain ⟨C, hC⟩ : ∃ C, C = sumS a b k % 18446744073709551616 % pw n := ⟨_, rfl⟩
  have RA := Lib.hid hA
  have RC := Lib.hid hC
  have hp := pw_le h2
  have hCl : C < pw n := by rw [hC]; exact Nat.mod_lt _ (by omega)
  have hAl : A < pw n := by rw [hA]; exact Nat.mod_lt _ (by omega)
  have hmod := sums_mod a b n k h2
  rw [← hC, ← hA] at hmod
  clear hA hC
  by_cases hlast : k = 4294967296
  · have hl : ((k : Int) == 4294967296) = true := by simp [hlast]
    have HK := Lib.hid hk
    clear hlast hmod
    go_enter Tryd.func12, Tryd.ntmps12
    go_wp2_with fail
    rw [← ho]
    refine (after_ok n a b k _ g0.1 h1 h2 ha hb HK.out).mono ?_
    rw [← RA.out]
    rintro e w1 ⟨rfl, hb1⟩
    have g1 := g0.next hb1
    have u1 := box_cell g1 K1.out
    have u2 := box_cell g1 K2.out
    have u3 := box_cell g1 K3.out
    go_wp2_with fail
    refine (refAfter_ok n a b k _ h1 h2 ha hb HK.out).mono ?_
    rw [← RA.out]
    rintro e w2 ⟨rfl, hb2⟩
    have g2 := g1.next hb2
    have v1 := box_cell g2 K1.out
    have v2 := box_cell g2 K2.out
    have v3 := box_cell g2 K3.out
    go_wp2_with fail
    refine (total_ok n a b k _ g2.1 h1 h2 ha hb HK.out).mono ?_
    rw [← RC.out]
    rintro e w3 ⟨rfl, hb3⟩
    have g3 := g2.next hb3
    have x1 := box_cell g3 K1.out
    have x2 := box_cell g3 K2.out
    have x3 := box_cell g3 K3.out
    go_wp2_with fail
    refine (refTotal16_ok n a b k _ h1 h2 ha hb HK.out).mono ?_
    rw [← RC.out]
    rintro e w4 ⟨rfl, hb4⟩
    have g4 := g3.next hb4
    go_wp2_with fail
    refine (known16_any _ g4.1).mono ?_
    rintro e w5 ⟨rfl, hb5⟩
    go_wp2
    go_ret
    exact ⟨rfl, way_base (g4.next hb5)⟩
  · have hl : ((k : Int) == 4294967296) = false := by simp; omega
    have hk1 : k + 1 ≤ 4294967296 := by omega
    have HK := Lib.hid hk
    have HK1 := Lib.hid hk1
    have HC1 := Lib.hid (show (k : Int) + 1 = ((k + 1 : Nat) : Int) by omega)
    obtain ⟨D, hD⟩ : ∃ D, D = sumS a b (k + 1) % 18446744073709551616 % pw n := ⟨_, rfl⟩
    have RD := Lib.hid hD
    have hDl : D < pw n := by rw [hD]; exact Nat.mod_lt _ (by omega)
    rw [← hD] at hmod
    have e2 : (2 : Int) ^ n = (pw n : Int) := by simp [pw]
    have hfin : ((D : Int) % (pw n : Int) == ((C : Int) + (A : Int)) % (pw n : Int)) = true := by
      rw [beq_iff_eq, ← Int.natCast_add, ← Int.natCast_emod, ← Int.natCast_emod, hmod]
    clear hlast hmod hD
    go_enter Tryd.func12, Tryd.ntmps12
    go_wp2_with fail
    rw [← ho]
    refine (after_ok n a b k _ g0.1 h1 h2 ha hb HK.out).mono ?_
    rw [← RA.out]
    rintro e w1 ⟨rfl, hb1⟩
    have g1 := g0.next hb1
    have u1 := box_cell g1 K1.out
    have u2 := box_cell g1 K2.out
    have u3 := box_cell g1 K3.out
    go_wp2_with fail
    refine (refAfter_ok n a b k _ h1 h2 ha hb HK.out).mono ?_
    rw [← RA.out]
    rintro e w2 ⟨rfl, hb2⟩
    have g2 := g1.next hb2
    have v1 := box_cell g2 K1.out
    have v2 := box_cell g2 K2.out
    have v3 := box_cell g2 K3.out
    go_wp2_with fail
    refine (total_ok n a b k _ g2.1 h1 h2 ha hb HK.out).mono ?_
    rw [← RC.out]
    rintro e w3 ⟨rfl, hb3⟩
    have g3 := g2.next hb3
    have x1 := box_cell g3 K1.out
    have x2 := box_cell g3 K2.out
    have x3 := box_cell g3 K3.out
    go_wp2_with fail
    refine (refTotal16_ok n a b k _ h1 h2 ha hb HK.out).mono ?_
    rw [← RC.out]
    rintro e w4 ⟨rfl, hb4⟩
    have g4 := g3.next hb4
    have y1 := box_cell g4 K1.out
    have y2 := box_cell g4 K2.out
    have y3 := box_cell g4 K3.out
    go_wp2_with fail
    rw [HC1.out]
    refine (total_ok n a b (k + 1) _ g4.1 h1 h2 ha hb HK1.out).mono ?_
    rw [← RD.out]
    rintro e w5 ⟨rfl, hb5⟩
    have g5 := g4.next hb5
    have z1 := box_cell g5 K1.out
    go_wp2_with fail
    have wn : IntKind.u64.wrap (n : Int) = (n : Int) := IntWalk.u64_in _ (by omega)
    have wm : min (n : Int).toNat 64 = n := by omega
    have wD : IntKind.u64.wrap (D : Int) = (D : Int) := IntWalk.u64_in _ (by omega)
    have wC : IntKind.u64.wrap (C : Int) = (C : Int) := IntWalk.u64_in _ (by omega)
    have wA : IntKind.u64.wrap (A : Int) = (A : Int) := IntWalk.u64_in _ (by omega)
    have wS : IntKind.u64.wrap ((C : Int) + (A : Int)) = (C : Int) + (A : Int) := IntWalk.u64_in _ (by omega)
    have wp : IntKind.u64.wrap (pw n : Int) = (pw n : Int) := IntWalk.u64_in _ (by omega)
    have wz : ¬ (pw n = 0) := by omega
    have wr1 : (D : Int).tmod (pw n : Int) = (D : Int) % (pw n : Int) := Int.tmod_eq_emod_of_nonneg (by omega)
    have wr2 : ((C : Int) + (A : Int)).tmod (pw n : Int) = ((C : Int) + (A : Int)) % (pw n : Int) := Int.tmod_eq_emod_of_nonneg (by omega)
    have wf : ((D : Int) % (pw n : Int) = ((C : Int) + (A : Int)) % (pw n : Int)) := by simpa using hfin
    go_still_tail 23, (by kernel_rfl)
    change wpList _ _ _ _ _ w5.drew
    have hMd := Masks.drew g5.1
    go_wp2_with fail
    refine (known16_any _ hMd).mono ?_
    rintro e w6 ⟨rfl, hb6⟩
    go_wp2
    go_ret
    exact ⟨rfl, way_base (g5.next (below_drew hb6))⟩
end Go.Proofs.YtebhahmgbdglnaaDoor
