/-
  Bytes in memory; the reader of numbers.
-/
import Derived.Test.YtpekegeohcnhcaaIaI
namespace Go.Proofs.Ytpekegeohcnhcaa
open Go.RowKit

/-- Bytes in memory. -/
def Byt (w : World) (A : Option Addr) (n c : Nat) (l : List Int) : Prop := n = l.length ∧ n ≤ c ∧ c ≤ 9223372036854775807 ∧ (∀ j, j < n → 0 ≤ l[j]! ∧ l[j]! < 256) ∧ (n = 0 ∨ ∃ b off, A = some ⟨b, off, none⟩ ∧ b < w.heap.size ∧ ∀ j, j < n → w.cell? ⟨b, off + j, none⟩ = some (.int .u8 l[j]!))
theorem Byt.at_ {w : World} {A : Option Addr} {n c : Nat} {l : List Int} (h : Byt w A n c l) {j : Nat} (hj : j < n) : ∃ b off, A = some ⟨b, off, none⟩ ∧ b < w.heap.size ∧ w.cell? ⟨b, off + j, none⟩ = some (.int .u8 l[j]!) ∧ 0 ≤ l[j]! ∧ l[j]! < 256 := by
  obtain ⟨h1, h2, h3, h0, h4 | ⟨b, off, h4, h5, h6⟩⟩ := h
  · omega
  · exact ⟨b, off, h4, h5, h6 j hj, h0 j hj⟩
theorem Byt.below {w w' : World} {A : Option Addr} {n c : Nat} {l : List Int} (h : Byt w A n c l) (hb : Below w.heap.size w w') : Byt w' A n c l := by
  obtain ⟨h1, h2, h3, h0, h4 | ⟨b, off, h4, h5, h6⟩⟩ := h
  · exact ⟨h1, h2, h3, h0, .inl h4⟩
  · exact ⟨h1, h2, h3, h0, .inr ⟨b, off, h4, Nat.lt_of_lt_of_le h5 hb.size, fun j hj => (hb.cell (p := ⟨b, off + j, none⟩) h5).trans (h6 j hj)⟩⟩
/-- Bytes below a block. -/
def BytB (R : Nat) (w : World) (A : Option Addr) (n c : Nat) (l : List Int) : Prop := Byt w A n c l ∧ ∀ b off, n ≠ 0 → A = some ⟨b, off, none⟩ → b < R
theorem BytB.below {R : Nat} {w w' : World} {A : Option Addr} {n c : Nat} {l : List Int} (h : BytB R w A n c l) (hb : Below R w w') : BytB R w' A n c l := by
  refine ⟨?_, h.2⟩
  obtain ⟨⟨h1, h2, h3, h0, h4 | ⟨b, off, h4, h5, h6⟩⟩, hR⟩ := h
  · exact ⟨h1, h2, h3, h0, .inl h4⟩
  · by_cases hn : n = 0
    · exact ⟨h1, h2, h3, h0, .inl hn⟩
    · have hbR := hR b off hn h4
      exact ⟨h1, h2, h3, h0, .inr ⟨b, off, h4, Nat.lt_of_lt_of_le h5 hb.size, fun j hj => (hb.cell (p := ⟨b, off + j, none⟩) hbR).trans (h6 j hj)⟩⟩
theorem bt_of {l : List Int} {p : Nat} (h : p < l.length) : bt l p = l[p]! := by
  unfold bt
  simp [List.getD, h]
theorem bt_no {l : List Int} {p : Nat} (h : ¬ p < l.length) : bt l p = 0 := by
  unfold bt
  simp [List.getD, Nat.le_of_not_lt h]
/-- All but one block is as it was. -/
structure KeepI (I : Nat) (w w' : World) : Prop where
  os : w'.os = w.os
  tape : w'.tape = w.tape
  output : w'.output = w.output
  size : w.heap.size ≤ w'.heap.size
  block : ∀ k, k < w.heap.size → k ≠ I → w'.heap[k]? = w.heap[k]?
theorem KeepI.refl (I : Nat) (w : World) : KeepI I w w := ⟨rfl, rfl, rfl, Nat.le_refl _, fun _ _ _ => rfl⟩
theorem KeepI.trans {I : Nat} {a b c : World} (h : KeepI I a b) (h2 : KeepI I b c) : KeepI I a c :=
  ⟨h2.os.trans h.os, h2.tape.trans h.tape, h2.output.trans h.output, Nat.le_trans h.size h2.size, fun k hk hn => (h2.block k (Nat.lt_of_lt_of_le hk h.size) hn).trans (h.block k hk hn)⟩
theorem KeepI.of_below {I : Nat} {a b : World} (h : Below a.heap.size a b) : KeepI I a b := ⟨h.os, h.tape, h.output, h.size, fun k hk _ => h.block k hk⟩
theorem KeepI.below {I B : Nat} {a b : World} (h : KeepI I a b) (h1 : B ≤ I) (h2 : B ≤ a.heap.size) : Below B a b := ⟨h.os, h.tape, h.output, h.size, fun k hk => h.block k (by omega) (by omega)⟩
theorem KeepI.set {I : Nat} {a b : World} (h : KeepI I a b) (o : Nat) (v : Value) : KeepI I a (b.setCell ⟨I, o, none⟩ v) :=
  ⟨h.os, h.tape, h.output, by simpa using h.size, fun k hk hn => (heap_setCell_other b ⟨I, o, none⟩ k v hn).trans (h.block k hk hn)⟩
theorem cells2 {W : World} {P : Nat} {a b : Value} {t : TypeId} (h : W.heap[P]? = some (.cells #[a, b] t (0, 0))) :
    W.cell? ⟨P, 0, none⟩ = some a ∧ W.cell? ⟨P, 1, none⟩ = some b ∧ W.frozen? ⟨P, 0, none⟩ = false ∧ W.frozen? ⟨P, 1, none⟩ = false := by
  refine ⟨?_, ?_, ?_, ?_⟩ <;> simp [World.cell?, World.frozen?, h]
theorem set_at1 {W : World} {R : Nat} {a b : Value} {t : TypeId} (h : W.heap[R]? = some (.cells #[a, b] t (0, 0))) (u : Value) : (W.setCell ⟨R, 1, none⟩ u).heap[R]? = some (.cells #[a, u] t (0, 0)) := by
  rw [heap_setCell_same W R 1 _ t u h]
  rfl
theorem ofInt_nat (a : Nat) (ha : a < 9223372036854775808) : (BitVec.ofInt 64 (a : Int)).toNat = a := by
  rw [BitVec.toNat_ofInt]
  omega
theorem i64_or_nat (a b : Nat) (ha : a < 9223372036854775808) (hb : b < 9223372036854775808) : bits .or .i64 (a : Int) (b : Int) = ((a ||| b : Nat) : Int) := by
  have hx : a ||| b < 2 ^ 63 := Nat.or_lt_two_pow (by omega) (by omega)
  show IntKind.i64.wrap ((BitVec.ofInt 64 (a : Int) ||| BitVec.ofInt 64 (b : Int)).toNat : Int) = _
  rw [BitVec.toNat_or, ofInt_nat a ha, ofInt_nat b hb, IntKind.wrap_i64]
  omega
theorem or_add (N x : Int) (k : Nat) (hk : k ≤ 24) (h1 : 0 ≤ N) (h2 : N < (2 ^ k : Nat)) (h3 : 0 ≤ x) (h4 : x < 256) : bits .or .i64 N (x * ((2 ^ k : Nat) : Int)) = N + x * ((2 ^ k : Nat) : Int) := by
  obtain ⟨a, rfl⟩ : ∃ a : Nat, N = (a : Int) := ⟨N.toNat, by omega⟩
  obtain ⟨b, rfl⟩ : ∃ b : Nat, x = (b : Int) := ⟨x.toNat, by omega⟩
  have hp : 2 ^ k ≤ 2 ^ 24 := Nat.pow_le_pow_right (by omega) hk
  have hb : b * 2 ^ k ≤ 255 * 2 ^ 24 := Nat.mul_le_mul (by omega) hp
  have ha : a < 2 ^ k := by exact_mod_cast h2
  rw [show (b : Int) * ((2 ^ k : Nat) : Int) = ((b * 2 ^ k : Nat) : Int) by push_cast; rfl, i64_or_nat a _ (by omega) (by omega)]
  have h5 : a ||| (b * 2 ^ k) = a + b * 2 ^ k := by
    rw [← Nat.shiftLeft_eq, Nat.or_comm, ← Nat.shiftLeft_add_eq_or_of_lt ha, Nat.add_comm]
  rw [h5]
  push_cast
  rfl
def partN (l : List Int) (p : Nat) : Nat → Int
  | 0 => 0
  | 1 => bt l p
  | 2 => bt l p + 256 * bt l (p + 1)
  | 3 => bt l p + 256 * bt l (p + 1) + 65536 * bt l (p + 2)
  | _ => bt l p + 256 * bt l (p + 1) + 65536 * bt l (p + 2) + 16777216 * bt l (p + 3)
theorem bt_bd {w : World} {A : Option Addr} {n c : Nat} {l : List Int} (h : Byt w A n c l) (q : Nat) : 0 ≤ bt l q ∧ bt l q < 256 := by
  by_cases hq : q < n
  · rw [bt_of (by rw [← h.1]; exact hq)]
    exact h.2.2.2.1 q hq
  · rw [bt_no (by rw [← h.1]; exact hq)]
    omega
set_option maxRecDepth 100000 in
set_option maxHeartbeats 4000000 in
theorem next_any (k : Nat) (hk : k = 1 ∨ k = 2 ∨ k = 4) (I p : Nat) (A : Option Addr) (n c : Nat) (l : List Int) (w : World) (hp : p ≤ 1000) (hI : w.heap[I]? = some (.cells #[.slice A n c, .int .i64 (p : Int)] 64 (0, 0))) (hB : BytB I w A n c l) :
    Calls Try.prog 28 #[.pointer (some ⟨I, 0, none⟩), .int .i64 ((8 * k : Nat) : Int)] w fun e w' => e = .returned (.int .i64 (partN l p k)) ∧ KeepI I w w' ∧ w'.heap[I]? = some (.cells #[.slice A n c, .int .i64 ((p + k : Nat) : Int)] 64 (0, 0)) := by
  have HB := Lib.hid hB
  have HN := Lib.hid hB.1.1
  have hcap := hB.1.2.1
  have hmax := hB.1.2.2.1
  have hk4 : k ≤ 4 := by omega
  have lI := lt_of_block hI
  have HI := Lib.hid hI
  clear hB hI
  go_enter Try.func28, Try.ntmps28
  go_wp2
  go_loopw [5, 6] (fun zn za wr => ∃ j : Nat, j ≤ k ∧ zn = .int .i64 (partN l p j) ∧ za = .int .i64 ((8 * j : Nat) : Int) ∧ KeepI I w wr ∧ Hid (wr.heap[I]? = some (.cells #[.slice A n c, .int .i64 ((p + j : Nat) : Int)] 64 (0, 0)))) (fun _ za _ => 40 - (intOf za).toNat)
  case atStart => exact ⟨0, by omega, rfl, rfl, KeepI.refl _ _, HI⟩
  case round =>
    obtain ⟨j, hj, rfl, rfl, hK, HJ⟩ := hrel
    have hbd := bt_bd HB.out.1
    have HBD := Lib.hid hbd
    clear hbd
    have hbd := bt_bd HB.out.1
    have HBD := Lib.hid hbd
    clear hbd
    have hbd := bt_bd HB.out.1
    have HBD := Lib.hid hbd
    clear hbd
    by_cases hjk : j < k
    · have hj4 : j = 0 ∨ j = 1 ∨ j = 2 ∨ j = 3 := by omega
      obtain ⟨c0, c1, f0, f1⟩ := cells2 HJ.out
      have lIr := Nat.lt_of_lt_of_le lI hK.size
      obtain ⟨q, hq⟩ : ∃ q, q = p + j := ⟨_, rfl⟩
      rw [← hq] at c1 HJ
      have HQ := Lib.hid hq
      have hqb : q ≤ 1004 := by omega
      clear hq
      have T0 := cell_regrown c0
      have T1 := cell_regrown c1
      by_cases hqn : q < n
      · obtain ⟨b, off, rfl, hgb, hcl, hx0, hx1⟩ := (HB.out.below (hK.below (Nat.le_refl _) (Nat.le_of_lt lI))).1.at_ hqn
        have HX := Lib.hid (show bt l (p + j) = l[q]! by rw [← HQ.out]; exact bt_of (by rw [← HN.out]; exact hqn))
        generalize l[q]! = x at hcl hx0 hx1 HX
        have TC := Lib.hid (cell_regrown hcl)
        have d0 : decide (q < n) = true := decide_eq_true hqn
        go_wp2
        refine wp_region_quiet_below (by kernel_rfl) (by kernel_rfl) ?_
        iterate 10 (go_big_quiet_step (fail))
        refine wpQuiet_nil ?_
        intro _ hw'
        obtain ⟨⟨dq, osq⟩, hw''⟩ := hw'
        subst hw''
        have hbq := below_regrown wr dq osq
        replace hcl := (hbq.cell (p := ⟨b, off + q, none⟩) hgb).trans hcl
        have HJ2 := Lib.hid ((hbq.block _ (lt_of_block HJ.out)).trans HJ.out)
        have hK2 := hK.trans (KeepI.of_below hbq)
        generalize Sort.grow (redrawn wr dq) osq = W5 at hcl HJ2 hK2 ⊢
        clear T0 T1 TC hbq hK c0 c1 f0 f1 HJ hgb lIr
        obtain ⟨c0, c1, -, -⟩ := cells2 HJ2.out
        have T0 := cell_regrown c0
        have T1 := cell_regrown c1
        have TC := cell_regrown hcl
        clear c0 c1 hcl
        rcases hj4 with rfl | rfl | rfl | rfl
        · have hor : bits .or .i64 (partN l p 0) (x) = partN l p 1 := by
            have g0 := HBD.out p
            have g1 := HBD.out (p + 1)
            have g2 := HBD.out (p + 2)
            have g3 := HX.out
            rw [Nat.add_zero] at g3
            have := or_add (partN l p 0) x 0 (by omega) (by simp only [partN]; omega) (by simp only [partN]; omega) hx0 hx1
            simp only [partN] at *
            rw [show ((2 ^ 0 : Nat) : Int) = 1 from rfl] at this
            rw [Int.mul_one] at this
            rw [this]
            omega
          generalize partN l p 0 = N at hor ⊢
          have HPN := Lib.hid (rfl : partN l p 1 = partN l p 1)
          obtain ⟨N2, hN2⟩ : ∃ N2, partN l p 1 = N2 := ⟨_, rfl⟩
          rw [hN2] at hor
          replace HPN := Lib.hid hN2
          clear hN2
          go_wp2
          refine wp_region_quiet_below (by kernel_rfl) (by kernel_rfl) ?_
          iterate 16 (go_big_quiet_step (fail))
          refine wpQuiet_nil ?_
          intro _ hw'
          obtain ⟨⟨dq2, osq2⟩, hw''⟩ := hw'
          subst hw''
          have hbq := below_regrown W5 dq2 osq2
          have HJ3 := Lib.hid ((hbq.block _ (lt_of_block HJ2.out)).trans HJ2.out)
          have hK3 := hK2.trans (KeepI.of_below hbq)
          generalize Sort.grow (redrawn W5 dq2) osq2 = W6 at HJ3 hK3 ⊢
          clear T0 T1 TC hbq hK2 HJ2
          obtain ⟨c0, c1, f0, f1⟩ := cells2 HJ3.out
          have HS := Lib.hid (set_at1 HJ3.out (.int .i64 ((q : Int) + 1)))
          have hK4 := hK3.set 1 (.int .i64 ((q : Int) + 1))
          go_wp2
          go_roundw
          case rel => exact ⟨1, by omega, by rw [HPN.out], by go_num, hK4, Lib.hid (HS.out.trans (by rw [show (q : Int) + 1 = ((p + 1 : Nat) : Int) by have := HQ.out; omega]))⟩
          case measure => simp [intOf]
        · have hor : bits .or .i64 (partN l p 1) (x * 256) = partN l p 2 := by
            have g0 := HBD.out p
            have g1 := HBD.out (p + 1)
            have g2 := HBD.out (p + 2)
            have g3 := HX.out
            have := or_add (partN l p 1) x 8 (by omega) (by simp only [partN]; omega) (by simp only [partN]; omega) hx0 hx1
            simp only [partN] at *
            rw [show ((2 ^ 8 : Nat) : Int) = 256 from rfl] at this
            rw [this]
            omega
          generalize partN l p 1 = N at hor ⊢
          have HPN := Lib.hid (rfl : partN l p 2 = partN l p 2)
          obtain ⟨N2, hN2⟩ : ∃ N2, partN l p 2 = N2 := ⟨_, rfl⟩
          rw [hN2] at hor
          replace HPN := Lib.hid hN2
          clear hN2
          go_wp2
          refine wp_region_quiet_below (by kernel_rfl) (by kernel_rfl) ?_
          iterate 16 (go_big_quiet_step (fail))
          refine wpQuiet_nil ?_
          intro _ hw'
          obtain ⟨⟨dq2, osq2⟩, hw''⟩ := hw'
          subst hw''
          have hbq := below_regrown W5 dq2 osq2
          have HJ3 := Lib.hid ((hbq.block _ (lt_of_block HJ2.out)).trans HJ2.out)
          have hK3 := hK2.trans (KeepI.of_below hbq)
          generalize Sort.grow (redrawn W5 dq2) osq2 = W6 at HJ3 hK3 ⊢
          clear T0 T1 TC hbq hK2 HJ2
          obtain ⟨c0, c1, f0, f1⟩ := cells2 HJ3.out
          have HS := Lib.hid (set_at1 HJ3.out (.int .i64 ((q : Int) + 1)))
          have hK4 := hK3.set 1 (.int .i64 ((q : Int) + 1))
          go_wp2
          go_roundw
          case rel => exact ⟨2, by omega, by rw [HPN.out], by go_num, hK4, Lib.hid (HS.out.trans (by rw [show (q : Int) + 1 = ((p + 2 : Nat) : Int) by have := HQ.out; omega]))⟩
          case measure => simp [intOf]
        · have hor : bits .or .i64 (partN l p 2) (x * 65536) = partN l p 3 := by
            have g0 := HBD.out p
            have g1 := HBD.out (p + 1)
            have g2 := HBD.out (p + 2)
            have g3 := HX.out
            have := or_add (partN l p 2) x 16 (by omega) (by simp only [partN]; omega) (by simp only [partN]; omega) hx0 hx1
            simp only [partN] at *
            rw [show ((2 ^ 16 : Nat) : Int) = 65536 from rfl] at this
            rw [this]
            omega
          generalize partN l p 2 = N at hor ⊢
          have HPN := Lib.hid (rfl : partN l p 3 = partN l p 3)
          obtain ⟨N2, hN2⟩ : ∃ N2, partN l p 3 = N2 := ⟨_, rfl⟩
          rw [hN2] at hor
          replace HPN := Lib.hid hN2
          clear hN2
          go_wp2
          refine wp_region_quiet_below (by kernel_rfl) (by kernel_rfl) ?_
          iterate 16 (go_big_quiet_step (fail))
          refine wpQuiet_nil ?_
          intro _ hw'
          obtain ⟨⟨dq2, osq2⟩, hw''⟩ := hw'
          subst hw''
          have hbq := below_regrown W5 dq2 osq2
          have HJ3 := Lib.hid ((hbq.block _ (lt_of_block HJ2.out)).trans HJ2.out)
          have hK3 := hK2.trans (KeepI.of_below hbq)
          generalize Sort.grow (redrawn W5 dq2) osq2 = W6 at HJ3 hK3 ⊢
          clear T0 T1 TC hbq hK2 HJ2
          obtain ⟨c0, c1, f0, f1⟩ := cells2 HJ3.out
          have HS := Lib.hid (set_at1 HJ3.out (.int .i64 ((q : Int) + 1)))
          have hK4 := hK3.set 1 (.int .i64 ((q : Int) + 1))
          go_wp2
          go_roundw
          case rel => exact ⟨3, by omega, by rw [HPN.out], by go_num, hK4, Lib.hid (HS.out.trans (by rw [show (q : Int) + 1 = ((p + 3 : Nat) : Int) by have := HQ.out; omega]))⟩
          case measure => simp [intOf]
        · have hor : bits .or .i64 (partN l p 3) (x * 16777216) = partN l p 4 := by
            have g0 := HBD.out p
            have g1 := HBD.out (p + 1)
            have g2 := HBD.out (p + 2)
            have g3 := HX.out
            have := or_add (partN l p 3) x 24 (by omega) (by simp only [partN]; omega) (by simp only [partN]; omega) hx0 hx1
            simp only [partN] at *
            rw [show ((2 ^ 24 : Nat) : Int) = 16777216 from rfl] at this
            rw [this]
            omega
          generalize partN l p 3 = N at hor ⊢
          have HPN := Lib.hid (rfl : partN l p 4 = partN l p 4)
          obtain ⟨N2, hN2⟩ : ∃ N2, partN l p 4 = N2 := ⟨_, rfl⟩
          rw [hN2] at hor
          replace HPN := Lib.hid hN2
          clear hN2
          go_wp2
          refine wp_region_quiet_below (by kernel_rfl) (by kernel_rfl) ?_
          iterate 16 (go_big_quiet_step (fail))
          refine wpQuiet_nil ?_
          intro _ hw'
          obtain ⟨⟨dq2, osq2⟩, hw''⟩ := hw'
          subst hw''
          have hbq := below_regrown W5 dq2 osq2
          have HJ3 := Lib.hid ((hbq.block _ (lt_of_block HJ2.out)).trans HJ2.out)
          have hK3 := hK2.trans (KeepI.of_below hbq)
          generalize Sort.grow (redrawn W5 dq2) osq2 = W6 at HJ3 hK3 ⊢
          clear T0 T1 TC hbq hK2 HJ2
          obtain ⟨c0, c1, f0, f1⟩ := cells2 HJ3.out
          have HS := Lib.hid (set_at1 HJ3.out (.int .i64 ((q : Int) + 1)))
          have hK4 := hK3.set 1 (.int .i64 ((q : Int) + 1))
          go_wp2
          go_roundw
          case rel => exact ⟨4, by omega, by rw [HPN.out], by go_num, hK4, Lib.hid (HS.out.trans (by rw [show (q : Int) + 1 = ((p + 4 : Nat) : Int) by have := HQ.out; omega]))⟩
          case measure => simp [intOf]
      · have HX := Lib.hid (show bt l (p + j) = 0 by rw [← HQ.out]; exact bt_no (by rw [← HN.out]; exact hqn))
        have d0 : decide (q < n) = false := decide_eq_false hqn
        go_wp2
        refine wp_region_quiet_below (by kernel_rfl) (by kernel_rfl) ?_
        iterate 10 (go_big_quiet_step (fail))
        refine wpQuiet_nil ?_
        intro _ hw'
        obtain ⟨⟨dq, osq⟩, hw''⟩ := hw'
        subst hw''
        have hbq := below_regrown wr dq osq
        have HJ3 := Lib.hid ((hbq.block _ (lt_of_block HJ.out)).trans HJ.out)
        have hK3 := hK.trans (KeepI.of_below hbq)
        generalize Sort.grow (redrawn wr dq) osq = W6 at HJ3 hK3 ⊢
        clear T0 T1 hbq hK c0 c1 f0 f1 HJ lIr
        obtain ⟨c0, c1, f0, f1⟩ := cells2 HJ3.out
        have HS := Lib.hid (set_at1 HJ3.out (.int .i64 ((q : Int) + 1)))
        have hK4 := hK3.set 1 (.int .i64 ((q : Int) + 1))
        rcases hj4 with rfl | rfl | rfl | rfl
        · have HPN := Lib.hid (show partN l p 1 = partN l p 0 by have h9 := HX.out; rw [Nat.add_zero] at h9; simp only [partN]; omega)
          generalize partN l p 0 = N at HPN ⊢
          go_wp2
          go_roundw
          case rel => exact ⟨1, by omega, by rw [HPN.out], by go_num, hK4, Lib.hid (HS.out.trans (by rw [show (q : Int) + 1 = ((p + 1 : Nat) : Int) by have := HQ.out; omega]))⟩
          case measure => simp [intOf]
        · have HPN := Lib.hid (show partN l p 2 = partN l p 1 by have h9 := HX.out;  simp only [partN]; omega)
          generalize partN l p 1 = N at HPN ⊢
          go_wp2
          go_roundw
          case rel => exact ⟨2, by omega, by rw [HPN.out], by go_num, hK4, Lib.hid (HS.out.trans (by rw [show (q : Int) + 1 = ((p + 2 : Nat) : Int) by have := HQ.out; omega]))⟩
          case measure => simp [intOf]
        · have HPN := Lib.hid (show partN l p 3 = partN l p 2 by have h9 := HX.out;  simp only [partN]; omega)
          generalize partN l p 2 = N at HPN ⊢
          go_wp2
          go_roundw
          case rel => exact ⟨3, by omega, by rw [HPN.out], by go_num, hK4, Lib.hid (HS.out.trans (by rw [show (q : Int) + 1 = ((p + 3 : Nat) : Int) by have := HQ.out; omega]))⟩
          case measure => simp [intOf]
        · have HPN := Lib.hid (show partN l p 4 = partN l p 3 by have h9 := HX.out;  simp only [partN]; omega)
          generalize partN l p 3 = N at HPN ⊢
          go_wp2
          go_roundw
          case rel => exact ⟨4, by omega, by rw [HPN.out], by go_num, hK4, Lib.hid (HS.out.trans (by rw [show (q : Int) + 1 = ((p + 4 : Nat) : Int) by have := HQ.out; omega]))⟩
          case measure => simp [intOf]
    · obtain rfl : j = k := by omega
      have HPP := Lib.hid (rfl : partN l p j = partN l p j)
      obtain ⟨N, hN⟩ : ∃ N, partN l p j = N := ⟨_, rfl⟩
      replace HPP := Lib.hid hN
      rw [hN]
      clear hN
      go_wp2
      go_ret
      exact ⟨ret_i HPP.out.symm, hK, HJ.out⟩
end Go.Proofs.Ytpekegeohcnhcaa
