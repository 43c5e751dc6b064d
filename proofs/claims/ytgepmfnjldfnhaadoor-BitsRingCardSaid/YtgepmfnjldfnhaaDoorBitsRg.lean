/-
  The walk of BitsRing.
-/
import Derived.Test.YtgepmfnjldfnhaaDoorBitsS
namespace Go.Proofs.YtgepmfnjldfnhaaDoor
open Go.RowKit

theorem and_add_or : ∀ a b : Nat, (a &&& b) + (a ||| b) = a + b := by
  intro a
  induction a using Nat.strongRecOn with
  | _ a ih =>
    intro b
    by_cases h0 : a = 0
    · subst h0; simp
    have i1 := ih (a / 2) (by omega) (b / 2)
    have m1 := bw_low 8 a b (by omega)
    have m2 := bw_low 9 a b (by omega)
    have d1 : (a &&& b) / 2 = (a / 2) &&& (b / 2) := Nat.and_div_two
    have d2 : (a ||| b) / 2 = (a / 2) ||| (b / 2) := Nat.or_div_two
    have m1' : (a &&& b) % 2 = (a % 2) * (b % 2) := m1
    have m2' : (a ||| b) % 2 = max (a % 2) (b % 2) := m2
    rw [← d1, ← d2] at i1
    rcases Nat.mod_two_eq_zero_or_one a with ha | ha <;> rcases Nat.mod_two_eq_zero_or_one b with hb | hb <;> rw [ha, hb] at m1' m2' <;> omega
theorem doF_lt (op n a b : Nat) (ha : a < pw n) (hb : b < pw n) : doF op n a b < pw n := by
  unfold doF
  by_cases c0 : op = 1
  · rw [if_pos c0]; exact wr_lt _
  rw [if_neg c0]
  by_cases c1 : op = 2
  · rw [if_pos c1]; exact wr_lt _
  rw [if_neg c1]
  by_cases c2 : op = 3
  · rw [if_pos c2]; exact wr_lt _
  rw [if_neg c2]
  by_cases c3 : op = 4
  · rw [if_pos c3]; exact Nat.lt_of_le_of_lt (Nat.div_le_self _ _) ha
  rw [if_neg c3]
  by_cases c4 : op = 5
  · rw [if_pos c4]; exact Nat.lt_of_le_of_lt (Nat.mod_le _ _) ha
  rw [if_neg c4]
  by_cases c5 : op = 6
  · rw [if_pos c5]; exact wr_lt _
  rw [if_neg c5]
  by_cases c6 : op = 7
  · rw [if_pos c6]; exact wr_lt _
  rw [if_neg c6]
  by_cases c7 : op = 8
  · rw [if_pos c7]; exact Nat.and_lt_two_pow _ hb
  rw [if_neg c7]
  by_cases c8 : op = 9
  · rw [if_pos c8]; exact Nat.or_lt_two_pow ha hb
  rw [if_neg c8]
  by_cases c9 : op = 10
  · rw [if_pos c9]; exact Nat.xor_lt_two_pow ha hb
  rw [if_neg c9]
  by_cases c10 : op = 11
  · rw [if_pos c10]; exact wr_lt _
  rw [if_neg c10]
  by_cases c11 : op = 12
  · rw [if_pos c11]; exact Nat.lt_of_le_of_lt (Nat.div_le_self _ _) ha
  rw [if_neg c11]
  exact wr_lt _
theorem wr_congr {n : Nat} {x y : Int} (h : x % (pw n : Int) = y % (pw n : Int)) : wr n x = wr n y := by
  unfold wr; rw [h]
theorem mul_mod_right (x y p : Int) : x * (y % p) % p = x * y % p := by rw [Int.mul_emod, Int.emod_emod_of_dvd _ (Int.dvd_refl p), ← Int.mul_emod]
theorem mod_mul_left (x y p : Int) : x % p * y % p = x * y % p := by rw [Int.mul_comm, mul_mod_right, Int.mul_comm]
theorem ring1 (n a b : Nat) (ha : a < pw n) : doF 2 n (doF 1 n a b) b = a := by
  have h := wr_of_lt ha
  show wr n ((wr n ((a : Int) + b) : Int) - b) = a
  rw [← h]
  apply wr_congr
  rw [wr_cast, Int.sub_eq_add_neg, Int.emod_add_emod, h]
  congr 1; omega
theorem ring2 (n a b : Nat) : doF 1 n b a = doF 1 n a b := by
  show wr n ((b : Int) + a) = wr n ((a : Int) + b)
  rw [Int.add_comm]
theorem ring3 (n a b : Nat) : doF 3 n b a = doF 3 n a b := by
  show wr n ((b : Int) * a) = wr n ((a : Int) * b)
  rw [Int.mul_comm]
theorem ring4 (n a b c : Nat) : doF 3 n a (doF 1 n b c) = doF 1 n (doF 3 n a b) (doF 3 n a c) := by
  show wr n ((a : Int) * (wr n ((b : Int) + c) : Nat)) = wr n ((wr n ((a : Int) * b) : Nat) + ((wr n ((a : Int) * c) : Nat) : Int))
  apply wr_congr
  rw [wr_cast, wr_cast, wr_cast, ← Int.add_emod, mul_mod_right, Int.mul_add]
theorem ring5 (n a b : Nat) : doF 1 n (doF 8 n a b) (doF 9 n a b) = doF 1 n a b := by
  show wr n (((a &&& b : Nat) : Int) + ((a ||| b : Nat) : Int)) = wr n ((a : Int) + b)
  have := and_add_or a b
  congr 1
  omega
theorem ring6 (n a b : Nat) : doF 10 n (doF 10 n a b) b = a := by
  show (a ^^^ b) ^^^ b = a
  rw [Nat.xor_assoc, Nat.xor_self, Nat.xor_zero]
theorem ring7 (n a b : Nat) (ha : a < pw n) : doF 1 n (doF 3 n (doF 4 n a b) b) (doF 5 n a b) = a := by
  show wr n ((wr n (((a / b : Nat) : Int) * b) : Nat) + ((a % b : Nat) : Int)) = a
  have h := wr_of_lt ha
  have e := Nat.div_add_mod a b
  have e2 : ((a / b : Nat) : Int) * b + ((a % b : Nat) : Int) = a := by
    rw [← Int.natCast_mul, Nat.mul_comm, ← Int.natCast_add, e]
  refine Eq.trans (wr_congr ?_) h
  rw [wr_cast, Int.emod_add_emod, e2]
theorem ring8 (n a b : Nat) (ha : a < pw n) : doF 1 n (doF 3 n (doF 6 n a b) b) (doF 7 n a b) = a := by
  show wr n ((wr n ((wr n ((sgn n a).tdiv (sgn n b)) : Nat) * (b : Int)) : Nat) + ((wr n ((sgn n a).tmod (sgn n b)) : Nat) : Int)) = a
  have h := wr_of_lt ha
  have e : (sgn n a).tdiv (sgn n b) * sgn n b + (sgn n a).tmod (sgn n b) = sgn n a := by
    rw [Int.mul_comm]; exact Int.mul_tdiv_add_tmod _ _
  refine Eq.trans (wr_congr ?_) h
  rw [wr_cast, wr_cast, wr_cast, ← Int.add_emod, ← Int.emod_add_emod, mod_mul_left, ← mul_mod_right, ← sgn_mod n b, mul_mod_right, Int.emod_add_emod, e, sgn_mod]
/-- What holds of every world on the way. -/
def Way (w0 w : World) : Prop := Masks w ∧ Below w0.heap.size w0 w
theorem Way.next {w0 w w1 : World} (h : Way w0 w) (hb : Below w.heap.size w w1) : Way w0 w1 := ⟨h.1.below hb (Nat.le_refl _), h.2.trans (hb.mono h.2.size)⟩
theorem do40 (op : Nat) {n a b : Nat} {w0 w : World} (hW : Way w0 w) (h1 : 1 ≤ n) (h2 : n ≤ 32) (ha : a < pw n) (hb : b < pw n) (o1 : 1 ≤ op) (o2 : op ≤ 13) (hh : hasF op n a b = true) :
    Calls Tryd.prog 40 #[.int .i64 op, .int .i64 n, .int .u32 a, .int .u32 b] w fun e w' => e = .returned (.int .u32 (doF op n a b)) ∧ Way w0 w' := by
  go_enter Tryd.func40, Tryd.ntmps40
  go_wp2_with (go_at_call 19; refine (bitsDo_some n a b _ hW.1 h1 h2 ha hb op o1 o2 hh).mono ?_; rintro e w' ⟨rfl, hb1⟩)
  go_ret
  exact ⟨rfl, hW.next hb1⟩
set_option maxRecDepth 100000 in
set_option maxHeartbeats 8000000 in
theorem ring_both (n a b c : Nat) (w : World) (hM : Masks w) (h1 : 1 ≤ n) (h2 : n ≤ 32) (ha : a < pw n) (hb : b < pw n) (hc : c < pw n) (H4 : Hid (hasF 4 n a b = true)) (H5 : Hid (hasF 5 n a b = true)) (H6 : Hid (hasF 6 n a b = true)) (H7 : Hid (hasF 7 n a b = true)) (hz2 : ((b : Int) != 0) = true) :
    Calls Tryd.prog 11 #[.int .i64 n, .agg #[.int .u32 a, .int .u32 b], .int .u32 c] w fun e w' => e = .returned (.bool true) ∧ Below w.heap.size w w' := by
  have R1 := Lib.hid (ring1 n a b ha)
  have R2 := Lib.hid (ring2 n a b)
  have R3 := Lib.hid (ring3 n a b)
  have R4 := Lib.hid (ring4 n a b c)
  have R5 := Lib.hid (ring5 n a b)
  have R6 := Lib.hid (ring6 n a b)
  have R7 := Lib.hid (ring7 n a b ha)
  have R8 := Lib.hid (ring8 n a b ha)
  have hw0' := fun o m => (show Way w ((w.alloc o).drewN m) from ⟨(hM.alloc o).drewN m, below_drewN ((Below.refl _ _).alloc (Nat.le_refl _) _) m⟩)
  go_enter Tryd.func11, Tryd.ntmps11
  go_wp2_with (first
    | (go_at_call 39; ((with_reducible refine (isWord_yes n a _ h1 h2 ha).mono ?_); rintro e w' ⟨rfl, rfl⟩))
    | (go_at_call 39; ((with_reducible refine (isWord_yes n b _ h1 h2 hb).mono ?_); rintro e w' ⟨rfl, rfl⟩))
    | (go_at_call 39; ((with_reducible refine (isWord_yes n c _ h1 h2 hc).mono ?_); rintro e w' ⟨rfl, rfl⟩)))
  go_quiet (fail)
  have hw0 := hw0' (.cells #[.int .u32 a, .int .u32 b] 32) nq
  clear hw0'
  go_wp2_with fail
  refine (do40 1 hw0 h1 h2 ha hb (by omega) (by omega) rfl).mono ?_
  rintro e w1 ⟨rfl, hw1⟩
  go_wp2_with fail
  refine (do40 2 hw1 h1 h2 (doF_lt _ _ _ _ ha hb) hb (by omega) (by omega) rfl).mono ?_
  rw [R1.out]
  rintro e w2 ⟨rfl, hw2⟩
  go_wp2_with fail
  refine (do40 1 hw2 h1 h2 ha hb (by omega) (by omega) rfl).mono ?_
  rintro e w3 ⟨rfl, hw3⟩
  go_wp2_with fail
  refine (do40 1 hw3 h1 h2 hb ha (by omega) (by omega) rfl).mono ?_
  rw [R2.out]
  rintro e w4 ⟨rfl, hw4⟩
  go_wp2_with fail
  refine (do40 3 hw4 h1 h2 ha hb (by omega) (by omega) rfl).mono ?_
  rintro e w5 ⟨rfl, hw5⟩
  go_wp2_with fail
  refine (do40 3 hw5 h1 h2 hb ha (by omega) (by omega) rfl).mono ?_
  rw [R3.out]
  rintro e w6 ⟨rfl, hw6⟩
  go_wp2_with fail
  refine (do40 1 hw6 h1 h2 hb hc (by omega) (by omega) rfl).mono ?_
  rintro e w7 ⟨rfl, hw7⟩
  go_wp2_with fail
  refine (do40 3 hw7 h1 h2 ha (doF_lt _ _ _ _ hb hc) (by omega) (by omega) rfl).mono ?_
  rw [R4.out]
  rintro e w8 ⟨rfl, hw8⟩
  go_wp2_with fail
  refine (do40 3 hw8 h1 h2 ha hb (by omega) (by omega) rfl).mono ?_
  rintro e w9 ⟨rfl, hw9⟩
  go_wp2_with fail
  refine (do40 3 hw9 h1 h2 ha hc (by omega) (by omega) rfl).mono ?_
  rintro e w10 ⟨rfl, hw10⟩
  go_wp2_with fail
  refine (do40 1 hw10 h1 h2 (doF_lt _ _ _ _ ha hb) (doF_lt _ _ _ _ ha hc) (by omega) (by omega) rfl).mono ?_
  rintro e w11 ⟨rfl, hw11⟩
  go_wp2_with fail
  refine (do40 8 hw11 h1 h2 ha hb (by omega) (by omega) rfl).mono ?_
  rintro e w12 ⟨rfl, hw12⟩
  go_wp2_with fail
  refine (do40 9 hw12 h1 h2 ha hb (by omega) (by omega) rfl).mono ?_
  rintro e w13 ⟨rfl, hw13⟩
  go_wp2_with fail
  refine (do40 1 hw13 h1 h2 (doF_lt _ _ _ _ ha hb) (doF_lt _ _ _ _ ha hb) (by omega) (by omega) rfl).mono ?_
  rw [R5.out]
  rintro e w14 ⟨rfl, hw14⟩
  go_wp2_with fail
  refine (do40 1 hw14 h1 h2 ha hb (by omega) (by omega) rfl).mono ?_
  rintro e w15 ⟨rfl, hw15⟩
  go_wp2_with fail
  refine (do40 10 hw15 h1 h2 ha hb (by omega) (by omega) rfl).mono ?_
  rintro e w16 ⟨rfl, hw16⟩
  go_wp2_with fail
  refine (do40 10 hw16 h1 h2 (doF_lt _ _ _ _ ha hb) hb (by omega) (by omega) rfl).mono ?_
  rw [R6.out]
  rintro e w17 ⟨rfl, hw17⟩
  go_wp2_with fail
  refine (bitsDo_some n a b _ hw17.1 h1 h2 ha hb 4 (by omega) (by omega) H4.out).mono ?_
  rintro e w18 ⟨rfl, hb18⟩
  have hw18 := hw17.next hb18
  go_wp2_with fail
  refine (bitsDo_some n a b _ hw18.1 h1 h2 ha hb 6 (by omega) (by omega) H6.out).mono ?_
  rintro e w19 ⟨rfl, hb19⟩
  have hw19 := hw18.next hb19
  go_wp2_with fail
  refine (do40 3 hw19 h1 h2 (doF_lt _ _ _ _ ha hb) hb (by omega) (by omega) rfl).mono ?_
  rintro e w20 ⟨rfl, hw20⟩
  go_wp2_with fail
  refine (do40 5 hw20 h1 h2 ha hb (by omega) (by omega) H5.out).mono ?_
  rintro e w21 ⟨rfl, hw21⟩
  go_wp2_with fail
  refine (do40 1 hw21 h1 h2 (doF_lt _ _ _ _ (doF_lt _ _ _ _ ha hb) hb) (doF_lt _ _ _ _ ha hb) (by omega) (by omega) rfl).mono ?_
  rw [R7.out]
  rintro e w22 ⟨rfl, hw22⟩
  go_wp2_with fail
  refine (do40 3 hw22 h1 h2 (doF_lt _ _ _ _ ha hb) hb (by omega) (by omega) rfl).mono ?_
  rintro e w23 ⟨rfl, hw23⟩
  go_wp2_with fail
  refine (do40 7 hw23 h1 h2 ha hb (by omega) (by omega) H7.out).mono ?_
  rintro e w24 ⟨rfl, hw24⟩
  go_wp2_with fail
  refine (do40 1 hw24 h1 h2 (doF_lt _ _ _ _ (doF_lt _ _ _ _ ha hb) hb) (doF_lt _ _ _ _ ha hb) (by omega) (by omega) rfl).mono ?_
  rw [R8.out]
  rintro e w25 ⟨rfl, hw25⟩
  go_wp2_with fail
  refine (known_any _ hw25.1).mono ?_
  rintro e wz ⟨rfl, hbz⟩
  go_wp2
  go_ret
  exact ⟨rfl, (hw25.next hbz).2⟩
set_option maxRecDepth 100000 in
set_option maxHeartbeats 8000000 in
theorem ring_low (n a b c : Nat) (w : World) (hM : Masks w) (h1 : 1 ≤ n) (h2 : n ≤ 32) (ha : a < pw n) (hb : b < pw n) (hc : c < pw n) (H4 : Hid (hasF 4 n a b = true)) (H5 : Hid (hasF 5 n a b = true)) (H6 : Hid (hasF 6 n a b = false)) (hz2 : ((b : Int) != 0) = true) :
    Calls Tryd.prog 11 #[.int .i64 n, .agg #[.int .u32 a, .int .u32 b], .int .u32 c] w fun e w' => e = .returned (.bool true) ∧ Below w.heap.size w w' := by
  have R1 := Lib.hid (ring1 n a b ha)
  have R2 := Lib.hid (ring2 n a b)
  have R3 := Lib.hid (ring3 n a b)
  have R4 := Lib.hid (ring4 n a b c)
  have R5 := Lib.hid (ring5 n a b)
  have R6 := Lib.hid (ring6 n a b)
  have R7 := Lib.hid (ring7 n a b ha)
  have hw0' := fun o m => (show Way w ((w.alloc o).drewN m) from ⟨(hM.alloc o).drewN m, below_drewN ((Below.refl _ _).alloc (Nat.le_refl _) _) m⟩)
  go_enter Tryd.func11, Tryd.ntmps11
  go_wp2_with (first
    | (go_at_call 39; ((with_reducible refine (isWord_yes n a _ h1 h2 ha).mono ?_); rintro e w' ⟨rfl, rfl⟩))
    | (go_at_call 39; ((with_reducible refine (isWord_yes n b _ h1 h2 hb).mono ?_); rintro e w' ⟨rfl, rfl⟩))
    | (go_at_call 39; ((with_reducible refine (isWord_yes n c _ h1 h2 hc).mono ?_); rintro e w' ⟨rfl, rfl⟩)))
  go_quiet (fail)
  have hw0 := hw0' (.cells #[.int .u32 a, .int .u32 b] 32) nq
  clear hw0'
  go_wp2_with fail
  refine (do40 1 hw0 h1 h2 ha hb (by omega) (by omega) rfl).mono ?_
  rintro e w1 ⟨rfl, hw1⟩
  go_wp2_with fail
  refine (do40 2 hw1 h1 h2 (doF_lt _ _ _ _ ha hb) hb (by omega) (by omega) rfl).mono ?_
  rw [R1.out]
  rintro e w2 ⟨rfl, hw2⟩
  go_wp2_with fail
  refine (do40 1 hw2 h1 h2 ha hb (by omega) (by omega) rfl).mono ?_
  rintro e w3 ⟨rfl, hw3⟩
  go_wp2_with fail
  refine (do40 1 hw3 h1 h2 hb ha (by omega) (by omega) rfl).mono ?_
  rw [R2.out]
  rintro e w4 ⟨rfl, hw4⟩
  go_wp2_with fail
  refine (do40 3 hw4 h1 h2 ha hb (by omega) (by omega) rfl).mono ?_
  rintro e w5 ⟨rfl, hw5⟩
  go_wp2_with fail
  refine (do40 3 hw5 h1 h2 hb ha (by omega) (by omega) rfl).mono ?_
  rw [R3.out]
  rintro e w6 ⟨rfl, hw6⟩
  go_wp2_with fail
  refine (do40 1 hw6 h1 h2 hb hc (by omega) (by omega) rfl).mono ?_
  rintro e w7 ⟨rfl, hw7⟩
  go_wp2_with fail
  refine (do40 3 hw7 h1 h2 ha (doF_lt _ _ _ _ hb hc) (by omega) (by omega) rfl).mono ?_
  rw [R4.out]
  rintro e w8 ⟨rfl, hw8⟩
  go_wp2_with fail
  refine (do40 3 hw8 h1 h2 ha hb (by omega) (by omega) rfl).mono ?_
  rintro e w9 ⟨rfl, hw9⟩
  go_wp2_with fail
  refine (do40 3 hw9 h1 h2 ha hc (by omega) (by omega) rfl).mono ?_
  rintro e w10 ⟨rfl, hw10⟩
  go_wp2_with fail
  refine (do40 1 hw10 h1 h2 (doF_lt _ _ _ _ ha hb) (doF_lt _ _ _ _ ha hc) (by omega) (by omega) rfl).mono ?_
  rintro e w11 ⟨rfl, hw11⟩
  go_wp2_with fail
  refine (do40 8 hw11 h1 h2 ha hb (by omega) (by omega) rfl).mono ?_
  rintro e w12 ⟨rfl, hw12⟩
  go_wp2_with fail
  refine (do40 9 hw12 h1 h2 ha hb (by omega) (by omega) rfl).mono ?_
  rintro e w13 ⟨rfl, hw13⟩
  go_wp2_with fail
  refine (do40 1 hw13 h1 h2 (doF_lt _ _ _ _ ha hb) (doF_lt _ _ _ _ ha hb) (by omega) (by omega) rfl).mono ?_
  rw [R5.out]
  rintro e w14 ⟨rfl, hw14⟩
  go_wp2_with fail
  refine (do40 1 hw14 h1 h2 ha hb (by omega) (by omega) rfl).mono ?_
  rintro e w15 ⟨rfl, hw15⟩
  go_wp2_with fail
  refine (do40 10 hw15 h1 h2 ha hb (by omega) (by omega) rfl).mono ?_
  rintro e w16 ⟨rfl, hw16⟩
  go_wp2_with fail
  refine (do40 10 hw16 h1 h2 (doF_lt _ _ _ _ ha hb) hb (by omega) (by omega) rfl).mono ?_
  rw [R6.out]
  rintro e w17 ⟨rfl, hw17⟩
  go_wp2_with fail
  refine (bitsDo_some n a b _ hw17.1 h1 h2 ha hb 4 (by omega) (by omega) H4.out).mono ?_
  rintro e w18 ⟨rfl, hb18⟩
  have hw18 := hw17.next hb18
  go_wp2_with fail
  refine (bitsDo_none n a b _ hw18.1 h1 h2 ha hb 6 (by omega) (by omega) H6.out).mono ?_
  rintro e w19 ⟨rfl, hb19⟩
  have hw19 := hw18.next hb19
  go_wp2_with fail
  refine (do40 3 hw19 h1 h2 (doF_lt _ _ _ _ ha hb) hb (by omega) (by omega) rfl).mono ?_
  rintro e w20 ⟨rfl, hw20⟩
  go_wp2_with fail
  refine (do40 5 hw20 h1 h2 ha hb (by omega) (by omega) H5.out).mono ?_
  rintro e w21 ⟨rfl, hw21⟩
  go_wp2_with fail
  refine (do40 1 hw21 h1 h2 (doF_lt _ _ _ _ (doF_lt _ _ _ _ ha hb) hb) (doF_lt _ _ _ _ ha hb) (by omega) (by omega) rfl).mono ?_
  rw [R7.out]
  rintro e w22 ⟨rfl, hw22⟩
  go_wp2_with fail
  refine (known_any _ hw22.1).mono ?_
  rintro e wz ⟨rfl, hbz⟩
  go_wp2
  go_ret
  exact ⟨rfl, (hw22.next hbz).2⟩
set_option maxRecDepth 100000 in
set_option maxHeartbeats 8000000 in
theorem ring_zero (n a b c : Nat) (w : World) (hM : Masks w) (h1 : 1 ≤ n) (h2 : n ≤ 32) (ha : a < pw n) (hb : b < pw n) (hc : c < pw n) (H4 : Hid (hasF 4 n a b = false)) (H6 : Hid (hasF 6 n a b = false)) (hz2 : ((b : Int) != 0) = false) :
    Calls Tryd.prog 11 #[.int .i64 n, .agg #[.int .u32 a, .int .u32 b], .int .u32 c] w fun e w' => e = .returned (.bool true) ∧ Below w.heap.size w w' := by
  have R1 := Lib.hid (ring1 n a b ha)
  have R2 := Lib.hid (ring2 n a b)
  have R3 := Lib.hid (ring3 n a b)
  have R4 := Lib.hid (ring4 n a b c)
  have R5 := Lib.hid (ring5 n a b)
  have R6 := Lib.hid (ring6 n a b)
  have hw0' := fun o m => (show Way w ((w.alloc o).drewN m) from ⟨(hM.alloc o).drewN m, below_drewN ((Below.refl _ _).alloc (Nat.le_refl _) _) m⟩)
  go_enter Tryd.func11, Tryd.ntmps11
  go_wp2_with (first
    | (go_at_call 39; ((with_reducible refine (isWord_yes n a _ h1 h2 ha).mono ?_); rintro e w' ⟨rfl, rfl⟩))
    | (go_at_call 39; ((with_reducible refine (isWord_yes n b _ h1 h2 hb).mono ?_); rintro e w' ⟨rfl, rfl⟩))
    | (go_at_call 39; ((with_reducible refine (isWord_yes n c _ h1 h2 hc).mono ?_); rintro e w' ⟨rfl, rfl⟩)))
  go_quiet (fail)
  have hw0 := hw0' (.cells #[.int .u32 a, .int .u32 b] 32) nq
  clear hw0'
  go_wp2_with fail
  refine (do40 1 hw0 h1 h2 ha hb (by omega) (by omega) rfl).mono ?_
  rintro e w1 ⟨rfl, hw1⟩
  go_wp2_with fail
  refine (do40 2 hw1 h1 h2 (doF_lt _ _ _ _ ha hb) hb (by omega) (by omega) rfl).mono ?_
  rw [R1.out]
  rintro e w2 ⟨rfl, hw2⟩
  go_wp2_with fail
  refine (do40 1 hw2 h1 h2 ha hb (by omega) (by omega) rfl).mono ?_
  rintro e w3 ⟨rfl, hw3⟩
  go_wp2_with fail
  refine (do40 1 hw3 h1 h2 hb ha (by omega) (by omega) rfl).mono ?_
  rw [R2.out]
  rintro e w4 ⟨rfl, hw4⟩
  go_wp2_with fail
  refine (do40 3 hw4 h1 h2 ha hb (by omega) (by omega) rfl).mono ?_
  rintro e w5 ⟨rfl, hw5⟩
  go_wp2_with fail
  refine (do40 3 hw5 h1 h2 hb ha (by omega) (by omega) rfl).mono ?_
  rw [R3.out]
  rintro e w6 ⟨rfl, hw6⟩
  go_wp2_with fail
  refine (do40 1 hw6 h1 h2 hb hc (by omega) (by omega) rfl).mono ?_
  rintro e w7 ⟨rfl, hw7⟩
  go_wp2_with fail
  refine (do40 3 hw7 h1 h2 ha (doF_lt _ _ _ _ hb hc) (by omega) (by omega) rfl).mono ?_
  rw [R4.out]
  rintro e w8 ⟨rfl, hw8⟩
  go_wp2_with fail
  refine (do40 3 hw8 h1 h2 ha hb (by omega) (by omega) rfl).mono ?_
  rintro e w9 ⟨rfl, hw9⟩
  go_wp2_with fail
  refine (do40 3 hw9 h1 h2 ha hc (by omega) (by omega) rfl).mono ?_
  rintro e w10 ⟨rfl, hw10⟩
  go_wp2_with fail
  refine (do40 1 hw10 h1 h2 (doF_lt _ _ _ _ ha hb) (doF_lt _ _ _ _ ha hc) (by omega) (by omega) rfl).mono ?_
  rintro e w11 ⟨rfl, hw11⟩
  go_wp2_with fail
  refine (do40 8 hw11 h1 h2 ha hb (by omega) (by omega) rfl).mono ?_
  rintro e w12 ⟨rfl, hw12⟩
  go_wp2_with fail
  refine (do40 9 hw12 h1 h2 ha hb (by omega) (by omega) rfl).mono ?_
  rintro e w13 ⟨rfl, hw13⟩
  go_wp2_with fail
  refine (do40 1 hw13 h1 h2 (doF_lt _ _ _ _ ha hb) (doF_lt _ _ _ _ ha hb) (by omega) (by omega) rfl).mono ?_
  rw [R5.out]
  rintro e w14 ⟨rfl, hw14⟩
  go_wp2_with fail
  refine (do40 1 hw14 h1 h2 ha hb (by omega) (by omega) rfl).mono ?_
  rintro e w15 ⟨rfl, hw15⟩
  go_wp2_with fail
  refine (do40 10 hw15 h1 h2 ha hb (by omega) (by omega) rfl).mono ?_
  rintro e w16 ⟨rfl, hw16⟩
  go_wp2_with fail
  refine (do40 10 hw16 h1 h2 (doF_lt _ _ _ _ ha hb) hb (by omega) (by omega) rfl).mono ?_
  rw [R6.out]
  rintro e w17 ⟨rfl, hw17⟩
  go_wp2_with fail
  refine (bitsDo_none n a b _ hw17.1 h1 h2 ha hb 4 (by omega) (by omega) H4.out).mono ?_
  rintro e w18 ⟨rfl, hb18⟩
  have hw18 := hw17.next hb18
  go_wp2_with fail
  refine (bitsDo_none n a b _ hw18.1 h1 h2 ha hb 6 (by omega) (by omega) H6.out).mono ?_
  rintro e w19 ⟨rfl, hb19⟩
  have hw19 := hw18.next hb19
  go_wp2_with fail
  refine (known_any _ hw19.1).mono ?_
  rintro e wz ⟨rfl, hbz⟩
  go_wp2
  go_ret
  exact ⟨rfl, (hw19.next hbz).2⟩
set_option maxRecDepth 100000 in
set_option maxHeartbeats 2000000 in
theorem ring_walk (n : Int) (a b c : Nat) (w : World) (hM : Masks w) (a32 : a < 4294967296) (b32 : b < 4294967296) (c32 : c < 4294967296) :
    Calls Tryd.prog 11 #[.int .i64 n, .agg #[.int .u32 a, .int .u32 b], .int .u32 c] w fun e w' => e = .returned (.bool true) ∧ Below w.heap.size w w' := by
  have hM1 := fun o => hM.alloc o
  by_cases hA : n < 1 ∨ 32 < n ∨ pw n.toNat ≤ a
  · have HA := Lib.hid hA
    clear hA
    go_enter Tryd.func11, Tryd.ntmps11
    go_wp2_with (first
      | (go_at_call 39; refine (isWord_no n a _ a32 HA.out).mono ?_; rintro e w' ⟨rfl, rfl⟩)
      | (go_at_call 18; refine (known_any _ (hM1 _)).mono ?_; rintro e w' ⟨rfl, hb⟩))
    go_ret
    exact ⟨rfl, ((Below.refl _ _).alloc (Nat.le_refl _) _).trans (hb.mono (by simp))⟩
  obtain ⟨m, rfl⟩ : ∃ m : Nat, n = m := ⟨n.toNat, by omega⟩
  have h1 : 1 ≤ m := by omega
  have h2 : m ≤ 32 := by omega
  have ha : a < pw m := by have : ¬ pw m ≤ a := fun hh => hA (.inr (.inr (by simpa using hh)))
                           omega
  clear hA
  by_cases hB : (m : Int) < 1 ∨ 32 < (m : Int) ∨ pw (m : Int).toNat ≤ b
  · have HB := Lib.hid hB
    clear hB
    go_enter Tryd.func11, Tryd.ntmps11
    go_wp2_with (first
      | (go_at_call 39; ((with_reducible refine (isWord_yes m a _ h1 h2 ha).mono ?_); rintro e w' ⟨rfl, rfl⟩))
      | (go_at_call 39; refine (isWord_no m b _ b32 HB.out).mono ?_; rintro e w' ⟨rfl, rfl⟩)
      | (go_at_call 18; refine (known_any _ (hM1 _)).mono ?_; rintro e w' ⟨rfl, hb⟩))
    go_ret
    exact ⟨rfl, ((Below.refl _ _).alloc (Nat.le_refl _) _).trans (hb.mono (by simp))⟩
  have hb : b < pw m := by have : ¬ pw m ≤ b := fun hh => hB (.inr (.inr (by simpa using hh)))
                           omega
  clear hB
  by_cases hC : (m : Int) < 1 ∨ 32 < (m : Int) ∨ pw (m : Int).toNat ≤ c
  · have HC := Lib.hid hC
    clear hC
    go_enter Tryd.func11, Tryd.ntmps11
    go_wp2_with (first
      | (go_at_call 39; ((with_reducible refine (isWord_yes m a _ h1 h2 ha).mono ?_); rintro e w' ⟨rfl, rfl⟩))
      | (go_at_call 39; ((with_reducible refine (isWord_yes m b _ h1 h2 hb).mono ?_); rintro e w' ⟨rfl, rfl⟩))
      | (go_at_call 39; refine (isWord_no m c _ c32 HC.out).mono ?_; rintro e w' ⟨rfl, rfl⟩)
      | (go_at_call 18; refine (known_any _ (hM1 _)).mono ?_; rintro e w' ⟨rfl, hb⟩))
    go_ret
    exact ⟨rfl, ((Below.refl _ _).alloc (Nat.le_refl _) _).trans (hb.mono (by simp))⟩
  have hc : c < pw m := by have : ¬ pw m ≤ c := fun hh => hC (.inr (.inr (by simpa using hh)))
                           omega
  clear hC
  by_cases hz : b = 0
  · have e4 : hasF 4 m a b = false := by simp [hasF, hz]
    have e6 : hasF 6 m a b = false := by simp [hasF, hz]
    exact ring_zero m a b c w hM h1 h2 ha hb hc (Lib.hid e4) (Lib.hid e6) (by simpa using hz)
  have e4 : hasF 4 m a b = true := by simp [hasF, hz]
  have e5 : hasF 5 m a b = true := by simp [hasF, hz]
  cases e6 : hasF 6 m a b
  · exact ring_low m a b c w hM h1 h2 ha hb hc (Lib.hid e4) (Lib.hid e5) (Lib.hid e6) (by simpa using hz)
  · exact ring_both m a b c w hM h1 h2 ha hb hc (Lib.hid e4) (Lib.hid e5) (Lib.hid e6) (Lib.hid e6) (by simpa using hz)
end Go.Proofs.YtgepmfnjldfnhaaDoor
