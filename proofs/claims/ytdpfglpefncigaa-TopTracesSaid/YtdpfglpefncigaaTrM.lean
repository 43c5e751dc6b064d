/-
  Encode of package trace, at every table: the walk.
-/
import Derived.Test.YtdpfglpefncigaaTrL
namespace Go.Proofs.Ytdpfglpefncigaa
open Go.RowKit

/-- What the bytes written so far are. -/
def Wrote (B base : Nat) (l : List Nat) (w : World) : Prop := ∃ v, w.heap[B]? = some (.cells #[v] 39 (0, 0)) ∧ w.ownsRow base 5 1 v l.length (bytesV l)
theorem write_all {B base n : Nat} {l : List Nat} {w : World} (h : Wrote B base l w) (hn : n < 34359738368) (hbB : base ≤ B) (hbw : base ≤ w.heap.size) (hk : l.length ≤ 90000) :
    Calls Try.prog 50 #[.int .i64 n, .pointer (some ⟨B, 0, none⟩)] w fun e w' => e = .returned (.tuple #[]) ∧ Wrote B base (l ++ grpF 5 n) w' ∧ Below base w w' ∧ OthersAs B w w' := by
  obtain ⟨v, hB, hown⟩ := h
  refine (write_any 5 n (by omega) (by omega) (by omega) B base l.length v (bytesV l) w hB hown hbB hbw (by omega)).mono ?_
  rintro e w' ⟨rfl, v', hB', hown', hb, ho⟩
  refine ⟨rfl, ⟨v', hB', ?_⟩, hb, ho⟩
  rw [List.length_append, bytesV_append]
  exact hown'
theorem encode_bad (V : Value) (zs : List Plc) (w : World) (hv : valF zs ≠ 0) (hV : ∀ w', Below w.heap.size w w' → Calls Try.prog 18 #[V] w' fun e w2 => e = .returned (.int .i64 (valF zs)) ∧ Below w'.heap.size w' w2) :
    Calls Try.prog 25 #[V] w fun e w' => e = .returned (.tuple #[.slice none 0 0, .int .i64 (valF zs)]) ∧ Below w.heap.size w w' := by
  have HV := Lib.hid hV
  clear hV
  obtain ⟨X, hX⟩ : ∃ X, X = valF zs := ⟨_, rfl⟩
  rw [← hX] at hv HV ⊢
  clear hX
  go_enter Try.func25, Try.ntmps25
  go_wp2_with fail
  refine (HV.out w (Below.refl _ _)).mono ?_
  rintro e w1 ⟨rfl, hb1⟩
  go_wp2
  refine bodyPost_ret (results_tmp2 rfl _ _ _) rfl ?_
  exact ⟨rfl, hb1⟩
set_option maxRecDepth 100000 in
set_option maxHeartbeats 4000000 in
theorem encode_good (b off n c : Nat) (zs : List Plc) (w : World) (hL : Lies w b off zs) (hn : n = zs.length) (hc : n ≤ c) (hm : c ≤ 9223372036854775807) (hv : valF zs = 0) :
    Calls Try.prog 25 #[.slice (some ⟨b, off, none⟩) n c] w fun e w' => ∃ v, e = .returned (.tuple #[v, .int .i64 0]) ∧ Below w.heap.size w w' ∧ w'.ownsRow w.heap.size 5 1 v (encF zs).length (bytesV (encF zs)) := by
  obtain ⟨h64, hok⟩ := valF_ok hv
  have HL := Lib.hid hL
  have HN := Lib.hid hn
  have HOK := Lib.hid hok
  have n64 : n ≤ 64 := by omega
  have HV := Lib.hid (hv ▸ validate_any b off n c zs w hL hn hc hm)
  clear hL hn hok hv h64
  go_enter Try.func25, Try.ntmps25
  go_wp2_with fail
  refine (HV.out).mono ?_
  rintro e w1 ⟨rfl, hb1⟩
  go_wp2_with fail
  obtain ⟨B, hB⟩ : ∃ B, B = w1.heap.size := ⟨_, rfl⟩
  have hW : Wrote B w.heap.size [] (w1.alloc (.cells #[.slice none 0 0] 39)) := ⟨.slice none 0 0, by rw [hB]; exact heap_alloc_new w1 _, World.ownsRow_nil _ _ _ _⟩
  have hb2 : Below w.heap.size w (w1.alloc (.cells #[.slice none 0 0] 39)) := hb1.alloc hb1.size _
  have hbB : w.heap.size ≤ B := by have := hb1.size; omega
  rw [← hB]
  generalize World.alloc w1 _ = w2 at hW hb2
  refine (write_all hW (by omega) hbB hb2.size (by simp)).mono ?_
  rintro e w3 ⟨rfl, hW3, hb3, -⟩
  have hb4 : Below w.heap.size w w3 := hb2.trans hb3
  have e0 : [] ++ grpF 5 n = encUpto zs 0 := by
    have := HN.out
    subst this
    unfold encUpto
    simp
  rw [e0] at hW3
  clear e0 hW hb2 hb3 hb1 hB
  go_wp2
  go_loopw [7, 24] (fun z zi wr => ∃ i : Nat, i ≤ n ∧ zi = .int .i64 (i : Int) ∧ z = .int .i64 (lastA zs i) ∧ Below w.heap.size w wr ∧ Wrote B w.heap.size (encUpto zs i) wr) (fun _ zi _ => n - (intOf zi).toNat)
  case atStart => exact ⟨0, by omega, rfl, rfl, hb4, hW3⟩
  case round =>
    obtain ⟨i, hi, rfl, rfl, hb, hWr⟩ := hrel
    by_cases hlt : i < n
    · have ht := (HL.out.below hb).at_ (j := i) (by have := HN.out; omega)
      obtain ⟨p, hp⟩ : ∃ p, p = zs[i]! := ⟨_, rfl⟩
      obtain ⟨A, Z, V, K, N, rfl, hAZ, hZ, hV, hK, hN⟩ := place_nums (p := p) (hp ▸ okAt_place (okAll_at HOK.out (by have := HN.out; omega)))
      obtain ⟨L, hl, hLA⟩ := last_nums HOK.out (j := i) (by have := HN.out; omega)
      rw [← hp] at ht hLA
      have HR := Lib.hid (show rowNums (lastA zs i) zs[i]! = [A - L, Z - A, V, K, N] by rw [← hp, hl]; simp [rowNums])
      rw [hl]
      have HP := Lib.hid hp
      have HLA := Lib.hid hl
      clear hp hl
      obtain ⟨c0, c1, c2, c3, c4⟩ := ht
      simp only at c0 c1 c2 c3 c4 hLA
      go_wp2
      obtain ⟨P, hP⟩ : ∃ P, P = wr.heap.size := ⟨_, rfl⟩
      have hPc : (wr.alloc (.cells #[.int .i64 A, .int .i64 Z, .int .i64 V, .int .i64 K, .int .i64 N] 33)).heap[P]? = some (.cells #[.int .i64 A, .int .i64 Z, .int .i64 V, .int .i64 K, .int .i64 N] 33 (0, 0)) := by rw [hP]; exact heap_alloc_new wr _
      have hPB : P ≠ B := by
        obtain ⟨_, h, _⟩ := hWr
        have := lt_of_block h
        omega
      have hW1 : Wrote B w.heap.size (encUpto zs i ++ grpAll (([A - L, Z - A, V, K, N] : List Nat).take 0)) (wr.alloc (.cells #[.int .i64 A, .int .i64 Z, .int .i64 V, .int .i64 K, .int .i64 N] 33)) := by
        obtain ⟨v, h1, h2⟩ := hWr
        refine ⟨v, (heap_alloc_old wr _ (lt_of_block h1)).trans h1, ?_⟩
        rw [show encUpto zs i ++ grpAll (([A - L, Z - A, V, K, N] : List Nat).take 0) = encUpto zs i by simp [grpAll]]
        exact h2.alloc _
      have hb1 : Below w.heap.size w (wr.alloc (.cells #[.int .i64 A, .int .i64 Z, .int .i64 V, .int .i64 K, .int .i64 N] 33)) := hb.alloc hb.size _
      rw [← hP]
      generalize World.alloc wr _ = w5 at hPc hW1 hb1
      obtain ⟨x0, hx0⟩ : ∃ x : Nat, x = A - L := ⟨_, rfl⟩
      obtain ⟨x1, hx1⟩ : ∃ x : Nat, x = Z - A := ⟨_, rfl⟩
      rw [show (A : Int) - (L : Int) = (x0 : Int) by omega, show (Z : Int) - (A : Int) = (x1 : Int) by omega]
      rw [← hx0, ← hx1] at hW1 HR
      have b0 : x0 < 34359738368 := by omega
      have b1 : x1 < 34359738368 := by omega
      have hlen := encUpto_length zs i
      clear hx0 hx1 c0 c1 c2 c3 c4 hWr hb hP
      have j0 : ∀ w : World, (Instr.index 74 (.agg #[.int .i64 x0, .int .i64 x1, .int .i64 V, .int .i64 K, .int .i64 N]) (.int .i64 0)).run Try.prog w = .ok (.int .i64 x0) w := fun _ => by kernel_rfl
      have j1 : ∀ w : World, (Instr.index 74 (.agg #[.int .i64 x0, .int .i64 x1, .int .i64 V, .int .i64 K, .int .i64 N]) (.int .i64 1)).run Try.prog w = .ok (.int .i64 x1) w := fun _ => by kernel_rfl
      have j2 : ∀ w : World, (Instr.index 74 (.agg #[.int .i64 x0, .int .i64 x1, .int .i64 V, .int .i64 K, .int .i64 N]) (.int .i64 2)).run Try.prog w = .ok (.int .i64 V) w := fun _ => by kernel_rfl
      have j3 : ∀ w : World, (Instr.index 74 (.agg #[.int .i64 x0, .int .i64 x1, .int .i64 V, .int .i64 K, .int .i64 N]) (.int .i64 3)).run Try.prog w = .ok (.int .i64 K) w := fun _ => by kernel_rfl
      have j4 : ∀ w : World, (Instr.index 74 (.agg #[.int .i64 x0, .int .i64 x1, .int .i64 V, .int .i64 K, .int .i64 N]) (.int .i64 4)).run Try.prog w = .ok (.int .i64 N) w := fun _ => by kernel_rfl
      go_loopw [44] (fun z wr => ∃ m : Nat, m ≤ 5 ∧ z = .int .i64 (m : Int) ∧ wr.heap[P]? = some (.cells #[.int .i64 A, .int .i64 Z, .int .i64 V, .int .i64 K, .int .i64 N] 33 (0, 0)) ∧ Below w.heap.size w wr ∧ Wrote B w.heap.size (encUpto zs i ++ grpAll (([x0, x1, V, K, N] : List Nat).take m)) wr) (fun z _ => 5 - (intOf z).toNat)
      case atStart => exact ⟨0, by omega, rfl, hPc, hb1, hW1⟩
      case round =>
        obtain ⟨m, hm, rfl, hPc, hb, hWr⟩ := hrel
        have hm6 : m = 0 ∨ m = 1 ∨ m = 2 ∨ m = 3 ∨ m = 4 ∨ m = 5 := by omega
        clear hm
        rcases hm6 with rfl | rfl | rfl | rfl | rfl | rfl
        · rw [show (((0 : Nat)) : Int) = 0 from rfl]
          go_wp2_with fail
          refine (write_all (n := x0) hWr (by omega) hbB hb.size (by
            have := grpAll_length (([x0, x1, V, K, N] : List Nat).take 0)
            rw [List.length_append]
            simp only [List.take, List.length_cons, List.length_nil] at this ⊢
            omega)).mono ?_
          rintro e w6 ⟨rfl, hW6, hb6, ho6⟩
          have hPc' := ho6 P _ _ _ hPB (by decide) hPc
          rw [List.append_assoc, show grpAll (([x0, x1, V, K, N] : List Nat).take 0) ++ grpF 5 x0 = grpAll (([x0, x1, V, K, N] : List Nat).take 1) by simp [grpAll]] at hW6
          have hb7 := hb.trans hb6
          clear hPc hWr hb hb6 ho6
          go_wp2
          go_roundw
          case rel => exact ⟨1, by omega, by go_num, hPc', hb7, hW6⟩
          case measure => simp [intOf]
        · rw [show (((1 : Nat)) : Int) = 1 from rfl]
          go_wp2_with fail
          refine (write_all (n := x1) hWr (by omega) hbB hb.size (by
            have := grpAll_length (([x0, x1, V, K, N] : List Nat).take 1)
            rw [List.length_append]
            simp only [List.take, List.length_cons, List.length_nil] at this ⊢
            omega)).mono ?_
          rintro e w6 ⟨rfl, hW6, hb6, ho6⟩
          have hPc' := ho6 P _ _ _ hPB (by decide) hPc
          rw [List.append_assoc, show grpAll (([x0, x1, V, K, N] : List Nat).take 1) ++ grpF 5 x1 = grpAll (([x0, x1, V, K, N] : List Nat).take 2) by simp [grpAll]] at hW6
          have hb7 := hb.trans hb6
          clear hPc hWr hb hb6 ho6
          go_wp2
          go_roundw
          case rel => exact ⟨2, by omega, by go_num, hPc', hb7, hW6⟩
          case measure => simp [intOf]
        · rw [show (((2 : Nat)) : Int) = 2 from rfl]
          go_wp2_with fail
          refine (write_all (n := V) hWr (by omega) hbB hb.size (by
            have := grpAll_length (([x0, x1, V, K, N] : List Nat).take 2)
            rw [List.length_append]
            simp only [List.take, List.length_cons, List.length_nil] at this ⊢
            omega)).mono ?_
          rintro e w6 ⟨rfl, hW6, hb6, ho6⟩
          have hPc' := ho6 P _ _ _ hPB (by decide) hPc
          rw [List.append_assoc, show grpAll (([x0, x1, V, K, N] : List Nat).take 2) ++ grpF 5 V = grpAll (([x0, x1, V, K, N] : List Nat).take 3) by simp [grpAll]] at hW6
          have hb7 := hb.trans hb6
          clear hPc hWr hb hb6 ho6
          go_wp2
          go_roundw
          case rel => exact ⟨3, by omega, by go_num, hPc', hb7, hW6⟩
          case measure => simp [intOf]
        · rw [show (((3 : Nat)) : Int) = 3 from rfl]
          go_wp2_with fail
          refine (write_all (n := K) hWr (by omega) hbB hb.size (by
            have := grpAll_length (([x0, x1, V, K, N] : List Nat).take 3)
            rw [List.length_append]
            simp only [List.take, List.length_cons, List.length_nil] at this ⊢
            omega)).mono ?_
          rintro e w6 ⟨rfl, hW6, hb6, ho6⟩
          have hPc' := ho6 P _ _ _ hPB (by decide) hPc
          rw [List.append_assoc, show grpAll (([x0, x1, V, K, N] : List Nat).take 3) ++ grpF 5 K = grpAll (([x0, x1, V, K, N] : List Nat).take 4) by simp [grpAll]] at hW6
          have hb7 := hb.trans hb6
          clear hPc hWr hb hb6 ho6
          go_wp2
          go_roundw
          case rel => exact ⟨4, by omega, by go_num, hPc', hb7, hW6⟩
          case measure => simp [intOf]
        · rw [show (((4 : Nat)) : Int) = 4 from rfl]
          go_wp2_with fail
          refine (write_all (n := N) hWr (by omega) hbB hb.size (by
            have := grpAll_length (([x0, x1, V, K, N] : List Nat).take 4)
            rw [List.length_append]
            simp only [List.take, List.length_cons, List.length_nil] at this ⊢
            omega)).mono ?_
          rintro e w6 ⟨rfl, hW6, hb6, ho6⟩
          have hPc' := ho6 P _ _ _ hPB (by decide) hPc
          rw [List.append_assoc, show grpAll (([x0, x1, V, K, N] : List Nat).take 4) ++ grpF 5 N = grpAll (([x0, x1, V, K, N] : List Nat).take 5) by simp [grpAll]] at hW6
          have hb7 := hb.trans hb6
          clear hPc hWr hb hb6 ho6
          go_wp2
          go_roundw
          case rel => exact ⟨5, by omega, by go_num, hPc', hb7, hW6⟩
          case measure => simp [intOf]
        · rw [show (((5 : Nat)) : Int) = 5 from rfl]
          have cP : wr.cell? ⟨P, 0, none⟩ = some (.int .i64 A) := by simp [World.cell?, hPc]
          have e1 : encUpto zs i ++ grpAll (([x0, x1, V, K, N] : List Nat).take 5) = encUpto zs (i + 1) := by rw [encUpto_succ, HR.out]; rfl
          rw [e1] at hWr
          have e2 : lastA zs (i + 1) = A := by unfold lastA; rw [if_neg (by omega), Nat.add_sub_cancel, ← HP.out]
          have H2 := Lib.hid e2
          clear hPc e1 e2
          go_wp2
          go_roundw
          case rel => exact ⟨i + 1, by omega, by go_num, by rw [H2.out], hb, hWr⟩
          case measure => simp [intOf]; omega
    · obtain rfl : i = n := by omega
      obtain ⟨v, hv1, hv2⟩ := hWr
      have cB := cell_of_one hv1
      have HW := Lib.hid hv2
      clear hv1 hv2
      go_wp2
      refine bodyPost_ret (results_tmp2 rfl _ _ _) rfl ?_
      have h := HW.out
      rw [HN.out] at h
      exact ⟨v, rfl, hb, h⟩
end Go.Proofs.Ytdpfglpefncigaa
