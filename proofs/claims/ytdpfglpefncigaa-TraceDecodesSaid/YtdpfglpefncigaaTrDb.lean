/-
  Decode of the reference.
-/
import Derived.Test.YtdpfglpefncigaaTrDa2
import Derived.Deep.RegionHeld3
import Derived.BigRegion
namespace Go.Proofs.Ytdpfglpefncigaa
open Go.RowKit

theorem byte_lt {w : World} {R : Nat} {v : Value} {l : List Nat} (h : BytesAt w R v l) : ∀ x ∈ l, x < 256 := by
  rcases h with ⟨rfl, _⟩ | ⟨_, g, off, c, _, _, _, hj⟩
  · intro x hx
    cases hx
  · intro x hx
    obtain ⟨j, hjl, rfl⟩ := List.mem_iff_getElem.1 hx
    have := (hj j hjl).1
    simpa [hjl] using this
theorem own_more {w : World} {base base2 e size k : Nat} {v : Value} {xs : List Value} (h : w.ownsRow base e size v k xs) (hb : base2 ≤ base) : w.ownsRow base2 e size v k xs := by
  refine ⟨h.1, ?_⟩
  rcases h.2 with h2 | ⟨g, cap, cur, h1, h2, h3⟩
  · exact .inl h2
  · exact .inr ⟨g, cap, cur, h1, by omega, h3⟩
set_option maxRecDepth 100000 in
set_option maxHeartbeats 4000000 in
theorem refDecode_any (g off c : Nat) (l : List Nat) (w : World) (h0 : 0 < l.length) (h4 : l.length ≤ 4000) (hc : l.length ≤ c) (hg : g < w.heap.size) (hj : ∀ j, j < l.length → l[j]! < 256 ∧ w.cell? ⟨g, off + j, none⟩ = some (.int .u8 (l[j]! : Int))) :
    Calls Try.prog 29 #[.slice (some ⟨g, off, none⟩) l.length c] w fun e w' => Below w.heap.size w w' ∧ DecPost (refDecP l) w e w' := by
  obtain ⟨i0, hi, hz0, hz1, hz2⟩ := info_parts infoInt
  obtain ⟨n, hn⟩ : ∃ n, n = l.length := ⟨_, rfl⟩
  have HJ := Lib.hid hj
  have HBY := Lib.hid (show BytesAt w w.heap.size (.slice (some ⟨g, off, none⟩) l.length c) l from .inr ⟨h0, g, off, c, rfl, hc, hg, hj⟩)
  have HB8 := Lib.hid (byte_lt HBY.out)
  rw [← hn] at h0 h4 hc HBY ⊢
  have HN := Lib.hid hn
  clear hj hn
  go_enter Try.func29, Try.ntmps29
  go_wp2
  go_loopw [4, 5, 6, 7] (fun vn zn zt zi wr => ∃ (i N T : Nat) (nums : List Nat), i ≤ n ∧ zi = .int .i64 (i : Int) ∧ zn = .int .i64 (N : Int) ∧ zt = .int .i64 (T : Int) ∧ N < 2 ^ T ∧ T ≤ 47 ∧ nums.length ≤ i ∧ wr.ownsRow w.heap.size 3 1 vn nums.length (intsV nums) ∧ Below w.heap.size w wr ∧ Hid ((∀ m ∈ nums, m < 140737488355328) ∧ rfP (l.drop i) nums N T = rfP l [] 0 0)) (fun _ _ _ zi _ => n - (intOf zi).toNat)
  case atStart => exact ⟨0, 0, 0, [], by omega, rfl, rfl, rfl, by omega, by omega, by simp, World.ownsRow_nil _ _ _ _, Below.refl _ _, Lib.hid ⟨by simp, rfl⟩⟩
  case round =>
    obtain ⟨i, N, T, nums, hin, rfl, rfl, rfl, hNT, hT47, hni, hown, hb, HR⟩ := hrel
    by_cases hlt : i < n
    · have hil : i < l.length := by have := HN.out; omega
      obtain ⟨hx, cx⟩ := HJ.out i hil
      have cx2 := (hb.cell (p := ⟨g, off + i, none⟩) hg).trans cx
      have hdrop : l.drop i = l[i]! :: l.drop (i + 1) := by
        rw [List.drop_eq_getElem_cons hil]
        congr 1
        simp [hil]
      have hr2 := HR.out.2
      rw [hdrop] at hr2
      generalize l[i]! = x at hx cx cx2 hr2
      clear cx hdrop
      by_cases hT : 40 < T
      · have HE := Lib.hid (dec_none1 (hr2.symm.trans (by unfold rfP; rw [if_pos hT])))
        clear hr2 HR hown cx2 hNT
        go_wp2
        refine bodyPost_ret (results_tmp2 rfl _ _ _) rfl ?_
        refine ⟨hb, ?_⟩
        rw [HE.out]
        rfl
      · have HS := Lib.hid (step_num N x T hNT (by omega) hx)
        have HNX := Lib.hid (next_lt N x T hNT)
        have hwl : nums.length ≤ 4000 := by omega
        clear HJ
        by_cases h128 : x < 128
        · have HQ := Lib.hid (show rfP (l.drop (i + 1)) (nums ++ [N + x % 128 * 2 ^ T]) 0 0 = rfP l [] 0 0 from by
            rw [← hr2]
            conv => rhs; unfold rfP
            rw [if_neg hT, if_pos h128])
          have HM := Lib.hid HR.out.1
          clear hr2 HR
          go_wp2_with (at_builtin; refine wpList_append_own _ rfl _ _ 25 rfl w.heap.size 3 i0 (.int .i64 0) 1 8 Try.underlying25 hi hz0 hz1 hz2 rfl (by decide) _ _ _ rfl (hown.alloc _) ⟨wr.heap.size, 0, none⟩ 1 1 [Value.int .i64 (wrap64 ((N : Int) + wrap64 ((x : Int) % 128 * 2 ^ T)))] rfl rfl ?c1 ?c2 ?c3 ?c4 ?c5 ?_)
          case c1 => have := cell_one_new wr (Value.int .i64 (wrap64 ((N : Int) + wrap64 ((x : Int) % 128 * 2 ^ T)))) 3; simpa using this
          case c2 => simp [Value.oneCell']
          case c3 => unfold maxLen; omega
          case c4 => omega
          case c5 => have := hb.size; simp; omega
          intro v2 w4 hown2 hgrow _
          have hb5 : Below w.heap.size w w4 := (hb.alloc hb.size _).grown hgrow (by have := hb.size; simp; omega) (own_base (hown.alloc (.cells #[Value.int .i64 (wrap64 ((N : Int) + wrap64 ((x : Int) % 128 * 2 ^ T)))] 3)))
          have HO2 := Lib.hid (show w4.ownsRow w.heap.size 3 1 v2 (nums ++ [N + x % 128 * 2 ^ T]).length (intsV (nums ++ [N + x % 128 * 2 ^ T])) by
            rw [List.length_append, intsV_append, intsV_one, ← HS.out]
            exact hown2)
          have HM2 := Lib.hid (show ∀ m ∈ nums ++ [N + x % 128 * 2 ^ T], m < 140737488355328 from fun m hm => by
            rcases List.mem_append.1 hm with h | h
            · exact HM.out m h
            · simp at h
              have h2 := HNX.out
              have h3 : 2 ^ (T + 7) ≤ 2 ^ 47 := Nat.pow_le_pow_right (by omega) (by omega)
              rw [h]
              omega)
          clear hown hown2 hgrow hb cx2
          go_wp2
          go_roundw
          case rel => exact ⟨i + 1, 0, 0, nums ++ [N + x % 128 * 2 ^ T], by omega, by go_num, rfl, rfl, by omega, by omega, by rw [List.length_append, List.length_singleton]; omega, HO2.out, hb5, Lib.hid ⟨HM2.out, HQ.out⟩⟩
          case measure => simp [intOf]; omega
        · have HQ := Lib.hid (show rfP (l.drop (i + 1)) nums (N + x % 128 * 2 ^ T) (T + 7) = rfP l [] 0 0 from by
            rw [← hr2]
            conv => rhs; unfold rfP
            rw [if_neg hT, if_neg h128])
          have HM := Lib.hid HR.out.1
          clear hr2 HR
          go_wp2
          go_roundw
          case rel => exact ⟨i + 1, N + x % 128 * 2 ^ T, T + 7, nums, by omega, by go_num, congrArg (Value.int .i64) HS.out, by go_num, HNX.out, by omega, by omega, hown, hb, Lib.hid ⟨HM.out, HQ.out⟩⟩
          case measure => simp [intOf]; omega
    · have hR : rfP l [] 0 0 = some (nums, N, T) := by
        have h2 := HR.out.2
        rw [List.drop_eq_nil_of_le (by have := HN.out; omega)] at h2
        exact h2.symm
      have HNL := Lib.hid HR.out.1
      have HRR := Lib.hid hR
      clear HR hR HJ hNT hg hc
      by_cases hT0 : 0 < T
      · have HE := Lib.hid (dec_none2 HRR.out (.inl hT0))
        clear hown HNL
        have hz : ¬ T = 0 := by omega
        go_wp2
        refine bodyPost_ret (results_tmp2 rfl _ _ _) rfl ?_
        refine ⟨hb, ?_⟩
        rw [HE.out]
        rfl
      · obtain rfl : T = 0 := by omega
        clear hT0 hT47
        rw [show ((0 : Nat) : Int) = 0 from rfl]
        rcases hown.2 with ⟨rfl, hl0⟩ | ⟨g1, cap, cur, rfl, -, hh, hcap, h3, -⟩
        · have HE := Lib.hid (dec_none2 HRR.out (.inr (.inl hl0)))
          clear hown HNL
          go_wp2
          refine bodyPost_ret (results_tmp2 rfl _ _ _) rfl ?_
          refine ⟨hb, ?_⟩
          rw [HE.out]
          rfl
        · have hcell : ∀ j, j < nums.length → wr.cell? ⟨g1, j, none⟩ = some (.int .i64 (nums[j]! : Int)) := fun j hj => by
            have := hown.cells (g := g1) rfl j (.int .i64 (nums[j]! : Int)) (by simp [intsV, hj])
            have e : (⟨g1, 0, none⟩ : Addr).add j = ⟨g1, j, none⟩ := by
              unfold Addr.add
              split
              · rename_i h0
                simp [h0]
              · simp
            rw [← e]
            exact this
          have hg1 := lt_of_block hh
          clear hh h3
          obtain ⟨L, hL⟩ : ∃ L, L = nums.length := ⟨_, rfl⟩
          rw [← hL] at hcell hcap hni ⊢
          obtain ⟨K, hK⟩ : ∃ K, K = nums[0]! := ⟨_, rfl⟩
          have HLL := Lib.hid hL
          have HKK := Lib.hid hK
          have HC := Lib.hid hcell
          by_cases hL0 : L = 0
          · have HE := Lib.hid (dec_none2 HRR.out (.inr (.inl (hL ▸ hL0))))
            subst hL0
            clear hown HNL hcell hL hK
            go_wp2
            refine bodyPost_ret (results_tmp2 rfl _ _ _) rfl ?_
            refine ⟨hb, ?_⟩
            rw [HE.out]
            rfl
          · have c0 := hcell 0 (by omega)
            rw [← hK] at c0
            clear hown hcell
            have dL : ((L : Int) == 0) = false := by simp [hL0]
            by_cases hK64 : 64 < K
            · have HE := Lib.hid (dec_none2 HRR.out (.inr (.inr (.inl (hK ▸ hK64)))))
              clear hL hK HNL
              go_wp2
              refine bodyPost_ret (results_tmp2 rfl _ _ _) rfl ?_
              refine ⟨hb, ?_⟩
              rw [HE.out]
              rfl
            · by_cases hLK : L = 1 + 5 * K
              · have dLK : ((1 : Int) + 5 * (K : Int) == 0) = false := by simp; omega
                have dLK2 : decide (64 < (K : Int)) = false := decide_eq_false (by omega)
                have HNX := Lib.hid (show ∀ k, k < L → nums[k]! < 140737488355328 from fun k hk => get_lt HNL.out k (by omega))
                have HLN := Lib.hid (show ∀ j, j ≤ K → lastN nums j ≤ j * 140737488355328 from fun j hj => lastN_le nums (fun k hk => get_lt HNL.out k hk) j (by omega))
                have hRK := HRR.out
                have hnone : ¬ (valF (tabOf nums K) = 0 ∧ encF (tabOf nums K) = l) → refDecP l = none := fun h => dec_none3 hRK (hK ▸ h)
                have hsome : valF (tabOf nums K) = 0 ∧ encF (tabOf nums K) = l → refDecP l = some (tabOf nums K) := fun h => by
                  rw [hK]
                  exact dec_some hRK (by rw [← hL, ← hK]; omega) (hK ▸ h)
                have HNO := Lib.hid hnone
                have HSO := Lib.hid hsome
                clear hL hK HNL hRK hnone hsome
                subst hLK
                go_wp2
                clear hi hz0 hz1 hz2 i0
                obtain ⟨i0, hi, hz0, hz1, hz2⟩ := info_parts infoPl
                obtain ⟨W1, hW1⟩ : ∃ W1, W1 = wr := ⟨_, rfl⟩
                subst hW1
                go_loopw [8, 9, 10] (fun vl zl zi wr => ∃ j : Nat, j ≤ K ∧ zi = .int .i64 (j : Int) ∧ zl = .int .i64 (lastN nums j : Int) ∧ wr.ownsRow W1.heap.size 33 5 vl j (placesV (tabOf nums j)) ∧ Below W1.heap.size W1 wr) (fun _ _ zi _ => K - (intOf zi).toNat)
                case atStart => exact ⟨0, by omega, rfl, rfl, World.ownsRow_nil _ _ _ _, Below.refl _ _⟩
                case round =>
                  obtain ⟨j, hjK, rfl, rfl, hown, hb2⟩ := hrel
                  have k0 := (hb2.cell (p := ⟨g1, 0, none⟩) hg1).trans c0
                  by_cases hlt : j < K
                  · have hus : tabOf nums (j + 1) = tabOf nums j ++ [⟨(lastN nums j : Int) + (nums[1 + 5 * j]! : Nat), (lastN nums j : Int) + (nums[1 + 5 * j]! : Nat) + (nums[1 + 5 * j + 1]! : Nat), (nums[1 + 5 * j + 2]! : Nat), (nums[1 + 5 * j + 3]! : Nat), (nums[1 + 5 * j + 4]! : Nat)⟩] := by
                      rw [tabOf_succ]
                      congr 2
                    have hus1 : (lastN nums (j + 1) : Int) = (lastN nums j : Int) + (nums[1 + 5 * j]! : Nat) := by simp [lastN]
                    have x0 := (hb2.cell (p := ⟨g1, 1 + 5 * j, none⟩) hg1).trans (HC.out (1 + 5 * j) (by omega))
                    have x1 := (hb2.cell (p := ⟨g1, 1 + 5 * j + 1, none⟩) hg1).trans (HC.out (1 + 5 * j + 1) (by omega))
                    have x2 := (hb2.cell (p := ⟨g1, 1 + 5 * j + 2, none⟩) hg1).trans (HC.out (1 + 5 * j + 2) (by omega))
                    have x3 := (hb2.cell (p := ⟨g1, 1 + 5 * j + 3, none⟩) hg1).trans (HC.out (1 + 5 * j + 3) (by omega))
                    have x4 := (hb2.cell (p := ⟨g1, 1 + 5 * j + 4, none⟩) hg1).trans (HC.out (1 + 5 * j + 4) (by omega))
                    have y0 := HNX.out (1 + 5 * j) (by omega)
                    have y1 := HNX.out (1 + 5 * j + 1) (by omega)
                    have hlj := HLN.out j (by omega)
                    have HUS := Lib.hid hus
                    have HUS1 := Lib.hid hus1
                    clear hus hus1
                    generalize lastN nums j = Lj at hlj HUS HUS1 ⊢
                    generalize nums[1 + 5 * j]! = X0 at x0 y0 HUS HUS1
                    generalize nums[1 + 5 * j + 1]! = X1 at x1 y1 HUS
                    generalize nums[1 + 5 * j + 2]! = X2 at x2 HUS
                    generalize nums[1 + 5 * j + 3]! = X3 at x3 HUS
                    generalize nums[1 + 5 * j + 4]! = X4 at x4 HUS
                    go_wp2
                    obtain ⟨M, hM⟩ : ∃ M, M = 1 + 5 * K - (1 + 5 * j) := ⟨_, rfl⟩
                    rw [← hM]
                    have m0 : 0 < M := by omega
                    have m1 : (1 : Int) < (M : Int) := by omega
                    have m2 : (2 : Int) < (M : Int) := by omega
                    have m3 : (3 : Int) < (M : Int) := by omega
                    have m4 : (4 : Int) < (M : Int) := by omega
                    have e0 : IntKind.i64.wrap ((Lj : Int) + (X0 : Int)) = (Lj : Int) + (X0 : Int) := by rw [IntKind.wrap_i64]; omega
                    have e1 : IntKind.i64.wrap ((Lj : Int) + (X0 : Int) + (X1 : Int)) = (Lj : Int) + (X0 : Int) + (X1 : Int) := by rw [IntKind.wrap_i64]; omega
                    generalize cap - (1 + 5 * j) = cc
                    generalize hO : 1 + 5 * j = O at x0 x1 x2 x3 x4 ⊢
                    have HO1 := Lib.hid hown
                    have HB2 := Lib.hid hb2
                    clear hM hO hown hb2 hlj y0 y1
                    have z0 := World.new_ne _ _ x0
                    have z1 := World.new_ne _ _ x1
                    have z2 := World.new_ne _ _ x2
                    have z3 := World.new_ne _ _ x3
                    have z4 := World.new_ne _ _ x4
                    go_region_held3 (fun W => W.cell? ⟨g1, O, none⟩ = some (.int .i64 (X0 : Int)) ∧ W.cell? ⟨g1, O + 1, none⟩ = some (.int .i64 (X1 : Int)) ∧ W.cell? ⟨g1, O + 2, none⟩ = some (.int .i64 (X2 : Int)) ∧ W.cell? ⟨g1, O + 3, none⟩ = some (.int .i64 (X3 : Int)) ∧ W.cell? ⟨g1, O + 4, none⟩ = some (.int .i64 (X4 : Int))) (go_keep) (fail)
                    clear z0 z1 z2 z3 z4 m0 m1 m2 m3 m4 x0 x1 x2 x3 x4
                    have hb3 : Below W1.heap.size W1 (wr.alloc (.cells #[.int .i64 ((Lj : Int) + (X0 : Int)), .int .i64 ((Lj : Int) + (X0 : Int) + (X1 : Int)), .int .i64 (X2 : Int), .int .i64 (X3 : Int), .int .i64 (X4 : Int)] 33)).drew := drewR (HB2.out.alloc HB2.out.size _)
                    have hn5 : (wr.alloc (.cells #[.int .i64 ((Lj : Int) + (X0 : Int)), .int .i64 ((Lj : Int) + (X0 : Int) + (X1 : Int)), .int .i64 (X2 : Int), .int .i64 (X3 : Int), .int .i64 (X4 : Int)] 33)).drew.heap[wr.heap.size]? = some (.cells #[.int .i64 ((Lj : Int) + (X0 : Int)), .int .i64 ((Lj : Int) + (X0 : Int) + (X1 : Int)), .int .i64 (X2 : Int), .int .i64 (X3 : Int), .int .i64 (X4 : Int)] 33 (0, 0)) := heap_alloc_new wr _
                    have hown : (wr.alloc (.cells #[.int .i64 ((Lj : Int) + (X0 : Int)), .int .i64 ((Lj : Int) + (X0 : Int) + (X1 : Int)), .int .i64 (X2 : Int), .int .i64 (X3 : Int), .int .i64 (X4 : Int)] 33)).drew.ownsRow W1.heap.size 33 5 u8 j (placesV (tabOf nums j)) := HO1.out.alloc _
                    have hne : u8.ownBlock ≠ some wr.heap.size := fun h => by have := HO1.out.lt _ h; omega
                    generalize (wr.alloc _).drew = W3 at hb3 hn5 hown ⊢
                    generalize wr.heap.size = BP at hn5 hne ⊢
                    obtain ⟨d0, d1, d2, d3, d4⟩ := cells5 hn5
                    have sz3 := hb3.size
                    go_wp2_with (at_builtin; refine wpList_append_own _ rfl _ _ 22 rfl W1.heap.size 33 i0 (.agg #[.int .i64 0, .int .i64 0, .int .i64 0, .int .i64 0, .int .i64 0]) 5 40 Try.underlying22 hi hz0 hz1 hz2 rfl (by decide) _ j _ rfl (hown.alloc _) ⟨W3.heap.size, 0, none⟩ 1 1 [.int .i64 ((Lj : Int) + (X0 : Int)), .int .i64 ((Lj : Int) + (X0 : Int) + (X1 : Int)), .int .i64 (X2 : Int), .int .i64 (X3 : Int), .int .i64 (X4 : Int)] rfl rfl ?k1 ?k2 ?k3 ?k4 ?k5 ?_)
                    case k1 => exact news5 (heap_alloc_new W3 _)
                    case k2 => intro u hu; simp at hu; rcases hu with rfl | rfl | rfl | rfl | rfl <;> rfl
                    case k3 => unfold maxLen; omega
                    case k4 => omega
                    case k5 => simp; omega
                    intro v2 w7 hown7 hgrow _
                    have hb5 : Below W1.heap.size W1 w7 := (hb3.alloc sz3 _).grown hgrow (by simp; omega) (own_base (hown.alloc (.cells #[.int .i64 ((Lj : Int) + (X0 : Int)), .int .i64 ((Lj : Int) + (X0 : Int) + (X1 : Int)), .int .i64 (X2 : Int), .int .i64 (X3 : Int), .int .i64 (X4 : Int)] 33)))
                    obtain ⟨e0, -, -, -, -⟩ := cells5 (grown_block hgrow ((heap_alloc_old W3 (.cells #[.int .i64 ((Lj : Int) + (X0 : Int)), .int .i64 ((Lj : Int) + (X0 : Int) + (X1 : Int)), .int .i64 (X2 : Int), .int .i64 (X3 : Int), .int .i64 (X4 : Int)] 33) (lt_of_block hn5)).trans hn5) hne)
                    have HO2 := Lib.hid (show w7.ownsRow W1.heap.size 33 5 v2 (j + 1) (placesV (tabOf nums (j + 1))) by
                      rw [HUS.out, placesV_append]
                      exact hown7)
                    clear hown hown7 hgrow hb3 hne hn5 d0 d1 d2 d3 d4 HO1 HB2 HUS
                    go_wp2
                    go_roundw
                    case rel => exact ⟨j + 1, by omega, by go_num, congrArg (Value.int .i64) HUS1.out.symm, HO2.out, hb5⟩
                    case measure => simp [intOf]; omega
                  · obtain rfl : j = K := by omega
                    have hown' : wr.ownsRow W1.heap.size 33 5 u8 (tabOf nums j).length (placesV (tabOf nums j)) := by
                      rw [tabOf_length]
                      exact hown
                    obtain ⟨A', c', rfl, hT⟩ := tab_own hown'
                    have HO1 := Lib.hid (own_more hown' hb.size)
                    have HT := Lib.hid hT
                    have hb3 := hb.trans (hb2.mono hb.size)
                    clear hown hown' hT hb2 hb
                    generalize tabOf nums j = zs at HO1 HT HNO HSO
                    by_cases hv : valF zs = 0
                    · have HF := Lib.hid (RefEncode_tab HT.out)
                      rw [hv, show encL zs = encF zs by unfold encL; rw [if_pos hv]] at HF
                      have HE8 := Lib.hid (encF_byte zs)
                      by_cases he : encF zs = l
                      · have HE := Lib.hid (HSO.out ⟨hv, he⟩)
                        rw [he] at HF
                        clear hv he HNO HSO HE8
                        go_wp2_with fail
                        refine HF.out.mono ?_
                        rintro e w4 ⟨v4, rfl, h4', hb4⟩
                        have k1 := str_conv h4'
                        have k2 := str_conv (HBY.out.more (hb3.trans (hb4.mono hb3.size)))
                        generalize strB l = S at k1 k2
                        have HO2 := Lib.hid (own_below HO1.out hb4)
                        have hb5 := hb3.trans (hb4.mono hb3.size)
                        clear h4' hb4 hb3 HO1 HF HT
                        go_wp2
                        refine bodyPost_ret (results_tmp2 rfl _ _ _) rfl ?_
                        refine ⟨hb5, ?_⟩
                        rw [HE.out]
                        exact ⟨_, rfl, HO2.out⟩
                      · have HE := Lib.hid (HNO.out (fun h => he h.2))
                        have hne := strs_ne HE8.out HB8.out he
                        clear hv he HNO HSO HE8
                        go_wp2_with fail
                        refine HF.out.mono ?_
                        rintro e w4 ⟨v4, rfl, h4', hb4⟩
                        have k1 := str_conv h4'
                        have k2 := str_conv (HBY.out.more (hb3.trans (hb4.mono hb3.size)))
                        generalize strB l = S at k1 k2 hne
                        generalize strB (encF zs) = S2 at k1 k2 hne
                        have dS : (S2.toList == S.toList) = false := by
                          rw [beq_eq_false_iff_ne]
                          intro h
                          apply hne
                          rw [ByteArray.toList_eq, ByteArray.toList_eq] at h
                          obtain ⟨⟨a⟩⟩ := S
                          obtain ⟨⟨b⟩⟩ := S2
                          simpa using h
                        have hb5 := hb3.trans (hb4.mono hb3.size)
                        clear h4' hb4 hb3 HO1 HF HT
                        go_wp2
                        refine bodyPost_ret (results_tmp2 rfl _ _ _) rfl ?_
                        refine ⟨hb5, ?_⟩
                        rw [HE.out]
                        rfl
                    · have HE := Lib.hid (HNO.out (fun h => hv h.1))
                      have HF := Lib.hid (RefEncode_tab HT.out)
                      generalize valF zs = X at HF hv
                      have dX : (X != 0) = true := by simp [hv]
                      clear hv HNO HSO
                      go_wp2_with fail
                      refine HF.out.mono ?_
                      rintro e w4 ⟨v4, rfl, -, hb4⟩
                      go_wp2
                      refine bodyPost_ret (results_tmp2 rfl _ _ _) rfl ?_
                      refine ⟨hb3.trans (hb4.mono hb3.size), ?_⟩
                      rw [HE.out]
                      rfl
              · have HE := Lib.hid (dec_none2 HRR.out (.inr (.inr (.inr (by rw [← hL, ← hK]; exact hLK)))))
                clear hL hK HNL
                have dLK : ((L : Int) != 1 + 5 * (K : Int)) = true := by simp; omega
                go_wp2
                refine bodyPost_ret (results_tmp2 rfl _ _ _) rfl ?_
                refine ⟨hb, ?_⟩
                rw [HE.out]
                rfl
end Go.Proofs.Ytdpfglpefncigaa
