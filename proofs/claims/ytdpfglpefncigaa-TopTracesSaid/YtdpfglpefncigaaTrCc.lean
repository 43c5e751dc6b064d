/-
  The reference's insertion sort.
-/
import Derived.Test.YtdpfglpefncigaaTrCb
import Derived.Deep.Cut
namespace Go.Proofs.Ytdpfglpefncigaa
open Go.RowKit

theorem putAt_cell (w : World) (g o : Nat) (p : Plc) {a : Addr} {u : Value} (h : ¬ a.block = g) (hu : w.cell? a = some u) : (putAt w g o p).cell? a = some u := by
  unfold putAt
  rw [World.cell?_setCell_other _ _ _ _ (fun e => h (by rw [← e])), World.cell?_setCell_other _ _ _ _ (fun e => h (by rw [← e])), World.cell?_setCell_other _ _ _ _ (fun e => h (by rw [← e])), World.cell?_setCell_other _ _ _ _ (fun e => h (by rw [← e])), World.cell?_setCell_other _ _ _ _ (fun e => h (by rw [← e]))]
  exact hu
theorem putAt_frozen (w : World) (g o : Nat) (p : Plc) {a : Addr} (h : w.frozen? a = false) : (putAt w g o p).frozen? a = false := by
  unfold putAt
  rw [frozen_setCell_same, frozen_setCell_same, frozen_setCell_same, frozen_setCell_same, frozen_setCell_same]
  exact h
theorem putAt_there (w : World) (g o : Nat) (p : Plc) {a : Addr} {u : Value} (hu : w.cell? a = some u) : ∃ u', (putAt w g o p).cell? a = some u' := by
  have one : ∀ (w : World) (b : Addr) (v : Value) {u : Value}, w.cell? a = some u → ∃ u', (w.setCell b v).cell? a = some u' := fun w b v u hu => by
    by_cases h : a = b
    · subst h
      exact ⟨v, World.cell?_setCell_same w _ v hu⟩
    · exact ⟨u, (World.cell?_setCell_other w b a v (fun e => h e.symm)).trans hu⟩
  obtain ⟨u1, h1⟩ := one w _ _ hu
  obtain ⟨u2, h2⟩ := one _ _ _ h1
  obtain ⟨u3, h3⟩ := one _ _ _ h2
  obtain ⟨u4, h4⟩ := one _ _ _ h3
  exact one _ _ _ h4
set_option maxRecDepth 100000 in
theorem refSorted_empty (A : Option Addr) (c : Nat) (w : World) : Calls Try.prog 55 #[.slice A 0 c] w fun e w' => e = .returned (.slice none 0 0) ∧ Below w.heap.size w w' := by
  go_enter Try.func55, Try.ntmps55
  go_wp2
  go_loopw [3, 4] (fun vo zi wr => vo = .slice none 0 0 ∧ zi = .int .i64 0 ∧ wr = w) (fun _ _ _ => 0)
  case atStart => exact ⟨rfl, rfl, rfl⟩
  case round =>
    obtain ⟨rfl, rfl, rfl⟩ := hrel
    go_wp2
    go_ret
    exact ⟨rfl, Below.refl _ _⟩
set_option maxRecDepth 100000 in
set_option maxHeartbeats 4000000 in
theorem refSorted_any (b off n c : Nat) (zs : List Plc) (w : World) (hL : Lies w b off zs) (hn : n = zs.length) (h64 : n ≤ 1000) :
    Calls Try.prog 55 #[.slice (some ⟨b, off, none⟩) n c] w fun e w' => ∃ v, e = .returned v ∧ w'.ownsRow w.heap.size 33 5 v (srt zs).length (placesV (srt zs)) ∧ Below w.heap.size w w' := by
  obtain ⟨i0, hi, hz0, hz1, hz2⟩ := info_parts infoPl
  have HL := Lib.hid hL
  have HN := Lib.hid hn
  clear hL hn
  go_enter Try.func55, Try.ntmps55
  go_wp2
  go_loopw [3, 4] (fun vo zi wr => ∃ (i : Nat) (L : List Plc), i ≤ n ∧ zi = .int .i64 (i : Int) ∧ wr.ownsRow w.heap.size 33 5 vo i (placesV L) ∧ Below w.heap.size w wr ∧ L.length = i ∧ Hid (Srt L ∧ L.Perm (zs.take i))) (fun _ zi _ => n - (intOf zi).toNat)
  case atStart => exact ⟨0, [], by omega, rfl, World.ownsRow_nil _ _ _ _, Below.refl _ _, rfl, Lib.hid ⟨List.Pairwise.nil, by simp⟩⟩
  case round =>
    obtain ⟨i, L, hin, rfl, hown, hb, hLi, HS⟩ := hrel
    by_cases hlt : i < n
    · have hil : i < zs.length := by have := HN.out; omega
      have ht := (HL.out.below hb).at_ hil
      have HT := Lib.hid (show zs.take (i + 1) = zs.take i ++ [zs[i]!] by
        rw [show zs[i]! = zs[i] by simp [hil], List.take_succ_eq_append_getElem hil])
      generalize zs[i]! = p at ht HT
      obtain ⟨pa, pz, pv, pk, pn⟩ := p
      obtain ⟨c0, c1, c2, c3, c4⟩ := ht
      simp only at c0 c1 c2 c3 c4
      go_wp2_with (at_builtin; refine wpList_append_own _ rfl _ _ 22 rfl w.heap.size 33 i0 (.agg #[.int .i64 0, .int .i64 0, .int .i64 0, .int .i64 0, .int .i64 0]) 5 40 Try.underlying22 hi hz0 hz1 hz2 rfl (by decide) _ i _ rfl (hown.alloc _) ⟨wr.heap.size, 0, none⟩ 1 1 [.int .i64 pa, .int .i64 pz, .int .i64 pv, .int .i64 pk, .int .i64 pn] rfl rfl ?k1 ?k2 ?k3 ?k4 ?k5 ?_)
      case k1 => exact news5 (heap_alloc_new wr _)
      case k2 => intro u hu; simp at hu; rcases hu with rfl | rfl | rfl | rfl | rfl <;> rfl
      case k3 => unfold maxLen; omega
      case k4 => omega
      case k5 => have := hb.size; simp; omega
      intro v2 w7 hown7 hgrow _
      have hb5 : Below w.heap.size w w7 := (hb.alloc hb.size _).grown hgrow (by have := hb.size; simp; omega) (own_base (hown.alloc (.cells #[.int .i64 pa, .int .i64 pz, .int .i64 pv, .int .i64 pk, .int .i64 pn] 33)))
      have hown8 : w7.ownsRow w.heap.size 33 5 v2 (i + 1) (placesV (insAt L i ⟨pa, pz, pv, pk, pn⟩)) := by
        rw [← hLi, insAt_end, placesV_append, hLi]
        exact hown7
      obtain ⟨g, cap, rfl⟩ : ∃ g cap, v2 = .slice (some ⟨g, 0, none⟩) (i + 1) cap := by
        rcases hown8.2 with ⟨_, h0⟩ | ⟨g, cap, cur, h0, _⟩
        · omega
        · exact ⟨g, cap, h0⟩
      clear hown hown7 hgrow hb c0 c1 c2 c3 c4
      go_wp2
      go_loopw [5] (fun zk wr => ∃ k : Nat, k ≤ i ∧ zk = .int .i64 (k : Int) ∧ wr.ownsRow w.heap.size 33 5 (.slice (some ⟨g, 0, none⟩) (i + 1) cap) (i + 1) (placesV (insAt L k ⟨pa, pz, pv, pk, pn⟩)) ∧ Below w.heap.size w wr ∧ Hid (∀ j, k ≤ j → j < i → befB ⟨pa, pz, pv, pk, pn⟩ L[j]! = true)) (fun zk _ => (intOf zk).toNat)
      case atStart => exact ⟨i, by omega, rfl, hown8, hb5, Lib.hid (fun j h1 h2 => absurd h2 (by omega))⟩
      case round =>
        clear hown8 hb5
        obtain ⟨k, hki, rfl, hown, hb, HB⟩ := hrel
        by_cases hk0 : k = 0
        · subst hk0
          have HS2 := Lib.hid (show Srt (insAt L 0 ⟨pa, pz, pv, pk, pn⟩) ∧ (insAt L 0 ⟨pa, pz, pv, pk, pn⟩).Perm (zs.take (i + 1)) from
            ⟨insAt_srt HS.out.1 (by omega) (fun j h1 h2 => HB.out j h1 (by omega)) (.inl rfl), (insAt_perm L 0 _).trans (by rw [HT.out]; exact (HS.out.2.cons _).trans (List.perm_append_singleton _ _).symm)⟩)
          rw [show ((0 : Nat) : Int) = 0 from rfl]
          go_wp2
          refine wp_region_quiet_below (by kernel_rfl) (by kernel_rfl) ?_
          iterate 14 (go_big_quiet_step (fail))
          refine wpQuiet_nil ?_
          intro _ hw'
          obtain ⟨⟨dq, osq⟩, hw''⟩ := hw'
          subst hw''
          have hb2 := hb.trans ((below_regrown wr dq osq).mono hb.size)
          have hown2 := own_below hown (below_regrown wr dq osq)
          generalize Sort.grow (redrawn wr dq) osq = W2 at hb2 hown2
          clear hown hb HB
          go_wp2
          go_roundw
          case rel => exact ⟨i + 1, insAt L 0 ⟨pa, pz, pv, pk, pn⟩, by omega, by go_num, hown2, hb2, by rw [insAt_len, hLi], HS2⟩
          case measure => simp [intOf]; omega
        · obtain ⟨m, hm⟩ : ∃ m, k = m + 1 := ⟨k - 1, by omega⟩
          have HKM := Lib.hid hm
          have hmk : m < k := by omega
          obtain ⟨ap, fp, hgb, hgs⟩ := own_at5 hown (j := k) (by rw [insAt_len]; omega)
          obtain ⟨aq, fq, -, -⟩ := own_at5 hown (j := m) (by rw [insAt_len]; omega)
          rw [insAt_k (by omega)] at ap
          rw [show insAt L k ⟨pa, pz, pv, pk, pn⟩ = insAt L (m + 1) ⟨pa, pz, pv, pk, pn⟩ by rw [hm], insAt_before (by omega)] at aq
          obtain ⟨c0, c1, c2, c3, c4⟩ := ap
          simp only at c0 c1 c2 c3 c4
          have T0 := cell_regrown c0
          have T1 := cell_regrown c1
          have T2 := cell_regrown c2
          have T3 := cell_regrown c3
          have T4 := cell_regrown c4
          have HSW := Lib.hid (show ((insAt L k ⟨pa, pz, pv, pk, pn⟩).set k L[m]!).set m ⟨pa, pz, pv, pk, pn⟩ = insAt L m ⟨pa, pz, pv, pk, pn⟩ by rw [hm]; exact insAt_swap (by omega))
          have HSR := Lib.hid (fun h => (show Srt (insAt L k ⟨pa, pz, pv, pk, pn⟩) ∧ (insAt L k ⟨pa, pz, pv, pk, pn⟩).Perm (zs.take (i + 1)) from
            ⟨insAt_srt HS.out.1 (by omega) (fun j h1 h2 => HB.out j h1 (by omega)) (.inr h), (insAt_perm L k _).trans (by rw [HT.out]; exact (HS.out.2.cons _).trans (List.perm_append_singleton _ _).symm)⟩))
          have HBN := Lib.hid (fun (h : befB ⟨pa, pz, pv, pk, pn⟩ L[m]! = true) j (h1 : m ≤ j) (h2 : j < i) => (show befB ⟨pa, pz, pv, pk, pn⟩ L[j]! = true by
            by_cases hjm : j = m
            · rw [hjm]; exact h
            · exact HB.out j (by omega) h2))
          rw [show k - 1 = m by omega] at HSR
          obtain ⟨q, hq⟩ : ∃ q, q = L[m]! := ⟨_, rfl⟩
          rw [← hq] at aq HSW HSR HBN
          have HQ := Lib.hid hq
          clear hq
          obtain ⟨qa, qz, qv, qk, qn⟩ := q
          obtain ⟨d0, d1, d2, d3, d4⟩ := aq
          simp only at d0 d1 d2 d3 d4
          have C0 := cell_regrown d0
          have C1 := cell_regrown d1
          have C2 := cell_regrown d2
          have C3 := cell_regrown d3
          have C4 := cell_regrown d4
          have e1 : (k : Int) - 1 = (m : Int) := by omega
          have di : decide (0 < k) = true := decide_eq_true (by omega)
          clear hm
          cases hbf : befB ⟨pa, pz, pv, pk, pn⟩ ⟨qa, qz, qv, qk, qn⟩
          · have HX := Lib.hid hbf
            have HS2 := Lib.hid (HSR.out hbf)
            clear hbf HSR HBN HSW HB c0 c1 c2 c3 c4 d0 d1 d2 d3 d4 fp fq
            go_wp2
            refine wp_region_quiet_below (by kernel_rfl) (by kernel_rfl) ?_
            have q1 : ∀ (d : Nat) (os : Array Obj), Calls Try.prog 49 #[.agg #[.int .i64 pa, .int .i64 pz, .int .i64 pv, .int .i64 pk, .int .i64 pn], .agg #[.int .i64 qa, .int .i64 qz, .int .i64 qv, .int .i64 qk, .int .i64 qn]] (Sort.grow (redrawn wr d) os) fun e w'' => e = .returned (.bool false) ∧ ∃ p : Regrown, w'' = Sort.grow (redrawn wr p.d) p.os := fun d os => Calls.regrown_of (before_at ⟨pa, pz, pv, pk, pn⟩ ⟨qa, qz, qv, qk, qn⟩ false _ HX.out)
            have Q1 := Lib.hid q1
            clear q1
            iterate 14 (go_big_quiet_step ((go_at_call 49; with_reducible exact Q1.out _ _)))
            refine wpQuiet_nil ?_
            intro _ hw'
            obtain ⟨⟨dq, osq⟩, hw''⟩ := hw'
            subst hw''
            have hb2 := hb.trans ((below_regrown wr dq osq).mono hb.size)
            have hown2 := own_below hown (below_regrown wr dq osq)
            generalize Sort.grow (redrawn wr dq) osq = W2 at hb2 hown2
            clear Q1 T0 T1 T2 T3 T4 C0 C1 C2 C3 C4
            clear hown hb
            go_wp2
            go_roundw
            case rel => exact ⟨i + 1, insAt L k ⟨pa, pz, pv, pk, pn⟩, by omega, by go_num, hown2, hb2, by rw [insAt_len, hLi], HS2⟩
            case measure => simp [intOf]; omega
          · have HX := Lib.hid hbf
            have HB2 := Lib.hid (HBN.out hbf)
            clear hbf HSR HBN HB c0 c1 c2 c3 c4 d0 d1 d2 d3 d4 fp fq
            go_wp2
            refine wp_region_quiet_below (by kernel_rfl) (by kernel_rfl) ?_
            have q1 : ∀ (d : Nat) (os : Array Obj), Calls Try.prog 49 #[.agg #[.int .i64 pa, .int .i64 pz, .int .i64 pv, .int .i64 pk, .int .i64 pn], .agg #[.int .i64 qa, .int .i64 qz, .int .i64 qv, .int .i64 qk, .int .i64 qn]] (Sort.grow (redrawn wr d) os) fun e w'' => e = .returned (.bool true) ∧ ∃ p : Regrown, w'' = Sort.grow (redrawn wr p.d) p.os := fun d os => Calls.regrown_of (before_at ⟨pa, pz, pv, pk, pn⟩ ⟨qa, qz, qv, qk, qn⟩ true _ HX.out)
            have Q1 := Lib.hid q1
            clear q1
            iterate 14 (go_big_quiet_step ((go_at_call 49; with_reducible exact Q1.out _ _)))
            refine wpQuiet_nil ?_
            intro _ hw'
            obtain ⟨⟨dq, osq⟩, hw''⟩ := hw'
            subst hw''
            have hb2 := hb.trans ((below_regrown wr dq osq).mono hb.size)
            have hown2 := own_below hown (below_regrown wr dq osq)
            generalize Sort.grow (redrawn wr dq) osq = W2 at hb2 hown2
            clear Q1 T0 T1 T2 T3 T4 C0 C1 C2 C3 C4
            clear hown hb
            obtain ⟨ar, -, -, hgs2⟩ := own_at5 hown2 (j := k) (by rw [insAt_len]; omega)
            rw [insAt_k (by omega)] at ar
            obtain ⟨r0, r1, r2, r3, r4⟩ := ar
            simp only at r0 r1 r2 r3 r4
            go_upto_region 10 with fail
            have hown3 := hown2.alloc (.cells #[.int .i64 pa, .int .i64 pz, .int .i64 pv, .int .i64 pk, .int .i64 pn] 33)
            have hb3 : Below w.heap.size w (W2.alloc (.cells #[.int .i64 pa, .int .i64 pz, .int .i64 pv, .int .i64 pk, .int .i64 pn] 33)) := hb2.alloc hb2.size _
            obtain ⟨n0, n1, n2, n3, n4⟩ := cells5 (heap_alloc_new W2 (.cells #[.int .i64 pa, .int .i64 pz, .int .i64 pv, .int .i64 pk, .int .i64 pn] 33))
            have hne : ¬ g = W2.heap.size := by omega
            have hne2 : ¬ W2.heap.size = g := by omega
            clear r0 r1 r2 r3 r4
            generalize W2.alloc _ = W3 at hown3 hb3 n0 n1 n2 n3 n4 ⊢
            generalize W2.heap.size = BP at n0 n1 n2 n3 n4 hne hne2 ⊢
            clear hb2 hown2 HX
            obtain ⟨ap, ⟨f0, f1, f2, f3, f4⟩, -, -⟩ := own_at5 hown3 (j := k) (by rw [insAt_len]; omega)
            obtain ⟨aq, ⟨g0, g1, g2, g3, g4⟩, -, -⟩ := own_at5 hown3 (j := m) (by rw [insAt_len]; omega)
            rw [insAt_k (by omega)] at ap
            rw [show insAt L k ⟨pa, pz, pv, pk, pn⟩ = insAt L (m + 1) ⟨pa, pz, pv, pk, pn⟩ by rw [HKM.out], insAt_before (by omega), ← HQ.out] at aq
            obtain ⟨c0, c1, c2, c3, c4⟩ := ap
            obtain ⟨d0, d1, d2, d3, d4⟩ := aq
            simp only at c0 c1 c2 c3 c4 d0 d1 d2 d3 d4
            have HO4 := Lib.hid (show (putAt (putAt W3 g (k * 5) ⟨qa, qz, qv, qk, qn⟩) g (m * 5) ⟨pa, pz, pv, pk, pn⟩).ownsRow w.heap.size 33 5 (.slice (some ⟨g, 0, none⟩) (i + 1) cap) (i + 1) (placesV (insAt L m ⟨pa, pz, pv, pk, pn⟩)) by
              rw [← HSW.out]
              exact own_put5 (own_put5 hown3 (j := k) (by rw [insAt_len]; omega) ⟨qa, qz, qv, qk, qn⟩) (j := m) (by rw [List.length_set, insAt_len]; omega) ⟨pa, pz, pv, pk, pn⟩)
            have HB4 := Lib.hid (show Below w.heap.size w (putAt (putAt W3 g (k * 5) ⟨qa, qz, qv, qk, qn⟩) g (m * 5) ⟨pa, pz, pv, pk, pn⟩) from putAt_below (putAt_below hb3 hgb _ _) hgb _ _)
            clear hown3 HSW hb3
            go_upto_region 11 with fail
            change Code.wp _ _ _ _ (putAt W3 g (k * 5) ⟨qa, qz, qv, qk, qn⟩)
            replace n0 := putAt_cell W3 g (k * 5) ⟨qa, qz, qv, qk, qn⟩ hne2 n0
            replace n1 := putAt_cell W3 g (k * 5) ⟨qa, qz, qv, qk, qn⟩ hne2 n1
            replace n2 := putAt_cell W3 g (k * 5) ⟨qa, qz, qv, qk, qn⟩ hne2 n2
            replace n3 := putAt_cell W3 g (k * 5) ⟨qa, qz, qv, qk, qn⟩ hne2 n3
            replace n4 := putAt_cell W3 g (k * 5) ⟨qa, qz, qv, qk, qn⟩ hne2 n4
            replace g0 := putAt_frozen W3 g (k * 5) ⟨qa, qz, qv, qk, qn⟩ g0
            replace g1 := putAt_frozen W3 g (k * 5) ⟨qa, qz, qv, qk, qn⟩ g1
            replace g2 := putAt_frozen W3 g (k * 5) ⟨qa, qz, qv, qk, qn⟩ g2
            replace g3 := putAt_frozen W3 g (k * 5) ⟨qa, qz, qv, qk, qn⟩ g3
            replace g4 := putAt_frozen W3 g (k * 5) ⟨qa, qz, qv, qk, qn⟩ g4
            obtain ⟨v0, d0⟩ := putAt_there W3 g (k * 5) ⟨qa, qz, qv, qk, qn⟩ d0
            obtain ⟨v1, d1⟩ := putAt_there W3 g (k * 5) ⟨qa, qz, qv, qk, qn⟩ d1
            obtain ⟨v2, d2⟩ := putAt_there W3 g (k * 5) ⟨qa, qz, qv, qk, qn⟩ d2
            obtain ⟨v3, d3⟩ := putAt_there W3 g (k * 5) ⟨qa, qz, qv, qk, qn⟩ d3
            obtain ⟨v4, d4⟩ := putAt_there W3 g (k * 5) ⟨qa, qz, qv, qk, qn⟩ d4
            clear c0 c1 c2 c3 c4 f0 f1 f2 f3 f4
            generalize putAt W3 g (k * 5) ⟨qa, qz, qv, qk, qn⟩ = W4 at HO4 HB4 n0 n1 n2 n3 n4 g0 g1 g2 g3 g4 d0 d1 d2 d3 d4 ⊢
            go_wp2
            go_roundw
            case rel => exact ⟨m, by omega, by go_num, HO4.out, HB4.out, Lib.hid HB2.out⟩
            case measure => simp [intOf]; omega
    · obtain rfl : i = n := by omega
      have he : L = srt zs := srt_uniq (by have := HS.out.2; rwa [List.take_of_length_le (by have := HN.out; omega)] at this) HS.out.1
      subst he
      have hl : (srt zs).length = i := hLi
      go_wp2
      go_ret
      exact ⟨_, rfl, by rw [hl]; exact hown, hb⟩
end Go.Proofs.Ytdpfglpefncigaa
