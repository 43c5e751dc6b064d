/-
  The walk of TermShares.
-/
import Derived.Test.YtbohigjfdnnomaaDoorTeTl
import Derived.Test.YtbohigjfdnnomaaDoorTeS
namespace Go.Proofs.YtbohigjfdnnomaaDoor
open Go.RowKit

/-- The rows of Args of a list of nodes, as far as one may write into them. -/
structure Live (w2 wr : World) (gA : Nat) (av : Nat → Value) (la : List Nd) : Prop where
  below : Below w2.heap.size w2 wr
  lt : gA < wr.heap.size
  cell : ∀ i, i < la.length → wr.cell? ⟨gA, i * 5 + 3, none⟩ = some (av i)
  rows : ∀ i, i < la.length → ∃ A c, av i = .slice A (la[i]!).args.length c ∧ (la[i]!).args.length ≤ c ∧ c ≤ 9223372036854775807 ∧ ((la[i]!).args.length = 0 ∨ ∃ g arr, A = some ⟨g, 0, none⟩ ∧ w2.heap.size ≤ g ∧ g ≠ gA ∧ wr.heap[g]? = some (.cells arr 3 (0, 0)) ∧ (la[i]!).args.length ≤ arr.size)
theorem Live.put {w2 wr : World} {gA g m : Nat} {av : Nat → Value} {la : List Nd} (h : Live w2 wr gA av la) (hg : w2.heap.size ≤ g) (hne : g ≠ gA) (v : Value) : Live w2 (wr.setCell ⟨g, m, none⟩ v) gA av la where
  below := h.below.setCell (p := ⟨g, m, none⟩) hg v
  lt := by have := (keep_set wr g m v).size; have := h.lt; omega
  cell i hi := (cell_eq (heap_setCell_other wr ⟨g, m, none⟩ gA v (fun e => hne e.symm))).trans (h.cell i hi)
  rows i hi := by
    obtain ⟨A, c, h1, h2, h3, h4⟩ := h.rows i hi
    refine ⟨A, c, h1, h2, h3, h4.imp id ?_⟩
    rintro ⟨g2, arr, h5, h6, h7, h8, h9⟩
    by_cases e : g2 = g
    · subst e
      exact ⟨g2, _, h5, h6, h7, heap_setCell_same wr g2 m _ _ _ h8, by simpa using h9⟩
    · exact ⟨g2, arr, h5, h6, h7, (heap_setCell_other wr ⟨g, m, none⟩ g2 v e).trans h8, h9⟩
theorem OwnT.below {w w' : World} {base : Nat} {nv : Value} {av : Nat → Value} {out : List Nd} (h : OwnT w base nv av out) (hb : Below w.heap.size w w') : OwnT w' base nv av out :=
  ⟨own_below h.row hb, fun i hi => own_below (h.args i hi) hb, h.imm⟩
theorem live_of {w2 wr : World} {nv : Value} {av : Nat → Value} {la : List Nd} (h : OwnT wr w2.heap.size nv av la) (hs : SepN nv av la) (hb : Below w2.heap.size w2 wr) (h1 : 1 ≤ la.length) : ∃ gA c, nv = .slice (some ⟨gA, 0, none⟩) la.length c ∧ Live w2 wr gA av la := by
  have h0 := h.row
  rcases h.row.2 with ⟨-, h2⟩ | ⟨gA, cap, cur, rfl, hg, hh, -⟩
  · omega
  · refine ⟨gA, cap, rfl, hb, lt_of_block hh, fun i hi => (own_cell h0 ((rowC_at av hi (j := 3) (by omega)).trans rfl)).1, fun i hi => ?_⟩
    rcases (h.args i hi).2 with ⟨e, h3⟩ | ⟨g, c2, cur2, e, h4, h5, h6, h7, h8, -⟩
    · exact ⟨none, 0, by rw [e, h3], by omega, by omega, .inl h3⟩
    · refine ⟨_, c2, e, h6, by unfold maxLen at h7; omega, .inr ⟨g, cur2, rfl, h4, fun e2 => ?_, h5, by omega⟩⟩
      subst e2
      exact hs i hi g (by rw [e]; rfl) rfl
section
variable {w : World} {A : Option Addr} {n c : Nat} {T : List Nd}
set_option maxRecDepth 100000 in
set_option maxHeartbeats 8000000 in
/-- The walk of TermShares. -/
theorem shares_walk (h : Term w A n c T) (hM : Masks w) (k : Int) : Calls Tryd.prog 5 #[.slice A n c, .int .i64 k] w fun e w' => e = .returned (.bool true) ∧ Below w.heap.size w w' := by
  have HK := Lib.hid (fun w1 (hb : Below w.heap.size w w1) => known_any (hM.below hb (Nat.le_refl _)))
  have HL := Lib.hid (long_any h)
  cases hlg : longB T
  · have hl1 : ¬ 400 < T.length ∧ ∀ k, k < T.length → ¬ 20 < T[k]!.args.length := by
      unfold longB at hlg
      rw [Bool.or_eq_false_iff, decide_eq_false_iff_not] at hlg
      refine ⟨hlg.1, fun k hk e => ?_⟩
      have h2 : ((List.range T.length).any fun k => decide (20 < T[k]!.args.length)) = true := List.any_eq_true.2 ⟨k, List.mem_range.2 hk, decide_eq_true e⟩
      rw [hlg.2] at h2
      cases h2
    have HC := Lib.hid (fun w1 (hb : Below w.heap.size w w1) => copyNodes_any (h.below hb) (by have := h.1; omega) (fun k hk => by have := hl1.2 k (by rw [← h.1]; exact hk); omega))
    have HRS := Lib.hid (fun w1 (hb : Below w.heap.size w w1) => refShare_any (h.below hb))
    have HRP := Lib.hid (fun w1 (hb : Below w.heap.size w w1) => refPart_any (h.below hb) k)
    have HT := Lib.hid h
    have HCASE := Lib.hid (show valF T = 0 → valF (if valF T = 0 then shF T (T.length - 1) else []) = 0 ∧ shF (if valF T = 0 then shF T (T.length - 1) else []) ((if valF T = 0 then shF T (T.length - 1) else []).length - 1) = (if valF T = 0 then shF T (T.length - 1) else []) by
      intro hv
      rw [if_pos hv]
      exact shF_val hv (by have := (val_zero.1 hv).1.1; omega))
    rw [hlg] at HL
    clear h hM hlg hl1
    go_enter Tryd.func5, Tryd.ntmps5
    go_wp2_with fail
    refine HL.out.mono ?_
    rintro e w1 ⟨rfl, hb1⟩
    go_wp2_with fail
    refine (HC.out _ hb1).mono ?_
    rintro e w2 ⟨nv, av, rfl, hO, hb⟩
    obtain ⟨A2, c2, rfl, hT2⟩ := own_term hO.own
    have hb2 := hb1.trans (hb.mono hb1.size)
    have HT2 := Lib.hid hT2
    have HS := Lib.hid (fun w3 (hb : Below w2.heap.size w2 w3) => share_any (hT2.below hb))
    have HP := Lib.hid (fun w3 (hb : Below w2.heap.size w2 w3) => part_any (hT2.below hb) k)
    clear hb hO hT2
    generalize (if valF T = 0 then shF T (T.length - 1) else []) = la at HS HRS HCASE
    generalize (if partF T k = 0 then shF T k.toNat else []) = lc at HP HRP
    generalize valF T = V at HS HRS HCASE
    generalize partF T k = E at HP HRP
    go_wp2_with fail
    refine (HS.out _ (Below.refl _ _)).mono ?_
    rintro e w3 ⟨na, ava, rfl, hOa, hsep, hb3⟩
    obtain ⟨Aa, ca, rfl, hTa⟩ := own_term hOa
    have HOA := Lib.hid (And.intro hOa hsep)
    have HB3 := Lib.hid hb3
    have HB23 := Lib.hid (hb2.trans (hb3.mono hb2.size))
    have HB2 := Lib.hid hb2
    clear hOa hsep hb3 hb2 hb1
    go_wp2_with fail
    refine (HRS.out _ HB23.out).mono ?_
    rintro e w4 ⟨nb, avb, rfl, hOb, hb4⟩
    obtain ⟨Ab, cb, rfl, hTb⟩ := own_term hOb
    have HB34 := Lib.hid hb4
    clear hOb hb4
    go_wp2_with fail
    refine (HP.out _ (HB3.out.trans (HB34.out.mono HB3.out.size))).mono ?_
    rintro e w5 ⟨nc, avc, rfl, hOc, hb5⟩
    obtain ⟨Ac, cc, rfl, hTc⟩ := own_term hOc
    have HB35 := Lib.hid (HB34.out.trans (hb5.mono HB34.out.size))
    have hTb5 := hTb.below hb5
    clear hOc hb5 hTb
    go_wp2_with fail
    refine (HRP.out _ (HB23.out.trans (HB35.out.mono HB23.out.size))).mono ?_
    rintro e w6 ⟨nd, avd, rfl, hOd, hb6⟩
    obtain ⟨Ad, cd, rfl, hTd⟩ := own_term hOd
    have HB36 := Lib.hid (HB35.out.trans (hb6.mono HB35.out.size))
    have HSN := Lib.hid (sameNodes_any (hTa.below HB36.out) (hTb5.below hb6))
    have HSN2 := Lib.hid (fun w7 (hb : Below w6.heap.size w6 w7) => sameNodes_any ((hTc.below hb6).below hb) (hTd.below hb))
    have HTA := Lib.hid hTa
    rw [decide_eq_true rfl] at HSN HSN2
    clear hOd hb6 hTb5 hTc hTd hTa
    have eV : (V == V) = true := beq_self_eq_true V
    have eE : (E == E) = true := beq_self_eq_true E
    go_wp2_with fail
    refine HSN.out.mono ?_
    rintro e w7 ⟨rfl, hb7⟩
    have HB37 := Lib.hid (HB36.out.trans (hb7.mono HB36.out.size))
    have HSN3 := Lib.hid (HSN2.out w7 hb7)
    clear hb7
    go_wp2_with fail
    refine HSN3.out.mono ?_
    rintro e w8 ⟨rfl, hb8⟩
    have HB38 := Lib.hid (HB37.out.trans (hb8.mono HB37.out.size))
    clear hb8
    by_cases hv : V = 0
    · subst hv
      obtain ⟨hva, hsa⟩ := HCASE.out rfl
      have HAG := Lib.hid (share_any (HTA.out.below HB38.out))
      rw [hva, if_pos rfl, hsa] at HAG
      have hlen := (val_zero.1 hva).1.1
      clear hva hsa
      go_wp2_with fail
      refine HAG.out.mono ?_
      rintro e w9 ⟨ng, avg, rfl, hOg, -, hb9⟩
      obtain ⟨Ag, cg, rfl, hTg⟩ := own_term hOg
      have HB39 := Lib.hid (HB38.out.trans (hb9.mono HB38.out.size))
      have HSN4 := Lib.hid (sameNodes_any hTg (HTA.out.below HB39.out))
      rw [decide_eq_true rfl] at HSN4
      clear hOg hTg hb9
      go_wp2_with fail
      refine HSN4.out.mono ?_
      rintro e w10 ⟨rfl, hb10⟩
      have HB310 := Lib.hid (HB39.out.trans (hb10.mono HB39.out.size))
      obtain ⟨gA, cA, hna, hlive⟩ := live_of (w2 := w2) (wr := w10) (HOA.out.1.below HB310.out) HOA.out.2 (HB3.out.trans (HB310.out.mono HB3.out.size)) hlen
      have hca1 := HTA.out.2.1
      have hca2 := HTA.out.2.2.1
      injection hna with e1 _ e3
      subst e1 e3
      have HLV0 := Lib.hid hlive
      obtain ⟨N, hN⟩ : ∃ N, la.length = N := ⟨_, rfl⟩
      have HNE := Lib.hid hN
      rw [hN] at hca1 ⊢
      clear hN hlive hb10 hlen
      go_upto_region 16 with fail
      go_loopw [16] (fun zi wr => ∃ i : Nat, i ≤ N ∧ zi = .int .i64 (i : Int) ∧ Hid (Live w2 wr gA ava la)) (fun zi _ => N - (intOf zi).toNat)
      case atStart => exact ⟨0, by omega, rfl, HLV0⟩
      case round =>
        clear HLV0
        obtain ⟨i, hi, rfl, HLV⟩ := hrel
        rename World => wr
        by_cases hlt : i < N
        · obtain ⟨Ai, ci, hav, hl1, hl2, -⟩ := HLV.out.rows i (by rw [HNE.out]; exact hlt)
          have HAV := Lib.hid hav
          obtain ⟨Li, hLi⟩ : ∃ Li, (la[i]!).args.length = Li := ⟨_, rfl⟩
          have HLI := Lib.hid hLi
          rw [hLi] at hl1
          clear hav hLi
          go_upto_region 19 with fail
          go_loopw [17] (fun zm wm => ∃ m : Nat, m ≤ Li ∧ zm = .int .i64 (m : Int) ∧ Hid (Live w2 wm gA ava la)) (fun zm _ => Li - (intOf zm).toNat)
          case atStart => exact ⟨0, by omega, rfl, HLV⟩
          case round =>
            clear HLV
            obtain ⟨m, hm, rfl, HLM⟩ := hrel
            rename World => wm
            have hc := HLM.out.cell i (by rw [HNE.out]; exact hlt)
            rw [HAV.out, HLI.out] at hc
            have hgl := HLM.out.lt
            by_cases hml : m < Li
            · obtain ⟨Aj, cj, hj1, -, -, hj4⟩ := HLM.out.rows i (by rw [HNE.out]; exact hlt)
              rw [HAV.out] at hj1
              injection hj1 with e1 _ _
              subst e1
              rw [HLI.out] at hj4
              rcases hj4 with hj4 | ⟨g, arr, rfl, hg1, hg2, hg3, hg4⟩
              · omega
              · have hgl2 := lt_of_block hg3
                have hcm : wm.cell? ⟨g, m, none⟩ = some (arr[m]'(by omega)) := by simp [World.cell?, hg3, show m < arr.size by omega]
                have hfm : wm.frozen? ⟨g, m, none⟩ = false := by simp [World.frozen?, hg3]
                have HNX := Lib.hid (HLM.out.put (m := m) hg1 hg2 (.int .i64 (-1)))
                generalize arr[m]'(by omega) = vv at hcm
                clear hg3 hg4
                go_wp2
                go_roundw
                case rel => exact ⟨m + 1, by omega, by go_num, HNX⟩
                case measure => simp [intOf]; omega
            · obtain rfl : m = Li := by omega
              go_wp2
              go_roundw
              case rel => exact ⟨i + 1, by omega, by go_num, HLM⟩
              case measure => simp [intOf]; omega
        · obtain rfl : i = N := by omega
          have HBW := Lib.hid (HB2.out.trans (HLV.out.below.mono HB2.out.size))
          have HSF := Lib.hid (sameNodes_any (HT2.out.below HLV.out.below) (HT.out.below HBW.out))
          rw [decide_eq_true rfl] at HSF
          go_wp2_with fail
          refine HSF.out.mono ?_
          rintro e w11 ⟨rfl, hb11⟩
          have HB11 := Lib.hid (HBW.out.trans (hb11.mono HBW.out.size))
          have HKN := Lib.hid (HK.out w11 HB11.out)
          clear hb11
          go_wp2_with fail
          refine HKN.out.mono ?_
          rintro e w12 ⟨rfl, hb12⟩
          have hbf := HB11.out.trans (hb12.mono HB11.out.size)
          go_wp2
          go_ret
          exact ⟨rfl, hbf⟩
    · have e0 : (V != 0) = true := by simp [hv]
      have HKN := Lib.hid (HK.out w8 (HB23.out.trans (HB38.out.mono HB23.out.size)))
      clear hv
      go_wp2_with fail
      refine HKN.out.mono ?_
      rintro e w9 ⟨rfl, hb9⟩
      have hbf := HB23.out.trans ((HB38.out.trans (hb9.mono HB38.out.size)).mono HB23.out.size)
      go_wp2
      go_ret
      exact ⟨rfl, hbf⟩
  · rw [hlg] at HL
    clear h hM hlg
    go_enter Tryd.func5, Tryd.ntmps5
    go_wp2_with fail
    refine HL.out.mono ?_
    rintro e w1 ⟨rfl, hb1⟩
    go_wp2_with fail
    refine (HK.out _ hb1).mono ?_
    rintro e w2 ⟨rfl, hb⟩
    have hb2 := hb1.trans (hb.mono hb1.size)
    go_wp2
    go_ret
    exact ⟨rfl, hb2⟩
end
end Go.Proofs.YtbohigjfdnnomaaDoor
