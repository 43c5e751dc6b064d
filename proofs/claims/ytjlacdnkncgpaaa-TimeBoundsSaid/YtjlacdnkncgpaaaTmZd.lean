/-
  Bound of the reference.
-/
import Derived.Test.YtjlacdnkncgpaaaTmZc
namespace Go.Proofs.Ytjlacdnkncgpaaa
open Go.RowKit

theorem refLat_at (op L : Int) (w : World) (h : latF op = L) : Calls Try.prog 34 #[.int .i64 op] w fun e w' => e = .returned (.int .i64 L) ∧ w = w' := by
  subst h
  exact refLatency_any op w
section
variable {w : World} {A : Option Addr} {n c : Nat} {zs : List Cod}
set_option maxRecDepth 100000 in
set_option maxHeartbeats 8000000 in
theorem refBound_tab (h : Tab w A n c zs) : Calls Try.prog 27 #[.slice A n c] w fun e w' => e = .returned (.tuple #[.int .i64 (resB zs), .int .i64 (valF zs)]) ∧ Below w.heap.size w w' := by
  have HV := Lib.hid (refValidate_tab h)
  rcases val_cases zs with hv | hv | hv
  · obtain ⟨i0, hi, hz0, hz1, hz2⟩ := info_parts infoInt
    have HT := Lib.hid h
    have HN := Lib.hid h.shape
    have hcap := h.2.1
    obtain ⟨h40, hval⟩ := val_all hv
    have HVA := Lib.hid hval
    have n40 : n ≤ 40 := by rw [h.shape]; exact h40
    have HR := Lib.hid (show resB zs = mstF zs n by rw [resB, if_pos hv, ← h.shape])
    generalize resB zs = RB at HR ⊢
    rw [hv] at HV
    rw [hv]
    clear h hv h40 hval
    go_enter Try.func27, Try.ntmps27
    go_wp2_with fail
    refine HV.out.mono ?_
    rintro e w1 ⟨rfl, hb0⟩
    go_wp2
    go_loopw [5, 6, 7] (fun zm vl zi wr => ∃ i : Nat, i ≤ n ∧ zi = .int .i64 (i : Int) ∧ zm = .int .i64 (mstF zs i) ∧ wr.ownsRow w.heap.size 3 1 vl i (iV (sumL zs i)) ∧ Below w.heap.size w wr) (fun _ _ zi _ => n - (intOf zi).toNat)
    case atStart => exact ⟨0, by omega, rfl, rfl, World.ownsRow_nil _ _ _ _, hb0⟩
    case round =>
      clear hb0
      obtain ⟨i, hin, rfl, rfl, hown, hb⟩ := hrel
      by_cases hlt : i < n
      · obtain ⟨b0, off, rfl, hbs, ht⟩ := (HT.out.below hb).at_ hlt
        obtain ⟨u1, u2, -, -, -⟩ := use_rd (HVA.out i (by rw [← HN.out]; exact hlt))
        have HIS := Lib.hid (show sumL zs (i + 1) = sumL zs i ++ [sumF zs (sumL zs i) i] from rfl)
        have HMS := Lib.hid (show mstF zs (i + 1) = max (mstF zs i) (sumF zs (sumL zs i) i) from rfl)
        have HSF := Lib.hid (show sumF zs (sumL zs i) i = mxF 0 (wrt zs (sumL zs i) i) (rdF zs[i]!) + latF zs[i]!.op from rfl)
        obtain ⟨bd1, bd2, bd3, bd4⟩ := sum_bound zs i
        have hmb := mst_bound zs i
        have HOB := Lib.hid bd1
        have HRB := Lib.hid bd2
        have HRD := Lib.hid (fun w1 => reads_any zs[i]! w1)
        have hlen : (rdF zs[i]!).length ≤ 2 := by rw [← u1]; exact useB_len _
        have HOW := Lib.hid hown
        have hlat := lat_pos zs[i]!.op
        have HLT := Lib.hid (fun w1 => refLat_at zs[i]!.op _ w1 rfl)
        generalize latF zs[i]!.op = L at HSF hlat HLT
        generalize sumF zs (sumL zs i) i = AT at HIS HMS HSF bd3 bd4
        generalize mstF zs i = mm at HMS hmb ⊢
        generalize rdF zs[i]! = U at HSF HRD hlen u1 u2
        have HXE := Lib.hid (rfl : zs[i]! = zs[i]!)
        obtain ⟨x, hxe⟩ : ∃ x, zs[i]! = x := ⟨_, rfl⟩
        rw [hxe] at ht HRD u1 HLT
        replace HXE := Lib.hid hxe
        clear hxe
        obtain ⟨op, d, a, b, imm, to⟩ := x
        obtain ⟨c0, c1, c2, c3, c4, c5⟩ := ht
        simp only at c0 c1 c2 c3 c4 c5 HLT
        clear bd1 bd2 u1 u2
        go_wp2_with fail
        refine (HRD.out wr).mono ?_
        rintro e w2 ⟨vU, rfl, hU, hb2⟩
        obtain ⟨VA, VC, rfl, hU⟩ := hU
        have HOW2 := Lib.hid (own_below HOW.out hb2)
        have HT2 := Lib.hid ((HT.out.below hb).below hb2)
        replace hb := hb.trans (hb2.mono hb.size)
        obtain ⟨m, hm⟩ : ∃ m, m = U.length := ⟨_, rfl⟩
        have HM := Lib.hid hm
        rw [← hm] at hlen hU ⊢
        have HU := Lib.hid hU
        clear hm hU hb2 HOW HRD c0 c1 c2 c3 c4 c5 hown
        go_wp2
        go_loopw [8, 10] (fun zt zk wr2 => ∃ k : Nat, k ≤ m ∧ zk = .int .i64 (k : Int) ∧ zt = .int .i64 (mxF 0 (wrt zs (sumL zs i) i) (U.take k)) ∧ Below w2.heap.size w2 wr2) (fun _ zk _ => m - (intOf zk).toNat)
        case atStart => exact ⟨0, by omega, rfl, rfl, Below.refl _ _⟩
        case round =>
          obtain ⟨k, hk, rfl, rfl, hb3⟩ := hrel
          by_cases hk2 : k < m
          · have hkl : k < U.length := by rw [← HM.out]; exact hk2
            have HTK := Lib.hid (show mxF 0 (wrt zs (sumL zs i) i) (U.take (k + 1)) = max (mxF 0 (wrt zs (sumL zs i) i) (U.take k)) (wrt zs (sumL zs i) i U[k]!) by
              rw [List.take_succ_eq_append_getElem hkl, mx_snoc, show U[k]! = U[k] by simp [hkl]])
            obtain ⟨gU, rfl, hgU, hcU⟩ : ∃ gU, VA = some ⟨gU, 0, none⟩ ∧ gU < w2.heap.size ∧ w2.cell? ⟨gU, k, none⟩ = some (.int .i64 U[k]!) := by
              rcases HU.out with h0 | ⟨g, h1, hg, hcl⟩
              · omega
              · exact ⟨g, h1, hg, hcl k hk2⟩
            have hmk0 := mx_ge 0 (wrt zs (sumL zs i) i) (U.take k)
            have hmk1 : mxF 0 (wrt zs (sumL zs i) i) (U.take k) ≤ 12 * i := mx_le (l := U.take k) (by omega) (fun r => (HRB.out r).2)
            generalize mxF 0 (wrt zs (sumL zs i) i) (U.take k) = mk at HTK hmk0 hmk1 ⊢
            generalize U[k]! = r at HTK hcU
            obtain ⟨W3, hW3⟩ : ∃ W3, W3 = wr := ⟨_, rfl⟩
            subst hW3
            go_wp2
            go_loopw [8, 11] (fun zt zj wr3 => ∃ j : Nat, j ≤ i ∧ zj = .int .i64 ((j : Int) - 1) ∧ zt = .int .i64 mk ∧ Below w2.heap.size w2 wr3 ∧ Hid (wrt zs (sumL zs i) i r = wrt zs (sumL zs i) j r)) (fun _ zj _ => (intOf zj + 1).toNat)
            case atStart => exact ⟨i, by omega, rfl, rfl, hb3, Lib.hid rfl⟩
            case round =>
              clear hb3
              obtain ⟨j, hj, rfl, rfl, hb4, HJ⟩ := hrel
              by_cases hj0 : j = 0
              · subst hj0
                rw [show (((0 : Nat) : Int) - 1) = -1 from rfl]
                have HK := Lib.hid (show mxF 0 (wrt zs (sumL zs i) i) (U.take (k + 1)) = mk by
                  rw [HTK.out, HJ.out]
                  show max mk 0 = mk
                  omega)
                go_wp2
                go_roundw
                case rel => exact ⟨k + 1, by omega, by go_num, congrArg (Value.int .i64) HK.out.symm, hb4⟩
                case measure => simp [intOf]; omega
              · obtain ⟨q, hq⟩ : ∃ q, j = q + 1 := ⟨j - 1, by omega⟩
                have hqi : q < i := by omega
                have HQ := Lib.hid hq
                rw [show ((j : Int) - 1) = (q : Int) by omega]
                obtain ⟨b5, off5, he5, hbs5, ht5⟩ := (HT2.out.below hb4).at_ (show q < n by omega)
                injection he5 with he5
                injection he5 with he51 he52
                subst he51 he52
                have y0 := (hb4.cell (p := ⟨gU, k, none⟩) hgU).trans hcU
                have hob := HOB.out q hqi
                obtain ⟨gO, cO, rfl⟩ : ∃ gO cO, u6 = .slice (some ⟨gO, 0, none⟩) i cO := by
                  rcases HOW2.out.2 with ⟨_, h0⟩ | ⟨g, cap, cur, h0, _⟩
                  · omega
                  · exact ⟨g, cap, h0⟩
                have hoc := (own_cell (own_below HOW2.out hb4) (x := .int .i64 (sumL zs i)[q]!) (i := q) (by simp [iV, sumL_len, hqi])).1
                have HRQ := Lib.hid (show wrt zs (sumL zs i) (q + 1) r = if wrF zs[q]! = r then (sumL zs i)[q]! else wrt zs (sumL zs i) q r from rfl)
                have HWQ := Lib.hid (fun w1 => writes_any zs[q]! w1)
                rw [← hq] at HRQ
                clear hq
                generalize wrF zs[q]! = wq at HRQ HWQ
                generalize (sumL zs i)[q]! = oq at HRQ hob hoc
                generalize zs[q]! = y at ht5 HWQ
                obtain ⟨yop, yd, ya, yb, yimm, yto⟩ := y
                obtain ⟨z0, z1, z2, z3, z4, z5⟩ := ht5
                simp only at z0 z1 z2 z3 z4 z5
                have T0 := cell_regrown z0
                have T1 := cell_regrown z1
                have T2 := cell_regrown z2
                have T3 := cell_regrown z3
                have T4 := cell_regrown z4
                have T5 := cell_regrown z5
                have TU := cell_regrown y0
                have hcO : q < cO := by
                  rcases HOW2.out.2 with ⟨h1, h0⟩ | ⟨g2, cap, cur, h0, -, -, hc, _⟩
                  · omega
                  · injection h0 with _ _ h3
                    omega
                have hcU2 : (k : Int) < (m : Int) := by omega
                have HOC := Lib.hid hoc
                have hgO := World.block_lt_of_cell? wr _ hoc
                clear z0 z1 z2 z3 z4 z5 y0 hoc
                go_wp2
                by_cases hwr : wq = r
                · subst hwr
                  have HK := Lib.hid (show mxF 0 (wrt zs (sumL zs i) i) (U.take (k + 1)) = max mk oq by rw [HTK.out, HJ.out, HRQ.out, if_pos rfl])
                  have deq : (wq == wq) = true := beq_self_eq_true wq
                  refine wp_region_quiet_below (by kernel_rfl) (by kernel_rfl) ?_
                  have q1 : ∀ (dr : Nat) (os : Array Obj), Calls Try.prog 47 #[aggC ⟨yop, yd, ya, yb, yimm, yto⟩] (Sort.grow (redrawn wr dr) os) fun e w'' => e = .returned (.int .i64 wq) ∧ ∃ p : Regrown, w'' = Sort.grow (redrawn wr p.d) p.os := fun dr os => Calls.regrown_of (HWQ.out _)
                  have Q1 := Lib.hid q1
                  clear q1
                  iterate 10 (go_big_quiet_step ((go_at_call 47; with_reducible exact Q1.out _ _)))
                  refine wpQuiet_nil ?_
                  intro _ hw'
                  obtain ⟨⟨dq, osq⟩, hw''⟩ := hw'
                  subst hw''
                  have hbW := below_regrown wr dq osq
                  generalize Sort.grow (redrawn wr dq) osq = W5 at hbW ⊢
                  have hoc := (hbW.cell hgO).trans HOC.out
                  have hb5 := hb4.trans (hbW.mono hb4.size)
                  clear T0 T1 T2 T3 T4 T5 TU hbW
                  go_wp2
                  go_roundw
                  case rel => exact ⟨k + 1, by omega, by go_num, congrArg (Value.int .i64) HK.out.symm, hb5⟩
                  case measure => simp [intOf]; omega
                · have HJ2 := Lib.hid (show wrt zs (sumL zs i) i r = wrt zs (sumL zs i) q r by rw [HJ.out, HRQ.out, if_neg hwr])
                  have deq : (wq == r) = false := beq_false_of_ne hwr
                  refine wp_region_quiet_below (by kernel_rfl) (by kernel_rfl) ?_
                  have q1 : ∀ (dr : Nat) (os : Array Obj), Calls Try.prog 47 #[aggC ⟨yop, yd, ya, yb, yimm, yto⟩] (Sort.grow (redrawn wr dr) os) fun e w'' => e = .returned (.int .i64 wq) ∧ ∃ p : Regrown, w'' = Sort.grow (redrawn wr p.d) p.os := fun dr os => Calls.regrown_of (HWQ.out _)
                  have Q1 := Lib.hid q1
                  clear q1
                  iterate 10 (go_big_quiet_step ((go_at_call 47; with_reducible exact Q1.out _ _)))
                  refine wpQuiet_nil ?_
                  intro _ hw'
                  obtain ⟨⟨dq, osq⟩, hw''⟩ := hw'
                  subst hw''
                  replace hb4 := hb4.trans ((below_regrown wr dq osq).mono hb4.size)
                  generalize Sort.grow (redrawn wr dq) osq = W5 at hb4 ⊢
                  clear T0 T1 T2 T3 T4 T5 TU
                  go_wp2
                  go_roundw
                  case rel => exact ⟨q, by omega, by go_num, rfl, hb4, HJ2⟩
                  case measure => simp [intOf, HQ.out]
          · obtain rfl : k = m := by omega
            have hmk : mxF 0 (wrt zs (sumL zs i) i) (U.take k) = mxF 0 (wrt zs (sumL zs i) i) U := by rw [HM.out, List.take_length]
            rw [hmk]
            have hmk1 : mxF 0 (wrt zs (sumL zs i) i) U ≤ 12 * i := mx_le (l := U) (by omega) (fun r => (HRB.out r).2)
            have hmk0 := mx_ge 0 (wrt zs (sumL zs i) i) U
            have hown3 := own_below HOW2.out hb3
            have hb1 := hb.trans (hb3.mono hb.size)
            obtain ⟨b6, off6, he6, -, ht6⟩ := (HT2.out.below hb3).at_ hlt
            injection he6 with he6
            injection he6 with he61 he62
            subst he61 he62
            rw [HXE.out] at ht6
            obtain ⟨x0, -, -, -, -, -⟩ := ht6
            simp only at x0
            generalize mxF 0 (wrt zs (sumL zs i) i) U = MK at HSF hmk0 hmk1 ⊢
            clear hmk HU HOW2 hb3
            go_wp2_with (first | (at_builtin; refine wpList_append_own _ rfl _ _ 25 rfl w.heap.size 3 i0 (.int .i64 0) 1 8 Try.underlying25 hi hz0 hz1 hz2 rfl (by decide) _ i _ rfl (hown3.alloc _) ⟨wr.heap.size, 0, none⟩ 1 1 [.int .i64 (MK + L)] rfl rfl ?p1 ?p2 ?p3 ?p4 ?p5 ?_) | (go_at_call 34; ((with_reducible refine (HLT.out _).mono ?_); rintro e w' ⟨rfl, rfl⟩)))
            case p1 => exact one_new wr _ _
            case p2 => simp [Value.oneCell']
            case p3 => unfold maxLen; omega
            case p4 => omega
            case p5 => have := hb1.size; simp; omega
            intro v7 w7 hown7 hgrow _
            have hb7 : Below w.heap.size w w7 := (hb1.alloc hb1.size _).grown hgrow (by have := hb1.size; simp; omega) (fun g hg => own_base (hown3.alloc (.cells #[.int .i64 (MK + L)] 3)) g hg)
            have hsum : MK + L = AT := by have := HSF.out; omega
            have hown8 : w7.ownsRow w.heap.size 3 1 v7 (i + 1) (iV (sumL zs (i + 1))) := by
              rw [HIS.out, show iV (sumL zs i ++ [AT]) = iV (sumL zs i) ++ [.int .i64 AT] by simp [iV], ← hsum]
              exact hown7
            obtain ⟨g7, c7, rfl⟩ : ∃ g7 c7, v7 = .slice (some ⟨g7, 0, none⟩) (i + 1) c7 := by
              rcases hown8.2 with ⟨_, h0⟩ | ⟨g, cap, cur, h0, _⟩
              · omega
              · exact ⟨g, cap, h0⟩
            have hc7 : i < c7 := by
              rcases hown8.2 with ⟨h1, h0⟩ | ⟨g2, cap, cur, h0, -, -, hc, _⟩
              · omega
              · injection h0 with _ _ h3
                omega
            have hend := get_end (sumL zs i) AT
            rw [sumL_len] at hend
            have z0 := (own_cell (g := g7) (cap := c7) hown8 (x := .int .i64 AT) (i := i) (by rw [HIS.out]; simp [iV, sumL_len])).1
            have HO8 := Lib.hid hown8
            clear hown3 hown7 hgrow hb1 hown8 hend hsum x0
            go_wp2
            go_roundw
            case rel => exact ⟨i + 1, by omega, by go_num, congrArg (Value.int .i64) HMS.out.symm, HO8.out, hb7⟩
            case measure => simp [intOf]; omega
      · obtain rfl : i = n := by omega
        rw [← HR.out]
        go_wp2
        exact bodyPost_ret (v := .tuple #[.int .i64 RB, .int .i64 0]) (by simp [results, Try.results27, go_sem]) rfl ⟨rfl, hb⟩
  · rw [hv] at HV
    rw [show resB zs = 0 from if_neg (by omega), hv]
    clear h hv
    go_enter Try.func27, Try.ntmps27
    go_wp2_with fail
    refine HV.out.mono ?_
    rintro e w1 ⟨rfl, hb⟩
    go_wp2
    exact bodyPost_ret (v := .tuple #[.int .i64 0, .int .i64 1]) (by simp [results, Try.results27, go_sem]) rfl ⟨rfl, hb⟩
  · rw [hv] at HV
    rw [show resB zs = 0 from if_neg (by omega), hv]
    clear h hv
    go_enter Try.func27, Try.ntmps27
    go_wp2_with fail
    refine HV.out.mono ?_
    rintro e w1 ⟨rfl, hb⟩
    go_wp2
    exact bodyPost_ret (v := .tuple #[.int .i64 0, .int .i64 3]) (by simp [results, Try.results27, go_sem]) rfl ⟨rfl, hb⟩
end
end Go.Proofs.Ytjlacdnkncgpaaa
