/-
  issue of the reference.
-/
import Derived.Test.YtjlacdnkncgpaaaTmI
import Derived.BigRegion
import Derived.Lib.QuietBelow
import Derived.Deep.Cut
namespace Go.Proofs.Ytjlacdnkncgpaaa
open Go.RowKit

theorem writes_at (x : Cod) (y : Int) (w : World) (h : wrF x = y) : Calls Try.prog 47 #[aggC x] w fun e w' => e = .returned (.int .i64 y) ∧ Below w.heap.size w w' := by
  subst h
  exact writes_any x w
theorem refLatency_at (op L : Int) (w : World) (h : latF op = L) : Calls Try.prog 34 #[.int .i64 op] w fun e w' => e = .returned (.int .i64 L) ∧ Below w.heap.size w w' := by
  subst h
  exact (refLatency_any op w).mono fun _ _ h => ⟨h.1, h.2 ▸ Below.refl _ _⟩
theorem mx_ge (t : Int) (f : Int → Int) (l : List Int) : t ≤ mxF t f l := (mx_spec f l t).1
theorem mx_le {t B : Int} {f : Int → Int} {l : List Int} (ht : t ≤ B) (hf : ∀ r, f r ≤ B) : mxF t f l ≤ B := by
  rcases (mx_spec f l t).2.2 with h | ⟨r, -, h⟩
  · omega
  · rw [h]; exact hf r
section
variable {w : World} {A : Option Addr} {n c : Nat} {zs : List Cod}
set_option maxRecDepth 100000 in
set_option maxHeartbeats 8000000 in
theorem refIssue_tab (h : Tab w A n c zs) (hv : valF zs = 0) : Calls Try.prog 29 #[.slice A n c] w fun e w' => ∃ v, e = .returned v ∧ w'.ownsRow w.heap.size 3 1 v n (iV (issL zs n)) ∧ Below w.heap.size w w' := by
  obtain ⟨i0, hi, hz0, hz1, hz2⟩ := info_parts infoInt
  have HT := Lib.hid h
  have HN := Lib.hid h.shape
  have hcap := h.2.1
  obtain ⟨h40, hval⟩ := val_all hv
  have HVA := Lib.hid hval
  have n40 : n ≤ 40 := by rw [h.shape]; exact h40
  clear h hv h40 hval
  go_enter Try.func29, Try.ntmps29
  go_wp2
  go_loopw [3, 4] (fun vl zi wr => ∃ i : Nat, i ≤ n ∧ zi = .int .i64 (i : Int) ∧ wr.ownsRow w.heap.size 3 1 vl i (iV (issL zs i)) ∧ Below w.heap.size w wr) (fun _ zi _ => n - (intOf zi).toNat)
  case atStart => exact ⟨0, by omega, rfl, World.ownsRow_nil _ _ _ _, Below.refl _ _⟩
  case round =>
    obtain ⟨i, hin, rfl, hown, hb⟩ := hrel
    by_cases hlt : i < n
    · obtain ⟨b0, off, rfl, hbs, ht⟩ := (HT.out.below hb).at_ hlt
      obtain ⟨u1, u2, -, -, -⟩ := use_rd (HVA.out i (by rw [← HN.out]; exact hlt))
      have HIS := Lib.hid (show issL zs (i + 1) = issL zs i ++ [mxF (nxt (issL zs i) i) (rdy zs (issL zs i) i) (rdF zs[i]!)] from rfl)
      obtain ⟨bd1, bd2, bd3, bd4⟩ := iss_bound zs i
      have HOB := Lib.hid bd1
      have HRB := Lib.hid bd2
      have HRD := Lib.hid (fun w1 => reads_any zs[i]! w1)
      have hlen : (rdF zs[i]!).length ≤ 2 := by rw [← u1]; exact useB_len _
      have HOW := Lib.hid hown
      have hnx : nxt (issL zs i) i = if i = 0 then 0 else (issL zs i)[i - 1]! + 1 := rfl
      generalize nxt (issL zs i) i = nx at HIS bd3 bd4 hnx
      generalize rdF zs[i]! = U at HIS HRD hlen u1 u2
      generalize zs[i]! = x at ht HRD u1
      obtain ⟨op, d, a, b, imm, to⟩ := x
      obtain ⟨c0, c1, c2, c3, c4, c5⟩ := ht
      simp only at c0 c1 c2 c3 c4 c5
      clear bd1 bd2 u1 u2
      by_cases hi0 : i = 0
      · have hnx0 : nx = 0 := by rw [hnx, if_pos hi0]
        have d0 : decide (0 < i) = false := decide_eq_false (by omega)
        have HI0 := Lib.hid hi0
        clear hi0 hnx
        go_wp2_with fail
        refine (HRD.out wr).mono ?_
        rintro e w2 ⟨vU, rfl, hU, hb2⟩
        obtain ⟨VA, VC, rfl, hU⟩ := hU
        have HOW2 := Lib.hid (own_below HOW.out hb2)
        have HT2 := Lib.hid ((HT.out.below hb).below hb2)
        replace hb := hb.trans (hb2.mono hb.size)
        obtain ⟨m, hm⟩ : ∃ m, m = U.length := ⟨_, rfl⟩
        have HM := Lib.hid hm
        rw [← hm] at hlen hU ⊢
        have HU := Lib.hid hU
        clear hm hU hb2 HOW HRD c0 c1 c2 c3 c4 c5 hown
        go_wp2
        go_loopw [5, 7] (fun zt zk wr2 => ∃ k : Nat, k ≤ m ∧ zk = .int .i64 (k : Int) ∧ zt = .int .i64 (mxF nx (rdy zs (issL zs i) i) (U.take k)) ∧ Below w2.heap.size w2 wr2) (fun _ zk _ => m - (intOf zk).toNat)
        case atStart => exact ⟨0, by omega, rfl, by first | rfl | (rw [hnx0]; rfl), Below.refl _ _⟩
        case round =>
          obtain ⟨k, hk, rfl, rfl, hb3⟩ := hrel
          by_cases hk2 : k < m
          · have hkl : k < U.length := by rw [← HM.out]; exact hk2
            have HTK := Lib.hid (show mxF nx (rdy zs (issL zs i) i) (U.take (k + 1)) = max (mxF nx (rdy zs (issL zs i) i) (U.take k)) (rdy zs (issL zs i) i U[k]!) by
              rw [List.take_succ_eq_append_getElem hkl, mx_snoc, show U[k]! = U[k] by simp [hkl]])
            obtain ⟨gU, rfl, hgU, hcU⟩ : ∃ gU, VA = some ⟨gU, 0, none⟩ ∧ gU < w2.heap.size ∧ w2.cell? ⟨gU, k, none⟩ = some (.int .i64 U[k]!) := by
              rcases HU.out with h0 | ⟨g, h1, hg, hcl⟩
              · omega
              · exact ⟨g, h1, hg, hcl k hk2⟩
            have hmk0 := mx_ge nx (rdy zs (issL zs i) i) (U.take k)
            have hmk1 := mx_le (l := U.take k) bd4 (fun r => (HRB.out r).2)
            generalize mxF nx (rdy zs (issL zs i) i) (U.take k) = mk at HTK hmk0 hmk1 ⊢
            generalize U[k]! = r at HTK hcU
            obtain ⟨W3, hW3⟩ : ∃ W3, W3 = wr := ⟨_, rfl⟩
            subst hW3
            go_wp2
            go_loopw [5, 8] (fun zt zj wr3 => ∃ j : Nat, j ≤ i ∧ zj = .int .i64 ((j : Int) - 1) ∧ zt = .int .i64 mk ∧ Below w2.heap.size w2 wr3 ∧ Hid (rdy zs (issL zs i) i r = rdy zs (issL zs i) j r)) (fun _ zj _ => (intOf zj + 1).toNat)
            case atStart => exact ⟨i, by omega, rfl, rfl, hb3, Lib.hid rfl⟩
            case round =>
              clear hb3
              obtain ⟨j, hj, rfl, rfl, hb4, HJ⟩ := hrel
              by_cases hj0 : j = 0
              · subst hj0
                rw [show (((0 : Nat) : Int) - 1) = -1 from rfl]
                have HK := Lib.hid (show mxF nx (rdy zs (issL zs i) i) (U.take (k + 1)) = mk by
                  rw [HTK.out, HJ.out]
                  show max mk 0 = mk
                  omega)
                go_wp2
                go_roundw
                case rel => exact ⟨k + 1, by omega, by go_num, congrArg (Value.int .i64) HK.out.symm, hb4⟩
                case measure => simp [intOf]; omega
              · exact absurd HI0.out (by omega)
          · obtain rfl : k = m := by omega
            have hmk : mxF nx (rdy zs (issL zs i) i) (U.take k) = mxF nx (rdy zs (issL zs i) i) U := by rw [HM.out, List.take_length]
            rw [hmk]
            have hown3 := own_below HOW2.out hb3
            have hb1 := hb.trans (hb3.mono hb.size)
            obtain ⟨AT, hAT⟩ : ∃ AT, mxF nx (rdy zs (issL zs i) i) U = AT := ⟨_, rfl⟩
            have HIS2 := Lib.hid (show issL zs (i + 1) = issL zs i ++ [AT] by rw [HIS.out, hAT])
            rw [hAT]
            clear hmk hAT HIS HU HOW2 hb3
            go_wp2_with (at_builtin; refine wpList_append_own _ rfl _ _ 25 rfl w.heap.size 3 i0 (.int .i64 0) 1 8 Try.underlying25 hi hz0 hz1 hz2 rfl (by decide) _ i _ rfl (hown3.alloc _) ⟨wr.heap.size, 0, none⟩ 1 1 [.int .i64 AT] rfl rfl ?p1 ?p2 ?p3 ?p4 ?p5 ?_)
            case p1 => exact one_new wr _ _
            case p2 => simp [Value.oneCell']
            case p3 => unfold maxLen; omega
            case p4 => omega
            case p5 => have := hb1.size; simp; omega
            intro v7 w7 hown7 hgrow _
            have hb7 : Below w.heap.size w w7 := (hb1.alloc hb1.size _).grown hgrow (by have := hb1.size; simp; omega) (fun g hg => own_base (hown3.alloc (.cells #[.int .i64 AT] 3)) g hg)
            have HO7 := Lib.hid (show w7.ownsRow w.heap.size 3 1 v7 (i + 1) (iV (issL zs (i + 1))) by
              rw [HIS2.out, show iV (issL zs i ++ [AT]) = iV (issL zs i) ++ [.int .i64 AT] by simp [iV]]
              exact hown7)
            clear hown3 hown7 hgrow hb1
            go_wp2
            go_roundw
            case rel => exact ⟨i + 1, by omega, by go_num, HO7.out, hb7⟩
            case measure => simp [intOf]; omega
      · have d0 : decide (0 < i) = true := decide_eq_true (by omega)
        rw [if_neg hi0] at hnx
        obtain ⟨po, hpo⟩ : ∃ po, po = (issL zs i)[i - 1]! := ⟨_, rfl⟩
        rw [← hpo] at hnx
        subst hnx
        have hnx0 : (0 : Int) = 0 := rfl
        obtain ⟨gO, cO, rfl⟩ : ∃ gO cO, u3 = .slice (some ⟨gO, 0, none⟩) i cO := by
          rcases HOW.out.2 with ⟨_, h0⟩ | ⟨g, cap, cur, h0, _⟩
          · omega
          · exact ⟨g, cap, h0⟩
        have hcO : i ≤ cO := by
          rcases HOW.out.2 with ⟨h1, h0⟩ | ⟨g2, cap, cur, h0, -, -, hc, _⟩
          · omega
          · injection h0 with _ _ h3
            omega
        have hpc := (own_cell HOW.out (x := .int .i64 (issL zs i)[i - 1]!) (i := i - 1) (by simp [iV, issL_len, show i - 1 < i by omega])).1
        rw [← hpo] at hpc
        obtain ⟨p, hp⟩ : ∃ p, p = i - 1 := ⟨_, rfl⟩
        rw [← hp] at hpc
        have e1 : (i : Int) - 1 = (p : Int) := by omega
        have hpi : p < i := by omega
        have hpc0 : p < cO := by omega
        clear hp hpo
        go_upto_region 8 with fail
        clear hpc e1 hpi hpc0
        go_wp2_with fail
        refine (HRD.out wr).mono ?_
        rintro e w2 ⟨vU, rfl, hU, hb2⟩
        obtain ⟨VA, VC, rfl, hU⟩ := hU
        have HOW2 := Lib.hid (own_below HOW.out hb2)
        have HT2 := Lib.hid ((HT.out.below hb).below hb2)
        replace hb := hb.trans (hb2.mono hb.size)
        obtain ⟨m, hm⟩ : ∃ m, m = U.length := ⟨_, rfl⟩
        have HM := Lib.hid hm
        rw [← hm] at hlen hU ⊢
        have HU := Lib.hid hU
        clear hm hU hb2 HOW HRD c0 c1 c2 c3 c4 c5 hown
        go_wp2
        go_loopw [5, 7] (fun zt zk wr2 => ∃ k : Nat, k ≤ m ∧ zk = .int .i64 (k : Int) ∧ zt = .int .i64 (mxF (po + 1) (rdy zs (issL zs i) i) (U.take k)) ∧ Below w2.heap.size w2 wr2) (fun _ zk _ => m - (intOf zk).toNat)
        case atStart => exact ⟨0, by omega, rfl, by first | rfl | (rw [hnx0]; rfl), Below.refl _ _⟩
        case round =>
          obtain ⟨k, hk, rfl, rfl, hb3⟩ := hrel
          by_cases hk2 : k < m
          · have hkl : k < U.length := by rw [← HM.out]; exact hk2
            have HTK := Lib.hid (show mxF (po + 1) (rdy zs (issL zs i) i) (U.take (k + 1)) = max (mxF (po + 1) (rdy zs (issL zs i) i) (U.take k)) (rdy zs (issL zs i) i U[k]!) by
              rw [List.take_succ_eq_append_getElem hkl, mx_snoc, show U[k]! = U[k] by simp [hkl]])
            obtain ⟨gU, rfl, hgU, hcU⟩ : ∃ gU, VA = some ⟨gU, 0, none⟩ ∧ gU < w2.heap.size ∧ w2.cell? ⟨gU, k, none⟩ = some (.int .i64 U[k]!) := by
              rcases HU.out with h0 | ⟨g, h1, hg, hcl⟩
              · omega
              · exact ⟨g, h1, hg, hcl k hk2⟩
            have hmk0 := mx_ge (po + 1) (rdy zs (issL zs i) i) (U.take k)
            have hmk1 := mx_le (l := U.take k) bd4 (fun r => (HRB.out r).2)
            generalize mxF (po + 1) (rdy zs (issL zs i) i) (U.take k) = mk at HTK hmk0 hmk1 ⊢
            generalize U[k]! = r at HTK hcU
            obtain ⟨W3, hW3⟩ : ∃ W3, W3 = wr := ⟨_, rfl⟩
            subst hW3
            go_wp2
            go_loopw [5, 8] (fun zt zj wr3 => ∃ j : Nat, j ≤ i ∧ zj = .int .i64 ((j : Int) - 1) ∧ zt = .int .i64 mk ∧ Below w2.heap.size w2 wr3 ∧ Hid (rdy zs (issL zs i) i r = rdy zs (issL zs i) j r)) (fun _ zj _ => (intOf zj + 1).toNat)
            case atStart => exact ⟨i, by omega, rfl, rfl, hb3, Lib.hid rfl⟩
            case round =>
              clear hb3
              obtain ⟨j, hj, rfl, rfl, hb4, HJ⟩ := hrel
              by_cases hj0 : j = 0
              · subst hj0
                rw [show (((0 : Nat) : Int) - 1) = -1 from rfl]
                have HK := Lib.hid (show mxF (po + 1) (rdy zs (issL zs i) i) (U.take (k + 1)) = mk by
                  rw [HTK.out, HJ.out]
                  show max mk 0 = mk
                  omega)
                go_wp2
                go_roundw
                case rel => exact ⟨k + 1, by omega, by go_num, congrArg (Value.int .i64) HK.out.symm, hb4⟩
                case measure => simp [intOf]; omega
              · obtain ⟨q, hq⟩ : ∃ q, j = q + 1 := ⟨j - 1, by omega⟩
                have hqi : q < i := by omega
                have HQ := Lib.hid hq
                rw [show ((j : Int) - 1) = (q : Int) by omega]
                obtain ⟨b5, off5, he5, hbs5, ht5⟩ := (HT2.out.below hb4).at_ (show q < n by omega)
                injection he5 with he5
                injection he5 with he51 he52
                subst he51 he52
                have y0 := (hb4.cell (p := ⟨gU, k, none⟩) hgU).trans hcU
                have hob := HOB.out q hqi
                have hoc := (own_cell (own_below HOW2.out hb4) (x := .int .i64 (issL zs i)[q]!) (i := q) (by simp [iV, issL_len, hqi])).1
                have HRQ := Lib.hid (show rdy zs (issL zs i) (q + 1) r = if wrF zs[q]! = r then (issL zs i)[q]! + latF zs[q]!.op else rdy zs (issL zs i) q r from rfl)
                have HWQ := Lib.hid (fun w1 => writes_any zs[q]! w1)
                have hlat := lat_pos zs[q]!.op
                have HLQ := Lib.hid (fun w1 => refLatency_at zs[q]!.op _ w1 rfl)
                rw [← hq] at HRQ
                clear hq
                generalize latF zs[q]!.op = L at HRQ hlat HLQ
                generalize wrF zs[q]! = wq at HRQ HWQ
                generalize (issL zs i)[q]! = oq at HRQ hob hoc
                generalize zs[q]! = y at ht5 HWQ HLQ
                obtain ⟨yop, yd, ya, yb, yimm, yto⟩ := y
                obtain ⟨z0, z1, z2, z3, z4, z5⟩ := ht5
                simp only at z0 z1 z2 z3 z4 z5 HLQ
                have T0 := cell_regrown z0
                have T1 := cell_regrown z1
                have T2 := cell_regrown z2
                have T3 := cell_regrown z3
                have T4 := cell_regrown z4
                have T5 := cell_regrown z5
                have TU := cell_regrown y0
                have hcO : q < cO := by
                  rcases HOW2.out.2 with ⟨h1, h0⟩ | ⟨g2, cap, cur, h0, -, -, hc, _⟩
                  · omega
                  · injection h0 with _ _ h3
                    omega
                have hcU2 : (k : Int) < (m : Int) := by omega
                have HZ0 := Lib.hid z0
                have HOC := Lib.hid hoc
                have hgO := World.block_lt_of_cell? wr _ hoc
                clear z0 z1 z2 z3 z4 z5 y0 hoc
                go_wp2
                by_cases hwr : wq = r
                · subst hwr
                  have HK := Lib.hid (show mxF (po + 1) (rdy zs (issL zs i) i) (U.take (k + 1)) = max mk (oq + L) by rw [HTK.out, HJ.out, HRQ.out, if_pos rfl])
                  have deq : (wq == wq) = true := beq_self_eq_true wq
                  refine wp_region_quiet_below (by kernel_rfl) (by kernel_rfl) ?_
                  have q1 : ∀ (dr : Nat) (os : Array Obj), Calls Try.prog 47 #[aggC ⟨yop, yd, ya, yb, yimm, yto⟩] (Sort.grow (redrawn wr dr) os) fun e w'' => e = .returned (.int .i64 wq) ∧ ∃ p : Regrown, w'' = Sort.grow (redrawn wr p.d) p.os := fun dr os => Calls.regrown_of (HWQ.out _)
                  have Q1 := Lib.hid q1
                  clear q1
                  iterate 10 (go_big_quiet_step ((go_at_call 47; with_reducible exact Q1.out _ _)))
                  refine wpQuiet_nil ?_
                  intro _ hw'
                  obtain ⟨⟨dq, osq⟩, hw''⟩ := hw'
                  subst hw''
                  have hbW := below_regrown wr dq osq
                  generalize Sort.grow (redrawn wr dq) osq = W5 at hbW ⊢
                  have TA := cell_regrown ((hbW.cell hbs5).trans HZ0.out)
                  have TO := cell_regrown ((hbW.cell hgO).trans HOC.out)
                  have hb5 := hb4.trans (hbW.mono hb4.size)
                  clear T0 T1 T2 T3 T4 T5 TU hbW
                  go_wp2
                  refine wp_region_quiet_below (by kernel_rfl) (by kernel_rfl) ?_
                  have q2 : ∀ (dr : Nat) (os : Array Obj), Calls Try.prog 34 #[.int .i64 yop] (Sort.grow (redrawn W5 dr) os) fun e w'' => e = .returned (.int .i64 L) ∧ ∃ p : Regrown, w'' = Sort.grow (redrawn W5 p.d) p.os := fun dr os => Calls.regrown_of (HLQ.out _)
                  have Q2 := Lib.hid q2
                  clear q2
                  iterate 14 (go_big_quiet_step ((go_at_call 34; with_reducible exact Q2.out _ _)))
                  refine wpQuiet_nil ?_
                  intro _ hw'
                  obtain ⟨⟨dq2, osq2⟩, hw''⟩ := hw'
                  subst hw''
                  replace hb5 := hb5.trans ((below_regrown W5 dq2 osq2).mono hb5.size)
                  generalize Sort.grow (redrawn W5 dq2) osq2 = W6 at hb5 ⊢
                  clear TA TO
                  go_wp2
                  go_roundw
                  case rel => exact ⟨k + 1, by omega, by go_num, congrArg (Value.int .i64) HK.out.symm, hb5⟩
                  case measure => simp [intOf]; omega
                · have HJ2 := Lib.hid (show rdy zs (issL zs i) i r = rdy zs (issL zs i) q r by rw [HJ.out, HRQ.out, if_neg hwr])
                  have deq : (wq == r) = false := beq_false_of_ne hwr
                  refine wp_region_quiet_below (by kernel_rfl) (by kernel_rfl) ?_
                  have q1 : ∀ (dr : Nat) (os : Array Obj), Calls Try.prog 47 #[aggC ⟨yop, yd, ya, yb, yimm, yto⟩] (Sort.grow (redrawn wr dr) os) fun e w'' => e = .returned (.int .i64 wq) ∧ ∃ p : Regrown, w'' = Sort.grow (redrawn wr p.d) p.os := fun dr os => Calls.regrown_of (HWQ.out _)
                  have Q1 := Lib.hid q1
                  clear q1
                  iterate 10 (go_big_quiet_step ((go_at_call 47; with_reducible exact Q1.out _ _)))
                  refine wpQuiet_nil ?_
                  intro _ hw'
                  obtain ⟨⟨dq, osq⟩, hw''⟩ := hw'
                  subst hw''
                  replace hb4 := hb4.trans ((below_regrown wr dq osq).mono hb4.size)
                  generalize Sort.grow (redrawn wr dq) osq = W5 at hb4 ⊢
                  clear T0 T1 T2 T3 T4 T5 TU
                  go_wp2
                  go_roundw
                  case rel => exact ⟨q, by omega, by go_num, rfl, hb4, HJ2⟩
                  case measure => simp [intOf, HQ.out]
          · obtain rfl : k = m := by omega
            have hmk : mxF (po + 1) (rdy zs (issL zs i) i) (U.take k) = mxF (po + 1) (rdy zs (issL zs i) i) U := by rw [HM.out, List.take_length]
            rw [hmk]
            have hown3 := own_below HOW2.out hb3
            have hb1 := hb.trans (hb3.mono hb.size)
            obtain ⟨AT, hAT⟩ : ∃ AT, mxF (po + 1) (rdy zs (issL zs i) i) U = AT := ⟨_, rfl⟩
            have HIS2 := Lib.hid (show issL zs (i + 1) = issL zs i ++ [AT] by rw [HIS.out, hAT])
            rw [hAT]
            clear hmk hAT HIS HU HOW2 hb3
            go_wp2_with (at_builtin; refine wpList_append_own _ rfl _ _ 25 rfl w.heap.size 3 i0 (.int .i64 0) 1 8 Try.underlying25 hi hz0 hz1 hz2 rfl (by decide) _ i _ rfl (hown3.alloc _) ⟨wr.heap.size, 0, none⟩ 1 1 [.int .i64 AT] rfl rfl ?q1 ?q2 ?q3 ?q4 ?q5 ?_)
            case q1 => exact one_new wr _ _
            case q2 => simp [Value.oneCell']
            case q3 => unfold maxLen; omega
            case q4 => omega
            case q5 => have := hb1.size; simp; omega
            intro v7 w7 hown7 hgrow _
            have hb7 : Below w.heap.size w w7 := (hb1.alloc hb1.size _).grown hgrow (by have := hb1.size; simp; omega) (fun g hg => own_base (hown3.alloc (.cells #[.int .i64 AT] 3)) g hg)
            have HO7 := Lib.hid (show w7.ownsRow w.heap.size 3 1 v7 (i + 1) (iV (issL zs (i + 1))) by
              rw [HIS2.out, show iV (issL zs i ++ [AT]) = iV (issL zs i) ++ [.int .i64 AT] by simp [iV]]
              exact hown7)
            clear hown3 hown7 hgrow hb1
            go_wp2
            go_roundw
            case rel => exact ⟨i + 1, by omega, by go_num, HO7.out, hb7⟩
            case measure => simp [intOf]; omega
    · obtain rfl : i = n := by omega
      go_wp2
      go_ret
      exact ⟨_, rfl, hown, hb⟩
end
end Go.Proofs.Ytjlacdnkncgpaaa
