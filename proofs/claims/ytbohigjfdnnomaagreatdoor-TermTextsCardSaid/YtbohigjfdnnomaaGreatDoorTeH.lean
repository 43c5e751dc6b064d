/-
  Checked and Validate of the reference.
-/
import Derived.Test.YtbohigjfdnnomaaGreatDoorTeG
namespace Go.Proofs.YtbohigjfdnnomaaGreatDoor
open Go.RowKit

set_option maxRecDepth 100000 in
set_option maxHeartbeats 8000000 in
theorem checked_any {w : World} {A : Option Addr} {n c : Nat} {T : List Nd} (h : Term w A n c T) : Calls Tryz.prog 27 #[.slice A n c, .bool true] w fun e w' => e = .returned (.int .i64 (valF T)) ∧ Below w.heap.size w w' := by
  have hcap := h.2.1
  have hmax := h.2.2.1
  by_cases hbad : T.length < 1 ∨ 300 < T.length
  · have HV := Lib.hid (val_len hbad)
    rw [← h.1] at hbad
    clear h
    rcases hbad with h1 | h1
    · go_enter Tryz.func27, Tryz.ntmps27
      go_wp2
      go_ret
      exact ⟨ret_i HV.out.symm, Below.refl _ _⟩
    · have h2 : ¬ n < 1 := by omega
      go_enter Tryz.func27, Tryz.ntmps27
      go_wp2
      go_ret
      exact ⟨ret_i HV.out.symm, Below.refl _ _⟩
  · have HNOD := Lib.hid (fun j (hj : j < n) => val_nod hbad (j := j) (by rw [← h.1]; exact hj))
    have HFIT := Lib.hid (fun (hn : ∀ k, k < n → nodB T[k]! k = true) j (hj : j < n) => val_fit hbad (by rw [← h.1]; exact hn) (j := j) (by rw [← h.1]; exact hj))
    have HONE := Lib.hid (fun (hn : ∀ k, k < n → nodB T[k]! k = true) (hf : ∀ k, k < n → fitB T T[k]! = true) k i (hk : k < n) (hi : i < k) => val_one hbad (by rw [← h.1]; exact hn) (by rw [← h.1]; exact hf) (k := k) (i := i) (by rw [← h.1]; exact hk) hi)
    have HYES := Lib.hid (fun (hn : ∀ k, k < n → nodB T[k]! k = true) (hf : ∀ k, k < n → fitB T T[k]! = true) (ho : ∀ k, k < n → ∀ i, i < k → oneB T[i]! T[k]! = true) => val_yes hbad (by rw [← h.1]; exact hn) (by rw [← h.1]; exact hf) (by rw [← h.1]; exact ho))
    have H := Lib.hid h
    rw [← h.1] at hbad
    have n1 : 1 ≤ n := by omega
    have n300 : n ≤ 300 := by omega
    clear h hbad
    generalize valF T = V at HNOD HFIT HONE HYES ⊢
    go_enter Tryz.func27, Tryz.ntmps27
    go_wp2
    go_loopw [5] (fun zi wr => ∃ i : Nat, i ≤ n ∧ zi = .int .i64 (i : Int) ∧ Below w.heap.size w wr ∧ Hid (∀ j, j < i → nodB T[j]! j = true)) (fun zi _ => n - (intOf zi).toNat)
    case atStart => exact ⟨0, by omega, rfl, Below.refl _ _, Lib.hid fun j hj => absurd hj (by omega)⟩
    case round =>
      obtain ⟨i, hi, rfl, hb, HJ⟩ := hrel
      by_cases hlt : i < n
      · have HX := Lib.hid (fun w1 hT => argument_any (w := w1) (A := A) (n := n) (c := c) (T := T) hT i hlt)
        have hT0 := H.out.below hb
        cases hB : nodB T[i]! i
        · have HE := Lib.hid (HNOD.out i hlt hB)
          rw [hB] at HX
          clear hB HNOD HFIT HONE HYES
          go_wp2_with fail
          refine (HX.out _ hT0).mono ?_
          rintro e w3 ⟨rfl, hb3⟩
          have hb4 := hb.trans (hb3.mono hb.size)
          clear hb hb3
          go_wp2
          exact bodyPost_ret (results_tmp rfl _ _ _) rfl ⟨by exact ret_i HE.out.symm, hb4⟩
        · have HJ2 := Lib.hid (show ∀ j, j < i + 1 → nodB T[j]! j = true from fun j hj => by
            by_cases e : j = i
            · rw [e]; exact hB
            · exact HJ.out j (by omega))
          rw [hB] at HX
          clear hB
          go_wp2_with fail
          refine (HX.out _ hT0).mono ?_
          rintro e w3 ⟨rfl, hb3⟩
          have hb4 := hb.trans (hb3.mono hb.size)
          clear hb hb3 hT0
          go_wp2
          go_roundw
          case rel => exact ⟨i + 1, by omega, by go_num, hb4, HJ2⟩
          case measure => simp [intOf]; omega
      · obtain rfl : i = n := by omega
        have HN := HJ
        clear HJ HNOD hlt hi
        go_wp2
        go_loopw [6] (fun zi wq => ∃ k : Nat, k ≤ i ∧ zi = .int .i64 (k : Int) ∧ Below w.heap.size w wq ∧ Hid (∀ j, j < k → fitB T T[j]! = true)) (fun zi _ => i - (intOf zi).toNat)
        case atStart => exact ⟨0, by omega, rfl, hb, Lib.hid fun j hj => absurd hj (by omega)⟩
        case round =>
          clear hb
          obtain ⟨k, hk, rfl, hb, HJ⟩ := hrel
          rename World => wq
          by_cases hlt : k < i
          · obtain ⟨b, off, A', n', c', rfl, hbs, ⟨a0, a1, a2, a3, a4⟩, hI0, h0, h1⟩ := (H.out.below hb).at_ hlt
            have hnod := nod_iff.1 (HN.out k hlt)
            have HX := Lib.hid (fun w1 hT hI => typed_any (w := w1) (n := i) (c := c) (A := some ⟨b, off, none⟩) (T := T) hT T[k]! A' n' c' hI (decide_eq_true hnod.1) (by have := hnod.2.2.2.1; rw [← hI.1] at this; exact this) (fun q hq => by have := hnod.2.2.2.2.1 q (by rw [← hI.1]; exact hq); omega))
            have hT0 := H.out.below hb
            clear hnod h0 h1
            cases hB : fitB T T[k]!
            · have HE := Lib.hid (HFIT.out HN.out k hlt hB)
              rw [hB] at HX
              clear hB HFIT HONE HYES
              generalize T[k]! = x at a0 a1 a2 a3 a4 hI0 hT0 HX
              obtain ⟨op, wid, fl, args, imm⟩ := x
              simp only at a0 a1 a2 a3 a4 hI0 hT0 HX
              go_wp2_with fail
              refine (HX.out _ hT0 hI0).mono ?_
              rintro e w3 ⟨rfl, hb3⟩
              have hb4 := hb.trans (hb3.mono hb.size)
              clear hb hb3
              go_wp2
              exact bodyPost_ret (results_tmp rfl _ _ _) rfl ⟨by exact ret_i HE.out.symm, hb4⟩
            · have HJ2 := Lib.hid (show ∀ j, j < k + 1 → fitB T T[j]! = true from fun j hj => by
                by_cases e : j = k
                · rw [e]; exact hB
                · exact HJ.out j (by omega))
              rw [hB] at HX
              clear hB
              generalize T[k]! = x at a0 a1 a2 a3 a4 hI0 hT0 HX
              obtain ⟨op, wid, fl, args, imm⟩ := x
              simp only at a0 a1 a2 a3 a4 hI0 hT0 HX
              go_wp2_with fail
              refine (HX.out _ hT0 hI0).mono ?_
              rintro e w3 ⟨rfl, hb3⟩
              have hb4 := hb.trans (hb3.mono hb.size)
              clear hb hb3 a0 a1 a2 a3 a4 hT0
              go_wp2
              go_roundw
              case rel => exact ⟨k + 1, by omega, by go_num, hb4, HJ2⟩
              case measure => simp [intOf]; omega
          · obtain rfl : k = i := by omega
            have HF := HJ
            clear HJ HFIT hlt hk
            have HYES2 := Lib.hid (HYES.out HN.out HF.out)
            have HONE2 := Lib.hid (HONE.out HN.out HF.out)
            clear HYES HONE HF HN
            go_wp2
            go_loopw [7] (fun zi wv => ∃ i : Nat, i ≤ k ∧ zi = .int .i64 (i : Int) ∧ Below w.heap.size w wv ∧ Hid (∀ q, q < i → ∀ j, j < q → oneB T[j]! T[q]! = true)) (fun zi _ => k - (intOf zi).toNat)
            case atStart => exact ⟨0, by omega, rfl, hb, Lib.hid fun j hj => absurd hj (by omega)⟩
            case round =>
              clear hb
              obtain ⟨i, hi, rfl, hb, HJ⟩ := hrel
              rename World => wv
              by_cases hlt : i < k
              · obtain ⟨b, off, A', n', c', rfl, hbs, ⟨x0, x1, x2, x3, x4⟩, hI0, h0, h1⟩ := (H.out.below hb).at_ hlt
                have HXC := Lib.hid (And.intro x0 (And.intro x1 x4))
                clear x0 x1 x2 x3 x4 hI0 h0 h1
                have HBS := Lib.hid hbs
                have HBV := Lib.hid hb
                clear hbs
                go_wp2
                go_loopw [8] (fun zi wu => ∃ j : Nat, j ≤ i ∧ zi = .int .i64 (j : Int) ∧ Below wv.heap.size wv wu ∧ Hid (∀ q, q < j → oneB T[q]! T[i]! = true)) (fun zi _ => i - (intOf zi).toNat)
                case atStart => exact ⟨0, by omega, rfl, Below.refl _ _, Lib.hid fun j hj => absurd hj (by omega)⟩
                case round =>
                  clear hb
                  obtain ⟨j, hj, rfl, hb, HQ⟩ := hrel
                  rename World => wu
                  by_cases hltj : j < i
                  · obtain ⟨b', off', A', n', c', q1, hbs, ⟨y0, y1, -, -, y4⟩, -⟩ := (H.out.below HBV.out).at_ (show j < k by omega)
                    injection q1 with q1
                    injection q1 with q1 q2 _
                    subst q1 q2
                    have HS := Lib.hid (show ∀ W, Below wu.heap.size wu W → (W.cell? ⟨b, off + i * 5, none⟩ = some (.int .i64 (T[i]!).op) ∧ W.cell? ⟨b, off + i * 5 + 1, none⟩ = some (.int .i64 (T[i]!).width) ∧ W.cell? ⟨b, off + i * 5 + 4, none⟩ = some (.int .u32 (T[i]!).imm)) ∧ W.cell? ⟨b, off + j * 5, none⟩ = some (.int .i64 (T[j]!).op) ∧ W.cell? ⟨b, off + j * 5 + 1, none⟩ = some (.int .i64 (T[j]!).width) ∧ W.cell? ⟨b, off + j * 5 + 4, none⟩ = some (.int .u32 (T[j]!).imm) from fun W hW => by
                      have hb9 := hb.trans (hW.mono hb.size)
                      exact ⟨⟨(hb9.cell (p := ⟨b, off + i * 5, none⟩) HBS.out).trans HXC.out.1, (hb9.cell (p := ⟨b, off + i * 5 + 1, none⟩) HBS.out).trans HXC.out.2.1, (hb9.cell (p := ⟨b, off + i * 5 + 4, none⟩) HBS.out).trans HXC.out.2.2⟩, (hb9.cell (p := ⟨b, off + j * 5, none⟩) HBS.out).trans y0, (hb9.cell (p := ⟨b, off + j * 5 + 1, none⟩) HBS.out).trans y1, (hb9.cell (p := ⟨b, off + j * 5 + 4, none⟩) HBS.out).trans y4⟩)
                    have HBU := Lib.hid hb
                    have hjk : j < k := by omega
                    have HNX := Lib.hid (show oneB T[j]! T[i]! = true → ∀ q, q < j + 1 → oneB T[q]! T[i]! = true from fun hh q hq => by
                      by_cases e : q = j
                      · rw [e]; exact hh
                      · exact HQ.out q (by omega))
                    have HBD := Lib.hid (HONE2.out i j hlt hltj)
                    have HYE := Lib.hid (one_iff (x := T[j]!) (y := T[i]!))
                    generalize oneB T[j]! T[i]! = ob at HNX HBD HYE
                    generalize T[i]! = x at HS HYE HNX
                    generalize T[j]! = y at HS HYE
                    obtain ⟨op, wid, fl, ar, imm⟩ := x
                    obtain ⟨op', wid', fl', ar', imm'⟩ := y
                    simp only at HS HYE HNX
                    clear y0 y1 y4 hb hbs
                    by_cases o1 : op' = 33
                    · have e1 : (op' == 33) = true := by simp [o1]
                      by_cases o2 : op = 33
                      · have e2 : (op == 33) = true := by simp [o2]
                        by_cases o3 : imm' = imm
                        · have e3 : (imm' == imm) = true := by simp [o3]
                          by_cases o4 : wid' = wid
                          · have e4 : (wid' != wid) = false := by simp [o4]
                            have HK := Lib.hid (HNX.out (HYE.out.2 fun _ _ _ => o4))
                            clear o1 o2 o3 o4
                            go_upto_region 19 with fail
                            refine wp_region_held_drew (S := (fun W => (W.cell? ⟨b, off + i * 5, none⟩ = some (.int .i64 op) ∧ W.cell? ⟨b, off + i * 5 + 1, none⟩ = some (.int .i64 wid) ∧ W.cell? ⟨b, off + i * 5 + 4, none⟩ = some (.int .u32 imm)) ∧ W.cell? ⟨b, off + j * 5, none⟩ = some (.int .i64 op') ∧ W.cell? ⟨b, off + j * 5 + 1, none⟩ = some (.int .i64 wid') ∧ W.cell? ⟨b, off + j * 5 + 4, none⟩ = some (.int .u32 imm'))) (by kernel_rfl) ?_ (fun hHeld => ?_)
                            · exact HS.out _ (by first | exact Below.refl _ _ | exact drewD (Below.refl _ _) | exact drewR (Below.refl _ _))
                            refine wpAnyH_take (i := 0) (oi := ({ dst := some 52, op := Op.move (Operand.tmp 0), type := 22, pos := "ref.go:88", after := #[], guard := none } : Oper)) (v := ?a1_v0) rfl (by kernel_rfl) (by kernel_rfl) (by kernel_rfl) (fun _ _ _ h => h) (Or.inl ⟨by rfl, ?a1_y0⟩) (by assumption) ?a1_r0
                            case a1_y0 =>
                              intro w hSw
                              (try dsimp only at hSw)
                              go_simp
                              (try with_reducible rfl)
                            try simp only [Act.put, List.setIfInBounds_toArray, List.set_cons_zero, List.set_cons_succ]
                            refine wpAnyH_take (i := 1) (oi := ({ dst := some 53, op := Op.move (Operand.tmp 8), type := 3, pos := "ref.go:88", after := #[], guard := none } : Oper)) (v := ?a2_v1) rfl (by kernel_rfl) (by kernel_rfl) (by kernel_rfl) (fun _ _ _ h => h) (Or.inl ⟨by rfl, ?a2_y1⟩) (by assumption) ?a2_r1
                            case a2_y1 =>
                              intro w hSw
                              (try dsimp only at hSw)
                              go_simp
                              (try with_reducible rfl)
                            try simp only [Act.put, List.setIfInBounds_toArray, List.set_cons_zero, List.set_cons_succ]
                            refine wpAnyH_take (i := 2) (oi := ({ dst := some 54, op := Op.indexAddr 22 (Operand.tmp 52) (Operand.tmp 53), type := 0, pos := "ref.go:88", after := #[{ on := 0, ground := Ground.data }, { on := 1, ground := Ground.data }], guard := none } : Oper)) (v := ?a3_v2) rfl (by kernel_rfl) (by kernel_rfl) (by kernel_rfl) (fun _ _ _ h => h) (Or.inl ⟨by rfl, ?a3_y2⟩) (by assumption) ?a3_r2
                            case a3_y2 =>
                              intro w hSw
                              (try dsimp only at hSw)
                              go_simp
                              (try with_reducible rfl)
                            try simp only [Act.put, List.setIfInBounds_toArray, List.set_cons_zero, List.set_cons_succ]
                            refine wpAnyH_take (i := 3) (oi := ({ dst := some 55, op := Op.fieldAddr 38 (Operand.tmp 54) 0, type := 0, pos := "ref.go:88", after := #[{ on := 2, ground := Ground.data }], guard := none } : Oper)) (v := ?a4_v3) rfl (by kernel_rfl) (by kernel_rfl) (by kernel_rfl) (fun _ _ _ h => h) (Or.inl ⟨by rfl, ?a4_y3⟩) (by assumption) ?a4_r3
                            case a4_y3 =>
                              intro w hSw
                              (try dsimp only at hSw)
                              go_simp
                              (try with_reducible rfl)
                            try simp only [Act.put, List.setIfInBounds_toArray, List.set_cons_zero, List.set_cons_succ]
                            refine wpAnyH_take (i := 4) (oi := ({ dst := some 56, op := Op.load 3 (Operand.tmp 55), type := 3, pos := "ref.go:88", after := #[{ on := 3, ground := Ground.data }], guard := none } : Oper)) (v := ?a5_v4) rfl (by kernel_rfl) (by kernel_rfl) (by kernel_rfl) (fun _ _ _ h => h) (Or.inl ⟨by rfl, ?a5_y4⟩) (by assumption) ?a5_r4
                            case a5_y4 =>
                              intro w hSw
                              (try dsimp only at hSw)
                              go_simp
                              (try with_reducible rfl)
                            try simp only [Act.put, List.setIfInBounds_toArray, List.set_cons_zero, List.set_cons_succ]
                            refine wpAnyH_take (i := 5) (oi := ({ dst := some 57, op := Op.binOp BinOp.eql 3 (Operand.tmp 56) (Operand.const (Value.int IntKind.i64 33)) 3, type := 4, pos := "ref.go:88", after := #[{ on := 4, ground := Ground.data }], guard := none } : Oper)) (v := ?a6_v5) rfl (by kernel_rfl) (by kernel_rfl) (by kernel_rfl) (fun _ _ _ h => h) (Or.inl ⟨by rfl, ?a6_y5⟩) (by assumption) ?a6_r5
                            case a6_y5 =>
                              intro w hSw
                              (try dsimp only at hSw)
                              go_simp
                              (try with_reducible rfl)
                            try simp only [Act.put, List.setIfInBounds_toArray, List.set_cons_zero, List.set_cons_succ]
                            refine wpAnyH_take (i := 6) (oi := ({ dst := some 58, op := Op.move (Operand.tmp 57), type := 4, pos := "ref.go:88", after := #[{ on := 5, ground := Ground.data }], guard := none } : Oper)) (v := ?a7_v6) rfl (by kernel_rfl) (by kernel_rfl) (by kernel_rfl) (fun _ _ _ h => h) (Or.inl ⟨by rfl, ?a7_y6⟩) (by assumption) ?a7_r6
                            case a7_y6 =>
                              intro w hSw
                              (try dsimp only at hSw)
                              go_simp
                              (try with_reducible rfl)
                            try simp only [Act.put, List.setIfInBounds_toArray, List.set_cons_zero, List.set_cons_succ]
                            refine wpAnyH_take (i := 7) (oi := ({ dst := some 59, op := Op.move (Operand.tmp 0), type := 22, pos := "ref.go:88", after := #[{ on := 6, ground := Ground.guard }], guard := some (6, true) } : Oper)) (v := ?a8_v7) rfl (by kernel_rfl) (by kernel_rfl) (by kernel_rfl) (fun _ _ _ h => h) (Or.inl ⟨by rfl, ?a8_y7⟩) (by assumption) ?a8_r7
                            case a8_y7 =>
                              intro w hSw
                              (try dsimp only at hSw)
                              go_simp
                              (try with_reducible rfl)
                            try simp only [Act.put, List.setIfInBounds_toArray, List.set_cons_zero, List.set_cons_succ]
                            refine wpAnyH_take (i := 8) (oi := ({ dst := some 60, op := Op.move (Operand.tmp 7), type := 3, pos := "ref.go:88", after := #[{ on := 6, ground := Ground.guard }], guard := some (6, true) } : Oper)) (v := ?a9_v8) rfl (by kernel_rfl) (by kernel_rfl) (by kernel_rfl) (fun _ _ _ h => h) (Or.inl ⟨by rfl, ?a9_y8⟩) (by assumption) ?a9_r8
                            case a9_y8 =>
                              intro w hSw
                              (try dsimp only at hSw)
                              go_simp
                              (try with_reducible rfl)
                            try simp only [Act.put, List.setIfInBounds_toArray, List.set_cons_zero, List.set_cons_succ]
                            refine wpAnyH_take (i := 9) (oi := ({ dst := some 61, op := Op.indexAddr 22 (Operand.tmp 59) (Operand.tmp 60), type := 0, pos := "ref.go:88", after := #[{ on := 7, ground := Ground.data }, { on := 8, ground := Ground.data }, { on := 6, ground := Ground.guard }], guard := some (6, true) } : Oper)) (v := ?a10_v9) rfl (by kernel_rfl) (by kernel_rfl) (by kernel_rfl) (fun _ _ _ h => h) (Or.inl ⟨by rfl, ?a10_y9⟩) (by assumption) ?a10_r9
                            case a10_y9 =>
                              intro w hSw
                              (try dsimp only at hSw)
                              go_simp
                              (try with_reducible rfl)
                            try simp only [Act.put, List.setIfInBounds_toArray, List.set_cons_zero, List.set_cons_succ]
                            refine wpAnyH_take (i := 10) (oi := ({ dst := some 62, op := Op.fieldAddr 38 (Operand.tmp 61) 0, type := 0, pos := "ref.go:88", after := #[{ on := 9, ground := Ground.data }, { on := 6, ground := Ground.guard }], guard := some (6, true) } : Oper)) (v := ?a11_v10) rfl (by kernel_rfl) (by kernel_rfl) (by kernel_rfl) (fun _ _ _ h => h) (Or.inl ⟨by rfl, ?a11_y10⟩) (by assumption) ?a11_r10
                            case a11_y10 =>
                              intro w hSw
                              (try dsimp only at hSw)
                              go_simp
                              (try with_reducible rfl)
                            try simp only [Act.put, List.setIfInBounds_toArray, List.set_cons_zero, List.set_cons_succ]
                            refine wpAnyH_take (i := 11) (oi := ({ dst := some 63, op := Op.load 3 (Operand.tmp 62), type := 3, pos := "ref.go:88", after := #[{ on := 10, ground := Ground.data }, { on := 6, ground := Ground.guard }], guard := some (6, true) } : Oper)) (v := ?a12_v11) rfl (by kernel_rfl) (by kernel_rfl) (by kernel_rfl) (fun _ _ _ h => h) (Or.inl ⟨by rfl, ?a12_y11⟩) (by assumption) ?a12_r11
                            case a12_y11 =>
                              intro w hSw
                              (try dsimp only at hSw)
                              go_simp
                              (try with_reducible rfl)
                            try simp only [Act.put, List.setIfInBounds_toArray, List.set_cons_zero, List.set_cons_succ]
                            refine wpAnyH_take (i := 12) (oi := ({ dst := some 64, op := Op.binOp BinOp.eql 3 (Operand.tmp 63) (Operand.const (Value.int IntKind.i64 33)) 3, type := 4, pos := "ref.go:88", after := #[{ on := 11, ground := Ground.data }, { on := 6, ground := Ground.guard }], guard := some (6, true) } : Oper)) (v := ?a13_v12) rfl (by kernel_rfl) (by kernel_rfl) (by kernel_rfl) (fun _ _ _ h => h) (Or.inl ⟨by rfl, ?a13_y12⟩) (by assumption) ?a13_r12
                            case a13_y12 =>
                              intro w hSw
                              (try dsimp only at hSw)
                              go_simp
                              (try with_reducible rfl)
                            try simp only [Act.put, List.setIfInBounds_toArray, List.set_cons_zero, List.set_cons_succ]
                            refine wpAnyH_take (i := 13) (oi := ({ dst := some 65, op := Op.pick (Operand.tmp 58) (Operand.tmp 64) (Operand.const (Value.bool false)), type := 4, pos := "ref.go:88", after := #[{ on := 6, ground := Ground.data }, { on := 12, ground := Ground.data }], guard := none } : Oper)) (v := ?a14_v13) rfl (by kernel_rfl) (by kernel_rfl) (by kernel_rfl) (fun _ _ _ h => h) (Or.inl ⟨by rfl, ?a14_y13⟩) (by assumption) ?a14_r13
                            case a14_y13 =>
                              intro w hSw
                              (try dsimp only at hSw)
                              go_simp
                              (try with_reducible rfl)
                            try simp only [Act.put, List.setIfInBounds_toArray, List.set_cons_zero, List.set_cons_succ]
                            refine wpAnyH_take (i := 14) (oi := ({ dst := some 66, op := Op.move (Operand.tmp 65), type := 4, pos := "ref.go:88", after := #[{ on := 13, ground := Ground.data }, { on := 6, ground := Ground.chain }], guard := none } : Oper)) (v := ?a15_v14) rfl (by kernel_rfl) (by kernel_rfl) (by kernel_rfl) (fun _ _ _ h => h) (Or.inl ⟨by rfl, ?a15_y14⟩) (by assumption) ?a15_r14
                            case a15_y14 =>
                              intro w hSw
                              (try dsimp only at hSw)
                              go_simp
                              (try with_reducible rfl)
                            try simp only [Act.put, List.setIfInBounds_toArray, List.set_cons_zero, List.set_cons_succ]
                            refine wpAnyH_take (i := 15) (oi := ({ dst := some 67, op := Op.move (Operand.tmp 0), type := 22, pos := "ref.go:88", after := #[{ on := 14, ground := Ground.guard }], guard := some (14, true) } : Oper)) (v := ?a16_v15) rfl (by kernel_rfl) (by kernel_rfl) (by kernel_rfl) (fun _ _ _ h => h) (Or.inl ⟨by rfl, ?a16_y15⟩) (by assumption) ?a16_r15
                            case a16_y15 =>
                              intro w hSw
                              (try dsimp only at hSw)
                              go_simp
                              (try with_reducible rfl)
                            try simp only [Act.put, List.setIfInBounds_toArray, List.set_cons_zero, List.set_cons_succ]
                            refine wpAnyH_take (i := 16) (oi := ({ dst := some 68, op := Op.move (Operand.tmp 8), type := 3, pos := "ref.go:88", after := #[{ on := 14, ground := Ground.guard }], guard := some (14, true) } : Oper)) (v := ?a17_v16) rfl (by kernel_rfl) (by kernel_rfl) (by kernel_rfl) (fun _ _ _ h => h) (Or.inl ⟨by rfl, ?a17_y16⟩) (by assumption) ?a17_r16
                            case a17_y16 =>
                              intro w hSw
                              (try dsimp only at hSw)
                              go_simp
                              (try with_reducible rfl)
                            try simp only [Act.put, List.setIfInBounds_toArray, List.set_cons_zero, List.set_cons_succ]
                            refine wpAnyH_take (i := 17) (oi := ({ dst := some 69, op := Op.indexAddr 22 (Operand.tmp 67) (Operand.tmp 68), type := 0, pos := "ref.go:88", after := #[{ on := 15, ground := Ground.data }, { on := 16, ground := Ground.data }, { on := 14, ground := Ground.guard }], guard := some (14, true) } : Oper)) (v := ?a18_v17) rfl (by kernel_rfl) (by kernel_rfl) (by kernel_rfl) (fun _ _ _ h => h) (Or.inl ⟨by rfl, ?a18_y17⟩) (by assumption) ?a18_r17
                            case a18_y17 =>
                              intro w hSw
                              (try dsimp only at hSw)
                              go_simp
                              (try with_reducible rfl)
                            try simp only [Act.put, List.setIfInBounds_toArray, List.set_cons_zero, List.set_cons_succ]
                            refine wpAnyH_take (i := 18) (oi := ({ dst := some 70, op := Op.fieldAddr 38 (Operand.tmp 69) 4, type := 0, pos := "ref.go:88", after := #[{ on := 17, ground := Ground.data }, { on := 14, ground := Ground.guard }], guard := some (14, true) } : Oper)) (v := ?a19_v18) rfl (by kernel_rfl) (by kernel_rfl) (by kernel_rfl) (fun _ _ _ h => h) (Or.inl ⟨by rfl, ?a19_y18⟩) (by assumption) ?a19_r18
                            case a19_y18 =>
                              intro w hSw
                              (try dsimp only at hSw)
                              go_simp
                              (try with_reducible rfl)
                            try simp only [Act.put, List.setIfInBounds_toArray, List.set_cons_zero, List.set_cons_succ]
                            refine wpAnyH_take (i := 19) (oi := ({ dst := some 71, op := Op.load 36 (Operand.tmp 70), type := 36, pos := "ref.go:88", after := #[{ on := 18, ground := Ground.data }, { on := 14, ground := Ground.guard }], guard := some (14, true) } : Oper)) (v := ?a20_v19) rfl (by kernel_rfl) (by kernel_rfl) (by kernel_rfl) (fun _ _ _ h => h) (Or.inl ⟨by rfl, ?a20_y19⟩) (by assumption) ?a20_r19
                            case a20_y19 =>
                              intro w hSw
                              (try dsimp only at hSw)
                              go_simp
                              (try with_reducible rfl)
                            try simp only [Act.put, List.setIfInBounds_toArray, List.set_cons_zero, List.set_cons_succ]
                            refine wpAnyH_take (i := 20) (oi := ({ dst := some 72, op := Op.move (Operand.tmp 0), type := 22, pos := "ref.go:88", after := #[{ on := 14, ground := Ground.guard }], guard := some (14, true) } : Oper)) (v := ?a21_v20) rfl (by kernel_rfl) (by kernel_rfl) (by kernel_rfl) (fun _ _ _ h => h) (Or.inl ⟨by rfl, ?a21_y20⟩) (by assumption) ?a21_r20
                            case a21_y20 =>
                              intro w hSw
                              (try dsimp only at hSw)
                              go_simp
                              (try with_reducible rfl)
                            try simp only [Act.put, List.setIfInBounds_toArray, List.set_cons_zero, List.set_cons_succ]
                            refine wpAnyH_take (i := 21) (oi := ({ dst := some 73, op := Op.move (Operand.tmp 7), type := 3, pos := "ref.go:88", after := #[{ on := 14, ground := Ground.guard }], guard := some (14, true) } : Oper)) (v := ?a22_v21) rfl (by kernel_rfl) (by kernel_rfl) (by kernel_rfl) (fun _ _ _ h => h) (Or.inl ⟨by rfl, ?a22_y21⟩) (by assumption) ?a22_r21
                            case a22_y21 =>
                              intro w hSw
                              (try dsimp only at hSw)
                              go_simp
                              (try with_reducible rfl)
                            try simp only [Act.put, List.setIfInBounds_toArray, List.set_cons_zero, List.set_cons_succ]
                            refine wpAnyH_take (i := 22) (oi := ({ dst := some 74, op := Op.indexAddr 22 (Operand.tmp 72) (Operand.tmp 73), type := 0, pos := "ref.go:88", after := #[{ on := 20, ground := Ground.data }, { on := 21, ground := Ground.data }, { on := 14, ground := Ground.guard }], guard := some (14, true) } : Oper)) (v := ?a23_v22) rfl (by kernel_rfl) (by kernel_rfl) (by kernel_rfl) (fun _ _ _ h => h) (Or.inl ⟨by rfl, ?a23_y22⟩) (by assumption) ?a23_r22
                            case a23_y22 =>
                              intro w hSw
                              (try dsimp only at hSw)
                              go_simp
                              (try with_reducible rfl)
                            try simp only [Act.put, List.setIfInBounds_toArray, List.set_cons_zero, List.set_cons_succ]
                            refine wpAnyH_take (i := 23) (oi := ({ dst := some 75, op := Op.fieldAddr 38 (Operand.tmp 74) 4, type := 0, pos := "ref.go:88", after := #[{ on := 22, ground := Ground.data }, { on := 14, ground := Ground.guard }], guard := some (14, true) } : Oper)) (v := ?a24_v23) rfl (by kernel_rfl) (by kernel_rfl) (by kernel_rfl) (fun _ _ _ h => h) (Or.inl ⟨by rfl, ?a24_y23⟩) (by assumption) ?a24_r23
                            case a24_y23 =>
                              intro w hSw
                              (try dsimp only at hSw)
                              go_simp
                              (try with_reducible rfl)
                            try simp only [Act.put, List.setIfInBounds_toArray, List.set_cons_zero, List.set_cons_succ]
                            refine wpAnyH_take (i := 24) (oi := ({ dst := some 76, op := Op.load 36 (Operand.tmp 75), type := 36, pos := "ref.go:88", after := #[{ on := 23, ground := Ground.data }, { on := 14, ground := Ground.guard }], guard := some (14, true) } : Oper)) (v := ?a25_v24) rfl (by kernel_rfl) (by kernel_rfl) (by kernel_rfl) (fun _ _ _ h => h) (Or.inl ⟨by rfl, ?a25_y24⟩) (by assumption) ?a25_r24
                            case a25_y24 =>
                              intro w hSw
                              (try dsimp only at hSw)
                              go_simp
                              (try with_reducible rfl)
                            try simp only [Act.put, List.setIfInBounds_toArray, List.set_cons_zero, List.set_cons_succ]
                            refine wpAnyH_take (i := 25) (oi := ({ dst := some 77, op := Op.binOp BinOp.eql 36 (Operand.tmp 71) (Operand.tmp 76) 36, type := 4, pos := "ref.go:88", after := #[{ on := 19, ground := Ground.data }, { on := 24, ground := Ground.data }, { on := 14, ground := Ground.guard }], guard := some (14, true) } : Oper)) (v := ?a26_v25) rfl (by kernel_rfl) (by kernel_rfl) (by kernel_rfl) (fun _ _ _ h => h) (Or.inl ⟨by rfl, ?a26_y25⟩) (by assumption) ?a26_r25
                            case a26_y25 =>
                              intro w hSw
                              (try dsimp only at hSw)
                              go_simp
                              (try with_reducible rfl)
                            try simp only [Act.put, List.setIfInBounds_toArray, List.set_cons_zero, List.set_cons_succ]
                            refine wpAnyH_take (i := 26) (oi := ({ dst := some 78, op := Op.pick (Operand.tmp 66) (Operand.tmp 77) (Operand.const (Value.bool false)), type := 4, pos := "ref.go:88", after := #[{ on := 14, ground := Ground.data }, { on := 25, ground := Ground.data }], guard := none } : Oper)) (v := ?a27_v26) rfl (by kernel_rfl) (by kernel_rfl) (by kernel_rfl) (fun _ _ _ h => h) (Or.inl ⟨by rfl, ?a27_y26⟩) (by assumption) ?a27_r26
                            case a27_y26 =>
                              intro w hSw
                              (try dsimp only at hSw)
                              go_simp
                              (try with_reducible rfl)
                            try simp only [Act.put, List.setIfInBounds_toArray, List.set_cons_zero, List.set_cons_succ]
                            refine wpAnyH_take (i := 27) (oi := ({ dst := some 79, op := Op.move (Operand.tmp 78), type := 4, pos := "ref.go:88", after := #[{ on := 26, ground := Ground.data }, { on := 14, ground := Ground.chain }], guard := none } : Oper)) (v := ?a28_v27) rfl (by kernel_rfl) (by kernel_rfl) (by kernel_rfl) (fun _ _ _ h => h) (Or.inl ⟨by rfl, ?a28_y27⟩) (by assumption) ?a28_r27
                            case a28_y27 =>
                              intro w hSw
                              (try dsimp only at hSw)
                              go_simp
                              (try with_reducible rfl)
                            try simp only [Act.put, List.setIfInBounds_toArray, List.set_cons_zero, List.set_cons_succ]
                            refine wpAnyH_take (i := 28) (oi := ({ dst := some 80, op := Op.move (Operand.tmp 0), type := 22, pos := "ref.go:88", after := #[{ on := 27, ground := Ground.guard }], guard := some (27, true) } : Oper)) (v := ?a29_v28) rfl (by kernel_rfl) (by kernel_rfl) (by kernel_rfl) (fun _ _ _ h => h) (Or.inl ⟨by rfl, ?a29_y28⟩) (by assumption) ?a29_r28
                            case a29_y28 =>
                              intro w hSw
                              (try dsimp only at hSw)
                              go_simp
                              (try with_reducible rfl)
                            try simp only [Act.put, List.setIfInBounds_toArray, List.set_cons_zero, List.set_cons_succ]
                            refine wpAnyH_take (i := 29) (oi := ({ dst := some 81, op := Op.move (Operand.tmp 8), type := 3, pos := "ref.go:88", after := #[{ on := 27, ground := Ground.guard }], guard := some (27, true) } : Oper)) (v := ?a30_v29) rfl (by kernel_rfl) (by kernel_rfl) (by kernel_rfl) (fun _ _ _ h => h) (Or.inl ⟨by rfl, ?a30_y29⟩) (by assumption) ?a30_r29
                            case a30_y29 =>
                              intro w hSw
                              (try dsimp only at hSw)
                              go_simp
                              (try with_reducible rfl)
                            try simp only [Act.put, List.setIfInBounds_toArray, List.set_cons_zero, List.set_cons_succ]
                            refine wpAnyH_take (i := 30) (oi := ({ dst := some 82, op := Op.indexAddr 22 (Operand.tmp 80) (Operand.tmp 81), type := 0, pos := "ref.go:88", after := #[{ on := 28, ground := Ground.data }, { on := 29, ground := Ground.data }, { on := 27, ground := Ground.guard }], guard := some (27, true) } : Oper)) (v := ?a31_v30) rfl (by kernel_rfl) (by kernel_rfl) (by kernel_rfl) (fun _ _ _ h => h) (Or.inl ⟨by rfl, ?a31_y30⟩) (by assumption) ?a31_r30
                            case a31_y30 =>
                              intro w hSw
                              (try dsimp only at hSw)
                              go_simp
                              (try with_reducible rfl)
                            try simp only [Act.put, List.setIfInBounds_toArray, List.set_cons_zero, List.set_cons_succ]
                            refine wpAnyH_take (i := 31) (oi := ({ dst := some 83, op := Op.fieldAddr 38 (Operand.tmp 82) 1, type := 0, pos := "ref.go:88", after := #[{ on := 30, ground := Ground.data }, { on := 27, ground := Ground.guard }], guard := some (27, true) } : Oper)) (v := ?a32_v31) rfl (by kernel_rfl) (by kernel_rfl) (by kernel_rfl) (fun _ _ _ h => h) (Or.inl ⟨by rfl, ?a32_y31⟩) (by assumption) ?a32_r31
                            case a32_y31 =>
                              intro w hSw
                              (try dsimp only at hSw)
                              go_simp
                              (try with_reducible rfl)
                            try simp only [Act.put, List.setIfInBounds_toArray, List.set_cons_zero, List.set_cons_succ]
                            refine wpAnyH_take (i := 32) (oi := ({ dst := some 84, op := Op.load 3 (Operand.tmp 83), type := 3, pos := "ref.go:88", after := #[{ on := 31, ground := Ground.data }, { on := 27, ground := Ground.guard }], guard := some (27, true) } : Oper)) (v := ?a33_v32) rfl (by kernel_rfl) (by kernel_rfl) (by kernel_rfl) (fun _ _ _ h => h) (Or.inl ⟨by rfl, ?a33_y32⟩) (by assumption) ?a33_r32
                            case a33_y32 =>
                              intro w hSw
                              (try dsimp only at hSw)
                              go_simp
                              (try with_reducible rfl)
                            try simp only [Act.put, List.setIfInBounds_toArray, List.set_cons_zero, List.set_cons_succ]
                            refine wpAnyH_take (i := 33) (oi := ({ dst := some 85, op := Op.move (Operand.tmp 0), type := 22, pos := "ref.go:88", after := #[{ on := 27, ground := Ground.guard }], guard := some (27, true) } : Oper)) (v := ?a34_v33) rfl (by kernel_rfl) (by kernel_rfl) (by kernel_rfl) (fun _ _ _ h => h) (Or.inl ⟨by rfl, ?a34_y33⟩) (by assumption) ?a34_r33
                            case a34_y33 =>
                              intro w hSw
                              (try dsimp only at hSw)
                              go_simp
                              (try with_reducible rfl)
                            try simp only [Act.put, List.setIfInBounds_toArray, List.set_cons_zero, List.set_cons_succ]
                            refine wpAnyH_take (i := 34) (oi := ({ dst := some 86, op := Op.move (Operand.tmp 7), type := 3, pos := "ref.go:88", after := #[{ on := 27, ground := Ground.guard }], guard := some (27, true) } : Oper)) (v := ?a35_v34) rfl (by kernel_rfl) (by kernel_rfl) (by kernel_rfl) (fun _ _ _ h => h) (Or.inl ⟨by rfl, ?a35_y34⟩) (by assumption) ?a35_r34
                            case a35_y34 =>
                              intro w hSw
                              (try dsimp only at hSw)
                              go_simp
                              (try with_reducible rfl)
                            try simp only [Act.put, List.setIfInBounds_toArray, List.set_cons_zero, List.set_cons_succ]
                            refine wpAnyH_take (i := 35) (oi := ({ dst := some 87, op := Op.indexAddr 22 (Operand.tmp 85) (Operand.tmp 86), type := 0, pos := "ref.go:88", after := #[{ on := 33, ground := Ground.data }, { on := 34, ground := Ground.data }, { on := 27, ground := Ground.guard }], guard := some (27, true) } : Oper)) (v := ?a36_v35) rfl (by kernel_rfl) (by kernel_rfl) (by kernel_rfl) (fun _ _ _ h => h) (Or.inl ⟨by rfl, ?a36_y35⟩) (by assumption) ?a36_r35
                            case a36_y35 =>
                              intro w hSw
                              (try dsimp only at hSw)
                              go_simp
                              (try with_reducible rfl)
                            try simp only [Act.put, List.setIfInBounds_toArray, List.set_cons_zero, List.set_cons_succ]
                            refine wpAnyH_take (i := 36) (oi := ({ dst := some 88, op := Op.fieldAddr 38 (Operand.tmp 87) 1, type := 0, pos := "ref.go:88", after := #[{ on := 35, ground := Ground.data }, { on := 27, ground := Ground.guard }], guard := some (27, true) } : Oper)) (v := ?a37_v36) rfl (by kernel_rfl) (by kernel_rfl) (by kernel_rfl) (fun _ _ _ h => h) (Or.inl ⟨by rfl, ?a37_y36⟩) (by assumption) ?a37_r36
                            case a37_y36 =>
                              intro w hSw
                              (try dsimp only at hSw)
                              go_simp
                              (try with_reducible rfl)
                            try simp only [Act.put, List.setIfInBounds_toArray, List.set_cons_zero, List.set_cons_succ]
                            refine wpAnyH_take (i := 37) (oi := ({ dst := some 89, op := Op.load 3 (Operand.tmp 88), type := 3, pos := "ref.go:88", after := #[{ on := 36, ground := Ground.data }, { on := 27, ground := Ground.guard }], guard := some (27, true) } : Oper)) (v := ?a38_v37) rfl (by kernel_rfl) (by kernel_rfl) (by kernel_rfl) (fun _ _ _ h => h) (Or.inl ⟨by rfl, ?a38_y37⟩) (by assumption) ?a38_r37
                            case a38_y37 =>
                              intro w hSw
                              (try dsimp only at hSw)
                              go_simp
                              (try with_reducible rfl)
                            try simp only [Act.put, List.setIfInBounds_toArray, List.set_cons_zero, List.set_cons_succ]
                            refine wpAnyH_take (i := 38) (oi := ({ dst := some 90, op := Op.binOp BinOp.neq 3 (Operand.tmp 84) (Operand.tmp 89) 3, type := 4, pos := "ref.go:88", after := #[{ on := 32, ground := Ground.data }, { on := 37, ground := Ground.data }, { on := 27, ground := Ground.guard }], guard := some (27, true) } : Oper)) (v := ?a39_v38) rfl (by kernel_rfl) (by kernel_rfl) (by kernel_rfl) (fun _ _ _ h => h) (Or.inl ⟨by rfl, ?a39_y38⟩) (by assumption) ?a39_r38
                            case a39_y38 =>
                              intro w hSw
                              (try dsimp only at hSw)
                              go_simp
                              (try with_reducible rfl)
                            try simp only [Act.put, List.setIfInBounds_toArray, List.set_cons_zero, List.set_cons_succ]
                            refine wpAnyH_take (i := 39) (oi := ({ dst := some 91, op := Op.pick (Operand.tmp 79) (Operand.tmp 90) (Operand.const (Value.bool false)), type := 4, pos := "ref.go:88", after := #[{ on := 27, ground := Ground.data }, { on := 38, ground := Ground.data }], guard := none } : Oper)) (v := ?a40_v39) rfl (by kernel_rfl) (by kernel_rfl) (by kernel_rfl) (fun _ _ _ h => h) (Or.inl ⟨by rfl, ?a40_y39⟩) (by assumption) ?a40_r39
                            case a40_y39 =>
                              intro w hSw
                              (try dsimp only at hSw)
                              go_simp
                              (try with_reducible rfl)
                            try simp only [Act.put, List.setIfInBounds_toArray, List.set_cons_zero, List.set_cons_succ]
                            refine wpAnyH_done (by kernel_rfl) ?_ _
                            go_wp2
                            go_roundw
                            case rel => exact ⟨j + 1, by omega, by go_num, drewD HBU.out, HK⟩
                            case measure => simp [intOf]; omega
                          · have e4 : (wid' != wid) = true := by simp [o4]
                            have HE := Lib.hid (HBD.out (Bool.eq_false_iff.2 fun hh => o4 (HYE.out.1 hh o1 o2 o3)))
                            clear o1 o2 o3 o4
                            go_upto_region 19 with fail
                            refine wp_region_held_drew (S := (fun W => (W.cell? ⟨b, off + i * 5, none⟩ = some (.int .i64 op) ∧ W.cell? ⟨b, off + i * 5 + 1, none⟩ = some (.int .i64 wid) ∧ W.cell? ⟨b, off + i * 5 + 4, none⟩ = some (.int .u32 imm)) ∧ W.cell? ⟨b, off + j * 5, none⟩ = some (.int .i64 op') ∧ W.cell? ⟨b, off + j * 5 + 1, none⟩ = some (.int .i64 wid') ∧ W.cell? ⟨b, off + j * 5 + 4, none⟩ = some (.int .u32 imm'))) (by kernel_rfl) ?_ (fun hHeld => ?_)
                            · exact HS.out _ (by first | exact Below.refl _ _ | exact drewD (Below.refl _ _) | exact drewR (Below.refl _ _))
                            refine wpAnyH_take (i := 0) (oi := ({ dst := some 52, op := Op.move (Operand.tmp 0), type := 22, pos := "ref.go:88", after := #[], guard := none } : Oper)) (v := ?b1_v0) rfl (by kernel_rfl) (by kernel_rfl) (by kernel_rfl) (fun _ _ _ h => h) (Or.inl ⟨by rfl, ?b1_y0⟩) (by assumption) ?b1_r0
                            case b1_y0 =>
                              intro w hSw
                              (try dsimp only at hSw)
                              go_simp
                              (try with_reducible rfl)
                            try simp only [Act.put, List.setIfInBounds_toArray, List.set_cons_zero, List.set_cons_succ]
                            refine wpAnyH_take (i := 1) (oi := ({ dst := some 53, op := Op.move (Operand.tmp 8), type := 3, pos := "ref.go:88", after := #[], guard := none } : Oper)) (v := ?b2_v1) rfl (by kernel_rfl) (by kernel_rfl) (by kernel_rfl) (fun _ _ _ h => h) (Or.inl ⟨by rfl, ?b2_y1⟩) (by assumption) ?b2_r1
                            case b2_y1 =>
                              intro w hSw
                              (try dsimp only at hSw)
                              go_simp
                              (try with_reducible rfl)
                            try simp only [Act.put, List.setIfInBounds_toArray, List.set_cons_zero, List.set_cons_succ]
                            refine wpAnyH_take (i := 2) (oi := ({ dst := some 54, op := Op.indexAddr 22 (Operand.tmp 52) (Operand.tmp 53), type := 0, pos := "ref.go:88", after := #[{ on := 0, ground := Ground.data }, { on := 1, ground := Ground.data }], guard := none } : Oper)) (v := ?b3_v2) rfl (by kernel_rfl) (by kernel_rfl) (by kernel_rfl) (fun _ _ _ h => h) (Or.inl ⟨by rfl, ?b3_y2⟩) (by assumption) ?b3_r2
                            case b3_y2 =>
                              intro w hSw
                              (try dsimp only at hSw)
                              go_simp
                              (try with_reducible rfl)
                            try simp only [Act.put, List.setIfInBounds_toArray, List.set_cons_zero, List.set_cons_succ]
                            refine wpAnyH_take (i := 3) (oi := ({ dst := some 55, op := Op.fieldAddr 38 (Operand.tmp 54) 0, type := 0, pos := "ref.go:88", after := #[{ on := 2, ground := Ground.data }], guard := none } : Oper)) (v := ?b4_v3) rfl (by kernel_rfl) (by kernel_rfl) (by kernel_rfl) (fun _ _ _ h => h) (Or.inl ⟨by rfl, ?b4_y3⟩) (by assumption) ?b4_r3
                            case b4_y3 =>
                              intro w hSw
                              (try dsimp only at hSw)
                              go_simp
                              (try with_reducible rfl)
                            try simp only [Act.put, List.setIfInBounds_toArray, List.set_cons_zero, List.set_cons_succ]
                            refine wpAnyH_take (i := 4) (oi := ({ dst := some 56, op := Op.load 3 (Operand.tmp 55), type := 3, pos := "ref.go:88", after := #[{ on := 3, ground := Ground.data }], guard := none } : Oper)) (v := ?b5_v4) rfl (by kernel_rfl) (by kernel_rfl) (by kernel_rfl) (fun _ _ _ h => h) (Or.inl ⟨by rfl, ?b5_y4⟩) (by assumption) ?b5_r4
                            case b5_y4 =>
                              intro w hSw
                              (try dsimp only at hSw)
                              go_simp
                              (try with_reducible rfl)
                            try simp only [Act.put, List.setIfInBounds_toArray, List.set_cons_zero, List.set_cons_succ]
                            refine wpAnyH_take (i := 5) (oi := ({ dst := some 57, op := Op.binOp BinOp.eql 3 (Operand.tmp 56) (Operand.const (Value.int IntKind.i64 33)) 3, type := 4, pos := "ref.go:88", after := #[{ on := 4, ground := Ground.data }], guard := none } : Oper)) (v := ?b6_v5) rfl (by kernel_rfl) (by kernel_rfl) (by kernel_rfl) (fun _ _ _ h => h) (Or.inl ⟨by rfl, ?b6_y5⟩) (by assumption) ?b6_r5
                            case b6_y5 =>
                              intro w hSw
                              (try dsimp only at hSw)
                              go_simp
                              (try with_reducible rfl)
                            try simp only [Act.put, List.setIfInBounds_toArray, List.set_cons_zero, List.set_cons_succ]
                            refine wpAnyH_take (i := 6) (oi := ({ dst := some 58, op := Op.move (Operand.tmp 57), type := 4, pos := "ref.go:88", after := #[{ on := 5, ground := Ground.data }], guard := none } : Oper)) (v := ?b7_v6) rfl (by kernel_rfl) (by kernel_rfl) (by kernel_rfl) (fun _ _ _ h => h) (Or.inl ⟨by rfl, ?b7_y6⟩) (by assumption) ?b7_r6
                            case b7_y6 =>
                              intro w hSw
                              (try dsimp only at hSw)
                              go_simp
                              (try with_reducible rfl)
                            try simp only [Act.put, List.setIfInBounds_toArray, List.set_cons_zero, List.set_cons_succ]
                            refine wpAnyH_take (i := 7) (oi := ({ dst := some 59, op := Op.move (Operand.tmp 0), type := 22, pos := "ref.go:88", after := #[{ on := 6, ground := Ground.guard }], guard := some (6, true) } : Oper)) (v := ?b8_v7) rfl (by kernel_rfl) (by kernel_rfl) (by kernel_rfl) (fun _ _ _ h => h) (Or.inl ⟨by rfl, ?b8_y7⟩) (by assumption) ?b8_r7
                            case b8_y7 =>
                              intro w hSw
                              (try dsimp only at hSw)
                              go_simp
                              (try with_reducible rfl)
                            try simp only [Act.put, List.setIfInBounds_toArray, List.set_cons_zero, List.set_cons_succ]
                            refine wpAnyH_take (i := 8) (oi := ({ dst := some 60, op := Op.move (Operand.tmp 7), type := 3, pos := "ref.go:88", after := #[{ on := 6, ground := Ground.guard }], guard := some (6, true) } : Oper)) (v := ?b9_v8) rfl (by kernel_rfl) (by kernel_rfl) (by kernel_rfl) (fun _ _ _ h => h) (Or.inl ⟨by rfl, ?b9_y8⟩) (by assumption) ?b9_r8
                            case b9_y8 =>
                              intro w hSw
                              (try dsimp only at hSw)
                              go_simp
                              (try with_reducible rfl)
                            try simp only [Act.put, List.setIfInBounds_toArray, List.set_cons_zero, List.set_cons_succ]
                            refine wpAnyH_take (i := 9) (oi := ({ dst := some 61, op := Op.indexAddr 22 (Operand.tmp 59) (Operand.tmp 60), type := 0, pos := "ref.go:88", after := #[{ on := 7, ground := Ground.data }, { on := 8, ground := Ground.data }, { on := 6, ground := Ground.guard }], guard := some (6, true) } : Oper)) (v := ?b10_v9) rfl (by kernel_rfl) (by kernel_rfl) (by kernel_rfl) (fun _ _ _ h => h) (Or.inl ⟨by rfl, ?b10_y9⟩) (by assumption) ?b10_r9
                            case b10_y9 =>
                              intro w hSw
                              (try dsimp only at hSw)
                              go_simp
                              (try with_reducible rfl)
                            try simp only [Act.put, List.setIfInBounds_toArray, List.set_cons_zero, List.set_cons_succ]
                            refine wpAnyH_take (i := 10) (oi := ({ dst := some 62, op := Op.fieldAddr 38 (Operand.tmp 61) 0, type := 0, pos := "ref.go:88", after := #[{ on := 9, ground := Ground.data }, { on := 6, ground := Ground.guard }], guard := some (6, true) } : Oper)) (v := ?b11_v10) rfl (by kernel_rfl) (by kernel_rfl) (by kernel_rfl) (fun _ _ _ h => h) (Or.inl ⟨by rfl, ?b11_y10⟩) (by assumption) ?b11_r10
                            case b11_y10 =>
                              intro w hSw
                              (try dsimp only at hSw)
                              go_simp
                              (try with_reducible rfl)
                            try simp only [Act.put, List.setIfInBounds_toArray, List.set_cons_zero, List.set_cons_succ]
                            refine wpAnyH_take (i := 11) (oi := ({ dst := some 63, op := Op.load 3 (Operand.tmp 62), type := 3, pos := "ref.go:88", after := #[{ on := 10, ground := Ground.data }, { on := 6, ground := Ground.guard }], guard := some (6, true) } : Oper)) (v := ?b12_v11) rfl (by kernel_rfl) (by kernel_rfl) (by kernel_rfl) (fun _ _ _ h => h) (Or.inl ⟨by rfl, ?b12_y11⟩) (by assumption) ?b12_r11
                            case b12_y11 =>
                              intro w hSw
                              (try dsimp only at hSw)
                              go_simp
                              (try with_reducible rfl)
                            try simp only [Act.put, List.setIfInBounds_toArray, List.set_cons_zero, List.set_cons_succ]
                            refine wpAnyH_take (i := 12) (oi := ({ dst := some 64, op := Op.binOp BinOp.eql 3 (Operand.tmp 63) (Operand.const (Value.int IntKind.i64 33)) 3, type := 4, pos := "ref.go:88", after := #[{ on := 11, ground := Ground.data }, { on := 6, ground := Ground.guard }], guard := some (6, true) } : Oper)) (v := ?b13_v12) rfl (by kernel_rfl) (by kernel_rfl) (by kernel_rfl) (fun _ _ _ h => h) (Or.inl ⟨by rfl, ?b13_y12⟩) (by assumption) ?b13_r12
                            case b13_y12 =>
                              intro w hSw
                              (try dsimp only at hSw)
                              go_simp
                              (try with_reducible rfl)
                            try simp only [Act.put, List.setIfInBounds_toArray, List.set_cons_zero, List.set_cons_succ]
                            refine wpAnyH_take (i := 13) (oi := ({ dst := some 65, op := Op.pick (Operand.tmp 58) (Operand.tmp 64) (Operand.const (Value.bool false)), type := 4, pos := "ref.go:88", after := #[{ on := 6, ground := Ground.data }, { on := 12, ground := Ground.data }], guard := none } : Oper)) (v := ?b14_v13) rfl (by kernel_rfl) (by kernel_rfl) (by kernel_rfl) (fun _ _ _ h => h) (Or.inl ⟨by rfl, ?b14_y13⟩) (by assumption) ?b14_r13
                            case b14_y13 =>
                              intro w hSw
                              (try dsimp only at hSw)
                              go_simp
                              (try with_reducible rfl)
                            try simp only [Act.put, List.setIfInBounds_toArray, List.set_cons_zero, List.set_cons_succ]
                            refine wpAnyH_take (i := 14) (oi := ({ dst := some 66, op := Op.move (Operand.tmp 65), type := 4, pos := "ref.go:88", after := #[{ on := 13, ground := Ground.data }, { on := 6, ground := Ground.chain }], guard := none } : Oper)) (v := ?b15_v14) rfl (by kernel_rfl) (by kernel_rfl) (by kernel_rfl) (fun _ _ _ h => h) (Or.inl ⟨by rfl, ?b15_y14⟩) (by assumption) ?b15_r14
                            case b15_y14 =>
                              intro w hSw
                              (try dsimp only at hSw)
                              go_simp
                              (try with_reducible rfl)
                            try simp only [Act.put, List.setIfInBounds_toArray, List.set_cons_zero, List.set_cons_succ]
                            refine wpAnyH_take (i := 15) (oi := ({ dst := some 67, op := Op.move (Operand.tmp 0), type := 22, pos := "ref.go:88", after := #[{ on := 14, ground := Ground.guard }], guard := some (14, true) } : Oper)) (v := ?b16_v15) rfl (by kernel_rfl) (by kernel_rfl) (by kernel_rfl) (fun _ _ _ h => h) (Or.inl ⟨by rfl, ?b16_y15⟩) (by assumption) ?b16_r15
                            case b16_y15 =>
                              intro w hSw
                              (try dsimp only at hSw)
                              go_simp
                              (try with_reducible rfl)
                            try simp only [Act.put, List.setIfInBounds_toArray, List.set_cons_zero, List.set_cons_succ]
                            refine wpAnyH_take (i := 16) (oi := ({ dst := some 68, op := Op.move (Operand.tmp 8), type := 3, pos := "ref.go:88", after := #[{ on := 14, ground := Ground.guard }], guard := some (14, true) } : Oper)) (v := ?b17_v16) rfl (by kernel_rfl) (by kernel_rfl) (by kernel_rfl) (fun _ _ _ h => h) (Or.inl ⟨by rfl, ?b17_y16⟩) (by assumption) ?b17_r16
                            case b17_y16 =>
                              intro w hSw
                              (try dsimp only at hSw)
                              go_simp
                              (try with_reducible rfl)
                            try simp only [Act.put, List.setIfInBounds_toArray, List.set_cons_zero, List.set_cons_succ]
                            refine wpAnyH_take (i := 17) (oi := ({ dst := some 69, op := Op.indexAddr 22 (Operand.tmp 67) (Operand.tmp 68), type := 0, pos := "ref.go:88", after := #[{ on := 15, ground := Ground.data }, { on := 16, ground := Ground.data }, { on := 14, ground := Ground.guard }], guard := some (14, true) } : Oper)) (v := ?b18_v17) rfl (by kernel_rfl) (by kernel_rfl) (by kernel_rfl) (fun _ _ _ h => h) (Or.inl ⟨by rfl, ?b18_y17⟩) (by assumption) ?b18_r17
                            case b18_y17 =>
                              intro w hSw
                              (try dsimp only at hSw)
                              go_simp
                              (try with_reducible rfl)
                            try simp only [Act.put, List.setIfInBounds_toArray, List.set_cons_zero, List.set_cons_succ]
                            refine wpAnyH_take (i := 18) (oi := ({ dst := some 70, op := Op.fieldAddr 38 (Operand.tmp 69) 4, type := 0, pos := "ref.go:88", after := #[{ on := 17, ground := Ground.data }, { on := 14, ground := Ground.guard }], guard := some (14, true) } : Oper)) (v := ?b19_v18) rfl (by kernel_rfl) (by kernel_rfl) (by kernel_rfl) (fun _ _ _ h => h) (Or.inl ⟨by rfl, ?b19_y18⟩) (by assumption) ?b19_r18
                            case b19_y18 =>
                              intro w hSw
                              (try dsimp only at hSw)
                              go_simp
                              (try with_reducible rfl)
                            try simp only [Act.put, List.setIfInBounds_toArray, List.set_cons_zero, List.set_cons_succ]
                            refine wpAnyH_take (i := 19) (oi := ({ dst := some 71, op := Op.load 36 (Operand.tmp 70), type := 36, pos := "ref.go:88", after := #[{ on := 18, ground := Ground.data }, { on := 14, ground := Ground.guard }], guard := some (14, true) } : Oper)) (v := ?b20_v19) rfl (by kernel_rfl) (by kernel_rfl) (by kernel_rfl) (fun _ _ _ h => h) (Or.inl ⟨by rfl, ?b20_y19⟩) (by assumption) ?b20_r19
                            case b20_y19 =>
                              intro w hSw
                              (try dsimp only at hSw)
                              go_simp
                              (try with_reducible rfl)
                            try simp only [Act.put, List.setIfInBounds_toArray, List.set_cons_zero, List.set_cons_succ]
                            refine wpAnyH_take (i := 20) (oi := ({ dst := some 72, op := Op.move (Operand.tmp 0), type := 22, pos := "ref.go:88", after := #[{ on := 14, ground := Ground.guard }], guard := some (14, true) } : Oper)) (v := ?b21_v20) rfl (by kernel_rfl) (by kernel_rfl) (by kernel_rfl) (fun _ _ _ h => h) (Or.inl ⟨by rfl, ?b21_y20⟩) (by assumption) ?b21_r20
                            case b21_y20 =>
                              intro w hSw
                              (try dsimp only at hSw)
                              go_simp
                              (try with_reducible rfl)
                            try simp only [Act.put, List.setIfInBounds_toArray, List.set_cons_zero, List.set_cons_succ]
                            refine wpAnyH_take (i := 21) (oi := ({ dst := some 73, op := Op.move (Operand.tmp 7), type := 3, pos := "ref.go:88", after := #[{ on := 14, ground := Ground.guard }], guard := some (14, true) } : Oper)) (v := ?b22_v21) rfl (by kernel_rfl) (by kernel_rfl) (by kernel_rfl) (fun _ _ _ h => h) (Or.inl ⟨by rfl, ?b22_y21⟩) (by assumption) ?b22_r21
                            case b22_y21 =>
                              intro w hSw
                              (try dsimp only at hSw)
                              go_simp
                              (try with_reducible rfl)
                            try simp only [Act.put, List.setIfInBounds_toArray, List.set_cons_zero, List.set_cons_succ]
                            refine wpAnyH_take (i := 22) (oi := ({ dst := some 74, op := Op.indexAddr 22 (Operand.tmp 72) (Operand.tmp 73), type := 0, pos := "ref.go:88", after := #[{ on := 20, ground := Ground.data }, { on := 21, ground := Ground.data }, { on := 14, ground := Ground.guard }], guard := some (14, true) } : Oper)) (v := ?b23_v22) rfl (by kernel_rfl) (by kernel_rfl) (by kernel_rfl) (fun _ _ _ h => h) (Or.inl ⟨by rfl, ?b23_y22⟩) (by assumption) ?b23_r22
                            case b23_y22 =>
                              intro w hSw
                              (try dsimp only at hSw)
                              go_simp
                              (try with_reducible rfl)
                            try simp only [Act.put, List.setIfInBounds_toArray, List.set_cons_zero, List.set_cons_succ]
                            refine wpAnyH_take (i := 23) (oi := ({ dst := some 75, op := Op.fieldAddr 38 (Operand.tmp 74) 4, type := 0, pos := "ref.go:88", after := #[{ on := 22, ground := Ground.data }, { on := 14, ground := Ground.guard }], guard := some (14, true) } : Oper)) (v := ?b24_v23) rfl (by kernel_rfl) (by kernel_rfl) (by kernel_rfl) (fun _ _ _ h => h) (Or.inl ⟨by rfl, ?b24_y23⟩) (by assumption) ?b24_r23
                            case b24_y23 =>
                              intro w hSw
                              (try dsimp only at hSw)
                              go_simp
                              (try with_reducible rfl)
                            try simp only [Act.put, List.setIfInBounds_toArray, List.set_cons_zero, List.set_cons_succ]
                            refine wpAnyH_take (i := 24) (oi := ({ dst := some 76, op := Op.load 36 (Operand.tmp 75), type := 36, pos := "ref.go:88", after := #[{ on := 23, ground := Ground.data }, { on := 14, ground := Ground.guard }], guard := some (14, true) } : Oper)) (v := ?b25_v24) rfl (by kernel_rfl) (by kernel_rfl) (by kernel_rfl) (fun _ _ _ h => h) (Or.inl ⟨by rfl, ?b25_y24⟩) (by assumption) ?b25_r24
                            case b25_y24 =>
                              intro w hSw
                              (try dsimp only at hSw)
                              go_simp
                              (try with_reducible rfl)
                            try simp only [Act.put, List.setIfInBounds_toArray, List.set_cons_zero, List.set_cons_succ]
                            refine wpAnyH_take (i := 25) (oi := ({ dst := some 77, op := Op.binOp BinOp.eql 36 (Operand.tmp 71) (Operand.tmp 76) 36, type := 4, pos := "ref.go:88", after := #[{ on := 19, ground := Ground.data }, { on := 24, ground := Ground.data }, { on := 14, ground := Ground.guard }], guard := some (14, true) } : Oper)) (v := ?b26_v25) rfl (by kernel_rfl) (by kernel_rfl) (by kernel_rfl) (fun _ _ _ h => h) (Or.inl ⟨by rfl, ?b26_y25⟩) (by assumption) ?b26_r25
                            case b26_y25 =>
                              intro w hSw
                              (try dsimp only at hSw)
                              go_simp
                              (try with_reducible rfl)
                            try simp only [Act.put, List.setIfInBounds_toArray, List.set_cons_zero, List.set_cons_succ]
                            refine wpAnyH_take (i := 26) (oi := ({ dst := some 78, op := Op.pick (Operand.tmp 66) (Operand.tmp 77) (Operand.const (Value.bool false)), type := 4, pos := "ref.go:88", after := #[{ on := 14, ground := Ground.data }, { on := 25, ground := Ground.data }], guard := none } : Oper)) (v := ?b27_v26) rfl (by kernel_rfl) (by kernel_rfl) (by kernel_rfl) (fun _ _ _ h => h) (Or.inl ⟨by rfl, ?b27_y26⟩) (by assumption) ?b27_r26
                            case b27_y26 =>
                              intro w hSw
                              (try dsimp only at hSw)
                              go_simp
                              (try with_reducible rfl)
                            try simp only [Act.put, List.setIfInBounds_toArray, List.set_cons_zero, List.set_cons_succ]
                            refine wpAnyH_take (i := 27) (oi := ({ dst := some 79, op := Op.move (Operand.tmp 78), type := 4, pos := "ref.go:88", after := #[{ on := 26, ground := Ground.data }, { on := 14, ground := Ground.chain }], guard := none } : Oper)) (v := ?b28_v27) rfl (by kernel_rfl) (by kernel_rfl) (by kernel_rfl) (fun _ _ _ h => h) (Or.inl ⟨by rfl, ?b28_y27⟩) (by assumption) ?b28_r27
                            case b28_y27 =>
                              intro w hSw
                              (try dsimp only at hSw)
                              go_simp
                              (try with_reducible rfl)
                            try simp only [Act.put, List.setIfInBounds_toArray, List.set_cons_zero, List.set_cons_succ]
                            refine wpAnyH_take (i := 28) (oi := ({ dst := some 80, op := Op.move (Operand.tmp 0), type := 22, pos := "ref.go:88", after := #[{ on := 27, ground := Ground.guard }], guard := some (27, true) } : Oper)) (v := ?b29_v28) rfl (by kernel_rfl) (by kernel_rfl) (by kernel_rfl) (fun _ _ _ h => h) (Or.inl ⟨by rfl, ?b29_y28⟩) (by assumption) ?b29_r28
                            case b29_y28 =>
                              intro w hSw
                              (try dsimp only at hSw)
                              go_simp
                              (try with_reducible rfl)
                            try simp only [Act.put, List.setIfInBounds_toArray, List.set_cons_zero, List.set_cons_succ]
                            refine wpAnyH_take (i := 29) (oi := ({ dst := some 81, op := Op.move (Operand.tmp 8), type := 3, pos := "ref.go:88", after := #[{ on := 27, ground := Ground.guard }], guard := some (27, true) } : Oper)) (v := ?b30_v29) rfl (by kernel_rfl) (by kernel_rfl) (by kernel_rfl) (fun _ _ _ h => h) (Or.inl ⟨by rfl, ?b30_y29⟩) (by assumption) ?b30_r29
                            case b30_y29 =>
                              intro w hSw
                              (try dsimp only at hSw)
                              go_simp
                              (try with_reducible rfl)
                            try simp only [Act.put, List.setIfInBounds_toArray, List.set_cons_zero, List.set_cons_succ]
                            refine wpAnyH_take (i := 30) (oi := ({ dst := some 82, op := Op.indexAddr 22 (Operand.tmp 80) (Operand.tmp 81), type := 0, pos := "ref.go:88", after := #[{ on := 28, ground := Ground.data }, { on := 29, ground := Ground.data }, { on := 27, ground := Ground.guard }], guard := some (27, true) } : Oper)) (v := ?b31_v30) rfl (by kernel_rfl) (by kernel_rfl) (by kernel_rfl) (fun _ _ _ h => h) (Or.inl ⟨by rfl, ?b31_y30⟩) (by assumption) ?b31_r30
                            case b31_y30 =>
                              intro w hSw
                              (try dsimp only at hSw)
                              go_simp
                              (try with_reducible rfl)
                            try simp only [Act.put, List.setIfInBounds_toArray, List.set_cons_zero, List.set_cons_succ]
                            refine wpAnyH_take (i := 31) (oi := ({ dst := some 83, op := Op.fieldAddr 38 (Operand.tmp 82) 1, type := 0, pos := "ref.go:88", after := #[{ on := 30, ground := Ground.data }, { on := 27, ground := Ground.guard }], guard := some (27, true) } : Oper)) (v := ?b32_v31) rfl (by kernel_rfl) (by kernel_rfl) (by kernel_rfl) (fun _ _ _ h => h) (Or.inl ⟨by rfl, ?b32_y31⟩) (by assumption) ?b32_r31
                            case b32_y31 =>
                              intro w hSw
                              (try dsimp only at hSw)
                              go_simp
                              (try with_reducible rfl)
                            try simp only [Act.put, List.setIfInBounds_toArray, List.set_cons_zero, List.set_cons_succ]
                            refine wpAnyH_take (i := 32) (oi := ({ dst := some 84, op := Op.load 3 (Operand.tmp 83), type := 3, pos := "ref.go:88", after := #[{ on := 31, ground := Ground.data }, { on := 27, ground := Ground.guard }], guard := some (27, true) } : Oper)) (v := ?b33_v32) rfl (by kernel_rfl) (by kernel_rfl) (by kernel_rfl) (fun _ _ _ h => h) (Or.inl ⟨by rfl, ?b33_y32⟩) (by assumption) ?b33_r32
                            case b33_y32 =>
                              intro w hSw
                              (try dsimp only at hSw)
                              go_simp
                              (try with_reducible rfl)
                            try simp only [Act.put, List.setIfInBounds_toArray, List.set_cons_zero, List.set_cons_succ]
                            refine wpAnyH_take (i := 33) (oi := ({ dst := some 85, op := Op.move (Operand.tmp 0), type := 22, pos := "ref.go:88", after := #[{ on := 27, ground := Ground.guard }], guard := some (27, true) } : Oper)) (v := ?b34_v33) rfl (by kernel_rfl) (by kernel_rfl) (by kernel_rfl) (fun _ _ _ h => h) (Or.inl ⟨by rfl, ?b34_y33⟩) (by assumption) ?b34_r33
                            case b34_y33 =>
                              intro w hSw
                              (try dsimp only at hSw)
                              go_simp
                              (try with_reducible rfl)
                            try simp only [Act.put, List.setIfInBounds_toArray, List.set_cons_zero, List.set_cons_succ]
                            refine wpAnyH_take (i := 34) (oi := ({ dst := some 86, op := Op.move (Operand.tmp 7), type := 3, pos := "ref.go:88", after := #[{ on := 27, ground := Ground.guard }], guard := some (27, true) } : Oper)) (v := ?b35_v34) rfl (by kernel_rfl) (by kernel_rfl) (by kernel_rfl) (fun _ _ _ h => h) (Or.inl ⟨by rfl, ?b35_y34⟩) (by assumption) ?b35_r34
                            case b35_y34 =>
                              intro w hSw
                              (try dsimp only at hSw)
                              go_simp
                              (try with_reducible rfl)
                            try simp only [Act.put, List.setIfInBounds_toArray, List.set_cons_zero, List.set_cons_succ]
                            refine wpAnyH_take (i := 35) (oi := ({ dst := some 87, op := Op.indexAddr 22 (Operand.tmp 85) (Operand.tmp 86), type := 0, pos := "ref.go:88", after := #[{ on := 33, ground := Ground.data }, { on := 34, ground := Ground.data }, { on := 27, ground := Ground.guard }], guard := some (27, true) } : Oper)) (v := ?b36_v35) rfl (by kernel_rfl) (by kernel_rfl) (by kernel_rfl) (fun _ _ _ h => h) (Or.inl ⟨by rfl, ?b36_y35⟩) (by assumption) ?b36_r35
                            case b36_y35 =>
                              intro w hSw
                              (try dsimp only at hSw)
                              go_simp
                              (try with_reducible rfl)
                            try simp only [Act.put, List.setIfInBounds_toArray, List.set_cons_zero, List.set_cons_succ]
                            refine wpAnyH_take (i := 36) (oi := ({ dst := some 88, op := Op.fieldAddr 38 (Operand.tmp 87) 1, type := 0, pos := "ref.go:88", after := #[{ on := 35, ground := Ground.data }, { on := 27, ground := Ground.guard }], guard := some (27, true) } : Oper)) (v := ?b37_v36) rfl (by kernel_rfl) (by kernel_rfl) (by kernel_rfl) (fun _ _ _ h => h) (Or.inl ⟨by rfl, ?b37_y36⟩) (by assumption) ?b37_r36
                            case b37_y36 =>
                              intro w hSw
                              (try dsimp only at hSw)
                              go_simp
                              (try with_reducible rfl)
                            try simp only [Act.put, List.setIfInBounds_toArray, List.set_cons_zero, List.set_cons_succ]
                            refine wpAnyH_take (i := 37) (oi := ({ dst := some 89, op := Op.load 3 (Operand.tmp 88), type := 3, pos := "ref.go:88", after := #[{ on := 36, ground := Ground.data }, { on := 27, ground := Ground.guard }], guard := some (27, true) } : Oper)) (v := ?b38_v37) rfl (by kernel_rfl) (by kernel_rfl) (by kernel_rfl) (fun _ _ _ h => h) (Or.inl ⟨by rfl, ?b38_y37⟩) (by assumption) ?b38_r37
                            case b38_y37 =>
                              intro w hSw
                              (try dsimp only at hSw)
                              go_simp
                              (try with_reducible rfl)
                            try simp only [Act.put, List.setIfInBounds_toArray, List.set_cons_zero, List.set_cons_succ]
                            refine wpAnyH_take (i := 38) (oi := ({ dst := some 90, op := Op.binOp BinOp.neq 3 (Operand.tmp 84) (Operand.tmp 89) 3, type := 4, pos := "ref.go:88", after := #[{ on := 32, ground := Ground.data }, { on := 37, ground := Ground.data }, { on := 27, ground := Ground.guard }], guard := some (27, true) } : Oper)) (v := ?b39_v38) rfl (by kernel_rfl) (by kernel_rfl) (by kernel_rfl) (fun _ _ _ h => h) (Or.inl ⟨by rfl, ?b39_y38⟩) (by assumption) ?b39_r38
                            case b39_y38 =>
                              intro w hSw
                              (try dsimp only at hSw)
                              go_simp
                              (try with_reducible rfl)
                            try simp only [Act.put, List.setIfInBounds_toArray, List.set_cons_zero, List.set_cons_succ]
                            refine wpAnyH_take (i := 39) (oi := ({ dst := some 91, op := Op.pick (Operand.tmp 79) (Operand.tmp 90) (Operand.const (Value.bool false)), type := 4, pos := "ref.go:88", after := #[{ on := 27, ground := Ground.data }, { on := 38, ground := Ground.data }], guard := none } : Oper)) (v := ?b40_v39) rfl (by kernel_rfl) (by kernel_rfl) (by kernel_rfl) (fun _ _ _ h => h) (Or.inl ⟨by rfl, ?b40_y39⟩) (by assumption) ?b40_r39
                            case b40_y39 =>
                              intro w hSw
                              (try dsimp only at hSw)
                              go_simp
                              (try with_reducible rfl)
                            try simp only [Act.put, List.setIfInBounds_toArray, List.set_cons_zero, List.set_cons_succ]
                            refine wpAnyH_done (by kernel_rfl) ?_ _
                            go_wp2
                            exact bodyPost_ret (results_tmp rfl _ _ _) rfl ⟨by exact ret_i HE.out.symm, HBV.out.trans ((drewD HBU.out).mono HBV.out.size)⟩
                        · have e3 : (imm' == imm) = false := beq_false_of_ne o3
                          have HK := Lib.hid (HNX.out (HYE.out.2 fun _ _ h => absurd h o3))
                          clear o1 o2 o3
                          go_upto_region 19 with fail
                          refine wp_region_held_drew (S := (fun W => (W.cell? ⟨b, off + i * 5, none⟩ = some (.int .i64 op) ∧ W.cell? ⟨b, off + i * 5 + 1, none⟩ = some (.int .i64 wid) ∧ W.cell? ⟨b, off + i * 5 + 4, none⟩ = some (.int .u32 imm)) ∧ W.cell? ⟨b, off + j * 5, none⟩ = some (.int .i64 op') ∧ W.cell? ⟨b, off + j * 5 + 1, none⟩ = some (.int .i64 wid') ∧ W.cell? ⟨b, off + j * 5 + 4, none⟩ = some (.int .u32 imm'))) (by kernel_rfl) ?_ (fun hHeld => ?_)
                          · exact HS.out _ (by first | exact Below.refl _ _ | exact drewD (Below.refl _ _) | exact drewR (Below.refl _ _))
                          refine wpAnyH_take (i := 0) (oi := ({ dst := some 52, op := Op.move (Operand.tmp 0), type := 22, pos := "ref.go:88", after := #[], guard := none } : Oper)) (v := ?c1_v0) rfl (by kernel_rfl) (by kernel_rfl) (by kernel_rfl) (fun _ _ _ h => h) (Or.inl ⟨by rfl, ?c1_y0⟩) (by assumption) ?c1_r0
                          case c1_y0 =>
                            intro w hSw
                            (try dsimp only at hSw)
                            go_simp
                            (try with_reducible rfl)
                          try simp only [Act.put, List.setIfInBounds_toArray, List.set_cons_zero, List.set_cons_succ]
                          refine wpAnyH_take (i := 1) (oi := ({ dst := some 53, op := Op.move (Operand.tmp 8), type := 3, pos := "ref.go:88", after := #[], guard := none } : Oper)) (v := ?c2_v1) rfl (by kernel_rfl) (by kernel_rfl) (by kernel_rfl) (fun _ _ _ h => h) (Or.inl ⟨by rfl, ?c2_y1⟩) (by assumption) ?c2_r1
                          case c2_y1 =>
                            intro w hSw
                            (try dsimp only at hSw)
                            go_simp
                            (try with_reducible rfl)
                          try simp only [Act.put, List.setIfInBounds_toArray, List.set_cons_zero, List.set_cons_succ]
                          refine wpAnyH_take (i := 2) (oi := ({ dst := some 54, op := Op.indexAddr 22 (Operand.tmp 52) (Operand.tmp 53), type := 0, pos := "ref.go:88", after := #[{ on := 0, ground := Ground.data }, { on := 1, ground := Ground.data }], guard := none } : Oper)) (v := ?c3_v2) rfl (by kernel_rfl) (by kernel_rfl) (by kernel_rfl) (fun _ _ _ h => h) (Or.inl ⟨by rfl, ?c3_y2⟩) (by assumption) ?c3_r2
                          case c3_y2 =>
                            intro w hSw
                            (try dsimp only at hSw)
                            go_simp
                            (try with_reducible rfl)
                          try simp only [Act.put, List.setIfInBounds_toArray, List.set_cons_zero, List.set_cons_succ]
                          refine wpAnyH_take (i := 3) (oi := ({ dst := some 55, op := Op.fieldAddr 38 (Operand.tmp 54) 0, type := 0, pos := "ref.go:88", after := #[{ on := 2, ground := Ground.data }], guard := none } : Oper)) (v := ?c4_v3) rfl (by kernel_rfl) (by kernel_rfl) (by kernel_rfl) (fun _ _ _ h => h) (Or.inl ⟨by rfl, ?c4_y3⟩) (by assumption) ?c4_r3
                          case c4_y3 =>
                            intro w hSw
                            (try dsimp only at hSw)
                            go_simp
                            (try with_reducible rfl)
                          try simp only [Act.put, List.setIfInBounds_toArray, List.set_cons_zero, List.set_cons_succ]
                          refine wpAnyH_take (i := 4) (oi := ({ dst := some 56, op := Op.load 3 (Operand.tmp 55), type := 3, pos := "ref.go:88", after := #[{ on := 3, ground := Ground.data }], guard := none } : Oper)) (v := ?c5_v4) rfl (by kernel_rfl) (by kernel_rfl) (by kernel_rfl) (fun _ _ _ h => h) (Or.inl ⟨by rfl, ?c5_y4⟩) (by assumption) ?c5_r4
                          case c5_y4 =>
                            intro w hSw
                            (try dsimp only at hSw)
                            go_simp
                            (try with_reducible rfl)
                          try simp only [Act.put, List.setIfInBounds_toArray, List.set_cons_zero, List.set_cons_succ]
                          refine wpAnyH_take (i := 5) (oi := ({ dst := some 57, op := Op.binOp BinOp.eql 3 (Operand.tmp 56) (Operand.const (Value.int IntKind.i64 33)) 3, type := 4, pos := "ref.go:88", after := #[{ on := 4, ground := Ground.data }], guard := none } : Oper)) (v := ?c6_v5) rfl (by kernel_rfl) (by kernel_rfl) (by kernel_rfl) (fun _ _ _ h => h) (Or.inl ⟨by rfl, ?c6_y5⟩) (by assumption) ?c6_r5
                          case c6_y5 =>
                            intro w hSw
                            (try dsimp only at hSw)
                            go_simp
                            (try with_reducible rfl)
                          try simp only [Act.put, List.setIfInBounds_toArray, List.set_cons_zero, List.set_cons_succ]
                          refine wpAnyH_take (i := 6) (oi := ({ dst := some 58, op := Op.move (Operand.tmp 57), type := 4, pos := "ref.go:88", after := #[{ on := 5, ground := Ground.data }], guard := none } : Oper)) (v := ?c7_v6) rfl (by kernel_rfl) (by kernel_rfl) (by kernel_rfl) (fun _ _ _ h => h) (Or.inl ⟨by rfl, ?c7_y6⟩) (by assumption) ?c7_r6
                          case c7_y6 =>
                            intro w hSw
                            (try dsimp only at hSw)
                            go_simp
                            (try with_reducible rfl)
                          try simp only [Act.put, List.setIfInBounds_toArray, List.set_cons_zero, List.set_cons_succ]
                          refine wpAnyH_take (i := 7) (oi := ({ dst := some 59, op := Op.move (Operand.tmp 0), type := 22, pos := "ref.go:88", after := #[{ on := 6, ground := Ground.guard }], guard := some (6, true) } : Oper)) (v := ?c8_v7) rfl (by kernel_rfl) (by kernel_rfl) (by kernel_rfl) (fun _ _ _ h => h) (Or.inl ⟨by rfl, ?c8_y7⟩) (by assumption) ?c8_r7
                          case c8_y7 =>
                            intro w hSw
                            (try dsimp only at hSw)
                            go_simp
                            (try with_reducible rfl)
                          try simp only [Act.put, List.setIfInBounds_toArray, List.set_cons_zero, List.set_cons_succ]
                          refine wpAnyH_take (i := 8) (oi := ({ dst := some 60, op := Op.move (Operand.tmp 7), type := 3, pos := "ref.go:88", after := #[{ on := 6, ground := Ground.guard }], guard := some (6, true) } : Oper)) (v := ?c9_v8) rfl (by kernel_rfl) (by kernel_rfl) (by kernel_rfl) (fun _ _ _ h => h) (Or.inl ⟨by rfl, ?c9_y8⟩) (by assumption) ?c9_r8
                          case c9_y8 =>
                            intro w hSw
                            (try dsimp only at hSw)
                            go_simp
                            (try with_reducible rfl)
                          try simp only [Act.put, List.setIfInBounds_toArray, List.set_cons_zero, List.set_cons_succ]
                          refine wpAnyH_take (i := 9) (oi := ({ dst := some 61, op := Op.indexAddr 22 (Operand.tmp 59) (Operand.tmp 60), type := 0, pos := "ref.go:88", after := #[{ on := 7, ground := Ground.data }, { on := 8, ground := Ground.data }, { on := 6, ground := Ground.guard }], guard := some (6, true) } : Oper)) (v := ?c10_v9) rfl (by kernel_rfl) (by kernel_rfl) (by kernel_rfl) (fun _ _ _ h => h) (Or.inl ⟨by rfl, ?c10_y9⟩) (by assumption) ?c10_r9
                          case c10_y9 =>
                            intro w hSw
                            (try dsimp only at hSw)
                            go_simp
                            (try with_reducible rfl)
                          try simp only [Act.put, List.setIfInBounds_toArray, List.set_cons_zero, List.set_cons_succ]
                          refine wpAnyH_take (i := 10) (oi := ({ dst := some 62, op := Op.fieldAddr 38 (Operand.tmp 61) 0, type := 0, pos := "ref.go:88", after := #[{ on := 9, ground := Ground.data }, { on := 6, ground := Ground.guard }], guard := some (6, true) } : Oper)) (v := ?c11_v10) rfl (by kernel_rfl) (by kernel_rfl) (by kernel_rfl) (fun _ _ _ h => h) (Or.inl ⟨by rfl, ?c11_y10⟩) (by assumption) ?c11_r10
                          case c11_y10 =>
                            intro w hSw
                            (try dsimp only at hSw)
                            go_simp
                            (try with_reducible rfl)
                          try simp only [Act.put, List.setIfInBounds_toArray, List.set_cons_zero, List.set_cons_succ]
                          refine wpAnyH_take (i := 11) (oi := ({ dst := some 63, op := Op.load 3 (Operand.tmp 62), type := 3, pos := "ref.go:88", after := #[{ on := 10, ground := Ground.data }, { on := 6, ground := Ground.guard }], guard := some (6, true) } : Oper)) (v := ?c12_v11) rfl (by kernel_rfl) (by kernel_rfl) (by kernel_rfl) (fun _ _ _ h => h) (Or.inl ⟨by rfl, ?c12_y11⟩) (by assumption) ?c12_r11
                          case c12_y11 =>
                            intro w hSw
                            (try dsimp only at hSw)
                            go_simp
                            (try with_reducible rfl)
                          try simp only [Act.put, List.setIfInBounds_toArray, List.set_cons_zero, List.set_cons_succ]
                          refine wpAnyH_take (i := 12) (oi := ({ dst := some 64, op := Op.binOp BinOp.eql 3 (Operand.tmp 63) (Operand.const (Value.int IntKind.i64 33)) 3, type := 4, pos := "ref.go:88", after := #[{ on := 11, ground := Ground.data }, { on := 6, ground := Ground.guard }], guard := some (6, true) } : Oper)) (v := ?c13_v12) rfl (by kernel_rfl) (by kernel_rfl) (by kernel_rfl) (fun _ _ _ h => h) (Or.inl ⟨by rfl, ?c13_y12⟩) (by assumption) ?c13_r12
                          case c13_y12 =>
                            intro w hSw
                            (try dsimp only at hSw)
                            go_simp
                            (try with_reducible rfl)
                          try simp only [Act.put, List.setIfInBounds_toArray, List.set_cons_zero, List.set_cons_succ]
                          refine wpAnyH_take (i := 13) (oi := ({ dst := some 65, op := Op.pick (Operand.tmp 58) (Operand.tmp 64) (Operand.const (Value.bool false)), type := 4, pos := "ref.go:88", after := #[{ on := 6, ground := Ground.data }, { on := 12, ground := Ground.data }], guard := none } : Oper)) (v := ?c14_v13) rfl (by kernel_rfl) (by kernel_rfl) (by kernel_rfl) (fun _ _ _ h => h) (Or.inl ⟨by rfl, ?c14_y13⟩) (by assumption) ?c14_r13
                          case c14_y13 =>
                            intro w hSw
                            (try dsimp only at hSw)
                            go_simp
                            (try with_reducible rfl)
                          try simp only [Act.put, List.setIfInBounds_toArray, List.set_cons_zero, List.set_cons_succ]
                          refine wpAnyH_take (i := 14) (oi := ({ dst := some 66, op := Op.move (Operand.tmp 65), type := 4, pos := "ref.go:88", after := #[{ on := 13, ground := Ground.data }, { on := 6, ground := Ground.chain }], guard := none } : Oper)) (v := ?c15_v14) rfl (by kernel_rfl) (by kernel_rfl) (by kernel_rfl) (fun _ _ _ h => h) (Or.inl ⟨by rfl, ?c15_y14⟩) (by assumption) ?c15_r14
                          case c15_y14 =>
                            intro w hSw
                            (try dsimp only at hSw)
                            go_simp
                            (try with_reducible rfl)
                          try simp only [Act.put, List.setIfInBounds_toArray, List.set_cons_zero, List.set_cons_succ]
                          refine wpAnyH_take (i := 15) (oi := ({ dst := some 67, op := Op.move (Operand.tmp 0), type := 22, pos := "ref.go:88", after := #[{ on := 14, ground := Ground.guard }], guard := some (14, true) } : Oper)) (v := ?c16_v15) rfl (by kernel_rfl) (by kernel_rfl) (by kernel_rfl) (fun _ _ _ h => h) (Or.inl ⟨by rfl, ?c16_y15⟩) (by assumption) ?c16_r15
                          case c16_y15 =>
                            intro w hSw
                            (try dsimp only at hSw)
                            go_simp
                            (try with_reducible rfl)
                          try simp only [Act.put, List.setIfInBounds_toArray, List.set_cons_zero, List.set_cons_succ]
                          refine wpAnyH_take (i := 16) (oi := ({ dst := some 68, op := Op.move (Operand.tmp 8), type := 3, pos := "ref.go:88", after := #[{ on := 14, ground := Ground.guard }], guard := some (14, true) } : Oper)) (v := ?c17_v16) rfl (by kernel_rfl) (by kernel_rfl) (by kernel_rfl) (fun _ _ _ h => h) (Or.inl ⟨by rfl, ?c17_y16⟩) (by assumption) ?c17_r16
                          case c17_y16 =>
                            intro w hSw
                            (try dsimp only at hSw)
                            go_simp
                            (try with_reducible rfl)
                          try simp only [Act.put, List.setIfInBounds_toArray, List.set_cons_zero, List.set_cons_succ]
                          refine wpAnyH_take (i := 17) (oi := ({ dst := some 69, op := Op.indexAddr 22 (Operand.tmp 67) (Operand.tmp 68), type := 0, pos := "ref.go:88", after := #[{ on := 15, ground := Ground.data }, { on := 16, ground := Ground.data }, { on := 14, ground := Ground.guard }], guard := some (14, true) } : Oper)) (v := ?c18_v17) rfl (by kernel_rfl) (by kernel_rfl) (by kernel_rfl) (fun _ _ _ h => h) (Or.inl ⟨by rfl, ?c18_y17⟩) (by assumption) ?c18_r17
                          case c18_y17 =>
                            intro w hSw
                            (try dsimp only at hSw)
                            go_simp
                            (try with_reducible rfl)
                          try simp only [Act.put, List.setIfInBounds_toArray, List.set_cons_zero, List.set_cons_succ]
                          refine wpAnyH_take (i := 18) (oi := ({ dst := some 70, op := Op.fieldAddr 38 (Operand.tmp 69) 4, type := 0, pos := "ref.go:88", after := #[{ on := 17, ground := Ground.data }, { on := 14, ground := Ground.guard }], guard := some (14, true) } : Oper)) (v := ?c19_v18) rfl (by kernel_rfl) (by kernel_rfl) (by kernel_rfl) (fun _ _ _ h => h) (Or.inl ⟨by rfl, ?c19_y18⟩) (by assumption) ?c19_r18
                          case c19_y18 =>
                            intro w hSw
                            (try dsimp only at hSw)
                            go_simp
                            (try with_reducible rfl)
                          try simp only [Act.put, List.setIfInBounds_toArray, List.set_cons_zero, List.set_cons_succ]
                          refine wpAnyH_take (i := 19) (oi := ({ dst := some 71, op := Op.load 36 (Operand.tmp 70), type := 36, pos := "ref.go:88", after := #[{ on := 18, ground := Ground.data }, { on := 14, ground := Ground.guard }], guard := some (14, true) } : Oper)) (v := ?c20_v19) rfl (by kernel_rfl) (by kernel_rfl) (by kernel_rfl) (fun _ _ _ h => h) (Or.inl ⟨by rfl, ?c20_y19⟩) (by assumption) ?c20_r19
                          case c20_y19 =>
                            intro w hSw
                            (try dsimp only at hSw)
                            go_simp
                            (try with_reducible rfl)
                          try simp only [Act.put, List.setIfInBounds_toArray, List.set_cons_zero, List.set_cons_succ]
                          refine wpAnyH_take (i := 20) (oi := ({ dst := some 72, op := Op.move (Operand.tmp 0), type := 22, pos := "ref.go:88", after := #[{ on := 14, ground := Ground.guard }], guard := some (14, true) } : Oper)) (v := ?c21_v20) rfl (by kernel_rfl) (by kernel_rfl) (by kernel_rfl) (fun _ _ _ h => h) (Or.inl ⟨by rfl, ?c21_y20⟩) (by assumption) ?c21_r20
                          case c21_y20 =>
                            intro w hSw
                            (try dsimp only at hSw)
                            go_simp
                            (try with_reducible rfl)
                          try simp only [Act.put, List.setIfInBounds_toArray, List.set_cons_zero, List.set_cons_succ]
                          refine wpAnyH_take (i := 21) (oi := ({ dst := some 73, op := Op.move (Operand.tmp 7), type := 3, pos := "ref.go:88", after := #[{ on := 14, ground := Ground.guard }], guard := some (14, true) } : Oper)) (v := ?c22_v21) rfl (by kernel_rfl) (by kernel_rfl) (by kernel_rfl) (fun _ _ _ h => h) (Or.inl ⟨by rfl, ?c22_y21⟩) (by assumption) ?c22_r21
                          case c22_y21 =>
                            intro w hSw
                            (try dsimp only at hSw)
                            go_simp
                            (try with_reducible rfl)
                          try simp only [Act.put, List.setIfInBounds_toArray, List.set_cons_zero, List.set_cons_succ]
                          refine wpAnyH_take (i := 22) (oi := ({ dst := some 74, op := Op.indexAddr 22 (Operand.tmp 72) (Operand.tmp 73), type := 0, pos := "ref.go:88", after := #[{ on := 20, ground := Ground.data }, { on := 21, ground := Ground.data }, { on := 14, ground := Ground.guard }], guard := some (14, true) } : Oper)) (v := ?c23_v22) rfl (by kernel_rfl) (by kernel_rfl) (by kernel_rfl) (fun _ _ _ h => h) (Or.inl ⟨by rfl, ?c23_y22⟩) (by assumption) ?c23_r22
                          case c23_y22 =>
                            intro w hSw
                            (try dsimp only at hSw)
                            go_simp
                            (try with_reducible rfl)
                          try simp only [Act.put, List.setIfInBounds_toArray, List.set_cons_zero, List.set_cons_succ]
                          refine wpAnyH_take (i := 23) (oi := ({ dst := some 75, op := Op.fieldAddr 38 (Operand.tmp 74) 4, type := 0, pos := "ref.go:88", after := #[{ on := 22, ground := Ground.data }, { on := 14, ground := Ground.guard }], guard := some (14, true) } : Oper)) (v := ?c24_v23) rfl (by kernel_rfl) (by kernel_rfl) (by kernel_rfl) (fun _ _ _ h => h) (Or.inl ⟨by rfl, ?c24_y23⟩) (by assumption) ?c24_r23
                          case c24_y23 =>
                            intro w hSw
                            (try dsimp only at hSw)
                            go_simp
                            (try with_reducible rfl)
                          try simp only [Act.put, List.setIfInBounds_toArray, List.set_cons_zero, List.set_cons_succ]
                          refine wpAnyH_take (i := 24) (oi := ({ dst := some 76, op := Op.load 36 (Operand.tmp 75), type := 36, pos := "ref.go:88", after := #[{ on := 23, ground := Ground.data }, { on := 14, ground := Ground.guard }], guard := some (14, true) } : Oper)) (v := ?c25_v24) rfl (by kernel_rfl) (by kernel_rfl) (by kernel_rfl) (fun _ _ _ h => h) (Or.inl ⟨by rfl, ?c25_y24⟩) (by assumption) ?c25_r24
                          case c25_y24 =>
                            intro w hSw
                            (try dsimp only at hSw)
                            go_simp
                            (try with_reducible rfl)
                          try simp only [Act.put, List.setIfInBounds_toArray, List.set_cons_zero, List.set_cons_succ]
                          refine wpAnyH_take (i := 25) (oi := ({ dst := some 77, op := Op.binOp BinOp.eql 36 (Operand.tmp 71) (Operand.tmp 76) 36, type := 4, pos := "ref.go:88", after := #[{ on := 19, ground := Ground.data }, { on := 24, ground := Ground.data }, { on := 14, ground := Ground.guard }], guard := some (14, true) } : Oper)) (v := ?c26_v25) rfl (by kernel_rfl) (by kernel_rfl) (by kernel_rfl) (fun _ _ _ h => h) (Or.inl ⟨by rfl, ?c26_y25⟩) (by assumption) ?c26_r25
                          case c26_y25 =>
                            intro w hSw
                            (try dsimp only at hSw)
                            go_simp
                            (try with_reducible rfl)
                          try simp only [Act.put, List.setIfInBounds_toArray, List.set_cons_zero, List.set_cons_succ]
                          refine wpAnyH_take (i := 26) (oi := ({ dst := some 78, op := Op.pick (Operand.tmp 66) (Operand.tmp 77) (Operand.const (Value.bool false)), type := 4, pos := "ref.go:88", after := #[{ on := 14, ground := Ground.data }, { on := 25, ground := Ground.data }], guard := none } : Oper)) (v := ?c27_v26) rfl (by kernel_rfl) (by kernel_rfl) (by kernel_rfl) (fun _ _ _ h => h) (Or.inl ⟨by rfl, ?c27_y26⟩) (by assumption) ?c27_r26
                          case c27_y26 =>
                            intro w hSw
                            (try dsimp only at hSw)
                            go_simp
                            (try with_reducible rfl)
                          try simp only [Act.put, List.setIfInBounds_toArray, List.set_cons_zero, List.set_cons_succ]
                          refine wpAnyH_take (i := 27) (oi := ({ dst := some 79, op := Op.move (Operand.tmp 78), type := 4, pos := "ref.go:88", after := #[{ on := 26, ground := Ground.data }, { on := 14, ground := Ground.chain }], guard := none } : Oper)) (v := ?c28_v27) rfl (by kernel_rfl) (by kernel_rfl) (by kernel_rfl) (fun _ _ _ h => h) (Or.inl ⟨by rfl, ?c28_y27⟩) (by assumption) ?c28_r27
                          case c28_y27 =>
                            intro w hSw
                            (try dsimp only at hSw)
                            go_simp
                            (try with_reducible rfl)
                          try simp only [Act.put, List.setIfInBounds_toArray, List.set_cons_zero, List.set_cons_succ]
                          refine wpAnyH_take (i := 28) (oi := ({ dst := some 80, op := Op.move (Operand.tmp 0), type := 22, pos := "ref.go:88", after := #[{ on := 27, ground := Ground.guard }], guard := some (27, true) } : Oper)) rfl (by kernel_rfl) (by kernel_rfl) (by kernel_rfl) (fun _ _ _ h => h) (Or.inr ⟨by rfl, rfl⟩) (by assumption) ?c29_r28
                          try simp only [Act.put, List.setIfInBounds_toArray, List.set_cons_zero, List.set_cons_succ]
                          refine wpAnyH_take (i := 29) (oi := ({ dst := some 81, op := Op.move (Operand.tmp 8), type := 3, pos := "ref.go:88", after := #[{ on := 27, ground := Ground.guard }], guard := some (27, true) } : Oper)) rfl (by kernel_rfl) (by kernel_rfl) (by kernel_rfl) (fun _ _ _ h => h) (Or.inr ⟨by rfl, rfl⟩) (by assumption) ?c30_r29
                          try simp only [Act.put, List.setIfInBounds_toArray, List.set_cons_zero, List.set_cons_succ]
                          refine wpAnyH_take (i := 30) (oi := ({ dst := some 82, op := Op.indexAddr 22 (Operand.tmp 80) (Operand.tmp 81), type := 0, pos := "ref.go:88", after := #[{ on := 28, ground := Ground.data }, { on := 29, ground := Ground.data }, { on := 27, ground := Ground.guard }], guard := some (27, true) } : Oper)) rfl (by kernel_rfl) (by kernel_rfl) (by kernel_rfl) (fun _ _ _ h => h) (Or.inr ⟨by rfl, rfl⟩) (by assumption) ?c31_r30
                          try simp only [Act.put, List.setIfInBounds_toArray, List.set_cons_zero, List.set_cons_succ]
                          refine wpAnyH_take (i := 31) (oi := ({ dst := some 83, op := Op.fieldAddr 38 (Operand.tmp 82) 1, type := 0, pos := "ref.go:88", after := #[{ on := 30, ground := Ground.data }, { on := 27, ground := Ground.guard }], guard := some (27, true) } : Oper)) rfl (by kernel_rfl) (by kernel_rfl) (by kernel_rfl) (fun _ _ _ h => h) (Or.inr ⟨by rfl, rfl⟩) (by assumption) ?c32_r31
                          try simp only [Act.put, List.setIfInBounds_toArray, List.set_cons_zero, List.set_cons_succ]
                          refine wpAnyH_take (i := 32) (oi := ({ dst := some 84, op := Op.load 3 (Operand.tmp 83), type := 3, pos := "ref.go:88", after := #[{ on := 31, ground := Ground.data }, { on := 27, ground := Ground.guard }], guard := some (27, true) } : Oper)) rfl (by kernel_rfl) (by kernel_rfl) (by kernel_rfl) (fun _ _ _ h => h) (Or.inr ⟨by rfl, rfl⟩) (by assumption) ?c33_r32
                          try simp only [Act.put, List.setIfInBounds_toArray, List.set_cons_zero, List.set_cons_succ]
                          refine wpAnyH_take (i := 33) (oi := ({ dst := some 85, op := Op.move (Operand.tmp 0), type := 22, pos := "ref.go:88", after := #[{ on := 27, ground := Ground.guard }], guard := some (27, true) } : Oper)) rfl (by kernel_rfl) (by kernel_rfl) (by kernel_rfl) (fun _ _ _ h => h) (Or.inr ⟨by rfl, rfl⟩) (by assumption) ?c34_r33
                          try simp only [Act.put, List.setIfInBounds_toArray, List.set_cons_zero, List.set_cons_succ]
                          refine wpAnyH_take (i := 34) (oi := ({ dst := some 86, op := Op.move (Operand.tmp 7), type := 3, pos := "ref.go:88", after := #[{ on := 27, ground := Ground.guard }], guard := some (27, true) } : Oper)) rfl (by kernel_rfl) (by kernel_rfl) (by kernel_rfl) (fun _ _ _ h => h) (Or.inr ⟨by rfl, rfl⟩) (by assumption) ?c35_r34
                          try simp only [Act.put, List.setIfInBounds_toArray, List.set_cons_zero, List.set_cons_succ]
                          refine wpAnyH_take (i := 35) (oi := ({ dst := some 87, op := Op.indexAddr 22 (Operand.tmp 85) (Operand.tmp 86), type := 0, pos := "ref.go:88", after := #[{ on := 33, ground := Ground.data }, { on := 34, ground := Ground.data }, { on := 27, ground := Ground.guard }], guard := some (27, true) } : Oper)) rfl (by kernel_rfl) (by kernel_rfl) (by kernel_rfl) (fun _ _ _ h => h) (Or.inr ⟨by rfl, rfl⟩) (by assumption) ?c36_r35
                          try simp only [Act.put, List.setIfInBounds_toArray, List.set_cons_zero, List.set_cons_succ]
                          refine wpAnyH_take (i := 36) (oi := ({ dst := some 88, op := Op.fieldAddr 38 (Operand.tmp 87) 1, type := 0, pos := "ref.go:88", after := #[{ on := 35, ground := Ground.data }, { on := 27, ground := Ground.guard }], guard := some (27, true) } : Oper)) rfl (by kernel_rfl) (by kernel_rfl) (by kernel_rfl) (fun _ _ _ h => h) (Or.inr ⟨by rfl, rfl⟩) (by assumption) ?c37_r36
                          try simp only [Act.put, List.setIfInBounds_toArray, List.set_cons_zero, List.set_cons_succ]
                          refine wpAnyH_take (i := 37) (oi := ({ dst := some 89, op := Op.load 3 (Operand.tmp 88), type := 3, pos := "ref.go:88", after := #[{ on := 36, ground := Ground.data }, { on := 27, ground := Ground.guard }], guard := some (27, true) } : Oper)) rfl (by kernel_rfl) (by kernel_rfl) (by kernel_rfl) (fun _ _ _ h => h) (Or.inr ⟨by rfl, rfl⟩) (by assumption) ?c38_r37
                          try simp only [Act.put, List.setIfInBounds_toArray, List.set_cons_zero, List.set_cons_succ]
                          refine wpAnyH_take (i := 38) (oi := ({ dst := some 90, op := Op.binOp BinOp.neq 3 (Operand.tmp 84) (Operand.tmp 89) 3, type := 4, pos := "ref.go:88", after := #[{ on := 32, ground := Ground.data }, { on := 37, ground := Ground.data }, { on := 27, ground := Ground.guard }], guard := some (27, true) } : Oper)) rfl (by kernel_rfl) (by kernel_rfl) (by kernel_rfl) (fun _ _ _ h => h) (Or.inr ⟨by rfl, rfl⟩) (by assumption) ?c39_r38
                          try simp only [Act.put, List.setIfInBounds_toArray, List.set_cons_zero, List.set_cons_succ]
                          refine wpAnyH_take (i := 39) (oi := ({ dst := some 91, op := Op.pick (Operand.tmp 79) (Operand.tmp 90) (Operand.const (Value.bool false)), type := 4, pos := "ref.go:88", after := #[{ on := 27, ground := Ground.data }, { on := 38, ground := Ground.data }], guard := none } : Oper)) (v := ?c40_v39) rfl (by kernel_rfl) (by kernel_rfl) (by kernel_rfl) (fun _ _ _ h => h) (Or.inl ⟨by rfl, ?c40_y39⟩) (by assumption) ?c40_r39
                          case c40_y39 =>
                            intro w hSw
                            (try dsimp only at hSw)
                            go_simp
                            (try with_reducible rfl)
                          try simp only [Act.put, List.setIfInBounds_toArray, List.set_cons_zero, List.set_cons_succ]
                          refine wpAnyH_done (by kernel_rfl) ?_ _
                          go_wp2
                          go_roundw
                          case rel => exact ⟨j + 1, by omega, by go_num, drewD HBU.out, HK⟩
                          case measure => simp [intOf]; omega
                      · have e2 : (op == 33) = false := beq_false_of_ne o2
                        have HK := Lib.hid (HNX.out (HYE.out.2 fun _ h => absurd h o2))
                        clear o1 o2
                        go_upto_region 19 with fail
                        refine wp_region_held_drew (S := (fun W => (W.cell? ⟨b, off + i * 5, none⟩ = some (.int .i64 op) ∧ W.cell? ⟨b, off + i * 5 + 1, none⟩ = some (.int .i64 wid) ∧ W.cell? ⟨b, off + i * 5 + 4, none⟩ = some (.int .u32 imm)) ∧ W.cell? ⟨b, off + j * 5, none⟩ = some (.int .i64 op') ∧ W.cell? ⟨b, off + j * 5 + 1, none⟩ = some (.int .i64 wid') ∧ W.cell? ⟨b, off + j * 5 + 4, none⟩ = some (.int .u32 imm'))) (by kernel_rfl) ?_ (fun hHeld => ?_)
                        · exact HS.out _ (by first | exact Below.refl _ _ | exact drewD (Below.refl _ _) | exact drewR (Below.refl _ _))
                        refine wpAnyH_take (i := 0) (oi := ({ dst := some 52, op := Op.move (Operand.tmp 0), type := 22, pos := "ref.go:88", after := #[], guard := none } : Oper)) (v := ?d1_v0) rfl (by kernel_rfl) (by kernel_rfl) (by kernel_rfl) (fun _ _ _ h => h) (Or.inl ⟨by rfl, ?d1_y0⟩) (by assumption) ?d1_r0
                        case d1_y0 =>
                          intro w hSw
                          (try dsimp only at hSw)
                          go_simp
                          (try with_reducible rfl)
                        try simp only [Act.put, List.setIfInBounds_toArray, List.set_cons_zero, List.set_cons_succ]
                        refine wpAnyH_take (i := 1) (oi := ({ dst := some 53, op := Op.move (Operand.tmp 8), type := 3, pos := "ref.go:88", after := #[], guard := none } : Oper)) (v := ?d2_v1) rfl (by kernel_rfl) (by kernel_rfl) (by kernel_rfl) (fun _ _ _ h => h) (Or.inl ⟨by rfl, ?d2_y1⟩) (by assumption) ?d2_r1
                        case d2_y1 =>
                          intro w hSw
                          (try dsimp only at hSw)
                          go_simp
                          (try with_reducible rfl)
                        try simp only [Act.put, List.setIfInBounds_toArray, List.set_cons_zero, List.set_cons_succ]
                        refine wpAnyH_take (i := 2) (oi := ({ dst := some 54, op := Op.indexAddr 22 (Operand.tmp 52) (Operand.tmp 53), type := 0, pos := "ref.go:88", after := #[{ on := 0, ground := Ground.data }, { on := 1, ground := Ground.data }], guard := none } : Oper)) (v := ?d3_v2) rfl (by kernel_rfl) (by kernel_rfl) (by kernel_rfl) (fun _ _ _ h => h) (Or.inl ⟨by rfl, ?d3_y2⟩) (by assumption) ?d3_r2
                        case d3_y2 =>
                          intro w hSw
                          (try dsimp only at hSw)
                          go_simp
                          (try with_reducible rfl)
                        try simp only [Act.put, List.setIfInBounds_toArray, List.set_cons_zero, List.set_cons_succ]
                        refine wpAnyH_take (i := 3) (oi := ({ dst := some 55, op := Op.fieldAddr 38 (Operand.tmp 54) 0, type := 0, pos := "ref.go:88", after := #[{ on := 2, ground := Ground.data }], guard := none } : Oper)) (v := ?d4_v3) rfl (by kernel_rfl) (by kernel_rfl) (by kernel_rfl) (fun _ _ _ h => h) (Or.inl ⟨by rfl, ?d4_y3⟩) (by assumption) ?d4_r3
                        case d4_y3 =>
                          intro w hSw
                          (try dsimp only at hSw)
                          go_simp
                          (try with_reducible rfl)
                        try simp only [Act.put, List.setIfInBounds_toArray, List.set_cons_zero, List.set_cons_succ]
                        refine wpAnyH_take (i := 4) (oi := ({ dst := some 56, op := Op.load 3 (Operand.tmp 55), type := 3, pos := "ref.go:88", after := #[{ on := 3, ground := Ground.data }], guard := none } : Oper)) (v := ?d5_v4) rfl (by kernel_rfl) (by kernel_rfl) (by kernel_rfl) (fun _ _ _ h => h) (Or.inl ⟨by rfl, ?d5_y4⟩) (by assumption) ?d5_r4
                        case d5_y4 =>
                          intro w hSw
                          (try dsimp only at hSw)
                          go_simp
                          (try with_reducible rfl)
                        try simp only [Act.put, List.setIfInBounds_toArray, List.set_cons_zero, List.set_cons_succ]
                        refine wpAnyH_take (i := 5) (oi := ({ dst := some 57, op := Op.binOp BinOp.eql 3 (Operand.tmp 56) (Operand.const (Value.int IntKind.i64 33)) 3, type := 4, pos := "ref.go:88", after := #[{ on := 4, ground := Ground.data }], guard := none } : Oper)) (v := ?d6_v5) rfl (by kernel_rfl) (by kernel_rfl) (by kernel_rfl) (fun _ _ _ h => h) (Or.inl ⟨by rfl, ?d6_y5⟩) (by assumption) ?d6_r5
                        case d6_y5 =>
                          intro w hSw
                          (try dsimp only at hSw)
                          go_simp
                          (try with_reducible rfl)
                        try simp only [Act.put, List.setIfInBounds_toArray, List.set_cons_zero, List.set_cons_succ]
                        refine wpAnyH_take (i := 6) (oi := ({ dst := some 58, op := Op.move (Operand.tmp 57), type := 4, pos := "ref.go:88", after := #[{ on := 5, ground := Ground.data }], guard := none } : Oper)) (v := ?d7_v6) rfl (by kernel_rfl) (by kernel_rfl) (by kernel_rfl) (fun _ _ _ h => h) (Or.inl ⟨by rfl, ?d7_y6⟩) (by assumption) ?d7_r6
                        case d7_y6 =>
                          intro w hSw
                          (try dsimp only at hSw)
                          go_simp
                          (try with_reducible rfl)
                        try simp only [Act.put, List.setIfInBounds_toArray, List.set_cons_zero, List.set_cons_succ]
                        refine wpAnyH_take (i := 7) (oi := ({ dst := some 59, op := Op.move (Operand.tmp 0), type := 22, pos := "ref.go:88", after := #[{ on := 6, ground := Ground.guard }], guard := some (6, true) } : Oper)) (v := ?d8_v7) rfl (by kernel_rfl) (by kernel_rfl) (by kernel_rfl) (fun _ _ _ h => h) (Or.inl ⟨by rfl, ?d8_y7⟩) (by assumption) ?d8_r7
                        case d8_y7 =>
                          intro w hSw
                          (try dsimp only at hSw)
                          go_simp
                          (try with_reducible rfl)
                        try simp only [Act.put, List.setIfInBounds_toArray, List.set_cons_zero, List.set_cons_succ]
                        refine wpAnyH_take (i := 8) (oi := ({ dst := some 60, op := Op.move (Operand.tmp 7), type := 3, pos := "ref.go:88", after := #[{ on := 6, ground := Ground.guard }], guard := some (6, true) } : Oper)) (v := ?d9_v8) rfl (by kernel_rfl) (by kernel_rfl) (by kernel_rfl) (fun _ _ _ h => h) (Or.inl ⟨by rfl, ?d9_y8⟩) (by assumption) ?d9_r8
                        case d9_y8 =>
                          intro w hSw
                          (try dsimp only at hSw)
                          go_simp
                          (try with_reducible rfl)
                        try simp only [Act.put, List.setIfInBounds_toArray, List.set_cons_zero, List.set_cons_succ]
                        refine wpAnyH_take (i := 9) (oi := ({ dst := some 61, op := Op.indexAddr 22 (Operand.tmp 59) (Operand.tmp 60), type := 0, pos := "ref.go:88", after := #[{ on := 7, ground := Ground.data }, { on := 8, ground := Ground.data }, { on := 6, ground := Ground.guard }], guard := some (6, true) } : Oper)) (v := ?d10_v9) rfl (by kernel_rfl) (by kernel_rfl) (by kernel_rfl) (fun _ _ _ h => h) (Or.inl ⟨by rfl, ?d10_y9⟩) (by assumption) ?d10_r9
                        case d10_y9 =>
                          intro w hSw
                          (try dsimp only at hSw)
                          go_simp
                          (try with_reducible rfl)
                        try simp only [Act.put, List.setIfInBounds_toArray, List.set_cons_zero, List.set_cons_succ]
                        refine wpAnyH_take (i := 10) (oi := ({ dst := some 62, op := Op.fieldAddr 38 (Operand.tmp 61) 0, type := 0, pos := "ref.go:88", after := #[{ on := 9, ground := Ground.data }, { on := 6, ground := Ground.guard }], guard := some (6, true) } : Oper)) (v := ?d11_v10) rfl (by kernel_rfl) (by kernel_rfl) (by kernel_rfl) (fun _ _ _ h => h) (Or.inl ⟨by rfl, ?d11_y10⟩) (by assumption) ?d11_r10
                        case d11_y10 =>
                          intro w hSw
                          (try dsimp only at hSw)
                          go_simp
                          (try with_reducible rfl)
                        try simp only [Act.put, List.setIfInBounds_toArray, List.set_cons_zero, List.set_cons_succ]
                        refine wpAnyH_take (i := 11) (oi := ({ dst := some 63, op := Op.load 3 (Operand.tmp 62), type := 3, pos := "ref.go:88", after := #[{ on := 10, ground := Ground.data }, { on := 6, ground := Ground.guard }], guard := some (6, true) } : Oper)) (v := ?d12_v11) rfl (by kernel_rfl) (by kernel_rfl) (by kernel_rfl) (fun _ _ _ h => h) (Or.inl ⟨by rfl, ?d12_y11⟩) (by assumption) ?d12_r11
                        case d12_y11 =>
                          intro w hSw
                          (try dsimp only at hSw)
                          go_simp
                          (try with_reducible rfl)
                        try simp only [Act.put, List.setIfInBounds_toArray, List.set_cons_zero, List.set_cons_succ]
                        refine wpAnyH_take (i := 12) (oi := ({ dst := some 64, op := Op.binOp BinOp.eql 3 (Operand.tmp 63) (Operand.const (Value.int IntKind.i64 33)) 3, type := 4, pos := "ref.go:88", after := #[{ on := 11, ground := Ground.data }, { on := 6, ground := Ground.guard }], guard := some (6, true) } : Oper)) (v := ?d13_v12) rfl (by kernel_rfl) (by kernel_rfl) (by kernel_rfl) (fun _ _ _ h => h) (Or.inl ⟨by rfl, ?d13_y12⟩) (by assumption) ?d13_r12
                        case d13_y12 =>
                          intro w hSw
                          (try dsimp only at hSw)
                          go_simp
                          (try with_reducible rfl)
                        try simp only [Act.put, List.setIfInBounds_toArray, List.set_cons_zero, List.set_cons_succ]
                        refine wpAnyH_take (i := 13) (oi := ({ dst := some 65, op := Op.pick (Operand.tmp 58) (Operand.tmp 64) (Operand.const (Value.bool false)), type := 4, pos := "ref.go:88", after := #[{ on := 6, ground := Ground.data }, { on := 12, ground := Ground.data }], guard := none } : Oper)) (v := ?d14_v13) rfl (by kernel_rfl) (by kernel_rfl) (by kernel_rfl) (fun _ _ _ h => h) (Or.inl ⟨by rfl, ?d14_y13⟩) (by assumption) ?d14_r13
                        case d14_y13 =>
                          intro w hSw
                          (try dsimp only at hSw)
                          go_simp
                          (try with_reducible rfl)
                        try simp only [Act.put, List.setIfInBounds_toArray, List.set_cons_zero, List.set_cons_succ]
                        refine wpAnyH_take (i := 14) (oi := ({ dst := some 66, op := Op.move (Operand.tmp 65), type := 4, pos := "ref.go:88", after := #[{ on := 13, ground := Ground.data }, { on := 6, ground := Ground.chain }], guard := none } : Oper)) (v := ?d15_v14) rfl (by kernel_rfl) (by kernel_rfl) (by kernel_rfl) (fun _ _ _ h => h) (Or.inl ⟨by rfl, ?d15_y14⟩) (by assumption) ?d15_r14
                        case d15_y14 =>
                          intro w hSw
                          (try dsimp only at hSw)
                          go_simp
                          (try with_reducible rfl)
                        try simp only [Act.put, List.setIfInBounds_toArray, List.set_cons_zero, List.set_cons_succ]
                        refine wpAnyH_take (i := 15) (oi := ({ dst := some 67, op := Op.move (Operand.tmp 0), type := 22, pos := "ref.go:88", after := #[{ on := 14, ground := Ground.guard }], guard := some (14, true) } : Oper)) rfl (by kernel_rfl) (by kernel_rfl) (by kernel_rfl) (fun _ _ _ h => h) (Or.inr ⟨by rfl, rfl⟩) (by assumption) ?d16_r15
                        try simp only [Act.put, List.setIfInBounds_toArray, List.set_cons_zero, List.set_cons_succ]
                        refine wpAnyH_take (i := 16) (oi := ({ dst := some 68, op := Op.move (Operand.tmp 8), type := 3, pos := "ref.go:88", after := #[{ on := 14, ground := Ground.guard }], guard := some (14, true) } : Oper)) rfl (by kernel_rfl) (by kernel_rfl) (by kernel_rfl) (fun _ _ _ h => h) (Or.inr ⟨by rfl, rfl⟩) (by assumption) ?d17_r16
                        try simp only [Act.put, List.setIfInBounds_toArray, List.set_cons_zero, List.set_cons_succ]
                        refine wpAnyH_take (i := 17) (oi := ({ dst := some 69, op := Op.indexAddr 22 (Operand.tmp 67) (Operand.tmp 68), type := 0, pos := "ref.go:88", after := #[{ on := 15, ground := Ground.data }, { on := 16, ground := Ground.data }, { on := 14, ground := Ground.guard }], guard := some (14, true) } : Oper)) rfl (by kernel_rfl) (by kernel_rfl) (by kernel_rfl) (fun _ _ _ h => h) (Or.inr ⟨by rfl, rfl⟩) (by assumption) ?d18_r17
                        try simp only [Act.put, List.setIfInBounds_toArray, List.set_cons_zero, List.set_cons_succ]
                        refine wpAnyH_take (i := 18) (oi := ({ dst := some 70, op := Op.fieldAddr 38 (Operand.tmp 69) 4, type := 0, pos := "ref.go:88", after := #[{ on := 17, ground := Ground.data }, { on := 14, ground := Ground.guard }], guard := some (14, true) } : Oper)) rfl (by kernel_rfl) (by kernel_rfl) (by kernel_rfl) (fun _ _ _ h => h) (Or.inr ⟨by rfl, rfl⟩) (by assumption) ?d19_r18
                        try simp only [Act.put, List.setIfInBounds_toArray, List.set_cons_zero, List.set_cons_succ]
                        refine wpAnyH_take (i := 19) (oi := ({ dst := some 71, op := Op.load 36 (Operand.tmp 70), type := 36, pos := "ref.go:88", after := #[{ on := 18, ground := Ground.data }, { on := 14, ground := Ground.guard }], guard := some (14, true) } : Oper)) rfl (by kernel_rfl) (by kernel_rfl) (by kernel_rfl) (fun _ _ _ h => h) (Or.inr ⟨by rfl, rfl⟩) (by assumption) ?d20_r19
                        try simp only [Act.put, List.setIfInBounds_toArray, List.set_cons_zero, List.set_cons_succ]
                        refine wpAnyH_take (i := 20) (oi := ({ dst := some 72, op := Op.move (Operand.tmp 0), type := 22, pos := "ref.go:88", after := #[{ on := 14, ground := Ground.guard }], guard := some (14, true) } : Oper)) rfl (by kernel_rfl) (by kernel_rfl) (by kernel_rfl) (fun _ _ _ h => h) (Or.inr ⟨by rfl, rfl⟩) (by assumption) ?d21_r20
                        try simp only [Act.put, List.setIfInBounds_toArray, List.set_cons_zero, List.set_cons_succ]
                        refine wpAnyH_take (i := 21) (oi := ({ dst := some 73, op := Op.move (Operand.tmp 7), type := 3, pos := "ref.go:88", after := #[{ on := 14, ground := Ground.guard }], guard := some (14, true) } : Oper)) rfl (by kernel_rfl) (by kernel_rfl) (by kernel_rfl) (fun _ _ _ h => h) (Or.inr ⟨by rfl, rfl⟩) (by assumption) ?d22_r21
                        try simp only [Act.put, List.setIfInBounds_toArray, List.set_cons_zero, List.set_cons_succ]
                        refine wpAnyH_take (i := 22) (oi := ({ dst := some 74, op := Op.indexAddr 22 (Operand.tmp 72) (Operand.tmp 73), type := 0, pos := "ref.go:88", after := #[{ on := 20, ground := Ground.data }, { on := 21, ground := Ground.data }, { on := 14, ground := Ground.guard }], guard := some (14, true) } : Oper)) rfl (by kernel_rfl) (by kernel_rfl) (by kernel_rfl) (fun _ _ _ h => h) (Or.inr ⟨by rfl, rfl⟩) (by assumption) ?d23_r22
                        try simp only [Act.put, List.setIfInBounds_toArray, List.set_cons_zero, List.set_cons_succ]
                        refine wpAnyH_take (i := 23) (oi := ({ dst := some 75, op := Op.fieldAddr 38 (Operand.tmp 74) 4, type := 0, pos := "ref.go:88", after := #[{ on := 22, ground := Ground.data }, { on := 14, ground := Ground.guard }], guard := some (14, true) } : Oper)) rfl (by kernel_rfl) (by kernel_rfl) (by kernel_rfl) (fun _ _ _ h => h) (Or.inr ⟨by rfl, rfl⟩) (by assumption) ?d24_r23
                        try simp only [Act.put, List.setIfInBounds_toArray, List.set_cons_zero, List.set_cons_succ]
                        refine wpAnyH_take (i := 24) (oi := ({ dst := some 76, op := Op.load 36 (Operand.tmp 75), type := 36, pos := "ref.go:88", after := #[{ on := 23, ground := Ground.data }, { on := 14, ground := Ground.guard }], guard := some (14, true) } : Oper)) rfl (by kernel_rfl) (by kernel_rfl) (by kernel_rfl) (fun _ _ _ h => h) (Or.inr ⟨by rfl, rfl⟩) (by assumption) ?d25_r24
                        try simp only [Act.put, List.setIfInBounds_toArray, List.set_cons_zero, List.set_cons_succ]
                        refine wpAnyH_take (i := 25) (oi := ({ dst := some 77, op := Op.binOp BinOp.eql 36 (Operand.tmp 71) (Operand.tmp 76) 36, type := 4, pos := "ref.go:88", after := #[{ on := 19, ground := Ground.data }, { on := 24, ground := Ground.data }, { on := 14, ground := Ground.guard }], guard := some (14, true) } : Oper)) rfl (by kernel_rfl) (by kernel_rfl) (by kernel_rfl) (fun _ _ _ h => h) (Or.inr ⟨by rfl, rfl⟩) (by assumption) ?d26_r25
                        try simp only [Act.put, List.setIfInBounds_toArray, List.set_cons_zero, List.set_cons_succ]
                        refine wpAnyH_take (i := 26) (oi := ({ dst := some 78, op := Op.pick (Operand.tmp 66) (Operand.tmp 77) (Operand.const (Value.bool false)), type := 4, pos := "ref.go:88", after := #[{ on := 14, ground := Ground.data }, { on := 25, ground := Ground.data }], guard := none } : Oper)) (v := ?d27_v26) rfl (by kernel_rfl) (by kernel_rfl) (by kernel_rfl) (fun _ _ _ h => h) (Or.inl ⟨by rfl, ?d27_y26⟩) (by assumption) ?d27_r26
                        case d27_y26 =>
                          intro w hSw
                          (try dsimp only at hSw)
                          go_simp
                          (try with_reducible rfl)
                        try simp only [Act.put, List.setIfInBounds_toArray, List.set_cons_zero, List.set_cons_succ]
                        refine wpAnyH_take (i := 27) (oi := ({ dst := some 79, op := Op.move (Operand.tmp 78), type := 4, pos := "ref.go:88", after := #[{ on := 26, ground := Ground.data }, { on := 14, ground := Ground.chain }], guard := none } : Oper)) (v := ?d28_v27) rfl (by kernel_rfl) (by kernel_rfl) (by kernel_rfl) (fun _ _ _ h => h) (Or.inl ⟨by rfl, ?d28_y27⟩) (by assumption) ?d28_r27
                        case d28_y27 =>
                          intro w hSw
                          (try dsimp only at hSw)
                          go_simp
                          (try with_reducible rfl)
                        try simp only [Act.put, List.setIfInBounds_toArray, List.set_cons_zero, List.set_cons_succ]
                        refine wpAnyH_take (i := 28) (oi := ({ dst := some 80, op := Op.move (Operand.tmp 0), type := 22, pos := "ref.go:88", after := #[{ on := 27, ground := Ground.guard }], guard := some (27, true) } : Oper)) rfl (by kernel_rfl) (by kernel_rfl) (by kernel_rfl) (fun _ _ _ h => h) (Or.inr ⟨by rfl, rfl⟩) (by assumption) ?d29_r28
                        try simp only [Act.put, List.setIfInBounds_toArray, List.set_cons_zero, List.set_cons_succ]
                        refine wpAnyH_take (i := 29) (oi := ({ dst := some 81, op := Op.move (Operand.tmp 8), type := 3, pos := "ref.go:88", after := #[{ on := 27, ground := Ground.guard }], guard := some (27, true) } : Oper)) rfl (by kernel_rfl) (by kernel_rfl) (by kernel_rfl) (fun _ _ _ h => h) (Or.inr ⟨by rfl, rfl⟩) (by assumption) ?d30_r29
                        try simp only [Act.put, List.setIfInBounds_toArray, List.set_cons_zero, List.set_cons_succ]
                        refine wpAnyH_take (i := 30) (oi := ({ dst := some 82, op := Op.indexAddr 22 (Operand.tmp 80) (Operand.tmp 81), type := 0, pos := "ref.go:88", after := #[{ on := 28, ground := Ground.data }, { on := 29, ground := Ground.data }, { on := 27, ground := Ground.guard }], guard := some (27, true) } : Oper)) rfl (by kernel_rfl) (by kernel_rfl) (by kernel_rfl) (fun _ _ _ h => h) (Or.inr ⟨by rfl, rfl⟩) (by assumption) ?d31_r30
                        try simp only [Act.put, List.setIfInBounds_toArray, List.set_cons_zero, List.set_cons_succ]
                        refine wpAnyH_take (i := 31) (oi := ({ dst := some 83, op := Op.fieldAddr 38 (Operand.tmp 82) 1, type := 0, pos := "ref.go:88", after := #[{ on := 30, ground := Ground.data }, { on := 27, ground := Ground.guard }], guard := some (27, true) } : Oper)) rfl (by kernel_rfl) (by kernel_rfl) (by kernel_rfl) (fun _ _ _ h => h) (Or.inr ⟨by rfl, rfl⟩) (by assumption) ?d32_r31
                        try simp only [Act.put, List.setIfInBounds_toArray, List.set_cons_zero, List.set_cons_succ]
                        refine wpAnyH_take (i := 32) (oi := ({ dst := some 84, op := Op.load 3 (Operand.tmp 83), type := 3, pos := "ref.go:88", after := #[{ on := 31, ground := Ground.data }, { on := 27, ground := Ground.guard }], guard := some (27, true) } : Oper)) rfl (by kernel_rfl) (by kernel_rfl) (by kernel_rfl) (fun _ _ _ h => h) (Or.inr ⟨by rfl, rfl⟩) (by assumption) ?d33_r32
                        try simp only [Act.put, List.setIfInBounds_toArray, List.set_cons_zero, List.set_cons_succ]
                        refine wpAnyH_take (i := 33) (oi := ({ dst := some 85, op := Op.move (Operand.tmp 0), type := 22, pos := "ref.go:88", after := #[{ on := 27, ground := Ground.guard }], guard := some (27, true) } : Oper)) rfl (by kernel_rfl) (by kernel_rfl) (by kernel_rfl) (fun _ _ _ h => h) (Or.inr ⟨by rfl, rfl⟩) (by assumption) ?d34_r33
                        try simp only [Act.put, List.setIfInBounds_toArray, List.set_cons_zero, List.set_cons_succ]
                        refine wpAnyH_take (i := 34) (oi := ({ dst := some 86, op := Op.move (Operand.tmp 7), type := 3, pos := "ref.go:88", after := #[{ on := 27, ground := Ground.guard }], guard := some (27, true) } : Oper)) rfl (by kernel_rfl) (by kernel_rfl) (by kernel_rfl) (fun _ _ _ h => h) (Or.inr ⟨by rfl, rfl⟩) (by assumption) ?d35_r34
                        try simp only [Act.put, List.setIfInBounds_toArray, List.set_cons_zero, List.set_cons_succ]
                        refine wpAnyH_take (i := 35) (oi := ({ dst := some 87, op := Op.indexAddr 22 (Operand.tmp 85) (Operand.tmp 86), type := 0, pos := "ref.go:88", after := #[{ on := 33, ground := Ground.data }, { on := 34, ground := Ground.data }, { on := 27, ground := Ground.guard }], guard := some (27, true) } : Oper)) rfl (by kernel_rfl) (by kernel_rfl) (by kernel_rfl) (fun _ _ _ h => h) (Or.inr ⟨by rfl, rfl⟩) (by assumption) ?d36_r35
                        try simp only [Act.put, List.setIfInBounds_toArray, List.set_cons_zero, List.set_cons_succ]
                        refine wpAnyH_take (i := 36) (oi := ({ dst := some 88, op := Op.fieldAddr 38 (Operand.tmp 87) 1, type := 0, pos := "ref.go:88", after := #[{ on := 35, ground := Ground.data }, { on := 27, ground := Ground.guard }], guard := some (27, true) } : Oper)) rfl (by kernel_rfl) (by kernel_rfl) (by kernel_rfl) (fun _ _ _ h => h) (Or.inr ⟨by rfl, rfl⟩) (by assumption) ?d37_r36
                        try simp only [Act.put, List.setIfInBounds_toArray, List.set_cons_zero, List.set_cons_succ]
                        refine wpAnyH_take (i := 37) (oi := ({ dst := some 89, op := Op.load 3 (Operand.tmp 88), type := 3, pos := "ref.go:88", after := #[{ on := 36, ground := Ground.data }, { on := 27, ground := Ground.guard }], guard := some (27, true) } : Oper)) rfl (by kernel_rfl) (by kernel_rfl) (by kernel_rfl) (fun _ _ _ h => h) (Or.inr ⟨by rfl, rfl⟩) (by assumption) ?d38_r37
                        try simp only [Act.put, List.setIfInBounds_toArray, List.set_cons_zero, List.set_cons_succ]
                        refine wpAnyH_take (i := 38) (oi := ({ dst := some 90, op := Op.binOp BinOp.neq 3 (Operand.tmp 84) (Operand.tmp 89) 3, type := 4, pos := "ref.go:88", after := #[{ on := 32, ground := Ground.data }, { on := 37, ground := Ground.data }, { on := 27, ground := Ground.guard }], guard := some (27, true) } : Oper)) rfl (by kernel_rfl) (by kernel_rfl) (by kernel_rfl) (fun _ _ _ h => h) (Or.inr ⟨by rfl, rfl⟩) (by assumption) ?d39_r38
                        try simp only [Act.put, List.setIfInBounds_toArray, List.set_cons_zero, List.set_cons_succ]
                        refine wpAnyH_take (i := 39) (oi := ({ dst := some 91, op := Op.pick (Operand.tmp 79) (Operand.tmp 90) (Operand.const (Value.bool false)), type := 4, pos := "ref.go:88", after := #[{ on := 27, ground := Ground.data }, { on := 38, ground := Ground.data }], guard := none } : Oper)) (v := ?d40_v39) rfl (by kernel_rfl) (by kernel_rfl) (by kernel_rfl) (fun _ _ _ h => h) (Or.inl ⟨by rfl, ?d40_y39⟩) (by assumption) ?d40_r39
                        case d40_y39 =>
                          intro w hSw
                          (try dsimp only at hSw)
                          go_simp
                          (try with_reducible rfl)
                        try simp only [Act.put, List.setIfInBounds_toArray, List.set_cons_zero, List.set_cons_succ]
                        refine wpAnyH_done (by kernel_rfl) ?_ _
                        go_wp2
                        go_roundw
                        case rel => exact ⟨j + 1, by omega, by go_num, drewD HBU.out, HK⟩
                        case measure => simp [intOf]; omega
                    · have e1 : (op' == 33) = false := beq_false_of_ne o1
                      have HK := Lib.hid (HNX.out (HYE.out.2 fun h => absurd h o1))
                      clear o1
                      go_upto_region 19 with fail
                      refine wp_region_held_drew (S := (fun W => (W.cell? ⟨b, off + i * 5, none⟩ = some (.int .i64 op) ∧ W.cell? ⟨b, off + i * 5 + 1, none⟩ = some (.int .i64 wid) ∧ W.cell? ⟨b, off + i * 5 + 4, none⟩ = some (.int .u32 imm)) ∧ W.cell? ⟨b, off + j * 5, none⟩ = some (.int .i64 op') ∧ W.cell? ⟨b, off + j * 5 + 1, none⟩ = some (.int .i64 wid') ∧ W.cell? ⟨b, off + j * 5 + 4, none⟩ = some (.int .u32 imm'))) (by kernel_rfl) ?_ (fun hHeld => ?_)
                      · exact HS.out _ (by first | exact Below.refl _ _ | exact drewD (Below.refl _ _) | exact drewR (Below.refl _ _))
                      refine wpAnyH_take (i := 0) (oi := ({ dst := some 52, op := Op.move (Operand.tmp 0), type := 22, pos := "ref.go:88", after := #[], guard := none } : Oper)) (v := ?e1_v0) rfl (by kernel_rfl) (by kernel_rfl) (by kernel_rfl) (fun _ _ _ h => h) (Or.inl ⟨by rfl, ?e1_y0⟩) (by assumption) ?e1_r0
                      case e1_y0 =>
                        intro w hSw
                        (try dsimp only at hSw)
                        go_simp
                        (try with_reducible rfl)
                      try simp only [Act.put, List.setIfInBounds_toArray, List.set_cons_zero, List.set_cons_succ]
                      refine wpAnyH_take (i := 1) (oi := ({ dst := some 53, op := Op.move (Operand.tmp 8), type := 3, pos := "ref.go:88", after := #[], guard := none } : Oper)) (v := ?e2_v1) rfl (by kernel_rfl) (by kernel_rfl) (by kernel_rfl) (fun _ _ _ h => h) (Or.inl ⟨by rfl, ?e2_y1⟩) (by assumption) ?e2_r1
                      case e2_y1 =>
                        intro w hSw
                        (try dsimp only at hSw)
                        go_simp
                        (try with_reducible rfl)
                      try simp only [Act.put, List.setIfInBounds_toArray, List.set_cons_zero, List.set_cons_succ]
                      refine wpAnyH_take (i := 2) (oi := ({ dst := some 54, op := Op.indexAddr 22 (Operand.tmp 52) (Operand.tmp 53), type := 0, pos := "ref.go:88", after := #[{ on := 0, ground := Ground.data }, { on := 1, ground := Ground.data }], guard := none } : Oper)) (v := ?e3_v2) rfl (by kernel_rfl) (by kernel_rfl) (by kernel_rfl) (fun _ _ _ h => h) (Or.inl ⟨by rfl, ?e3_y2⟩) (by assumption) ?e3_r2
                      case e3_y2 =>
                        intro w hSw
                        (try dsimp only at hSw)
                        go_simp
                        (try with_reducible rfl)
                      try simp only [Act.put, List.setIfInBounds_toArray, List.set_cons_zero, List.set_cons_succ]
                      refine wpAnyH_take (i := 3) (oi := ({ dst := some 55, op := Op.fieldAddr 38 (Operand.tmp 54) 0, type := 0, pos := "ref.go:88", after := #[{ on := 2, ground := Ground.data }], guard := none } : Oper)) (v := ?e4_v3) rfl (by kernel_rfl) (by kernel_rfl) (by kernel_rfl) (fun _ _ _ h => h) (Or.inl ⟨by rfl, ?e4_y3⟩) (by assumption) ?e4_r3
                      case e4_y3 =>
                        intro w hSw
                        (try dsimp only at hSw)
                        go_simp
                        (try with_reducible rfl)
                      try simp only [Act.put, List.setIfInBounds_toArray, List.set_cons_zero, List.set_cons_succ]
                      refine wpAnyH_take (i := 4) (oi := ({ dst := some 56, op := Op.load 3 (Operand.tmp 55), type := 3, pos := "ref.go:88", after := #[{ on := 3, ground := Ground.data }], guard := none } : Oper)) (v := ?e5_v4) rfl (by kernel_rfl) (by kernel_rfl) (by kernel_rfl) (fun _ _ _ h => h) (Or.inl ⟨by rfl, ?e5_y4⟩) (by assumption) ?e5_r4
                      case e5_y4 =>
                        intro w hSw
                        (try dsimp only at hSw)
                        go_simp
                        (try with_reducible rfl)
                      try simp only [Act.put, List.setIfInBounds_toArray, List.set_cons_zero, List.set_cons_succ]
                      refine wpAnyH_take (i := 5) (oi := ({ dst := some 57, op := Op.binOp BinOp.eql 3 (Operand.tmp 56) (Operand.const (Value.int IntKind.i64 33)) 3, type := 4, pos := "ref.go:88", after := #[{ on := 4, ground := Ground.data }], guard := none } : Oper)) (v := ?e6_v5) rfl (by kernel_rfl) (by kernel_rfl) (by kernel_rfl) (fun _ _ _ h => h) (Or.inl ⟨by rfl, ?e6_y5⟩) (by assumption) ?e6_r5
                      case e6_y5 =>
                        intro w hSw
                        (try dsimp only at hSw)
                        go_simp
                        (try with_reducible rfl)
                      try simp only [Act.put, List.setIfInBounds_toArray, List.set_cons_zero, List.set_cons_succ]
                      refine wpAnyH_take (i := 6) (oi := ({ dst := some 58, op := Op.move (Operand.tmp 57), type := 4, pos := "ref.go:88", after := #[{ on := 5, ground := Ground.data }], guard := none } : Oper)) (v := ?e7_v6) rfl (by kernel_rfl) (by kernel_rfl) (by kernel_rfl) (fun _ _ _ h => h) (Or.inl ⟨by rfl, ?e7_y6⟩) (by assumption) ?e7_r6
                      case e7_y6 =>
                        intro w hSw
                        (try dsimp only at hSw)
                        go_simp
                        (try with_reducible rfl)
                      try simp only [Act.put, List.setIfInBounds_toArray, List.set_cons_zero, List.set_cons_succ]
                      refine wpAnyH_take (i := 7) (oi := ({ dst := some 59, op := Op.move (Operand.tmp 0), type := 22, pos := "ref.go:88", after := #[{ on := 6, ground := Ground.guard }], guard := some (6, true) } : Oper)) rfl (by kernel_rfl) (by kernel_rfl) (by kernel_rfl) (fun _ _ _ h => h) (Or.inr ⟨by rfl, rfl⟩) (by assumption) ?e8_r7
                      try simp only [Act.put, List.setIfInBounds_toArray, List.set_cons_zero, List.set_cons_succ]
                      refine wpAnyH_take (i := 8) (oi := ({ dst := some 60, op := Op.move (Operand.tmp 7), type := 3, pos := "ref.go:88", after := #[{ on := 6, ground := Ground.guard }], guard := some (6, true) } : Oper)) rfl (by kernel_rfl) (by kernel_rfl) (by kernel_rfl) (fun _ _ _ h => h) (Or.inr ⟨by rfl, rfl⟩) (by assumption) ?e9_r8
                      try simp only [Act.put, List.setIfInBounds_toArray, List.set_cons_zero, List.set_cons_succ]
                      refine wpAnyH_take (i := 9) (oi := ({ dst := some 61, op := Op.indexAddr 22 (Operand.tmp 59) (Operand.tmp 60), type := 0, pos := "ref.go:88", after := #[{ on := 7, ground := Ground.data }, { on := 8, ground := Ground.data }, { on := 6, ground := Ground.guard }], guard := some (6, true) } : Oper)) rfl (by kernel_rfl) (by kernel_rfl) (by kernel_rfl) (fun _ _ _ h => h) (Or.inr ⟨by rfl, rfl⟩) (by assumption) ?e10_r9
                      try simp only [Act.put, List.setIfInBounds_toArray, List.set_cons_zero, List.set_cons_succ]
                      refine wpAnyH_take (i := 10) (oi := ({ dst := some 62, op := Op.fieldAddr 38 (Operand.tmp 61) 0, type := 0, pos := "ref.go:88", after := #[{ on := 9, ground := Ground.data }, { on := 6, ground := Ground.guard }], guard := some (6, true) } : Oper)) rfl (by kernel_rfl) (by kernel_rfl) (by kernel_rfl) (fun _ _ _ h => h) (Or.inr ⟨by rfl, rfl⟩) (by assumption) ?e11_r10
                      try simp only [Act.put, List.setIfInBounds_toArray, List.set_cons_zero, List.set_cons_succ]
                      refine wpAnyH_take (i := 11) (oi := ({ dst := some 63, op := Op.load 3 (Operand.tmp 62), type := 3, pos := "ref.go:88", after := #[{ on := 10, ground := Ground.data }, { on := 6, ground := Ground.guard }], guard := some (6, true) } : Oper)) rfl (by kernel_rfl) (by kernel_rfl) (by kernel_rfl) (fun _ _ _ h => h) (Or.inr ⟨by rfl, rfl⟩) (by assumption) ?e12_r11
                      try simp only [Act.put, List.setIfInBounds_toArray, List.set_cons_zero, List.set_cons_succ]
                      refine wpAnyH_take (i := 12) (oi := ({ dst := some 64, op := Op.binOp BinOp.eql 3 (Operand.tmp 63) (Operand.const (Value.int IntKind.i64 33)) 3, type := 4, pos := "ref.go:88", after := #[{ on := 11, ground := Ground.data }, { on := 6, ground := Ground.guard }], guard := some (6, true) } : Oper)) rfl (by kernel_rfl) (by kernel_rfl) (by kernel_rfl) (fun _ _ _ h => h) (Or.inr ⟨by rfl, rfl⟩) (by assumption) ?e13_r12
                      try simp only [Act.put, List.setIfInBounds_toArray, List.set_cons_zero, List.set_cons_succ]
                      refine wpAnyH_take (i := 13) (oi := ({ dst := some 65, op := Op.pick (Operand.tmp 58) (Operand.tmp 64) (Operand.const (Value.bool false)), type := 4, pos := "ref.go:88", after := #[{ on := 6, ground := Ground.data }, { on := 12, ground := Ground.data }], guard := none } : Oper)) (v := ?e14_v13) rfl (by kernel_rfl) (by kernel_rfl) (by kernel_rfl) (fun _ _ _ h => h) (Or.inl ⟨by rfl, ?e14_y13⟩) (by assumption) ?e14_r13
                      case e14_y13 =>
                        intro w hSw
                        (try dsimp only at hSw)
                        go_simp
                        (try with_reducible rfl)
                      try simp only [Act.put, List.setIfInBounds_toArray, List.set_cons_zero, List.set_cons_succ]
                      refine wpAnyH_take (i := 14) (oi := ({ dst := some 66, op := Op.move (Operand.tmp 65), type := 4, pos := "ref.go:88", after := #[{ on := 13, ground := Ground.data }, { on := 6, ground := Ground.chain }], guard := none } : Oper)) (v := ?e15_v14) rfl (by kernel_rfl) (by kernel_rfl) (by kernel_rfl) (fun _ _ _ h => h) (Or.inl ⟨by rfl, ?e15_y14⟩) (by assumption) ?e15_r14
                      case e15_y14 =>
                        intro w hSw
                        (try dsimp only at hSw)
                        go_simp
                        (try with_reducible rfl)
                      try simp only [Act.put, List.setIfInBounds_toArray, List.set_cons_zero, List.set_cons_succ]
                      refine wpAnyH_take (i := 15) (oi := ({ dst := some 67, op := Op.move (Operand.tmp 0), type := 22, pos := "ref.go:88", after := #[{ on := 14, ground := Ground.guard }], guard := some (14, true) } : Oper)) rfl (by kernel_rfl) (by kernel_rfl) (by kernel_rfl) (fun _ _ _ h => h) (Or.inr ⟨by rfl, rfl⟩) (by assumption) ?e16_r15
                      try simp only [Act.put, List.setIfInBounds_toArray, List.set_cons_zero, List.set_cons_succ]
                      refine wpAnyH_take (i := 16) (oi := ({ dst := some 68, op := Op.move (Operand.tmp 8), type := 3, pos := "ref.go:88", after := #[{ on := 14, ground := Ground.guard }], guard := some (14, true) } : Oper)) rfl (by kernel_rfl) (by kernel_rfl) (by kernel_rfl) (fun _ _ _ h => h) (Or.inr ⟨by rfl, rfl⟩) (by assumption) ?e17_r16
                      try simp only [Act.put, List.setIfInBounds_toArray, List.set_cons_zero, List.set_cons_succ]
                      refine wpAnyH_take (i := 17) (oi := ({ dst := some 69, op := Op.indexAddr 22 (Operand.tmp 67) (Operand.tmp 68), type := 0, pos := "ref.go:88", after := #[{ on := 15, ground := Ground.data }, { on := 16, ground := Ground.data }, { on := 14, ground := Ground.guard }], guard := some (14, true) } : Oper)) rfl (by kernel_rfl) (by kernel_rfl) (by kernel_rfl) (fun _ _ _ h => h) (Or.inr ⟨by rfl, rfl⟩) (by assumption) ?e18_r17
                      try simp only [Act.put, List.setIfInBounds_toArray, List.set_cons_zero, List.set_cons_succ]
                      refine wpAnyH_take (i := 18) (oi := ({ dst := some 70, op := Op.fieldAddr 38 (Operand.tmp 69) 4, type := 0, pos := "ref.go:88", after := #[{ on := 17, ground := Ground.data }, { on := 14, ground := Ground.guard }], guard := some (14, true) } : Oper)) rfl (by kernel_rfl) (by kernel_rfl) (by kernel_rfl) (fun _ _ _ h => h) (Or.inr ⟨by rfl, rfl⟩) (by assumption) ?e19_r18
                      try simp only [Act.put, List.setIfInBounds_toArray, List.set_cons_zero, List.set_cons_succ]
                      refine wpAnyH_take (i := 19) (oi := ({ dst := some 71, op := Op.load 36 (Operand.tmp 70), type := 36, pos := "ref.go:88", after := #[{ on := 18, ground := Ground.data }, { on := 14, ground := Ground.guard }], guard := some (14, true) } : Oper)) rfl (by kernel_rfl) (by kernel_rfl) (by kernel_rfl) (fun _ _ _ h => h) (Or.inr ⟨by rfl, rfl⟩) (by assumption) ?e20_r19
                      try simp only [Act.put, List.setIfInBounds_toArray, List.set_cons_zero, List.set_cons_succ]
                      refine wpAnyH_take (i := 20) (oi := ({ dst := some 72, op := Op.move (Operand.tmp 0), type := 22, pos := "ref.go:88", after := #[{ on := 14, ground := Ground.guard }], guard := some (14, true) } : Oper)) rfl (by kernel_rfl) (by kernel_rfl) (by kernel_rfl) (fun _ _ _ h => h) (Or.inr ⟨by rfl, rfl⟩) (by assumption) ?e21_r20
                      try simp only [Act.put, List.setIfInBounds_toArray, List.set_cons_zero, List.set_cons_succ]
                      refine wpAnyH_take (i := 21) (oi := ({ dst := some 73, op := Op.move (Operand.tmp 7), type := 3, pos := "ref.go:88", after := #[{ on := 14, ground := Ground.guard }], guard := some (14, true) } : Oper)) rfl (by kernel_rfl) (by kernel_rfl) (by kernel_rfl) (fun _ _ _ h => h) (Or.inr ⟨by rfl, rfl⟩) (by assumption) ?e22_r21
                      try simp only [Act.put, List.setIfInBounds_toArray, List.set_cons_zero, List.set_cons_succ]
                      refine wpAnyH_take (i := 22) (oi := ({ dst := some 74, op := Op.indexAddr 22 (Operand.tmp 72) (Operand.tmp 73), type := 0, pos := "ref.go:88", after := #[{ on := 20, ground := Ground.data }, { on := 21, ground := Ground.data }, { on := 14, ground := Ground.guard }], guard := some (14, true) } : Oper)) rfl (by kernel_rfl) (by kernel_rfl) (by kernel_rfl) (fun _ _ _ h => h) (Or.inr ⟨by rfl, rfl⟩) (by assumption) ?e23_r22
                      try simp only [Act.put, List.setIfInBounds_toArray, List.set_cons_zero, List.set_cons_succ]
                      refine wpAnyH_take (i := 23) (oi := ({ dst := some 75, op := Op.fieldAddr 38 (Operand.tmp 74) 4, type := 0, pos := "ref.go:88", after := #[{ on := 22, ground := Ground.data }, { on := 14, ground := Ground.guard }], guard := some (14, true) } : Oper)) rfl (by kernel_rfl) (by kernel_rfl) (by kernel_rfl) (fun _ _ _ h => h) (Or.inr ⟨by rfl, rfl⟩) (by assumption) ?e24_r23
                      try simp only [Act.put, List.setIfInBounds_toArray, List.set_cons_zero, List.set_cons_succ]
                      refine wpAnyH_take (i := 24) (oi := ({ dst := some 76, op := Op.load 36 (Operand.tmp 75), type := 36, pos := "ref.go:88", after := #[{ on := 23, ground := Ground.data }, { on := 14, ground := Ground.guard }], guard := some (14, true) } : Oper)) rfl (by kernel_rfl) (by kernel_rfl) (by kernel_rfl) (fun _ _ _ h => h) (Or.inr ⟨by rfl, rfl⟩) (by assumption) ?e25_r24
                      try simp only [Act.put, List.setIfInBounds_toArray, List.set_cons_zero, List.set_cons_succ]
                      refine wpAnyH_take (i := 25) (oi := ({ dst := some 77, op := Op.binOp BinOp.eql 36 (Operand.tmp 71) (Operand.tmp 76) 36, type := 4, pos := "ref.go:88", after := #[{ on := 19, ground := Ground.data }, { on := 24, ground := Ground.data }, { on := 14, ground := Ground.guard }], guard := some (14, true) } : Oper)) rfl (by kernel_rfl) (by kernel_rfl) (by kernel_rfl) (fun _ _ _ h => h) (Or.inr ⟨by rfl, rfl⟩) (by assumption) ?e26_r25
                      try simp only [Act.put, List.setIfInBounds_toArray, List.set_cons_zero, List.set_cons_succ]
                      refine wpAnyH_take (i := 26) (oi := ({ dst := some 78, op := Op.pick (Operand.tmp 66) (Operand.tmp 77) (Operand.const (Value.bool false)), type := 4, pos := "ref.go:88", after := #[{ on := 14, ground := Ground.data }, { on := 25, ground := Ground.data }], guard := none } : Oper)) (v := ?e27_v26) rfl (by kernel_rfl) (by kernel_rfl) (by kernel_rfl) (fun _ _ _ h => h) (Or.inl ⟨by rfl, ?e27_y26⟩) (by assumption) ?e27_r26
                      case e27_y26 =>
                        intro w hSw
                        (try dsimp only at hSw)
                        go_simp
                        (try with_reducible rfl)
                      try simp only [Act.put, List.setIfInBounds_toArray, List.set_cons_zero, List.set_cons_succ]
                      refine wpAnyH_take (i := 27) (oi := ({ dst := some 79, op := Op.move (Operand.tmp 78), type := 4, pos := "ref.go:88", after := #[{ on := 26, ground := Ground.data }, { on := 14, ground := Ground.chain }], guard := none } : Oper)) (v := ?e28_v27) rfl (by kernel_rfl) (by kernel_rfl) (by kernel_rfl) (fun _ _ _ h => h) (Or.inl ⟨by rfl, ?e28_y27⟩) (by assumption) ?e28_r27
                      case e28_y27 =>
                        intro w hSw
                        (try dsimp only at hSw)
                        go_simp
                        (try with_reducible rfl)
                      try simp only [Act.put, List.setIfInBounds_toArray, List.set_cons_zero, List.set_cons_succ]
                      refine wpAnyH_take (i := 28) (oi := ({ dst := some 80, op := Op.move (Operand.tmp 0), type := 22, pos := "ref.go:88", after := #[{ on := 27, ground := Ground.guard }], guard := some (27, true) } : Oper)) rfl (by kernel_rfl) (by kernel_rfl) (by kernel_rfl) (fun _ _ _ h => h) (Or.inr ⟨by rfl, rfl⟩) (by assumption) ?e29_r28
                      try simp only [Act.put, List.setIfInBounds_toArray, List.set_cons_zero, List.set_cons_succ]
                      refine wpAnyH_take (i := 29) (oi := ({ dst := some 81, op := Op.move (Operand.tmp 8), type := 3, pos := "ref.go:88", after := #[{ on := 27, ground := Ground.guard }], guard := some (27, true) } : Oper)) rfl (by kernel_rfl) (by kernel_rfl) (by kernel_rfl) (fun _ _ _ h => h) (Or.inr ⟨by rfl, rfl⟩) (by assumption) ?e30_r29
                      try simp only [Act.put, List.setIfInBounds_toArray, List.set_cons_zero, List.set_cons_succ]
                      refine wpAnyH_take (i := 30) (oi := ({ dst := some 82, op := Op.indexAddr 22 (Operand.tmp 80) (Operand.tmp 81), type := 0, pos := "ref.go:88", after := #[{ on := 28, ground := Ground.data }, { on := 29, ground := Ground.data }, { on := 27, ground := Ground.guard }], guard := some (27, true) } : Oper)) rfl (by kernel_rfl) (by kernel_rfl) (by kernel_rfl) (fun _ _ _ h => h) (Or.inr ⟨by rfl, rfl⟩) (by assumption) ?e31_r30
                      try simp only [Act.put, List.setIfInBounds_toArray, List.set_cons_zero, List.set_cons_succ]
                      refine wpAnyH_take (i := 31) (oi := ({ dst := some 83, op := Op.fieldAddr 38 (Operand.tmp 82) 1, type := 0, pos := "ref.go:88", after := #[{ on := 30, ground := Ground.data }, { on := 27, ground := Ground.guard }], guard := some (27, true) } : Oper)) rfl (by kernel_rfl) (by kernel_rfl) (by kernel_rfl) (fun _ _ _ h => h) (Or.inr ⟨by rfl, rfl⟩) (by assumption) ?e32_r31
                      try simp only [Act.put, List.setIfInBounds_toArray, List.set_cons_zero, List.set_cons_succ]
                      refine wpAnyH_take (i := 32) (oi := ({ dst := some 84, op := Op.load 3 (Operand.tmp 83), type := 3, pos := "ref.go:88", after := #[{ on := 31, ground := Ground.data }, { on := 27, ground := Ground.guard }], guard := some (27, true) } : Oper)) rfl (by kernel_rfl) (by kernel_rfl) (by kernel_rfl) (fun _ _ _ h => h) (Or.inr ⟨by rfl, rfl⟩) (by assumption) ?e33_r32
                      try simp only [Act.put, List.setIfInBounds_toArray, List.set_cons_zero, List.set_cons_succ]
                      refine wpAnyH_take (i := 33) (oi := ({ dst := some 85, op := Op.move (Operand.tmp 0), type := 22, pos := "ref.go:88", after := #[{ on := 27, ground := Ground.guard }], guard := some (27, true) } : Oper)) rfl (by kernel_rfl) (by kernel_rfl) (by kernel_rfl) (fun _ _ _ h => h) (Or.inr ⟨by rfl, rfl⟩) (by assumption) ?e34_r33
                      try simp only [Act.put, List.setIfInBounds_toArray, List.set_cons_zero, List.set_cons_succ]
                      refine wpAnyH_take (i := 34) (oi := ({ dst := some 86, op := Op.move (Operand.tmp 7), type := 3, pos := "ref.go:88", after := #[{ on := 27, ground := Ground.guard }], guard := some (27, true) } : Oper)) rfl (by kernel_rfl) (by kernel_rfl) (by kernel_rfl) (fun _ _ _ h => h) (Or.inr ⟨by rfl, rfl⟩) (by assumption) ?e35_r34
                      try simp only [Act.put, List.setIfInBounds_toArray, List.set_cons_zero, List.set_cons_succ]
                      refine wpAnyH_take (i := 35) (oi := ({ dst := some 87, op := Op.indexAddr 22 (Operand.tmp 85) (Operand.tmp 86), type := 0, pos := "ref.go:88", after := #[{ on := 33, ground := Ground.data }, { on := 34, ground := Ground.data }, { on := 27, ground := Ground.guard }], guard := some (27, true) } : Oper)) rfl (by kernel_rfl) (by kernel_rfl) (by kernel_rfl) (fun _ _ _ h => h) (Or.inr ⟨by rfl, rfl⟩) (by assumption) ?e36_r35
                      try simp only [Act.put, List.setIfInBounds_toArray, List.set_cons_zero, List.set_cons_succ]
                      refine wpAnyH_take (i := 36) (oi := ({ dst := some 88, op := Op.fieldAddr 38 (Operand.tmp 87) 1, type := 0, pos := "ref.go:88", after := #[{ on := 35, ground := Ground.data }, { on := 27, ground := Ground.guard }], guard := some (27, true) } : Oper)) rfl (by kernel_rfl) (by kernel_rfl) (by kernel_rfl) (fun _ _ _ h => h) (Or.inr ⟨by rfl, rfl⟩) (by assumption) ?e37_r36
                      try simp only [Act.put, List.setIfInBounds_toArray, List.set_cons_zero, List.set_cons_succ]
                      refine wpAnyH_take (i := 37) (oi := ({ dst := some 89, op := Op.load 3 (Operand.tmp 88), type := 3, pos := "ref.go:88", after := #[{ on := 36, ground := Ground.data }, { on := 27, ground := Ground.guard }], guard := some (27, true) } : Oper)) rfl (by kernel_rfl) (by kernel_rfl) (by kernel_rfl) (fun _ _ _ h => h) (Or.inr ⟨by rfl, rfl⟩) (by assumption) ?e38_r37
                      try simp only [Act.put, List.setIfInBounds_toArray, List.set_cons_zero, List.set_cons_succ]
                      refine wpAnyH_take (i := 38) (oi := ({ dst := some 90, op := Op.binOp BinOp.neq 3 (Operand.tmp 84) (Operand.tmp 89) 3, type := 4, pos := "ref.go:88", after := #[{ on := 32, ground := Ground.data }, { on := 37, ground := Ground.data }, { on := 27, ground := Ground.guard }], guard := some (27, true) } : Oper)) rfl (by kernel_rfl) (by kernel_rfl) (by kernel_rfl) (fun _ _ _ h => h) (Or.inr ⟨by rfl, rfl⟩) (by assumption) ?e39_r38
                      try simp only [Act.put, List.setIfInBounds_toArray, List.set_cons_zero, List.set_cons_succ]
                      refine wpAnyH_take (i := 39) (oi := ({ dst := some 91, op := Op.pick (Operand.tmp 79) (Operand.tmp 90) (Operand.const (Value.bool false)), type := 4, pos := "ref.go:88", after := #[{ on := 27, ground := Ground.data }, { on := 38, ground := Ground.data }], guard := none } : Oper)) (v := ?e40_v39) rfl (by kernel_rfl) (by kernel_rfl) (by kernel_rfl) (fun _ _ _ h => h) (Or.inl ⟨by rfl, ?e40_y39⟩) (by assumption) ?e40_r39
                      case e40_y39 =>
                        intro w hSw
                        (try dsimp only at hSw)
                        go_simp
                        (try with_reducible rfl)
                      try simp only [Act.put, List.setIfInBounds_toArray, List.set_cons_zero, List.set_cons_succ]
                      refine wpAnyH_done (by kernel_rfl) ?_ _
                      go_wp2
                      go_roundw
                      case rel => exact ⟨j + 1, by omega, by go_num, drewD HBU.out, HK⟩
                      case measure => simp [intOf]; omega
                  · obtain rfl : j = i := by omega
                    have hb9 := HBV.out.trans (hb.mono HBV.out.size)
                    have HJ2 := Lib.hid (show ∀ q, q < j + 1 → ∀ p, p < q → oneB T[p]! T[q]! = true from fun q hq p hp => by
                      by_cases e : q = j
                      · subst e
                        exact HQ.out p hp
                      · exact HJ.out q (by omega) p hp)
                    go_wp2
                    go_roundw
                    case rel => exact ⟨j + 1, by omega, by go_num, hb9, HJ2⟩
                    case measure => simp [intOf]; omega
              · obtain rfl : i = k := by omega
                have HE := Lib.hid (HYES2.out HJ.out)
                go_wp2
                go_ret
                exact ⟨ret_i HE.out.symm, hb⟩
set_option maxRecDepth 100000 in
set_option maxHeartbeats 2000000 in
theorem refValidate_any {w : World} {A : Option Addr} {n c : Nat} {T : List Nd} (h : Term w A n c T) : Calls Tryz.prog 12 #[.slice A n c] w fun e w' => e = .returned (.int .i64 (valF T)) ∧ Below w.heap.size w w' := by
  have HX := Lib.hid (checked_any h)
  clear h
  go_enter Tryz.func12, Tryz.ntmps12
  go_wp2_with fail
  refine HX.out.mono ?_
  rintro e w1 ⟨rfl, hb⟩
  go_wp2
  go_ret
  exact ⟨rfl, hb⟩
end Go.Proofs.YtbohigjfdnnomaaGreatDoor
