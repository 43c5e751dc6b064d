/-
  Below of the reference: the values of all nodes.
  Values and Eval of the reference.
-/
import Derived.Test.YtbohigjfdnnomaaGreatDoorTeP
namespace Go.Proofs.YtbohigjfdnnomaaGreatDoor
section
open Go.RowKit

section
variable {w : World} {A E : Option Addr} {n c m cE : Nat} {T : List Nd} {env : List Nat} (h : Term w A n c T) (hE : Ws w E m cE env)
include h hE
set_option maxRecDepth 100000 in
set_option maxHeartbeats 40000000 in
theorem below_any (h300 : T.length ≤ 300) (hF : ∀ k, k < T.length → FitX T T[k]! (vals T env k) env) : Calls Tryz.prog 48 #[.slice A n c, .slice E m cE] w fun e w' => (∃ A' c', e = .returned (.slice A' n c') ∧ Ws w' A' n c' (vals T env n)) ∧ Below w.heap.size w w' := by
  obtain ⟨i0, hi, hz0, hz1, hz2⟩ := info_parts infoW
  have HFX := Lib.hid (fun k (hk : k < n) => hF k (by rw [← h.1]; exact hk))
  have HLEN := Lib.hid h.1
  rw [← h.1] at h300
  have H := Lib.hid h
  have HEE := Lib.hid hE
  have hcap := h.2.1
  have hmax := h.2.2.1
  clear h hE hF
  go_enter Tryz.func48, Tryz.ntmps48
  go_wp2
  go_loopw [5, 6] (fun zl zi wr => ∃ i : Nat, i ≤ n ∧ zi = .int .i64 (i : Int) ∧ wr.ownsRow w.heap.size 36 1 zl i (uV (vals T env i)) ∧ Below w.heap.size w wr) (fun _ zi _ => n - (intOf zi).toNat)
  case atStart => exact ⟨0, by omega, rfl, World.ownsRow_nil _ _ _ _, Below.refl _ _⟩
  case round =>
    obtain ⟨i, hi', rfl, hown, hb⟩ := hrel
    obtain ⟨L, cL, rfl, hL⟩ := own_words hown
    by_cases hlt : i < n
    · obtain ⟨b, off, A', n', c', rfl, hbs, ⟨a0, a1, a2, a3, a4⟩, hI, -⟩ := (H.out.below hb).at_ hlt
      have HVS := Lib.hid (show vals T env (i + 1) = vals T env i ++ [val1 T T[i]! (vals T env i) env] from rfl)
      have hF := HFX.out i hlt
      obtain ⟨V, hV⟩ : ∃ V, V = val1 T T[i]! (vals T env i) env := ⟨_, rfl⟩
      have HV := Lib.hid hV
      rw [← hV] at HVS
      clear hV
      generalize T[i]! = x at a0 a1 a2 a3 a4 hI hF HV
      obtain ⟨l, hl⟩ : ∃ l, vals T env i = l := ⟨_, rfl⟩
      rw [hl] at hF HV hL
      clear hl
      by_cases ho : x.op = 0
      · have hn : n' = 0 := by
          have := hF.len
          rw [← hI.1, ho] at this
          have e : argN 0 = 0 := rfl
          omega
        obtain ⟨v, hv⟩ : ∃ v : Nat, x.imm = v := ⟨x.imm.toNat, by have := hF.imm0; omega⟩
        have HV2 := Lib.hid (HV.out.trans (val1_const (T := T) (l := l) (env := env) ho))
        rw [hv, Int.toNat_natCast] at HV2
        clear hF hI HV
        obtain ⟨op, wid, fl, args, imm⟩ := x
        simp only at a0 a1 a2 a3 a4 ho hv ⊢
        subst ho hv hn
        go_upto_region 6 with fail
        have hx := heap_alloc_new wr (.cells #[.int .i64 0, .int .i64 wid, .int .i64 fl, .slice A' 0 c', .int .u32 (v : Int)] 38)
        have hb2 := hb.alloc hb.size (.cells #[.int .i64 0, .int .i64 wid, .int .i64 fl, .slice A' 0 c', .int .u32 (v : Int)] 38)
        have hown2 := own_below hown ((Below.refl wr.heap.size wr).alloc (Nat.le_refl _) (.cells #[.int .i64 0, .int .i64 wid, .int .i64 fl, .slice A' 0 c', .int .u32 (v : Int)] 38))
        have hbr : Below wr.heap.size wr (wr.alloc (.cells #[.int .i64 0, .int .i64 wid, .int .i64 fl, .slice A' 0 c', .int .u32 (v : Int)] 38)) := (Below.refl _ _).alloc (Nat.le_refl _) _
        generalize World.alloc wr _ = W2 at hx hb2 hown2 hbr ⊢
        clear hown hb
        obtain ⟨b0, b1, -, b3, b4⟩ := cells5 (x := ⟨0, wid, fl, args, (v : Int)⟩) hx
        have hBl := lt_of_block hx
        have hown4 := hown2
        have hb6 := hb2
        generalize hw4 : W2 = w4 at *
        generalize wr.heap.size = B at b0 b1 b3 b4 hBl ⊢
        clear hx hown2 hb2 hw4 a0 a1 a2 a3 a4
        go_wp2_with (at_builtin; refine wpList_append_own _ rfl _ _ 31 rfl w.heap.size 36 i0 (.int .u32 0) 1 4 Tryz.underlying31 hi hz0 hz1 hz2 rfl (by decide) _ _ _ rfl (hown4.alloc _) ⟨w4.heap.size, 0, none⟩ 1 1 [.int .u32 ((v : Nat) : Int)] rfl rfl (one_new w4 _ _) ?k2 ?k3 ?k4 ?k5 ?_)
        case k2 => simp [Value.oneCell']
        case k3 => unfold maxLen; omega
        case k4 => omega
        case k5 => have := hb6.size; simp; omega
        intro v2 w7 hown7 hgrow _
        have hb7 : Below w.heap.size w w7 := (hb6.alloc hb6.size _).grown hgrow (by have := hb6.size; simp; omega) (own_base (hown4.alloc (.cells #[.int .u32 ((v : Nat) : Int)] 36)))
        have HO8 := Lib.hid (show w7.ownsRow w.heap.size 36 1 v2 (i + 1) (uV (vals T env (i + 1))) by
          rw [HVS.out, uV_app, HV2.out]
          exact hown7)
        clear hown4 hown7 hgrow hb6
        go_wp2
        go_roundw
        case rel => exact ⟨i + 1, by omega, by go_num, HO8.out, hb7⟩
        case measure => simp [intOf]; omega
      have n0 := ho
      clear ho
      by_cases ho : x.op = 33
      · have hn : n' = 0 := by
          have := hF.len
          rw [← hI.1, ho] at this
          have e : argN 33 = 0 := rfl
          omega
        obtain ⟨v, hv⟩ : ∃ v : Nat, x.imm = v := ⟨x.imm.toNat, by have := hF.imm0; omega⟩
        have HV2 := Lib.hid (HV.out.trans (val1_var (T := T) (l := l) (env := env) ho))
        rw [hv, Int.toNat_natCast] at HV2
        have hvm := hF.env ho
        rw [hv, Int.toNat_natCast, ← HEE.out.1] at hvm
        obtain ⟨bE, oE, rfl, hbE, hcE⟩ := (HEE.out.below hb).at_ hvm
        have hcapE := HEE.out.2.1
        have hmaxE := HEE.out.2.2.1
        clear hF hI HV
        obtain ⟨op, wid, fl, args, imm⟩ := x
        simp only at a0 a1 a2 a3 a4 ho hv ⊢
        subst ho hv hn
        generalize env[v]! = u at hcE HV2
        go_upto_region 6 with fail
        have hx := heap_alloc_new wr (.cells #[.int .i64 33, .int .i64 wid, .int .i64 fl, .slice A' 0 c', .int .u32 (v : Int)] 38)
        have hb2 := hb.alloc hb.size (.cells #[.int .i64 33, .int .i64 wid, .int .i64 fl, .slice A' 0 c', .int .u32 (v : Int)] 38)
        have hown2 := own_below hown ((Below.refl wr.heap.size wr).alloc (Nat.le_refl _) (.cells #[.int .i64 33, .int .i64 wid, .int .i64 fl, .slice A' 0 c', .int .u32 (v : Int)] 38))
        have hbr : Below wr.heap.size wr (wr.alloc (.cells #[.int .i64 33, .int .i64 wid, .int .i64 fl, .slice A' 0 c', .int .u32 (v : Int)] 38)) := (Below.refl _ _).alloc (Nat.le_refl _) _
        generalize World.alloc wr _ = W2 at hx hb2 hown2 hbr ⊢
        clear hown hb
        obtain ⟨b0, b1, -, b3, b4⟩ := cells5 (x := ⟨33, wid, fl, args, (v : Int)⟩) hx
        have hBl := lt_of_block hx
        replace hcE := (hbr.cell (p := ⟨bE, oE + v, none⟩) hbE).trans hcE
        replace hbE := Nat.lt_of_lt_of_le hbE hbr.size
        have hown4 := hown2
        have hb6 := hb2
        generalize hw4 : W2 = w4 at *
        generalize wr.heap.size = B at b0 b1 b3 b4 hBl ⊢
        clear hx hown2 hb2 hw4 hbr a0 a1 a2 a3 a4
        go_wp2_with (at_builtin; refine wpList_append_own _ rfl _ _ 31 rfl w.heap.size 36 i0 (.int .u32 0) 1 4 Tryz.underlying31 hi hz0 hz1 hz2 rfl (by decide) _ _ _ rfl (hown4.alloc _) ⟨w4.heap.size, 0, none⟩ 1 1 [.int .u32 ((u : Nat) : Int)] rfl rfl (one_new w4 _ _) ?k2 ?k3 ?k4 ?k5 ?_)
        case k2 => simp [Value.oneCell']
        case k3 => unfold maxLen; omega
        case k4 => omega
        case k5 => have := hb6.size; simp; omega
        intro v2 w7 hown7 hgrow _
        have hb7 : Below w.heap.size w w7 := (hb6.alloc hb6.size _).grown hgrow (by have := hb6.size; simp; omega) (own_base (hown4.alloc (.cells #[.int .u32 ((u : Nat) : Int)] 36)))
        have HO8 := Lib.hid (show w7.ownsRow w.heap.size 36 1 v2 (i + 1) (uV (vals T env (i + 1))) by
          rw [HVS.out, uV_app, HV2.out]
          exact hown7)
        clear hown4 hown7 hgrow hb6
        go_wp2
        go_roundw
        case rel => exact ⟨i + 1, by omega, by go_num, HO8.out, hb7⟩
        case measure => simp [intOf]; omega
      have n33 := ho
      clear ho
      by_cases ho : x.op = 14
      · have hn : n' = 2 := by
          have := hF.len
          rw [← hI.1, show argN x.op = 2 from if_pos (by omega)] at this
          omega
        obtain ⟨p, hp, hpT, hpl, hpw, hpv⟩ := hF.arg 0 (by rw [← hI.1]; omega)
        obtain ⟨q, hq, hqT, hql, hqw, hqv⟩ := hF.arg 1 (by rw [← hI.1]; omega)
        have HV2 := Lib.hid (HV.out.trans (val1_cmp (T := T) (l := l) (env := env) ho hp hq))
        have hfit := hF.fit
        unfold fitB wOf at hfit
        rw [if_neg (by omega), if_pos ho, hp, hq, Int.toNat_natCast, Int.toNat_natCast, decide_eq_true_iff] at hfit
        rw [← hfit] at hqv
        have him := hF.imm
        unfold immB at him
        rw [if_neg (by omega), if_neg (by omega), if_pos ho, Bool.and_eq_true, decide_eq_true_iff, decide_eq_true_iff] at him
        have him0 := hF.imm0
        obtain ⟨v, hv⟩ : ∃ v : Nat, x.imm = v := ⟨x.imm.toNat, by omega⟩
        rw [hv] at HV2
        rw [← hL.1] at hpl hql
        rw [← HLEN.out] at hpT
        obtain ⟨bL, oL, rfl, hbL, hcp⟩ := hL.at_ hpl
        obtain ⟨bL', oL', e, -, hcq⟩ := hL.at_ hql
        injection e with e
        injection e with e e2 _
        subst e e2
        obtain ⟨bA, oA, rfl, hbA, ha0, ha1, -⟩ := hI.at0 (by omega)
        replace ha1 := ha1 (by omega)
        obtain ⟨bT', oT', A3, n3, c3, e, -, ⟨-, ht, -, -, -⟩, -⟩ := (H.out.below hb).at_ hpT
        injection e with e
        injection e with e e2 _
        subst e e2
        rw [hp] at ha0
        rw [hq] at ha1
        have hcapL := hL.2.1
        have hmaxL := hL.2.2.1
        have hcapI := hI.2.1
        have hmaxI := hI.2.2.1
        generalize l[p]! = a at HV2 hpv hcp
        generalize l[q]! = d at HV2 hqv hcq
        generalize (T[p]!).width = Wd at HV2 hpv hqv ht hpw
        have HC := Lib.hid (fun w1 => rCmp_any Wd a d w1 hpw.1 hpw.2 hpv hqv (v : Int) (by omega) (by omega))
        generalize cmpF (v : Int).toNat Wd.toNat a d = cb at HV2 HC
        have HWR := Lib.hid (show IntKind.i64.wrap (v : Int) = (v : Int) by rw [IntKind.wrap_i64]; omega)
        clear hF hI hL hfit hp hq hpw hqw hqT hpv hqv him him0 HV
        obtain ⟨op, wid, fl, args, imm⟩ := x
        simp only at a0 a1 a2 a3 a4 ho hv ⊢
        subst hn ho hv
        go_upto_region 6 with fail
        have hx := heap_alloc_new wr (.cells #[.int .i64 14, .int .i64 wid, .int .i64 fl, .slice (some ⟨bA, oA, none⟩) 2 c', .int .u32 (v : Int)] 38)
        have hb2 := hb.alloc hb.size (.cells #[.int .i64 14, .int .i64 wid, .int .i64 fl, .slice (some ⟨bA, oA, none⟩) 2 c', .int .u32 (v : Int)] 38)
        have hown2 := own_below hown ((Below.refl wr.heap.size wr).alloc (Nat.le_refl _) (.cells #[.int .i64 14, .int .i64 wid, .int .i64 fl, .slice (some ⟨bA, oA, none⟩) 2 c', .int .u32 (v : Int)] 38))
        have hbr : Below wr.heap.size wr (wr.alloc (.cells #[.int .i64 14, .int .i64 wid, .int .i64 fl, .slice (some ⟨bA, oA, none⟩) 2 c', .int .u32 (v : Int)] 38)) := (Below.refl _ _).alloc (Nat.le_refl _) _
        generalize World.alloc wr _ = W2 at hx hb2 hown2 hbr ⊢
        clear hown hb
        have HS := Lib.hid (show ∀ U, Below W2.heap.size W2 U → (U.cell? ⟨wr.heap.size, 0, none⟩ = some (.int .i64 14) ∧ U.cell? ⟨wr.heap.size, 3, none⟩ = some (.slice (some ⟨bA, oA, none⟩) 2 c') ∧ U.cell? ⟨wr.heap.size, 4, none⟩ = some (.int .u32 (v : Int))) ∧ (U.cell? ⟨bA, oA, none⟩ = some (.int .i64 (p : Int)) ∧ U.cell? ⟨bA, oA + 1, none⟩ = some (.int .i64 (q : Int))) ∧ (U.cell? ⟨bL, oL + p, none⟩ = some (.int .u32 (a : Int)) ∧ U.cell? ⟨bL, oL + q, none⟩ = some (.int .u32 (d : Int))) ∧ U.cell? ⟨b, off + p * 5 + 1, none⟩ = some (.int .i64 Wd) from fun U hU => by
          obtain ⟨d0, -, -, d3, d4⟩ := cells5 (x := ⟨14, wid, fl, args, (v : Int)⟩) ((hU.block _ (lt_of_block hx)).trans hx)
          have hbU := hbr.trans (hU.mono hbr.size)
          exact ⟨⟨d0, d3, d4⟩, ⟨(hbU.cell (p := ⟨bA, oA, none⟩) hbA).trans ha0, (hbU.cell (p := ⟨bA, oA + 1, none⟩) hbA).trans ha1⟩, ⟨(hbU.cell (p := ⟨bL, oL + p, none⟩) hbL).trans hcp, (hbU.cell (p := ⟨bL, oL + q, none⟩) hbL).trans hcq⟩, (hbU.cell (p := ⟨b, off + p * 5 + 1, none⟩) hbs).trans ht⟩)
        have hBl := lt_of_block hx
        obtain ⟨⟨b0, b3, b4⟩, -⟩ := HS.out W2 (Below.refl _ _)
        clear hx hbA ha0 ha1 hcp hcq hbL hbr ht hbs a0 a1 a2 a3 a4
        generalize wr.heap.size = B at HS b0 b3 b4 hBl ⊢
        cases cb
        · have HV3 := Lib.hid (HV2.out.trans (if_neg (by decide)))
          clear HV2
          go_upto_region 13 with fail
          refine wp_region_held_drew (S := (fun U => (U.cell? ⟨B, 0, none⟩ = some (.int .i64 14) ∧ U.cell? ⟨B, 3, none⟩ = some (.slice (some ⟨bA, oA, none⟩) 2 c') ∧ U.cell? ⟨B, 4, none⟩ = some (.int .u32 (v : Int))) ∧ (U.cell? ⟨bA, oA, none⟩ = some (.int .i64 (p : Int)) ∧ U.cell? ⟨bA, oA + 1, none⟩ = some (.int .i64 (q : Int))) ∧ (U.cell? ⟨bL, oL + p, none⟩ = some (.int .u32 (a : Int)) ∧ U.cell? ⟨bL, oL + q, none⟩ = some (.int .u32 (d : Int))) ∧ U.cell? ⟨b, off + p * 5 + 1, none⟩ = some (.int .i64 Wd))) (by kernel_rfl) ?_ (fun hHeld => ?_)
          · exact HS.out _ (by first | exact Below.refl _ _ | exact drewD (Below.refl _ _) | exact drewR (Below.refl _ _) | exact (drewD (Below.refl _ _)).trans hb3)
          refine wpAnyH_take (i := 0) (oi := ({ dst := some 63, op := Op.fieldAddr 38 (Operand.tmp 7) 4, type := 0, pos := "ref.go:144", after := #[], guard := none } : Oper)) (v := ?cf1_v0) rfl (by kernel_rfl) (by kernel_rfl) (by kernel_rfl) (fun _ _ _ h => h) (Or.inl ⟨by rfl, ?cf1_y0⟩) (by assumption) ?cf1_r0
          case cf1_y0 =>
            intro w hSw
            (try dsimp only at hSw)
            go_simp
            (try with_reducible rfl)
          try simp only [Act.put, List.setIfInBounds_toArray, List.set_cons_zero, List.set_cons_succ]
          refine wpAnyH_take (i := 1) (oi := ({ dst := some 64, op := Op.load 36 (Operand.tmp 63), type := 36, pos := "ref.go:144", after := #[{ on := 0, ground := Ground.data }], guard := none } : Oper)) (v := ?cf2_v1) rfl (by kernel_rfl) (by kernel_rfl) (by kernel_rfl) (fun _ _ _ h => h) (Or.inl ⟨by rfl, ?cf2_y1⟩) (by assumption) ?cf2_r1
          case cf2_y1 =>
            intro w hSw
            (try dsimp only at hSw)
            go_simp
            (try with_reducible rfl)
          try simp only [Act.put, List.setIfInBounds_toArray, List.set_cons_zero, List.set_cons_succ]
          refine wpAnyH_take (i := 2) (oi := ({ dst := some 65, op := Op.convert 36 3 (Operand.tmp 64), type := 3, pos := "ref.go:144", after := #[{ on := 1, ground := Ground.data }], guard := none } : Oper)) (v := ?cf3_v2) rfl (by kernel_rfl) (by kernel_rfl) (by kernel_rfl) (fun _ _ _ h => h) (Or.inl ⟨by rfl, ?cf3_y2⟩) (by assumption) ?cf3_r2
          case cf3_y2 =>
            intro w hSw
            (try dsimp only at hSw)
            go_simp
            (try with_reducible rfl)
          try simp only [Act.put, List.setIfInBounds_toArray, List.set_cons_zero, List.set_cons_succ]
          refine wpAnyH_take (i := 3) (oi := ({ dst := some 66, op := Op.move (Operand.tmp 0), type := 22, pos := "ref.go:144", after := #[], guard := none } : Oper)) (v := ?cf4_v3) rfl (by kernel_rfl) (by kernel_rfl) (by kernel_rfl) (fun _ _ _ h => h) (Or.inl ⟨by rfl, ?cf4_y3⟩) (by assumption) ?cf4_r3
          case cf4_y3 =>
            intro w hSw
            (try dsimp only at hSw)
            go_simp
            (try with_reducible rfl)
          try simp only [Act.put, List.setIfInBounds_toArray, List.set_cons_zero, List.set_cons_succ]
          refine wpAnyH_take (i := 4) (oi := ({ dst := some 67, op := Op.fieldAddr 38 (Operand.tmp 7) 3, type := 0, pos := "ref.go:144", after := #[], guard := none } : Oper)) (v := ?cf5_v4) rfl (by kernel_rfl) (by kernel_rfl) (by kernel_rfl) (fun _ _ _ h => h) (Or.inl ⟨by rfl, ?cf5_y4⟩) (by assumption) ?cf5_r4
          case cf5_y4 =>
            intro w hSw
            (try dsimp only at hSw)
            go_simp
            (try with_reducible rfl)
          try simp only [Act.put, List.setIfInBounds_toArray, List.set_cons_zero, List.set_cons_succ]
          refine wpAnyH_take (i := 5) (oi := ({ dst := some 68, op := Op.load 35 (Operand.tmp 67), type := 35, pos := "ref.go:144", after := #[{ on := 4, ground := Ground.data }], guard := none } : Oper)) (v := ?cf6_v5) rfl (by kernel_rfl) (by kernel_rfl) (by kernel_rfl) (fun _ _ _ h => h) (Or.inl ⟨by rfl, ?cf6_y5⟩) (by assumption) ?cf6_r5
          case cf6_y5 =>
            intro w hSw
            (try dsimp only at hSw)
            go_simp
            (try with_reducible rfl)
          try simp only [Act.put, List.setIfInBounds_toArray, List.set_cons_zero, List.set_cons_succ]
          refine wpAnyH_take (i := 6) (oi := ({ dst := some 69, op := Op.indexAddr 35 (Operand.tmp 68) (Operand.const (Value.int IntKind.i64 0)), type := 0, pos := "ref.go:144", after := #[{ on := 5, ground := Ground.data }], guard := none } : Oper)) (v := ?cf7_v6) rfl (by kernel_rfl) (by kernel_rfl) (by kernel_rfl) (fun _ _ _ h => h) (Or.inl ⟨by rfl, ?cf7_y6⟩) (by assumption) ?cf7_r6
          case cf7_y6 =>
            intro w hSw
            (try dsimp only at hSw)
            go_simp
            (try with_reducible rfl)
          try simp only [Act.put, List.setIfInBounds_toArray, List.set_cons_zero, List.set_cons_succ]
          refine wpAnyH_take (i := 7) (oi := ({ dst := some 70, op := Op.load 3 (Operand.tmp 69), type := 3, pos := "ref.go:144", after := #[{ on := 6, ground := Ground.data }], guard := none } : Oper)) (v := ?cf8_v7) rfl (by kernel_rfl) (by kernel_rfl) (by kernel_rfl) (fun _ _ _ h => h) (Or.inl ⟨by rfl, ?cf8_y7⟩) (by assumption) ?cf8_r7
          case cf8_y7 =>
            intro w hSw
            (try dsimp only at hSw)
            go_simp
            (try with_reducible rfl)
          try simp only [Act.put, List.setIfInBounds_toArray, List.set_cons_zero, List.set_cons_succ]
          refine wpAnyH_take (i := 8) (oi := ({ dst := some 71, op := Op.indexAddr 22 (Operand.tmp 66) (Operand.tmp 70), type := 0, pos := "ref.go:144", after := #[{ on := 3, ground := Ground.data }, { on := 7, ground := Ground.data }], guard := none } : Oper)) (v := ?cf9_v8) rfl (by kernel_rfl) (by kernel_rfl) (by kernel_rfl) (fun _ _ _ h => h) (Or.inl ⟨by rfl, ?cf9_y8⟩) (by assumption) ?cf9_r8
          case cf9_y8 =>
            intro w hSw
            (try dsimp only at hSw)
            go_simp
            (try with_reducible rfl)
          try simp only [Act.put, List.setIfInBounds_toArray, List.set_cons_zero, List.set_cons_succ]
          refine wpAnyH_take (i := 9) (oi := ({ dst := some 72, op := Op.fieldAddr 38 (Operand.tmp 71) 1, type := 0, pos := "ref.go:144", after := #[{ on := 8, ground := Ground.data }], guard := none } : Oper)) (v := ?cf10_v9) rfl (by kernel_rfl) (by kernel_rfl) (by kernel_rfl) (fun _ _ _ h => h) (Or.inl ⟨by rfl, ?cf10_y9⟩) (by assumption) ?cf10_r9
          case cf10_y9 =>
            intro w hSw
            (try dsimp only at hSw)
            go_simp
            (try with_reducible rfl)
          try simp only [Act.put, List.setIfInBounds_toArray, List.set_cons_zero, List.set_cons_succ]
          refine wpAnyH_take (i := 10) (oi := ({ dst := some 73, op := Op.load 3 (Operand.tmp 72), type := 3, pos := "ref.go:144", after := #[{ on := 9, ground := Ground.data }], guard := none } : Oper)) (v := ?cf11_v10) rfl (by kernel_rfl) (by kernel_rfl) (by kernel_rfl) (fun _ _ _ h => h) (Or.inl ⟨by rfl, ?cf11_y10⟩) (by assumption) ?cf11_r10
          case cf11_y10 =>
            intro w hSw
            (try dsimp only at hSw)
            go_simp
            (try with_reducible rfl)
          try simp only [Act.put, List.setIfInBounds_toArray, List.set_cons_zero, List.set_cons_succ]
          refine wpAnyH_take (i := 11) (oi := ({ dst := some 74, op := Op.move (Operand.tmp 5), type := 31, pos := "ref.go:144", after := #[], guard := none } : Oper)) (v := ?cf12_v11) rfl (by kernel_rfl) (by kernel_rfl) (by kernel_rfl) (fun _ _ _ h => h) (Or.inl ⟨by rfl, ?cf12_y11⟩) (by assumption) ?cf12_r11
          case cf12_y11 =>
            intro w hSw
            (try dsimp only at hSw)
            go_simp
            (try with_reducible rfl)
          try simp only [Act.put, List.setIfInBounds_toArray, List.set_cons_zero, List.set_cons_succ]
          refine wpAnyH_take (i := 12) (oi := ({ dst := some 75, op := Op.fieldAddr 38 (Operand.tmp 7) 3, type := 0, pos := "ref.go:144", after := #[], guard := none } : Oper)) (v := ?cf13_v12) rfl (by kernel_rfl) (by kernel_rfl) (by kernel_rfl) (fun _ _ _ h => h) (Or.inl ⟨by rfl, ?cf13_y12⟩) (by assumption) ?cf13_r12
          case cf13_y12 =>
            intro w hSw
            (try dsimp only at hSw)
            go_simp
            (try with_reducible rfl)
          try simp only [Act.put, List.setIfInBounds_toArray, List.set_cons_zero, List.set_cons_succ]
          refine wpAnyH_take (i := 13) (oi := ({ dst := some 76, op := Op.load 35 (Operand.tmp 75), type := 35, pos := "ref.go:144", after := #[{ on := 12, ground := Ground.data }], guard := none } : Oper)) (v := ?cf14_v13) rfl (by kernel_rfl) (by kernel_rfl) (by kernel_rfl) (fun _ _ _ h => h) (Or.inl ⟨by rfl, ?cf14_y13⟩) (by assumption) ?cf14_r13
          case cf14_y13 =>
            intro w hSw
            (try dsimp only at hSw)
            go_simp
            (try with_reducible rfl)
          try simp only [Act.put, List.setIfInBounds_toArray, List.set_cons_zero, List.set_cons_succ]
          refine wpAnyH_take (i := 14) (oi := ({ dst := some 77, op := Op.indexAddr 35 (Operand.tmp 76) (Operand.const (Value.int IntKind.i64 0)), type := 0, pos := "ref.go:144", after := #[{ on := 13, ground := Ground.data }], guard := none } : Oper)) (v := ?cf15_v14) rfl (by kernel_rfl) (by kernel_rfl) (by kernel_rfl) (fun _ _ _ h => h) (Or.inl ⟨by rfl, ?cf15_y14⟩) (by assumption) ?cf15_r14
          case cf15_y14 =>
            intro w hSw
            (try dsimp only at hSw)
            go_simp
            (try with_reducible rfl)
          try simp only [Act.put, List.setIfInBounds_toArray, List.set_cons_zero, List.set_cons_succ]
          refine wpAnyH_take (i := 15) (oi := ({ dst := some 78, op := Op.load 3 (Operand.tmp 77), type := 3, pos := "ref.go:144", after := #[{ on := 14, ground := Ground.data }], guard := none } : Oper)) (v := ?cf16_v15) rfl (by kernel_rfl) (by kernel_rfl) (by kernel_rfl) (fun _ _ _ h => h) (Or.inl ⟨by rfl, ?cf16_y15⟩) (by assumption) ?cf16_r15
          case cf16_y15 =>
            intro w hSw
            (try dsimp only at hSw)
            go_simp
            (try with_reducible rfl)
          try simp only [Act.put, List.setIfInBounds_toArray, List.set_cons_zero, List.set_cons_succ]
          refine wpAnyH_take (i := 16) (oi := ({ dst := some 79, op := Op.indexAddr 31 (Operand.tmp 74) (Operand.tmp 78), type := 0, pos := "ref.go:144", after := #[{ on := 11, ground := Ground.data }, { on := 15, ground := Ground.data }], guard := none } : Oper)) (v := ?cf17_v16) rfl (by kernel_rfl) (by kernel_rfl) (by kernel_rfl) (fun _ _ _ h => h) (Or.inl ⟨by rfl, ?cf17_y16⟩) (by assumption) ?cf17_r16
          case cf17_y16 =>
            intro w hSw
            (try dsimp only at hSw)
            go_simp
            (try with_reducible rfl)
          try simp only [Act.put, List.setIfInBounds_toArray, List.set_cons_zero, List.set_cons_succ]
          refine wpAnyH_take (i := 17) (oi := ({ dst := some 80, op := Op.load 36 (Operand.tmp 79), type := 36, pos := "ref.go:144", after := #[{ on := 16, ground := Ground.data }], guard := none } : Oper)) (v := ?cf18_v17) rfl (by kernel_rfl) (by kernel_rfl) (by kernel_rfl) (fun _ _ _ h => h) (Or.inl ⟨by rfl, ?cf18_y17⟩) (by assumption) ?cf18_r17
          case cf18_y17 =>
            intro w hSw
            (try dsimp only at hSw)
            go_simp
            (try with_reducible rfl)
          try simp only [Act.put, List.setIfInBounds_toArray, List.set_cons_zero, List.set_cons_succ]
          refine wpAnyH_take (i := 18) (oi := ({ dst := some 81, op := Op.move (Operand.tmp 5), type := 31, pos := "ref.go:144", after := #[], guard := none } : Oper)) (v := ?cf19_v18) rfl (by kernel_rfl) (by kernel_rfl) (by kernel_rfl) (fun _ _ _ h => h) (Or.inl ⟨by rfl, ?cf19_y18⟩) (by assumption) ?cf19_r18
          case cf19_y18 =>
            intro w hSw
            (try dsimp only at hSw)
            go_simp
            (try with_reducible rfl)
          try simp only [Act.put, List.setIfInBounds_toArray, List.set_cons_zero, List.set_cons_succ]
          refine wpAnyH_take (i := 19) (oi := ({ dst := some 82, op := Op.fieldAddr 38 (Operand.tmp 7) 3, type := 0, pos := "ref.go:144", after := #[], guard := none } : Oper)) (v := ?cf20_v19) rfl (by kernel_rfl) (by kernel_rfl) (by kernel_rfl) (fun _ _ _ h => h) (Or.inl ⟨by rfl, ?cf20_y19⟩) (by assumption) ?cf20_r19
          case cf20_y19 =>
            intro w hSw
            (try dsimp only at hSw)
            go_simp
            (try with_reducible rfl)
          try simp only [Act.put, List.setIfInBounds_toArray, List.set_cons_zero, List.set_cons_succ]
          refine wpAnyH_take (i := 20) (oi := ({ dst := some 83, op := Op.load 35 (Operand.tmp 82), type := 35, pos := "ref.go:144", after := #[{ on := 19, ground := Ground.data }], guard := none } : Oper)) (v := ?cf21_v20) rfl (by kernel_rfl) (by kernel_rfl) (by kernel_rfl) (fun _ _ _ h => h) (Or.inl ⟨by rfl, ?cf21_y20⟩) (by assumption) ?cf21_r20
          case cf21_y20 =>
            intro w hSw
            (try dsimp only at hSw)
            go_simp
            (try with_reducible rfl)
          try simp only [Act.put, List.setIfInBounds_toArray, List.set_cons_zero, List.set_cons_succ]
          refine wpAnyH_take (i := 21) (oi := ({ dst := some 84, op := Op.indexAddr 35 (Operand.tmp 83) (Operand.const (Value.int IntKind.i64 1)), type := 0, pos := "ref.go:144", after := #[{ on := 20, ground := Ground.data }], guard := none } : Oper)) (v := ?cf22_v21) rfl (by kernel_rfl) (by kernel_rfl) (by kernel_rfl) (fun _ _ _ h => h) (Or.inl ⟨by rfl, ?cf22_y21⟩) (by assumption) ?cf22_r21
          case cf22_y21 =>
            intro w hSw
            (try dsimp only at hSw)
            go_simp
            (try with_reducible rfl)
          try simp only [Act.put, List.setIfInBounds_toArray, List.set_cons_zero, List.set_cons_succ]
          refine wpAnyH_take (i := 22) (oi := ({ dst := some 85, op := Op.load 3 (Operand.tmp 84), type := 3, pos := "ref.go:144", after := #[{ on := 21, ground := Ground.data }], guard := none } : Oper)) (v := ?cf23_v22) rfl (by kernel_rfl) (by kernel_rfl) (by kernel_rfl) (fun _ _ _ h => h) (Or.inl ⟨by rfl, ?cf23_y22⟩) (by assumption) ?cf23_r22
          case cf23_y22 =>
            intro w hSw
            (try dsimp only at hSw)
            go_simp
            (try with_reducible rfl)
          try simp only [Act.put, List.setIfInBounds_toArray, List.set_cons_zero, List.set_cons_succ]
          refine wpAnyH_take (i := 23) (oi := ({ dst := some 86, op := Op.indexAddr 31 (Operand.tmp 81) (Operand.tmp 85), type := 0, pos := "ref.go:144", after := #[{ on := 18, ground := Ground.data }, { on := 22, ground := Ground.data }], guard := none } : Oper)) (v := ?cf24_v23) rfl (by kernel_rfl) (by kernel_rfl) (by kernel_rfl) (fun _ _ _ h => h) (Or.inl ⟨by rfl, ?cf24_y23⟩) (by assumption) ?cf24_r23
          case cf24_y23 =>
            intro w hSw
            (try dsimp only at hSw)
            go_simp
            (try with_reducible rfl)
          try simp only [Act.put, List.setIfInBounds_toArray, List.set_cons_zero, List.set_cons_succ]
          refine wpAnyH_take (i := 24) (oi := ({ dst := some 87, op := Op.load 36 (Operand.tmp 86), type := 36, pos := "ref.go:144", after := #[{ on := 23, ground := Ground.data }], guard := none } : Oper)) (v := ?cf25_v24) rfl (by kernel_rfl) (by kernel_rfl) (by kernel_rfl) (fun _ _ _ h => h) (Or.inl ⟨by rfl, ?cf25_y24⟩) (by assumption) ?cf25_r24
          case cf25_y24 =>
            intro w hSw
            (try dsimp only at hSw)
            go_simp
            (try with_reducible rfl)
          try simp only [Act.put, List.setIfInBounds_toArray, List.set_cons_zero, List.set_cons_succ]
          refine wpAnyH_ready (rs := [25]) (by kernel_rfl) (by simp) ?_
          refine AllReadyH.cons (o := ({ dst := some 88, op := Op.call { callee := Callee.value (Operand.func 69), args := #[Operand.tmp 65, Operand.tmp 73, Operand.tmp 80, Operand.tmp 87], argTypes := #[3, 3, 36, 36] }, type := 26, pos := "ref.go:144", after := #[{ on := 2, ground := Ground.data }, { on := 10, ground := Ground.data }, { on := 17, ground := Ground.data }, { on := 24, ground := Ground.data }], guard := none } : Oper)) rfl (fun K hKK => ?_) AllReadyH.nil
          go_simp
          rw [HWR.out]
          refine (HC.out _).mono ?_
          rintro e w3 ⟨rfl, rfl⟩
          refine hKK.out _ _ (HS.out _ (by first | exact Below.refl _ _ | exact drewD (Below.refl _ _) | exact drewR (Below.refl _ _) | exact (drewD (Below.refl _ _)).trans hb3)) (fun hS25_25 => ?_)
          try simp only [Act.put, List.setIfInBounds_toArray, List.set_cons_zero, List.set_cons_succ]
          refine wpAnyH_take (i := 26) (oi := ({ dst := some 62, op := Op.move (Operand.tmp 88), type := 26, pos := "ref.go:144", after := #[{ on := 25, ground := Ground.data }], guard := none } : Oper)) (v := ?cf26_v26) rfl (by kernel_rfl) (by kernel_rfl) (by kernel_rfl) (fun _ _ _ h => h) (Or.inl ⟨by rfl, ?cf26_y26⟩) (by assumption) ?cf26_r26
          case cf26_y26 =>
            intro w hSw
            (try dsimp only at hSw)
            go_simp
            (try with_reducible rfl)
          try simp only [Act.put, List.setIfInBounds_toArray, List.set_cons_zero, List.set_cons_succ]
          refine wpAnyH_take (i := 27) (oi := ({ dst := some 89, op := Op.extract (Operand.tmp 62) 0, type := 4, pos := "ref.go:144", after := #[{ on := 26, ground := Ground.data }], guard := none } : Oper)) (v := ?cf27_v27) rfl (by kernel_rfl) (by kernel_rfl) (by kernel_rfl) (fun _ _ _ h => h) (Or.inl ⟨by rfl, ?cf27_y27⟩) (by assumption) ?cf27_r27
          case cf27_y27 =>
            intro w hSw
            (try dsimp only at hSw)
            go_simp
            (try with_reducible rfl)
          try simp only [Act.put, List.setIfInBounds_toArray, List.set_cons_zero, List.set_cons_succ]
          refine wpAnyH_take (i := 28) (oi := ({ dst := some 90, op := Op.extract (Operand.tmp 62) 1, type := 25, pos := "ref.go:144", after := #[{ on := 26, ground := Ground.data }, { on := 29, ground := Ground.gcOnly Departure.lateStores }], guard := none } : Oper)) (v := ?cf28_v28) rfl (by kernel_rfl) (by kernel_rfl) (by kernel_rfl) (fun _ _ _ h => h) (Or.inl ⟨by rfl, ?cf28_y28⟩) (by assumption) ?cf28_r28
          case cf28_y28 =>
            intro w hSw
            (try dsimp only at hSw)
            go_simp
            (try with_reducible rfl)
          try simp only [Act.put, List.setIfInBounds_toArray, List.set_cons_zero, List.set_cons_succ]
          refine wpAnyH_take (i := 29) (oi := ({ dst := some 9, op := Op.assign (Operand.tmp 89), type := 4, pos := "ref.go:144", after := #[{ on := 27, ground := Ground.data }, { on := 25, ground := Ground.chain }, { on := 0, ground := Ground.phase }, { on := 1, ground := Ground.phase }, { on := 2, ground := Ground.phase }, { on := 3, ground := Ground.phase }, { on := 4, ground := Ground.phase }, { on := 5, ground := Ground.phase }, { on := 6, ground := Ground.phase }, { on := 7, ground := Ground.phase }, { on := 8, ground := Ground.phase }, { on := 9, ground := Ground.phase }, { on := 10, ground := Ground.phase }, { on := 11, ground := Ground.phase }, { on := 12, ground := Ground.phase }, { on := 13, ground := Ground.phase }, { on := 14, ground := Ground.phase }, { on := 15, ground := Ground.phase }, { on := 16, ground := Ground.phase }, { on := 17, ground := Ground.phase }, { on := 18, ground := Ground.phase }, { on := 19, ground := Ground.phase }, { on := 20, ground := Ground.phase }, { on := 21, ground := Ground.phase }, { on := 22, ground := Ground.phase }, { on := 23, ground := Ground.phase }, { on := 24, ground := Ground.phase }, { on := 25, ground := Ground.phase }, { on := 26, ground := Ground.phase }, { on := 27, ground := Ground.phase }, { on := 28, ground := Ground.textOnly Departure.lateStores }], guard := none } : Oper)) (v := ?cf29_v29) rfl (by kernel_rfl) (by kernel_rfl) (by kernel_rfl) (fun _ _ _ h => h) (Or.inl ⟨by rfl, ?cf29_y29⟩) (by assumption) ?cf29_r29
          case cf29_y29 =>
            intro w hSw
            (try dsimp only at hSw)
            go_simp
            (try with_reducible rfl)
          try simp only [Act.put, List.setIfInBounds_toArray, List.set_cons_zero, List.set_cons_succ]
          refine wpAnyH_take (i := 30) (oi := ({ dst := some 10, op := Op.assign (Operand.tmp 90), type := 25, pos := "ref.go:144", after := #[{ on := 28, ground := Ground.data }, { on := 29, ground := Ground.chain }, { on := 0, ground := Ground.phase }, { on := 1, ground := Ground.phase }, { on := 2, ground := Ground.phase }, { on := 3, ground := Ground.phase }, { on := 4, ground := Ground.phase }, { on := 5, ground := Ground.phase }, { on := 6, ground := Ground.phase }, { on := 7, ground := Ground.phase }, { on := 8, ground := Ground.phase }, { on := 9, ground := Ground.phase }, { on := 10, ground := Ground.phase }, { on := 11, ground := Ground.phase }, { on := 12, ground := Ground.phase }, { on := 13, ground := Ground.phase }, { on := 14, ground := Ground.phase }, { on := 15, ground := Ground.phase }, { on := 16, ground := Ground.phase }, { on := 17, ground := Ground.phase }, { on := 18, ground := Ground.phase }, { on := 19, ground := Ground.phase }, { on := 20, ground := Ground.phase }, { on := 21, ground := Ground.phase }, { on := 22, ground := Ground.phase }, { on := 23, ground := Ground.phase }, { on := 24, ground := Ground.phase }, { on := 25, ground := Ground.phase }, { on := 26, ground := Ground.phase }, { on := 27, ground := Ground.phase }, { on := 28, ground := Ground.phase }, { on := 29, ground := Ground.phase }], guard := none } : Oper)) (v := ?cf30_v30) rfl (by kernel_rfl) (by kernel_rfl) (by kernel_rfl) (fun _ _ _ h => h) (Or.inl ⟨by rfl, ?cf30_y30⟩) (by assumption) ?cf30_r30
          case cf30_y30 =>
            intro w hSw
            (try dsimp only at hSw)
            go_simp
            (try with_reducible rfl)
          try simp only [Act.put, List.setIfInBounds_toArray, List.set_cons_zero, List.set_cons_succ]
          refine wpAnyH_done (by kernel_rfl) ?_ _
          have hbX : Below W2.heap.size W2 W2.drew := drewD (Below.refl _ _)
          have hown4 := own_below hown2 hbX
          have hb6 := hb2.trans (hbX.mono hb2.size)
          clear hbX hown2 hb2 HS
          generalize W2.drew = w4 at hown4 hb6 ⊢
          clear b0 b3 b4 HC
          go_wp2_with (at_builtin; refine wpList_append_own _ rfl _ _ 31 rfl w.heap.size 36 i0 (.int .u32 0) 1 4 Tryz.underlying31 hi hz0 hz1 hz2 rfl (by decide) _ _ _ rfl (hown4.alloc _) ⟨w4.heap.size, 0, none⟩ 1 1 [.int .u32 0] rfl rfl (one_new w4 _ _) ?k2 ?k3 ?k4 ?k5 ?_)
          case k2 => simp [Value.oneCell']
          case k3 => unfold maxLen; omega
          case k4 => omega
          case k5 => have := hb6.size; simp; omega
          intro v2 w7 hown7 hgrow _
          have hb7 : Below w.heap.size w w7 := (hb6.alloc hb6.size _).grown hgrow (by have := hb6.size; simp; omega) (own_base (hown4.alloc (.cells #[.int .u32 0] 36)))
          have HO8 := Lib.hid (show w7.ownsRow w.heap.size 36 1 v2 (i + 1) (uV (vals T env (i + 1))) by
            rw [HVS.out, uV_app, HV3.out]
            exact hown7)
          clear hown4 hown7 hgrow hb6
          go_wp2
          go_roundw
          case rel => exact ⟨i + 1, by omega, by go_num, HO8.out, hb7⟩
          case measure => simp [intOf]; omega
        · have HV3 := Lib.hid (HV2.out.trans (if_pos rfl))
          clear HV2
          go_upto_region 13 with fail
          refine wp_region_held_drew (S := (fun U => (U.cell? ⟨B, 0, none⟩ = some (.int .i64 14) ∧ U.cell? ⟨B, 3, none⟩ = some (.slice (some ⟨bA, oA, none⟩) 2 c') ∧ U.cell? ⟨B, 4, none⟩ = some (.int .u32 (v : Int))) ∧ (U.cell? ⟨bA, oA, none⟩ = some (.int .i64 (p : Int)) ∧ U.cell? ⟨bA, oA + 1, none⟩ = some (.int .i64 (q : Int))) ∧ (U.cell? ⟨bL, oL + p, none⟩ = some (.int .u32 (a : Int)) ∧ U.cell? ⟨bL, oL + q, none⟩ = some (.int .u32 (d : Int))) ∧ U.cell? ⟨b, off + p * 5 + 1, none⟩ = some (.int .i64 Wd))) (by kernel_rfl) ?_ (fun hHeld => ?_)
          · exact HS.out _ (by first | exact Below.refl _ _ | exact drewD (Below.refl _ _) | exact drewR (Below.refl _ _) | exact (drewD (Below.refl _ _)).trans hb3)
          refine wpAnyH_take (i := 0) (oi := ({ dst := some 63, op := Op.fieldAddr 38 (Operand.tmp 7) 4, type := 0, pos := "ref.go:144", after := #[], guard := none } : Oper)) (v := ?ct1_v0) rfl (by kernel_rfl) (by kernel_rfl) (by kernel_rfl) (fun _ _ _ h => h) (Or.inl ⟨by rfl, ?ct1_y0⟩) (by assumption) ?ct1_r0
          case ct1_y0 =>
            intro w hSw
            (try dsimp only at hSw)
            go_simp
            (try with_reducible rfl)
          try simp only [Act.put, List.setIfInBounds_toArray, List.set_cons_zero, List.set_cons_succ]
          refine wpAnyH_take (i := 1) (oi := ({ dst := some 64, op := Op.load 36 (Operand.tmp 63), type := 36, pos := "ref.go:144", after := #[{ on := 0, ground := Ground.data }], guard := none } : Oper)) (v := ?ct2_v1) rfl (by kernel_rfl) (by kernel_rfl) (by kernel_rfl) (fun _ _ _ h => h) (Or.inl ⟨by rfl, ?ct2_y1⟩) (by assumption) ?ct2_r1
          case ct2_y1 =>
            intro w hSw
            (try dsimp only at hSw)
            go_simp
            (try with_reducible rfl)
          try simp only [Act.put, List.setIfInBounds_toArray, List.set_cons_zero, List.set_cons_succ]
          refine wpAnyH_take (i := 2) (oi := ({ dst := some 65, op := Op.convert 36 3 (Operand.tmp 64), type := 3, pos := "ref.go:144", after := #[{ on := 1, ground := Ground.data }], guard := none } : Oper)) (v := ?ct3_v2) rfl (by kernel_rfl) (by kernel_rfl) (by kernel_rfl) (fun _ _ _ h => h) (Or.inl ⟨by rfl, ?ct3_y2⟩) (by assumption) ?ct3_r2
          case ct3_y2 =>
            intro w hSw
            (try dsimp only at hSw)
            go_simp
            (try with_reducible rfl)
          try simp only [Act.put, List.setIfInBounds_toArray, List.set_cons_zero, List.set_cons_succ]
          refine wpAnyH_take (i := 3) (oi := ({ dst := some 66, op := Op.move (Operand.tmp 0), type := 22, pos := "ref.go:144", after := #[], guard := none } : Oper)) (v := ?ct4_v3) rfl (by kernel_rfl) (by kernel_rfl) (by kernel_rfl) (fun _ _ _ h => h) (Or.inl ⟨by rfl, ?ct4_y3⟩) (by assumption) ?ct4_r3
          case ct4_y3 =>
            intro w hSw
            (try dsimp only at hSw)
            go_simp
            (try with_reducible rfl)
          try simp only [Act.put, List.setIfInBounds_toArray, List.set_cons_zero, List.set_cons_succ]
          refine wpAnyH_take (i := 4) (oi := ({ dst := some 67, op := Op.fieldAddr 38 (Operand.tmp 7) 3, type := 0, pos := "ref.go:144", after := #[], guard := none } : Oper)) (v := ?ct5_v4) rfl (by kernel_rfl) (by kernel_rfl) (by kernel_rfl) (fun _ _ _ h => h) (Or.inl ⟨by rfl, ?ct5_y4⟩) (by assumption) ?ct5_r4
          case ct5_y4 =>
            intro w hSw
            (try dsimp only at hSw)
            go_simp
            (try with_reducible rfl)
          try simp only [Act.put, List.setIfInBounds_toArray, List.set_cons_zero, List.set_cons_succ]
          refine wpAnyH_take (i := 5) (oi := ({ dst := some 68, op := Op.load 35 (Operand.tmp 67), type := 35, pos := "ref.go:144", after := #[{ on := 4, ground := Ground.data }], guard := none } : Oper)) (v := ?ct6_v5) rfl (by kernel_rfl) (by kernel_rfl) (by kernel_rfl) (fun _ _ _ h => h) (Or.inl ⟨by rfl, ?ct6_y5⟩) (by assumption) ?ct6_r5
          case ct6_y5 =>
            intro w hSw
            (try dsimp only at hSw)
            go_simp
            (try with_reducible rfl)
          try simp only [Act.put, List.setIfInBounds_toArray, List.set_cons_zero, List.set_cons_succ]
          refine wpAnyH_take (i := 6) (oi := ({ dst := some 69, op := Op.indexAddr 35 (Operand.tmp 68) (Operand.const (Value.int IntKind.i64 0)), type := 0, pos := "ref.go:144", after := #[{ on := 5, ground := Ground.data }], guard := none } : Oper)) (v := ?ct7_v6) rfl (by kernel_rfl) (by kernel_rfl) (by kernel_rfl) (fun _ _ _ h => h) (Or.inl ⟨by rfl, ?ct7_y6⟩) (by assumption) ?ct7_r6
          case ct7_y6 =>
            intro w hSw
            (try dsimp only at hSw)
            go_simp
            (try with_reducible rfl)
          try simp only [Act.put, List.setIfInBounds_toArray, List.set_cons_zero, List.set_cons_succ]
          refine wpAnyH_take (i := 7) (oi := ({ dst := some 70, op := Op.load 3 (Operand.tmp 69), type := 3, pos := "ref.go:144", after := #[{ on := 6, ground := Ground.data }], guard := none } : Oper)) (v := ?ct8_v7) rfl (by kernel_rfl) (by kernel_rfl) (by kernel_rfl) (fun _ _ _ h => h) (Or.inl ⟨by rfl, ?ct8_y7⟩) (by assumption) ?ct8_r7
          case ct8_y7 =>
            intro w hSw
            (try dsimp only at hSw)
            go_simp
            (try with_reducible rfl)
          try simp only [Act.put, List.setIfInBounds_toArray, List.set_cons_zero, List.set_cons_succ]
          refine wpAnyH_take (i := 8) (oi := ({ dst := some 71, op := Op.indexAddr 22 (Operand.tmp 66) (Operand.tmp 70), type := 0, pos := "ref.go:144", after := #[{ on := 3, ground := Ground.data }, { on := 7, ground := Ground.data }], guard := none } : Oper)) (v := ?ct9_v8) rfl (by kernel_rfl) (by kernel_rfl) (by kernel_rfl) (fun _ _ _ h => h) (Or.inl ⟨by rfl, ?ct9_y8⟩) (by assumption) ?ct9_r8
          case ct9_y8 =>
            intro w hSw
            (try dsimp only at hSw)
            go_simp
            (try with_reducible rfl)
          try simp only [Act.put, List.setIfInBounds_toArray, List.set_cons_zero, List.set_cons_succ]
          refine wpAnyH_take (i := 9) (oi := ({ dst := some 72, op := Op.fieldAddr 38 (Operand.tmp 71) 1, type := 0, pos := "ref.go:144", after := #[{ on := 8, ground := Ground.data }], guard := none } : Oper)) (v := ?ct10_v9) rfl (by kernel_rfl) (by kernel_rfl) (by kernel_rfl) (fun _ _ _ h => h) (Or.inl ⟨by rfl, ?ct10_y9⟩) (by assumption) ?ct10_r9
          case ct10_y9 =>
            intro w hSw
            (try dsimp only at hSw)
            go_simp
            (try with_reducible rfl)
          try simp only [Act.put, List.setIfInBounds_toArray, List.set_cons_zero, List.set_cons_succ]
          refine wpAnyH_take (i := 10) (oi := ({ dst := some 73, op := Op.load 3 (Operand.tmp 72), type := 3, pos := "ref.go:144", after := #[{ on := 9, ground := Ground.data }], guard := none } : Oper)) (v := ?ct11_v10) rfl (by kernel_rfl) (by kernel_rfl) (by kernel_rfl) (fun _ _ _ h => h) (Or.inl ⟨by rfl, ?ct11_y10⟩) (by assumption) ?ct11_r10
          case ct11_y10 =>
            intro w hSw
            (try dsimp only at hSw)
            go_simp
            (try with_reducible rfl)
          try simp only [Act.put, List.setIfInBounds_toArray, List.set_cons_zero, List.set_cons_succ]
          refine wpAnyH_take (i := 11) (oi := ({ dst := some 74, op := Op.move (Operand.tmp 5), type := 31, pos := "ref.go:144", after := #[], guard := none } : Oper)) (v := ?ct12_v11) rfl (by kernel_rfl) (by kernel_rfl) (by kernel_rfl) (fun _ _ _ h => h) (Or.inl ⟨by rfl, ?ct12_y11⟩) (by assumption) ?ct12_r11
          case ct12_y11 =>
            intro w hSw
            (try dsimp only at hSw)
            go_simp
            (try with_reducible rfl)
          try simp only [Act.put, List.setIfInBounds_toArray, List.set_cons_zero, List.set_cons_succ]
          refine wpAnyH_take (i := 12) (oi := ({ dst := some 75, op := Op.fieldAddr 38 (Operand.tmp 7) 3, type := 0, pos := "ref.go:144", after := #[], guard := none } : Oper)) (v := ?ct13_v12) rfl (by kernel_rfl) (by kernel_rfl) (by kernel_rfl) (fun _ _ _ h => h) (Or.inl ⟨by rfl, ?ct13_y12⟩) (by assumption) ?ct13_r12
          case ct13_y12 =>
            intro w hSw
            (try dsimp only at hSw)
            go_simp
            (try with_reducible rfl)
          try simp only [Act.put, List.setIfInBounds_toArray, List.set_cons_zero, List.set_cons_succ]
          refine wpAnyH_take (i := 13) (oi := ({ dst := some 76, op := Op.load 35 (Operand.tmp 75), type := 35, pos := "ref.go:144", after := #[{ on := 12, ground := Ground.data }], guard := none } : Oper)) (v := ?ct14_v13) rfl (by kernel_rfl) (by kernel_rfl) (by kernel_rfl) (fun _ _ _ h => h) (Or.inl ⟨by rfl, ?ct14_y13⟩) (by assumption) ?ct14_r13
          case ct14_y13 =>
            intro w hSw
            (try dsimp only at hSw)
            go_simp
            (try with_reducible rfl)
          try simp only [Act.put, List.setIfInBounds_toArray, List.set_cons_zero, List.set_cons_succ]
          refine wpAnyH_take (i := 14) (oi := ({ dst := some 77, op := Op.indexAddr 35 (Operand.tmp 76) (Operand.const (Value.int IntKind.i64 0)), type := 0, pos := "ref.go:144", after := #[{ on := 13, ground := Ground.data }], guard := none } : Oper)) (v := ?ct15_v14) rfl (by kernel_rfl) (by kernel_rfl) (by kernel_rfl) (fun _ _ _ h => h) (Or.inl ⟨by rfl, ?ct15_y14⟩) (by assumption) ?ct15_r14
          case ct15_y14 =>
            intro w hSw
            (try dsimp only at hSw)
            go_simp
            (try with_reducible rfl)
          try simp only [Act.put, List.setIfInBounds_toArray, List.set_cons_zero, List.set_cons_succ]
          refine wpAnyH_take (i := 15) (oi := ({ dst := some 78, op := Op.load 3 (Operand.tmp 77), type := 3, pos := "ref.go:144", after := #[{ on := 14, ground := Ground.data }], guard := none } : Oper)) (v := ?ct16_v15) rfl (by kernel_rfl) (by kernel_rfl) (by kernel_rfl) (fun _ _ _ h => h) (Or.inl ⟨by rfl, ?ct16_y15⟩) (by assumption) ?ct16_r15
          case ct16_y15 =>
            intro w hSw
            (try dsimp only at hSw)
            go_simp
            (try with_reducible rfl)
          try simp only [Act.put, List.setIfInBounds_toArray, List.set_cons_zero, List.set_cons_succ]
          refine wpAnyH_take (i := 16) (oi := ({ dst := some 79, op := Op.indexAddr 31 (Operand.tmp 74) (Operand.tmp 78), type := 0, pos := "ref.go:144", after := #[{ on := 11, ground := Ground.data }, { on := 15, ground := Ground.data }], guard := none } : Oper)) (v := ?ct17_v16) rfl (by kernel_rfl) (by kernel_rfl) (by kernel_rfl) (fun _ _ _ h => h) (Or.inl ⟨by rfl, ?ct17_y16⟩) (by assumption) ?ct17_r16
          case ct17_y16 =>
            intro w hSw
            (try dsimp only at hSw)
            go_simp
            (try with_reducible rfl)
          try simp only [Act.put, List.setIfInBounds_toArray, List.set_cons_zero, List.set_cons_succ]
          refine wpAnyH_take (i := 17) (oi := ({ dst := some 80, op := Op.load 36 (Operand.tmp 79), type := 36, pos := "ref.go:144", after := #[{ on := 16, ground := Ground.data }], guard := none } : Oper)) (v := ?ct18_v17) rfl (by kernel_rfl) (by kernel_rfl) (by kernel_rfl) (fun _ _ _ h => h) (Or.inl ⟨by rfl, ?ct18_y17⟩) (by assumption) ?ct18_r17
          case ct18_y17 =>
            intro w hSw
            (try dsimp only at hSw)
            go_simp
            (try with_reducible rfl)
          try simp only [Act.put, List.setIfInBounds_toArray, List.set_cons_zero, List.set_cons_succ]
          refine wpAnyH_take (i := 18) (oi := ({ dst := some 81, op := Op.move (Operand.tmp 5), type := 31, pos := "ref.go:144", after := #[], guard := none } : Oper)) (v := ?ct19_v18) rfl (by kernel_rfl) (by kernel_rfl) (by kernel_rfl) (fun _ _ _ h => h) (Or.inl ⟨by rfl, ?ct19_y18⟩) (by assumption) ?ct19_r18
          case ct19_y18 =>
            intro w hSw
            (try dsimp only at hSw)
            go_simp
            (try with_reducible rfl)
          try simp only [Act.put, List.setIfInBounds_toArray, List.set_cons_zero, List.set_cons_succ]
          refine wpAnyH_take (i := 19) (oi := ({ dst := some 82, op := Op.fieldAddr 38 (Operand.tmp 7) 3, type := 0, pos := "ref.go:144", after := #[], guard := none } : Oper)) (v := ?ct20_v19) rfl (by kernel_rfl) (by kernel_rfl) (by kernel_rfl) (fun _ _ _ h => h) (Or.inl ⟨by rfl, ?ct20_y19⟩) (by assumption) ?ct20_r19
          case ct20_y19 =>
            intro w hSw
            (try dsimp only at hSw)
            go_simp
            (try with_reducible rfl)
          try simp only [Act.put, List.setIfInBounds_toArray, List.set_cons_zero, List.set_cons_succ]
          refine wpAnyH_take (i := 20) (oi := ({ dst := some 83, op := Op.load 35 (Operand.tmp 82), type := 35, pos := "ref.go:144", after := #[{ on := 19, ground := Ground.data }], guard := none } : Oper)) (v := ?ct21_v20) rfl (by kernel_rfl) (by kernel_rfl) (by kernel_rfl) (fun _ _ _ h => h) (Or.inl ⟨by rfl, ?ct21_y20⟩) (by assumption) ?ct21_r20
          case ct21_y20 =>
            intro w hSw
            (try dsimp only at hSw)
            go_simp
            (try with_reducible rfl)
          try simp only [Act.put, List.setIfInBounds_toArray, List.set_cons_zero, List.set_cons_succ]
          refine wpAnyH_take (i := 21) (oi := ({ dst := some 84, op := Op.indexAddr 35 (Operand.tmp 83) (Operand.const (Value.int IntKind.i64 1)), type := 0, pos := "ref.go:144", after := #[{ on := 20, ground := Ground.data }], guard := none } : Oper)) (v := ?ct22_v21) rfl (by kernel_rfl) (by kernel_rfl) (by kernel_rfl) (fun _ _ _ h => h) (Or.inl ⟨by rfl, ?ct22_y21⟩) (by assumption) ?ct22_r21
          case ct22_y21 =>
            intro w hSw
            (try dsimp only at hSw)
            go_simp
            (try with_reducible rfl)
          try simp only [Act.put, List.setIfInBounds_toArray, List.set_cons_zero, List.set_cons_succ]
          refine wpAnyH_take (i := 22) (oi := ({ dst := some 85, op := Op.load 3 (Operand.tmp 84), type := 3, pos := "ref.go:144", after := #[{ on := 21, ground := Ground.data }], guard := none } : Oper)) (v := ?ct23_v22) rfl (by kernel_rfl) (by kernel_rfl) (by kernel_rfl) (fun _ _ _ h => h) (Or.inl ⟨by rfl, ?ct23_y22⟩) (by assumption) ?ct23_r22
          case ct23_y22 =>
            intro w hSw
            (try dsimp only at hSw)
            go_simp
            (try with_reducible rfl)
          try simp only [Act.put, List.setIfInBounds_toArray, List.set_cons_zero, List.set_cons_succ]
          refine wpAnyH_take (i := 23) (oi := ({ dst := some 86, op := Op.indexAddr 31 (Operand.tmp 81) (Operand.tmp 85), type := 0, pos := "ref.go:144", after := #[{ on := 18, ground := Ground.data }, { on := 22, ground := Ground.data }], guard := none } : Oper)) (v := ?ct24_v23) rfl (by kernel_rfl) (by kernel_rfl) (by kernel_rfl) (fun _ _ _ h => h) (Or.inl ⟨by rfl, ?ct24_y23⟩) (by assumption) ?ct24_r23
          case ct24_y23 =>
            intro w hSw
            (try dsimp only at hSw)
            go_simp
            (try with_reducible rfl)
          try simp only [Act.put, List.setIfInBounds_toArray, List.set_cons_zero, List.set_cons_succ]
          refine wpAnyH_take (i := 24) (oi := ({ dst := some 87, op := Op.load 36 (Operand.tmp 86), type := 36, pos := "ref.go:144", after := #[{ on := 23, ground := Ground.data }], guard := none } : Oper)) (v := ?ct25_v24) rfl (by kernel_rfl) (by kernel_rfl) (by kernel_rfl) (fun _ _ _ h => h) (Or.inl ⟨by rfl, ?ct25_y24⟩) (by assumption) ?ct25_r24
          case ct25_y24 =>
            intro w hSw
            (try dsimp only at hSw)
            go_simp
            (try with_reducible rfl)
          try simp only [Act.put, List.setIfInBounds_toArray, List.set_cons_zero, List.set_cons_succ]
          refine wpAnyH_ready (rs := [25]) (by kernel_rfl) (by simp) ?_
          refine AllReadyH.cons (o := ({ dst := some 88, op := Op.call { callee := Callee.value (Operand.func 69), args := #[Operand.tmp 65, Operand.tmp 73, Operand.tmp 80, Operand.tmp 87], argTypes := #[3, 3, 36, 36] }, type := 26, pos := "ref.go:144", after := #[{ on := 2, ground := Ground.data }, { on := 10, ground := Ground.data }, { on := 17, ground := Ground.data }, { on := 24, ground := Ground.data }], guard := none } : Oper)) rfl (fun K hKK => ?_) AllReadyH.nil
          go_simp
          rw [HWR.out]
          refine (HC.out _).mono ?_
          rintro e w3 ⟨rfl, rfl⟩
          refine hKK.out _ _ (HS.out _ (by first | exact Below.refl _ _ | exact drewD (Below.refl _ _) | exact drewR (Below.refl _ _) | exact (drewD (Below.refl _ _)).trans hb3)) (fun hS25_25 => ?_)
          try simp only [Act.put, List.setIfInBounds_toArray, List.set_cons_zero, List.set_cons_succ]
          refine wpAnyH_take (i := 26) (oi := ({ dst := some 62, op := Op.move (Operand.tmp 88), type := 26, pos := "ref.go:144", after := #[{ on := 25, ground := Ground.data }], guard := none } : Oper)) (v := ?ct26_v26) rfl (by kernel_rfl) (by kernel_rfl) (by kernel_rfl) (fun _ _ _ h => h) (Or.inl ⟨by rfl, ?ct26_y26⟩) (by assumption) ?ct26_r26
          case ct26_y26 =>
            intro w hSw
            (try dsimp only at hSw)
            go_simp
            (try with_reducible rfl)
          try simp only [Act.put, List.setIfInBounds_toArray, List.set_cons_zero, List.set_cons_succ]
          refine wpAnyH_take (i := 27) (oi := ({ dst := some 89, op := Op.extract (Operand.tmp 62) 0, type := 4, pos := "ref.go:144", after := #[{ on := 26, ground := Ground.data }], guard := none } : Oper)) (v := ?ct27_v27) rfl (by kernel_rfl) (by kernel_rfl) (by kernel_rfl) (fun _ _ _ h => h) (Or.inl ⟨by rfl, ?ct27_y27⟩) (by assumption) ?ct27_r27
          case ct27_y27 =>
            intro w hSw
            (try dsimp only at hSw)
            go_simp
            (try with_reducible rfl)
          try simp only [Act.put, List.setIfInBounds_toArray, List.set_cons_zero, List.set_cons_succ]
          refine wpAnyH_take (i := 28) (oi := ({ dst := some 90, op := Op.extract (Operand.tmp 62) 1, type := 25, pos := "ref.go:144", after := #[{ on := 26, ground := Ground.data }, { on := 29, ground := Ground.gcOnly Departure.lateStores }], guard := none } : Oper)) (v := ?ct28_v28) rfl (by kernel_rfl) (by kernel_rfl) (by kernel_rfl) (fun _ _ _ h => h) (Or.inl ⟨by rfl, ?ct28_y28⟩) (by assumption) ?ct28_r28
          case ct28_y28 =>
            intro w hSw
            (try dsimp only at hSw)
            go_simp
            (try with_reducible rfl)
          try simp only [Act.put, List.setIfInBounds_toArray, List.set_cons_zero, List.set_cons_succ]
          refine wpAnyH_take (i := 29) (oi := ({ dst := some 9, op := Op.assign (Operand.tmp 89), type := 4, pos := "ref.go:144", after := #[{ on := 27, ground := Ground.data }, { on := 25, ground := Ground.chain }, { on := 0, ground := Ground.phase }, { on := 1, ground := Ground.phase }, { on := 2, ground := Ground.phase }, { on := 3, ground := Ground.phase }, { on := 4, ground := Ground.phase }, { on := 5, ground := Ground.phase }, { on := 6, ground := Ground.phase }, { on := 7, ground := Ground.phase }, { on := 8, ground := Ground.phase }, { on := 9, ground := Ground.phase }, { on := 10, ground := Ground.phase }, { on := 11, ground := Ground.phase }, { on := 12, ground := Ground.phase }, { on := 13, ground := Ground.phase }, { on := 14, ground := Ground.phase }, { on := 15, ground := Ground.phase }, { on := 16, ground := Ground.phase }, { on := 17, ground := Ground.phase }, { on := 18, ground := Ground.phase }, { on := 19, ground := Ground.phase }, { on := 20, ground := Ground.phase }, { on := 21, ground := Ground.phase }, { on := 22, ground := Ground.phase }, { on := 23, ground := Ground.phase }, { on := 24, ground := Ground.phase }, { on := 25, ground := Ground.phase }, { on := 26, ground := Ground.phase }, { on := 27, ground := Ground.phase }, { on := 28, ground := Ground.textOnly Departure.lateStores }], guard := none } : Oper)) (v := ?ct29_v29) rfl (by kernel_rfl) (by kernel_rfl) (by kernel_rfl) (fun _ _ _ h => h) (Or.inl ⟨by rfl, ?ct29_y29⟩) (by assumption) ?ct29_r29
          case ct29_y29 =>
            intro w hSw
            (try dsimp only at hSw)
            go_simp
            (try with_reducible rfl)
          try simp only [Act.put, List.setIfInBounds_toArray, List.set_cons_zero, List.set_cons_succ]
          refine wpAnyH_take (i := 30) (oi := ({ dst := some 10, op := Op.assign (Operand.tmp 90), type := 25, pos := "ref.go:144", after := #[{ on := 28, ground := Ground.data }, { on := 29, ground := Ground.chain }, { on := 0, ground := Ground.phase }, { on := 1, ground := Ground.phase }, { on := 2, ground := Ground.phase }, { on := 3, ground := Ground.phase }, { on := 4, ground := Ground.phase }, { on := 5, ground := Ground.phase }, { on := 6, ground := Ground.phase }, { on := 7, ground := Ground.phase }, { on := 8, ground := Ground.phase }, { on := 9, ground := Ground.phase }, { on := 10, ground := Ground.phase }, { on := 11, ground := Ground.phase }, { on := 12, ground := Ground.phase }, { on := 13, ground := Ground.phase }, { on := 14, ground := Ground.phase }, { on := 15, ground := Ground.phase }, { on := 16, ground := Ground.phase }, { on := 17, ground := Ground.phase }, { on := 18, ground := Ground.phase }, { on := 19, ground := Ground.phase }, { on := 20, ground := Ground.phase }, { on := 21, ground := Ground.phase }, { on := 22, ground := Ground.phase }, { on := 23, ground := Ground.phase }, { on := 24, ground := Ground.phase }, { on := 25, ground := Ground.phase }, { on := 26, ground := Ground.phase }, { on := 27, ground := Ground.phase }, { on := 28, ground := Ground.phase }, { on := 29, ground := Ground.phase }], guard := none } : Oper)) (v := ?ct30_v30) rfl (by kernel_rfl) (by kernel_rfl) (by kernel_rfl) (fun _ _ _ h => h) (Or.inl ⟨by rfl, ?ct30_y30⟩) (by assumption) ?ct30_r30
          case ct30_y30 =>
            intro w hSw
            (try dsimp only at hSw)
            go_simp
            (try with_reducible rfl)
          try simp only [Act.put, List.setIfInBounds_toArray, List.set_cons_zero, List.set_cons_succ]
          refine wpAnyH_done (by kernel_rfl) ?_ _
          have hbX : Below W2.heap.size W2 W2.drew := drewD (Below.refl _ _)
          have hown4 := own_below hown2 hbX
          have hb6 := hb2.trans (hbX.mono hb2.size)
          clear hbX hown2 hb2 HS
          generalize W2.drew = w4 at hown4 hb6 ⊢
          clear b0 b3 b4 HC
          go_wp2_with (at_builtin; refine wpList_append_own _ rfl _ _ 31 rfl w.heap.size 36 i0 (.int .u32 0) 1 4 Tryz.underlying31 hi hz0 hz1 hz2 rfl (by decide) _ _ _ rfl (hown4.alloc _) ⟨w4.heap.size, 0, none⟩ 1 1 [.int .u32 1] rfl rfl (one_new w4 _ _) ?k2 ?k3 ?k4 ?k5 ?_)
          case k2 => simp [Value.oneCell']
          case k3 => unfold maxLen; omega
          case k4 => omega
          case k5 => have := hb6.size; simp; omega
          intro v2 w7 hown7 hgrow _
          have hb7 : Below w.heap.size w w7 := (hb6.alloc hb6.size _).grown hgrow (by have := hb6.size; simp; omega) (own_base (hown4.alloc (.cells #[.int .u32 1] 36)))
          have HO8 := Lib.hid (show w7.ownsRow w.heap.size 36 1 v2 (i + 1) (uV (vals T env (i + 1))) by
            rw [HVS.out, uV_app, HV3.out]
            exact hown7)
          clear hown4 hown7 hgrow hb6
          go_wp2
          go_roundw
          case rel => exact ⟨i + 1, by omega, by go_num, HO8.out, hb7⟩
          case measure => simp [intOf]; omega
      have n14 := ho
      clear ho
      by_cases ho : x.op = 15
      · have hn : n' = 3 := by
          have := hF.len
          rw [← hI.1, ho] at this
          have e : argN 15 = 3 := rfl
          omega
        obtain ⟨p, hp, hpT, hpl, hpw, hpv⟩ := hF.arg 0 (by rw [← hI.1]; omega)
        obtain ⟨q, hq, hqT, hql, hqw, hqv⟩ := hF.arg 1 (by rw [← hI.1]; omega)
        obtain ⟨r, hr, hrT, hrl, hrw, hrv⟩ := hF.arg 2 (by rw [← hI.1]; omega)
        have HV2 := Lib.hid (HV.out.trans (val1_sel (T := T) (l := l) (env := env) ho hp hq hr))
        have hfit := hF.fit
        unfold fitB wOf at hfit
        rw [if_neg (by omega), if_neg (by omega), if_pos ho, hp, Int.toNat_natCast, Bool.and_eq_true, decide_eq_true_iff] at hfit
        rw [hfit.1] at hpv
        have ha1' : l[p]! < 2 := hpv
        rw [← hL.1] at hpl hql hrl
        obtain ⟨bL, oL, rfl, hbL, hcp⟩ := hL.at_ hpl
        obtain ⟨bL', oL', e, -, hcq⟩ := hL.at_ hql
        injection e with e
        injection e with e e2 _
        subst e e2
        obtain ⟨bL', oL', e, -, hcr⟩ := hL.at_ hrl
        injection e with e
        injection e with e e2 _
        subst e e2
        obtain ⟨bA, oA, rfl, hbA, ha0, ha1, ha2⟩ := hI.at0 (by omega)
        replace ha1 := ha1 (by omega)
        replace ha2 := ha2 (by omega)
        rw [hp] at ha0
        rw [hq] at ha1
        rw [hr] at ha2
        have hcapL := hL.2.1
        have hmaxL := hL.2.2.1
        have hcapI := hI.2.1
        have hmaxI := hI.2.2.1
        generalize l[p]! = a at HV2 ha1' hcp
        generalize l[q]! = d at HV2 hcq
        generalize l[r]! = g at HV2 hcr
        clear hF hI hL hfit hp hq hr hpw hqw hrw hpT hqT hrT hpv hqv hrv HV
        obtain ⟨op, wid, fl, args, imm⟩ := x
        simp only at a0 a1 a2 a3 a4 ho ⊢
        subst hn ho
        go_upto_region 6 with fail
        have hx := heap_alloc_new wr (.cells #[.int .i64 15, .int .i64 wid, .int .i64 fl, .slice (some ⟨bA, oA, none⟩) 3 c', .int .u32 imm] 38)
        have hb2 := hb.alloc hb.size (.cells #[.int .i64 15, .int .i64 wid, .int .i64 fl, .slice (some ⟨bA, oA, none⟩) 3 c', .int .u32 imm] 38)
        have hown2 := own_below hown ((Below.refl wr.heap.size wr).alloc (Nat.le_refl _) (.cells #[.int .i64 15, .int .i64 wid, .int .i64 fl, .slice (some ⟨bA, oA, none⟩) 3 c', .int .u32 imm] 38))
        have hbr : Below wr.heap.size wr (wr.alloc (.cells #[.int .i64 15, .int .i64 wid, .int .i64 fl, .slice (some ⟨bA, oA, none⟩) 3 c', .int .u32 imm] 38)) := (Below.refl _ _).alloc (Nat.le_refl _) _
        generalize World.alloc wr _ = W2 at hx hb2 hown2 hbr ⊢
        clear hown hb
        have HS := Lib.hid (show ∀ U, Below W2.heap.size W2 U → (U.cell? ⟨wr.heap.size, 0, none⟩ = some (.int .i64 15) ∧ U.cell? ⟨wr.heap.size, 3, none⟩ = some (.slice (some ⟨bA, oA, none⟩) 3 c')) ∧ (U.cell? ⟨bA, oA, none⟩ = some (.int .i64 (p : Int)) ∧ U.cell? ⟨bA, oA + 1, none⟩ = some (.int .i64 (q : Int)) ∧ U.cell? ⟨bA, oA + 2, none⟩ = some (.int .i64 (r : Int))) ∧ U.cell? ⟨bL, oL + p, none⟩ = some (.int .u32 (a : Int)) ∧ U.cell? ⟨bL, oL + q, none⟩ = some (.int .u32 (d : Int)) ∧ U.cell? ⟨bL, oL + r, none⟩ = some (.int .u32 (g : Int)) from fun U hU => by
          obtain ⟨d0, -, -, d3, -⟩ := cells5 (x := ⟨15, wid, fl, args, imm⟩) ((hU.block _ (lt_of_block hx)).trans hx)
          have hbU := hbr.trans (hU.mono hbr.size)
          exact ⟨⟨d0, d3⟩, ⟨(hbU.cell (p := ⟨bA, oA, none⟩) hbA).trans ha0, (hbU.cell (p := ⟨bA, oA + 1, none⟩) hbA).trans ha1, (hbU.cell (p := ⟨bA, oA + 2, none⟩) hbA).trans ha2⟩, (hbU.cell (p := ⟨bL, oL + p, none⟩) hbL).trans hcp, (hbU.cell (p := ⟨bL, oL + q, none⟩) hbL).trans hcq, (hbU.cell (p := ⟨bL, oL + r, none⟩) hbL).trans hcr⟩)
        have hBl := lt_of_block hx
        obtain ⟨⟨b0, b3⟩, -⟩ := HS.out W2 (Below.refl _ _)
        clear hx hbA ha0 ha1 ha2 hcp hcq hcr hbL hbr a0 a1 a2 a3 a4
        generalize wr.heap.size = B at HS b0 b3 hBl ⊢
        obtain rfl | rfl : a = 0 ∨ a = 1 := by omega
        · have HV3 := Lib.hid (HV2.out.trans (if_pos rfl))
          clear HV2
          have hwi : IntKind.i64.wrap (2 - IntKind.i64.wrap 0) = 2 := by kernel_rfl
          go_upto_region 17 with fail
          refine wp_region_held_drew (S := (fun U => (U.cell? ⟨B, 0, none⟩ = some (.int .i64 15) ∧ U.cell? ⟨B, 3, none⟩ = some (.slice (some ⟨bA, oA, none⟩) 3 c')) ∧ (U.cell? ⟨bA, oA, none⟩ = some (.int .i64 (p : Int)) ∧ U.cell? ⟨bA, oA + 1, none⟩ = some (.int .i64 (q : Int)) ∧ U.cell? ⟨bA, oA + 2, none⟩ = some (.int .i64 (r : Int))) ∧ U.cell? ⟨bL, oL + p, none⟩ = some (.int .u32 ((0 : Nat) : Int)) ∧ U.cell? ⟨bL, oL + q, none⟩ = some (.int .u32 (d : Int)) ∧ U.cell? ⟨bL, oL + r, none⟩ = some (.int .u32 (g : Int)))) (by kernel_rfl) ?_ (fun hHeld => ?_)
          · exact HS.out _ (by first | exact Below.refl _ _ | exact drewD (Below.refl _ _) | exact drewR (Below.refl _ _) | exact (drewD (Below.refl _ _)).trans hb3)
          refine wpAnyH_take (i := 0) (oi := ({ dst := some 96, op := Op.move (Operand.tmp 5), type := 31, pos := "ref.go:148", after := #[], guard := none } : Oper)) (v := ?sz1_v0) rfl (by kernel_rfl) (by kernel_rfl) (by kernel_rfl) (fun _ _ _ h => h) (Or.inl ⟨by rfl, ?sz1_y0⟩) (by assumption) ?sz1_r0
          case sz1_y0 =>
            intro w hSw
            (try dsimp only at hSw)
            go_simp
            (try with_reducible rfl)
          try simp only [Act.put, List.setIfInBounds_toArray, List.set_cons_zero, List.set_cons_succ]
          refine wpAnyH_take (i := 1) (oi := ({ dst := some 97, op := Op.fieldAddr 38 (Operand.tmp 7) 3, type := 0, pos := "ref.go:148", after := #[], guard := none } : Oper)) (v := ?sz2_v1) rfl (by kernel_rfl) (by kernel_rfl) (by kernel_rfl) (fun _ _ _ h => h) (Or.inl ⟨by rfl, ?sz2_y1⟩) (by assumption) ?sz2_r1
          case sz2_y1 =>
            intro w hSw
            (try dsimp only at hSw)
            go_simp
            (try with_reducible rfl)
          try simp only [Act.put, List.setIfInBounds_toArray, List.set_cons_zero, List.set_cons_succ]
          refine wpAnyH_take (i := 2) (oi := ({ dst := some 98, op := Op.load 35 (Operand.tmp 97), type := 35, pos := "ref.go:148", after := #[{ on := 1, ground := Ground.data }], guard := none } : Oper)) (v := ?sz3_v2) rfl (by kernel_rfl) (by kernel_rfl) (by kernel_rfl) (fun _ _ _ h => h) (Or.inl ⟨by rfl, ?sz3_y2⟩) (by assumption) ?sz3_r2
          case sz3_y2 =>
            intro w hSw
            (try dsimp only at hSw)
            go_simp
            (try with_reducible rfl)
          try simp only [Act.put, List.setIfInBounds_toArray, List.set_cons_zero, List.set_cons_succ]
          refine wpAnyH_take (i := 3) (oi := ({ dst := some 99, op := Op.move (Operand.tmp 5), type := 31, pos := "ref.go:148", after := #[], guard := none } : Oper)) (v := ?sz4_v3) rfl (by kernel_rfl) (by kernel_rfl) (by kernel_rfl) (fun _ _ _ h => h) (Or.inl ⟨by rfl, ?sz4_y3⟩) (by assumption) ?sz4_r3
          case sz4_y3 =>
            intro w hSw
            (try dsimp only at hSw)
            go_simp
            (try with_reducible rfl)
          try simp only [Act.put, List.setIfInBounds_toArray, List.set_cons_zero, List.set_cons_succ]
          refine wpAnyH_take (i := 4) (oi := ({ dst := some 100, op := Op.fieldAddr 38 (Operand.tmp 7) 3, type := 0, pos := "ref.go:148", after := #[], guard := none } : Oper)) (v := ?sz5_v4) rfl (by kernel_rfl) (by kernel_rfl) (by kernel_rfl) (fun _ _ _ h => h) (Or.inl ⟨by rfl, ?sz5_y4⟩) (by assumption) ?sz5_r4
          case sz5_y4 =>
            intro w hSw
            (try dsimp only at hSw)
            go_simp
            (try with_reducible rfl)
          try simp only [Act.put, List.setIfInBounds_toArray, List.set_cons_zero, List.set_cons_succ]
          refine wpAnyH_take (i := 5) (oi := ({ dst := some 101, op := Op.load 35 (Operand.tmp 100), type := 35, pos := "ref.go:148", after := #[{ on := 4, ground := Ground.data }], guard := none } : Oper)) (v := ?sz6_v5) rfl (by kernel_rfl) (by kernel_rfl) (by kernel_rfl) (fun _ _ _ h => h) (Or.inl ⟨by rfl, ?sz6_y5⟩) (by assumption) ?sz6_r5
          case sz6_y5 =>
            intro w hSw
            (try dsimp only at hSw)
            go_simp
            (try with_reducible rfl)
          try simp only [Act.put, List.setIfInBounds_toArray, List.set_cons_zero, List.set_cons_succ]
          refine wpAnyH_take (i := 6) (oi := ({ dst := some 102, op := Op.indexAddr 35 (Operand.tmp 101) (Operand.const (Value.int IntKind.i64 0)), type := 0, pos := "ref.go:148", after := #[{ on := 5, ground := Ground.data }], guard := none } : Oper)) (v := ?sz7_v6) rfl (by kernel_rfl) (by kernel_rfl) (by kernel_rfl) (fun _ _ _ h => h) (Or.inl ⟨by rfl, ?sz7_y6⟩) (by assumption) ?sz7_r6
          case sz7_y6 =>
            intro w hSw
            (try dsimp only at hSw)
            go_simp
            (try with_reducible rfl)
          try simp only [Act.put, List.setIfInBounds_toArray, List.set_cons_zero, List.set_cons_succ]
          refine wpAnyH_take (i := 7) (oi := ({ dst := some 103, op := Op.load 3 (Operand.tmp 102), type := 3, pos := "ref.go:148", after := #[{ on := 6, ground := Ground.data }], guard := none } : Oper)) (v := ?sz8_v7) rfl (by kernel_rfl) (by kernel_rfl) (by kernel_rfl) (fun _ _ _ h => h) (Or.inl ⟨by rfl, ?sz8_y7⟩) (by assumption) ?sz8_r7
          case sz8_y7 =>
            intro w hSw
            (try dsimp only at hSw)
            go_simp
            (try with_reducible rfl)
          try simp only [Act.put, List.setIfInBounds_toArray, List.set_cons_zero, List.set_cons_succ]
          refine wpAnyH_take (i := 8) (oi := ({ dst := some 104, op := Op.indexAddr 31 (Operand.tmp 99) (Operand.tmp 103), type := 0, pos := "ref.go:148", after := #[{ on := 3, ground := Ground.data }, { on := 7, ground := Ground.data }], guard := none } : Oper)) (v := ?sz9_v8) rfl (by kernel_rfl) (by kernel_rfl) (by kernel_rfl) (fun _ _ _ h => h) (Or.inl ⟨by rfl, ?sz9_y8⟩) (by assumption) ?sz9_r8
          case sz9_y8 =>
            intro w hSw
            (try dsimp only at hSw)
            go_simp
            (try with_reducible rfl)
          try simp only [Act.put, List.setIfInBounds_toArray, List.set_cons_zero, List.set_cons_succ]
          refine wpAnyH_take (i := 9) (oi := ({ dst := some 105, op := Op.load 36 (Operand.tmp 104), type := 36, pos := "ref.go:148", after := #[{ on := 8, ground := Ground.data }], guard := none } : Oper)) (v := ?sz10_v9) rfl (by kernel_rfl) (by kernel_rfl) (by kernel_rfl) (fun _ _ _ h => h) (Or.inl ⟨by rfl, ?sz10_y9⟩) (by assumption) ?sz10_r9
          case sz10_y9 =>
            intro w hSw
            (try dsimp only at hSw)
            go_simp
            (try with_reducible rfl)
          try simp only [Act.put, List.setIfInBounds_toArray, List.set_cons_zero, List.set_cons_succ]
          refine wpAnyH_take (i := 10) (oi := ({ dst := some 106, op := Op.convert 36 3 (Operand.tmp 105), type := 3, pos := "ref.go:148", after := #[{ on := 9, ground := Ground.data }], guard := none } : Oper)) (v := ?sz11_v10) rfl (by kernel_rfl) (by kernel_rfl) (by kernel_rfl) (fun _ _ _ h => h) (Or.inl ⟨by rfl, ?sz11_y10⟩) (by assumption) ?sz11_r10
          case sz11_y10 =>
            intro w hSw
            (try dsimp only at hSw)
            go_simp
            (try with_reducible rfl)
          try simp only [Act.put, List.setIfInBounds_toArray, List.set_cons_zero, List.set_cons_succ]
          refine wpAnyH_take (i := 11) (oi := ({ dst := some 107, op := Op.binOp BinOp.sub 3 (Operand.const (Value.int IntKind.i64 2)) (Operand.tmp 106) 3, type := 3, pos := "ref.go:148", after := #[{ on := 10, ground := Ground.data }], guard := none } : Oper)) (v := ?sz12_v11) rfl (by kernel_rfl) (by kernel_rfl) (by kernel_rfl) (fun _ _ _ h => h) (Or.inl ⟨by rfl, ?sz12_y11⟩) (by assumption) ?sz12_r11
          case sz12_y11 =>
            intro w hSw
            (try dsimp only at hSw)
            go_simp
            (try with_reducible rfl)
          try simp only [Act.put, List.setIfInBounds_toArray, List.set_cons_zero, List.set_cons_succ]
          refine wpAnyH_take (i := 12) (oi := ({ dst := some 108, op := Op.indexAddr 35 (Operand.tmp 98) (Operand.tmp 107), type := 0, pos := "ref.go:148", after := #[{ on := 2, ground := Ground.data }, { on := 11, ground := Ground.data }], guard := none } : Oper)) (v := ?sz13_v12) rfl (by kernel_rfl) (by kernel_rfl) (by kernel_rfl) (fun _ _ _ h => h) (Or.inl ⟨by rfl, ?sz13_y12⟩) (by assumption) ?sz13_r12
          case sz13_y12 =>
            intro w hSw
            (try dsimp only at hSw)
            go_simp
            (try with_reducible rfl)
          try simp only [Act.put, List.setIfInBounds_toArray, List.set_cons_zero, List.set_cons_succ]
          refine wpAnyH_take (i := 13) (oi := ({ dst := some 109, op := Op.load 3 (Operand.tmp 108), type := 3, pos := "ref.go:148", after := #[{ on := 12, ground := Ground.data }], guard := none } : Oper)) (v := ?sz14_v13) rfl (by kernel_rfl) (by kernel_rfl) (by kernel_rfl) (fun _ _ _ h => h) (Or.inl ⟨by rfl, ?sz14_y13⟩) (by assumption) ?sz14_r13
          case sz14_y13 =>
            intro w hSw
            (try dsimp only at hSw)
            go_simp
            (try with_reducible rfl)
          try simp only [Act.put, List.setIfInBounds_toArray, List.set_cons_zero, List.set_cons_succ]
          refine wpAnyH_take (i := 14) (oi := ({ dst := some 110, op := Op.indexAddr 31 (Operand.tmp 96) (Operand.tmp 109), type := 0, pos := "ref.go:148", after := #[{ on := 0, ground := Ground.data }, { on := 13, ground := Ground.data }], guard := none } : Oper)) (v := ?sz15_v14) rfl (by kernel_rfl) (by kernel_rfl) (by kernel_rfl) (fun _ _ _ h => h) (Or.inl ⟨by rfl, ?sz15_y14⟩) (by assumption) ?sz15_r14
          case sz15_y14 =>
            intro w hSw
            (try dsimp only at hSw)
            go_simp
            (try with_reducible rfl)
          try simp only [Act.put, List.setIfInBounds_toArray, List.set_cons_zero, List.set_cons_succ]
          refine wpAnyH_take (i := 15) (oi := ({ dst := some 111, op := Op.load 36 (Operand.tmp 110), type := 36, pos := "ref.go:148", after := #[{ on := 14, ground := Ground.data }], guard := none } : Oper)) (v := ?sz16_v15) rfl (by kernel_rfl) (by kernel_rfl) (by kernel_rfl) (fun _ _ _ h => h) (Or.inl ⟨by rfl, ?sz16_y15⟩) (by assumption) ?sz16_r15
          case sz16_y15 =>
            intro w hSw
            (try dsimp only at hSw)
            go_simp
            (try with_reducible rfl)
          try simp only [Act.put, List.setIfInBounds_toArray, List.set_cons_zero, List.set_cons_succ]
          refine wpAnyH_take (i := 16) (oi := ({ dst := some 8, op := Op.assign (Operand.tmp 111), type := 36, pos := "ref.go:148", after := #[{ on := 15, ground := Ground.data }, { on := 0, ground := Ground.phase }, { on := 1, ground := Ground.phase }, { on := 2, ground := Ground.phase }, { on := 3, ground := Ground.phase }, { on := 4, ground := Ground.phase }, { on := 5, ground := Ground.phase }, { on := 6, ground := Ground.phase }, { on := 7, ground := Ground.phase }, { on := 8, ground := Ground.phase }, { on := 9, ground := Ground.phase }, { on := 10, ground := Ground.phase }, { on := 11, ground := Ground.phase }, { on := 12, ground := Ground.phase }, { on := 13, ground := Ground.phase }, { on := 14, ground := Ground.phase }, { on := 15, ground := Ground.phase }], guard := none } : Oper)) (v := ?sz17_v16) rfl (by kernel_rfl) (by kernel_rfl) (by kernel_rfl) (fun _ _ _ h => h) (Or.inl ⟨by rfl, ?sz17_y16⟩) (by assumption) ?sz17_r16
          case sz17_y16 =>
            intro w hSw
            (try dsimp only at hSw)
            go_simp
            (try with_reducible rfl)
          try simp only [Act.put, List.setIfInBounds_toArray, List.set_cons_zero, List.set_cons_succ]
          refine wpAnyH_done (by kernel_rfl) ?_ _
          have hbX : Below W2.heap.size W2 W2.drew := drewD (Below.refl _ _)
          have hown4 := own_below hown2 hbX
          have hb6 := hb2.trans (hbX.mono hb2.size)
          clear hbX hown2 hb2 HS
          generalize W2.drew = w4 at hown4 hb6 ⊢
          clear b0 b3 hwi
          go_wp2_with (at_builtin; refine wpList_append_own _ rfl _ _ 31 rfl w.heap.size 36 i0 (.int .u32 0) 1 4 Tryz.underlying31 hi hz0 hz1 hz2 rfl (by decide) _ _ _ rfl (hown4.alloc _) ⟨w4.heap.size, 0, none⟩ 1 1 [.int .u32 ((g : Nat) : Int)] rfl rfl (one_new w4 _ _) ?k2 ?k3 ?k4 ?k5 ?_)
          case k2 => simp [Value.oneCell']
          case k3 => unfold maxLen; omega
          case k4 => omega
          case k5 => have := hb6.size; simp; omega
          intro v2 w7 hown7 hgrow _
          have hb7 : Below w.heap.size w w7 := (hb6.alloc hb6.size _).grown hgrow (by have := hb6.size; simp; omega) (own_base (hown4.alloc (.cells #[.int .u32 ((g : Nat) : Int)] 36)))
          have HO8 := Lib.hid (show w7.ownsRow w.heap.size 36 1 v2 (i + 1) (uV (vals T env (i + 1))) by
            rw [HVS.out, uV_app, HV3.out]
            exact hown7)
          clear hown4 hown7 hgrow hb6
          go_wp2
          go_roundw
          case rel => exact ⟨i + 1, by omega, by go_num, HO8.out, hb7⟩
          case measure => simp [intOf]; omega
        · have HV3 := Lib.hid (HV2.out.trans (if_neg (by decide)))
          clear HV2
          have hwi : IntKind.i64.wrap (2 - IntKind.i64.wrap 1) = 1 := by kernel_rfl
          go_upto_region 17 with fail
          refine wp_region_held_drew (S := (fun U => (U.cell? ⟨B, 0, none⟩ = some (.int .i64 15) ∧ U.cell? ⟨B, 3, none⟩ = some (.slice (some ⟨bA, oA, none⟩) 3 c')) ∧ (U.cell? ⟨bA, oA, none⟩ = some (.int .i64 (p : Int)) ∧ U.cell? ⟨bA, oA + 1, none⟩ = some (.int .i64 (q : Int)) ∧ U.cell? ⟨bA, oA + 2, none⟩ = some (.int .i64 (r : Int))) ∧ U.cell? ⟨bL, oL + p, none⟩ = some (.int .u32 ((1 : Nat) : Int)) ∧ U.cell? ⟨bL, oL + q, none⟩ = some (.int .u32 (d : Int)) ∧ U.cell? ⟨bL, oL + r, none⟩ = some (.int .u32 (g : Int)))) (by kernel_rfl) ?_ (fun hHeld => ?_)
          · exact HS.out _ (by first | exact Below.refl _ _ | exact drewD (Below.refl _ _) | exact drewR (Below.refl _ _) | exact (drewD (Below.refl _ _)).trans hb3)
          refine wpAnyH_take (i := 0) (oi := ({ dst := some 96, op := Op.move (Operand.tmp 5), type := 31, pos := "ref.go:148", after := #[], guard := none } : Oper)) (v := ?so1_v0) rfl (by kernel_rfl) (by kernel_rfl) (by kernel_rfl) (fun _ _ _ h => h) (Or.inl ⟨by rfl, ?so1_y0⟩) (by assumption) ?so1_r0
          case so1_y0 =>
            intro w hSw
            (try dsimp only at hSw)
            go_simp
            (try with_reducible rfl)
          try simp only [Act.put, List.setIfInBounds_toArray, List.set_cons_zero, List.set_cons_succ]
          refine wpAnyH_take (i := 1) (oi := ({ dst := some 97, op := Op.fieldAddr 38 (Operand.tmp 7) 3, type := 0, pos := "ref.go:148", after := #[], guard := none } : Oper)) (v := ?so2_v1) rfl (by kernel_rfl) (by kernel_rfl) (by kernel_rfl) (fun _ _ _ h => h) (Or.inl ⟨by rfl, ?so2_y1⟩) (by assumption) ?so2_r1
          case so2_y1 =>
            intro w hSw
            (try dsimp only at hSw)
            go_simp
            (try with_reducible rfl)
          try simp only [Act.put, List.setIfInBounds_toArray, List.set_cons_zero, List.set_cons_succ]
          refine wpAnyH_take (i := 2) (oi := ({ dst := some 98, op := Op.load 35 (Operand.tmp 97), type := 35, pos := "ref.go:148", after := #[{ on := 1, ground := Ground.data }], guard := none } : Oper)) (v := ?so3_v2) rfl (by kernel_rfl) (by kernel_rfl) (by kernel_rfl) (fun _ _ _ h => h) (Or.inl ⟨by rfl, ?so3_y2⟩) (by assumption) ?so3_r2
          case so3_y2 =>
            intro w hSw
            (try dsimp only at hSw)
            go_simp
            (try with_reducible rfl)
          try simp only [Act.put, List.setIfInBounds_toArray, List.set_cons_zero, List.set_cons_succ]
          refine wpAnyH_take (i := 3) (oi := ({ dst := some 99, op := Op.move (Operand.tmp 5), type := 31, pos := "ref.go:148", after := #[], guard := none } : Oper)) (v := ?so4_v3) rfl (by kernel_rfl) (by kernel_rfl) (by kernel_rfl) (fun _ _ _ h => h) (Or.inl ⟨by rfl, ?so4_y3⟩) (by assumption) ?so4_r3
          case so4_y3 =>
            intro w hSw
            (try dsimp only at hSw)
            go_simp
            (try with_reducible rfl)
          try simp only [Act.put, List.setIfInBounds_toArray, List.set_cons_zero, List.set_cons_succ]
          refine wpAnyH_take (i := 4) (oi := ({ dst := some 100, op := Op.fieldAddr 38 (Operand.tmp 7) 3, type := 0, pos := "ref.go:148", after := #[], guard := none } : Oper)) (v := ?so5_v4) rfl (by kernel_rfl) (by kernel_rfl) (by kernel_rfl) (fun _ _ _ h => h) (Or.inl ⟨by rfl, ?so5_y4⟩) (by assumption) ?so5_r4
          case so5_y4 =>
            intro w hSw
            (try dsimp only at hSw)
            go_simp
            (try with_reducible rfl)
          try simp only [Act.put, List.setIfInBounds_toArray, List.set_cons_zero, List.set_cons_succ]
          refine wpAnyH_take (i := 5) (oi := ({ dst := some 101, op := Op.load 35 (Operand.tmp 100), type := 35, pos := "ref.go:148", after := #[{ on := 4, ground := Ground.data }], guard := none } : Oper)) (v := ?so6_v5) rfl (by kernel_rfl) (by kernel_rfl) (by kernel_rfl) (fun _ _ _ h => h) (Or.inl ⟨by rfl, ?so6_y5⟩) (by assumption) ?so6_r5
          case so6_y5 =>
            intro w hSw
            (try dsimp only at hSw)
            go_simp
            (try with_reducible rfl)
          try simp only [Act.put, List.setIfInBounds_toArray, List.set_cons_zero, List.set_cons_succ]
          refine wpAnyH_take (i := 6) (oi := ({ dst := some 102, op := Op.indexAddr 35 (Operand.tmp 101) (Operand.const (Value.int IntKind.i64 0)), type := 0, pos := "ref.go:148", after := #[{ on := 5, ground := Ground.data }], guard := none } : Oper)) (v := ?so7_v6) rfl (by kernel_rfl) (by kernel_rfl) (by kernel_rfl) (fun _ _ _ h => h) (Or.inl ⟨by rfl, ?so7_y6⟩) (by assumption) ?so7_r6
          case so7_y6 =>
            intro w hSw
            (try dsimp only at hSw)
            go_simp
            (try with_reducible rfl)
          try simp only [Act.put, List.setIfInBounds_toArray, List.set_cons_zero, List.set_cons_succ]
          refine wpAnyH_take (i := 7) (oi := ({ dst := some 103, op := Op.load 3 (Operand.tmp 102), type := 3, pos := "ref.go:148", after := #[{ on := 6, ground := Ground.data }], guard := none } : Oper)) (v := ?so8_v7) rfl (by kernel_rfl) (by kernel_rfl) (by kernel_rfl) (fun _ _ _ h => h) (Or.inl ⟨by rfl, ?so8_y7⟩) (by assumption) ?so8_r7
          case so8_y7 =>
            intro w hSw
            (try dsimp only at hSw)
            go_simp
            (try with_reducible rfl)
          try simp only [Act.put, List.setIfInBounds_toArray, List.set_cons_zero, List.set_cons_succ]
          refine wpAnyH_take (i := 8) (oi := ({ dst := some 104, op := Op.indexAddr 31 (Operand.tmp 99) (Operand.tmp 103), type := 0, pos := "ref.go:148", after := #[{ on := 3, ground := Ground.data }, { on := 7, ground := Ground.data }], guard := none } : Oper)) (v := ?so9_v8) rfl (by kernel_rfl) (by kernel_rfl) (by kernel_rfl) (fun _ _ _ h => h) (Or.inl ⟨by rfl, ?so9_y8⟩) (by assumption) ?so9_r8
          case so9_y8 =>
            intro w hSw
            (try dsimp only at hSw)
            go_simp
            (try with_reducible rfl)
          try simp only [Act.put, List.setIfInBounds_toArray, List.set_cons_zero, List.set_cons_succ]
          refine wpAnyH_take (i := 9) (oi := ({ dst := some 105, op := Op.load 36 (Operand.tmp 104), type := 36, pos := "ref.go:148", after := #[{ on := 8, ground := Ground.data }], guard := none } : Oper)) (v := ?so10_v9) rfl (by kernel_rfl) (by kernel_rfl) (by kernel_rfl) (fun _ _ _ h => h) (Or.inl ⟨by rfl, ?so10_y9⟩) (by assumption) ?so10_r9
          case so10_y9 =>
            intro w hSw
            (try dsimp only at hSw)
            go_simp
            (try with_reducible rfl)
          try simp only [Act.put, List.setIfInBounds_toArray, List.set_cons_zero, List.set_cons_succ]
          refine wpAnyH_take (i := 10) (oi := ({ dst := some 106, op := Op.convert 36 3 (Operand.tmp 105), type := 3, pos := "ref.go:148", after := #[{ on := 9, ground := Ground.data }], guard := none } : Oper)) (v := ?so11_v10) rfl (by kernel_rfl) (by kernel_rfl) (by kernel_rfl) (fun _ _ _ h => h) (Or.inl ⟨by rfl, ?so11_y10⟩) (by assumption) ?so11_r10
          case so11_y10 =>
            intro w hSw
            (try dsimp only at hSw)
            go_simp
            (try with_reducible rfl)
          try simp only [Act.put, List.setIfInBounds_toArray, List.set_cons_zero, List.set_cons_succ]
          refine wpAnyH_take (i := 11) (oi := ({ dst := some 107, op := Op.binOp BinOp.sub 3 (Operand.const (Value.int IntKind.i64 2)) (Operand.tmp 106) 3, type := 3, pos := "ref.go:148", after := #[{ on := 10, ground := Ground.data }], guard := none } : Oper)) (v := ?so12_v11) rfl (by kernel_rfl) (by kernel_rfl) (by kernel_rfl) (fun _ _ _ h => h) (Or.inl ⟨by rfl, ?so12_y11⟩) (by assumption) ?so12_r11
          case so12_y11 =>
            intro w hSw
            (try dsimp only at hSw)
            go_simp
            (try with_reducible rfl)
          try simp only [Act.put, List.setIfInBounds_toArray, List.set_cons_zero, List.set_cons_succ]
          refine wpAnyH_take (i := 12) (oi := ({ dst := some 108, op := Op.indexAddr 35 (Operand.tmp 98) (Operand.tmp 107), type := 0, pos := "ref.go:148", after := #[{ on := 2, ground := Ground.data }, { on := 11, ground := Ground.data }], guard := none } : Oper)) (v := ?so13_v12) rfl (by kernel_rfl) (by kernel_rfl) (by kernel_rfl) (fun _ _ _ h => h) (Or.inl ⟨by rfl, ?so13_y12⟩) (by assumption) ?so13_r12
          case so13_y12 =>
            intro w hSw
            (try dsimp only at hSw)
            go_simp
            (try with_reducible rfl)
          try simp only [Act.put, List.setIfInBounds_toArray, List.set_cons_zero, List.set_cons_succ]
          refine wpAnyH_take (i := 13) (oi := ({ dst := some 109, op := Op.load 3 (Operand.tmp 108), type := 3, pos := "ref.go:148", after := #[{ on := 12, ground := Ground.data }], guard := none } : Oper)) (v := ?so14_v13) rfl (by kernel_rfl) (by kernel_rfl) (by kernel_rfl) (fun _ _ _ h => h) (Or.inl ⟨by rfl, ?so14_y13⟩) (by assumption) ?so14_r13
          case so14_y13 =>
            intro w hSw
            (try dsimp only at hSw)
            go_simp
            (try with_reducible rfl)
          try simp only [Act.put, List.setIfInBounds_toArray, List.set_cons_zero, List.set_cons_succ]
          refine wpAnyH_take (i := 14) (oi := ({ dst := some 110, op := Op.indexAddr 31 (Operand.tmp 96) (Operand.tmp 109), type := 0, pos := "ref.go:148", after := #[{ on := 0, ground := Ground.data }, { on := 13, ground := Ground.data }], guard := none } : Oper)) (v := ?so15_v14) rfl (by kernel_rfl) (by kernel_rfl) (by kernel_rfl) (fun _ _ _ h => h) (Or.inl ⟨by rfl, ?so15_y14⟩) (by assumption) ?so15_r14
          case so15_y14 =>
            intro w hSw
            (try dsimp only at hSw)
            go_simp
            (try with_reducible rfl)
          try simp only [Act.put, List.setIfInBounds_toArray, List.set_cons_zero, List.set_cons_succ]
          refine wpAnyH_take (i := 15) (oi := ({ dst := some 111, op := Op.load 36 (Operand.tmp 110), type := 36, pos := "ref.go:148", after := #[{ on := 14, ground := Ground.data }], guard := none } : Oper)) (v := ?so16_v15) rfl (by kernel_rfl) (by kernel_rfl) (by kernel_rfl) (fun _ _ _ h => h) (Or.inl ⟨by rfl, ?so16_y15⟩) (by assumption) ?so16_r15
          case so16_y15 =>
            intro w hSw
            (try dsimp only at hSw)
            go_simp
            (try with_reducible rfl)
          try simp only [Act.put, List.setIfInBounds_toArray, List.set_cons_zero, List.set_cons_succ]
          refine wpAnyH_take (i := 16) (oi := ({ dst := some 8, op := Op.assign (Operand.tmp 111), type := 36, pos := "ref.go:148", after := #[{ on := 15, ground := Ground.data }, { on := 0, ground := Ground.phase }, { on := 1, ground := Ground.phase }, { on := 2, ground := Ground.phase }, { on := 3, ground := Ground.phase }, { on := 4, ground := Ground.phase }, { on := 5, ground := Ground.phase }, { on := 6, ground := Ground.phase }, { on := 7, ground := Ground.phase }, { on := 8, ground := Ground.phase }, { on := 9, ground := Ground.phase }, { on := 10, ground := Ground.phase }, { on := 11, ground := Ground.phase }, { on := 12, ground := Ground.phase }, { on := 13, ground := Ground.phase }, { on := 14, ground := Ground.phase }, { on := 15, ground := Ground.phase }], guard := none } : Oper)) (v := ?so17_v16) rfl (by kernel_rfl) (by kernel_rfl) (by kernel_rfl) (fun _ _ _ h => h) (Or.inl ⟨by rfl, ?so17_y16⟩) (by assumption) ?so17_r16
          case so17_y16 =>
            intro w hSw
            (try dsimp only at hSw)
            go_simp
            (try with_reducible rfl)
          try simp only [Act.put, List.setIfInBounds_toArray, List.set_cons_zero, List.set_cons_succ]
          refine wpAnyH_done (by kernel_rfl) ?_ _
          have hbX : Below W2.heap.size W2 W2.drew := drewD (Below.refl _ _)
          have hown4 := own_below hown2 hbX
          have hb6 := hb2.trans (hbX.mono hb2.size)
          clear hbX hown2 hb2 HS
          generalize W2.drew = w4 at hown4 hb6 ⊢
          clear b0 b3 hwi
          go_wp2_with (at_builtin; refine wpList_append_own _ rfl _ _ 31 rfl w.heap.size 36 i0 (.int .u32 0) 1 4 Tryz.underlying31 hi hz0 hz1 hz2 rfl (by decide) _ _ _ rfl (hown4.alloc _) ⟨w4.heap.size, 0, none⟩ 1 1 [.int .u32 ((d : Nat) : Int)] rfl rfl (one_new w4 _ _) ?k2 ?k3 ?k4 ?k5 ?_)
          case k2 => simp [Value.oneCell']
          case k3 => unfold maxLen; omega
          case k4 => omega
          case k5 => have := hb6.size; simp; omega
          intro v2 w7 hown7 hgrow _
          have hb7 : Below w.heap.size w w7 := (hb6.alloc hb6.size _).grown hgrow (by have := hb6.size; simp; omega) (own_base (hown4.alloc (.cells #[.int .u32 ((d : Nat) : Int)] 36)))
          have HO8 := Lib.hid (show w7.ownsRow w.heap.size 36 1 v2 (i + 1) (uV (vals T env (i + 1))) by
            rw [HVS.out, uV_app, HV3.out]
            exact hown7)
          clear hown4 hown7 hgrow hb6
          go_wp2
          go_roundw
          case rel => exact ⟨i + 1, by omega, by go_num, HO8.out, hb7⟩
          case measure => simp [intOf]; omega
      have n15 := ho
      clear ho
      have hop := hF.op
      by_cases o1 : 16 ≤ x.op
      · have o2 : x.op ≤ 18 := by omega
        clear n0 n33 n14 n15 hop
        have hn : n' = 1 := by
          have := hF.len
          unfold argN at this
          rw [← hI.1, if_neg (by omega), if_neg (by omega), if_neg (by omega)] at this
          omega
        obtain ⟨p, hp, hpT, hpl, hpw, hpv⟩ := hF.arg 0 (by rw [← hI.1]; omega)
        have HV2 := Lib.hid (HV.out.trans (val1_ext (T := T) (l := l) (env := env) o1 o2 hp))
        have hfit := hF.fit
        have hwid := hF.wid
        have hext : x.op = 16 ∧ (T[p]!).width < x.width ∨ x.op = 17 ∧ (T[p]!).width < x.width ∨ x.op = 18 ∧ x.width < (T[p]!).width := by
          unfold fitB wOf at hfit
          rw [if_neg (by omega), if_neg (by omega), if_neg (by omega), hp, Int.toNat_natCast] at hfit
          by_cases h16 : x.op = 16 ∨ x.op = 17
          · rw [if_pos h16, decide_eq_true_iff] at hfit
            omega
          · rw [if_neg h16, if_pos (by omega), decide_eq_true_iff] at hfit
            omega
        rw [← hL.1] at hpl
        rw [← HLEN.out] at hpT
        obtain ⟨bL, oL, rfl, hbL, hcp⟩ := hL.at_ hpl
        obtain ⟨bA, oA, rfl, hbA, ha0, -, -⟩ := hI.at0 (by omega)
        obtain ⟨bT', oT', A3, n3, c3, e, -, ⟨-, ht, -, -, -⟩, -⟩ := (H.out.below hb).at_ hpT
        injection e with e
        injection e with e e2 _
        subst e e2
        rw [hp] at ha0
        have hcapL := hL.2.1
        have hmaxL := hL.2.2.1
        have hcapI := hI.2.1
        have hmaxI := hI.2.2.1
        generalize l[p]! = a at HV2 hpv hcp
        generalize (T[p]!).width = Wd at HV2 hpv ht hpw hext
        obtain ⟨op, wid, fl, args, imm⟩ := x
        simp only at a0 a1 a2 a3 a4 o1 o2 hext hwid HV2 ⊢
        have HC := Lib.hid (fun w1 => rExt_any op Wd wid a w1 hpw.1 hpw.2 hwid.1 hwid.2 hpv hext)
        generalize extF op.toNat Wd.toNat wid.toNat a = V2 at HV2 HC
        have e0 : (op == 0) = false := beq_false_of_ne (by omega)
        have e33 : (op == 33) = false := beq_false_of_ne (by omega)
        have e14 : (op == 14) = false := beq_false_of_ne (by omega)
        have e15 : (op == 15) = false := beq_false_of_ne (by omega)
        have e16 : decide (16 ≤ op) = true := decide_eq_true o1
        clear hF hI hL hfit hp hpw hpv hext hwid o1 o2 HV
        subst hn
        go_upto_region 6 with fail
        have hx := heap_alloc_new wr (.cells #[.int .i64 op, .int .i64 wid, .int .i64 fl, .slice (some ⟨bA, oA, none⟩) 1 c', .int .u32 imm] 38)
        have hb2 := hb.alloc hb.size (.cells #[.int .i64 op, .int .i64 wid, .int .i64 fl, .slice (some ⟨bA, oA, none⟩) 1 c', .int .u32 imm] 38)
        have hown2 := own_below hown ((Below.refl wr.heap.size wr).alloc (Nat.le_refl _) (.cells #[.int .i64 op, .int .i64 wid, .int .i64 fl, .slice (some ⟨bA, oA, none⟩) 1 c', .int .u32 imm] 38))
        have hbr : Below wr.heap.size wr (wr.alloc (.cells #[.int .i64 op, .int .i64 wid, .int .i64 fl, .slice (some ⟨bA, oA, none⟩) 1 c', .int .u32 imm] 38)) := (Below.refl _ _).alloc (Nat.le_refl _) _
        generalize World.alloc wr _ = W2 at hx hb2 hown2 hbr ⊢
        clear hown hb
        have HS := Lib.hid (show ∀ U, Below W2.heap.size W2 U → (U.cell? ⟨wr.heap.size, 0, none⟩ = some (.int .i64 op) ∧ U.cell? ⟨wr.heap.size, 1, none⟩ = some (.int .i64 wid) ∧ U.cell? ⟨wr.heap.size, 3, none⟩ = some (.slice (some ⟨bA, oA, none⟩) 1 c')) ∧ U.cell? ⟨bA, oA, none⟩ = some (.int .i64 (p : Int)) ∧ U.cell? ⟨bL, oL + p, none⟩ = some (.int .u32 (a : Int)) ∧ U.cell? ⟨b, off + p * 5 + 1, none⟩ = some (.int .i64 Wd) from fun U hU => by
          obtain ⟨d0, d1, -, d3, -⟩ := cells5 (x := ⟨op, wid, fl, args, imm⟩) ((hU.block _ (lt_of_block hx)).trans hx)
          have hbU := hbr.trans (hU.mono hbr.size)
          exact ⟨⟨d0, d1, d3⟩, (hbU.cell (p := ⟨bA, oA, none⟩) hbA).trans ha0, (hbU.cell (p := ⟨bL, oL + p, none⟩) hbL).trans hcp, (hbU.cell (p := ⟨b, off + p * 5 + 1, none⟩) hbs).trans ht⟩)
        have hBl := lt_of_block hx
        obtain ⟨⟨b0, b1, b3⟩, -⟩ := HS.out W2 (Below.refl _ _)
        clear hx hbA ha0 hcp hbL hbr ht hbs a0 a1 a2 a3 a4
        generalize wr.heap.size = B at HS b0 b1 b3 hBl ⊢
        go_upto_region 19 with fail
        refine wp_region_held_drew (S := (fun U => (U.cell? ⟨B, 0, none⟩ = some (.int .i64 op) ∧ U.cell? ⟨B, 1, none⟩ = some (.int .i64 wid) ∧ U.cell? ⟨B, 3, none⟩ = some (.slice (some ⟨bA, oA, none⟩) 1 c')) ∧ U.cell? ⟨bA, oA, none⟩ = some (.int .i64 (p : Int)) ∧ U.cell? ⟨bL, oL + p, none⟩ = some (.int .u32 (a : Int)) ∧ U.cell? ⟨b, off + p * 5 + 1, none⟩ = some (.int .i64 Wd))) (by kernel_rfl) ?_ (fun hHeld => ?_)
        · exact HS.out _ (by first | exact Below.refl _ _ | exact drewD (Below.refl _ _) | exact drewR (Below.refl _ _) | exact (drewD (Below.refl _ _)).trans hb3)
        refine wpAnyH_take (i := 0) (oi := ({ dst := some 117, op := Op.fieldAddr 38 (Operand.tmp 7) 0, type := 0, pos := "ref.go:150", after := #[], guard := none } : Oper)) (v := ?x1_v0) rfl (by kernel_rfl) (by kernel_rfl) (by kernel_rfl) (fun _ _ _ h => h) (Or.inl ⟨by rfl, ?x1_y0⟩) (by assumption) ?x1_r0
        case x1_y0 =>
          intro w hSw
          (try dsimp only at hSw)
          go_simp
          (try with_reducible rfl)
        try simp only [Act.put, List.setIfInBounds_toArray, List.set_cons_zero, List.set_cons_succ]
        refine wpAnyH_take (i := 1) (oi := ({ dst := some 118, op := Op.load 3 (Operand.tmp 117), type := 3, pos := "ref.go:150", after := #[{ on := 0, ground := Ground.data }], guard := none } : Oper)) (v := ?x2_v1) rfl (by kernel_rfl) (by kernel_rfl) (by kernel_rfl) (fun _ _ _ h => h) (Or.inl ⟨by rfl, ?x2_y1⟩) (by assumption) ?x2_r1
        case x2_y1 =>
          intro w hSw
          (try dsimp only at hSw)
          go_simp
          (try with_reducible rfl)
        try simp only [Act.put, List.setIfInBounds_toArray, List.set_cons_zero, List.set_cons_succ]
        refine wpAnyH_take (i := 2) (oi := ({ dst := some 119, op := Op.move (Operand.tmp 0), type := 22, pos := "ref.go:150", after := #[], guard := none } : Oper)) (v := ?x3_v2) rfl (by kernel_rfl) (by kernel_rfl) (by kernel_rfl) (fun _ _ _ h => h) (Or.inl ⟨by rfl, ?x3_y2⟩) (by assumption) ?x3_r2
        case x3_y2 =>
          intro w hSw
          (try dsimp only at hSw)
          go_simp
          (try with_reducible rfl)
        try simp only [Act.put, List.setIfInBounds_toArray, List.set_cons_zero, List.set_cons_succ]
        refine wpAnyH_take (i := 3) (oi := ({ dst := some 120, op := Op.fieldAddr 38 (Operand.tmp 7) 3, type := 0, pos := "ref.go:150", after := #[], guard := none } : Oper)) (v := ?x4_v3) rfl (by kernel_rfl) (by kernel_rfl) (by kernel_rfl) (fun _ _ _ h => h) (Or.inl ⟨by rfl, ?x4_y3⟩) (by assumption) ?x4_r3
        case x4_y3 =>
          intro w hSw
          (try dsimp only at hSw)
          go_simp
          (try with_reducible rfl)
        try simp only [Act.put, List.setIfInBounds_toArray, List.set_cons_zero, List.set_cons_succ]
        refine wpAnyH_take (i := 4) (oi := ({ dst := some 121, op := Op.load 35 (Operand.tmp 120), type := 35, pos := "ref.go:150", after := #[{ on := 3, ground := Ground.data }], guard := none } : Oper)) (v := ?x5_v4) rfl (by kernel_rfl) (by kernel_rfl) (by kernel_rfl) (fun _ _ _ h => h) (Or.inl ⟨by rfl, ?x5_y4⟩) (by assumption) ?x5_r4
        case x5_y4 =>
          intro w hSw
          (try dsimp only at hSw)
          go_simp
          (try with_reducible rfl)
        try simp only [Act.put, List.setIfInBounds_toArray, List.set_cons_zero, List.set_cons_succ]
        refine wpAnyH_take (i := 5) (oi := ({ dst := some 122, op := Op.indexAddr 35 (Operand.tmp 121) (Operand.const (Value.int IntKind.i64 0)), type := 0, pos := "ref.go:150", after := #[{ on := 4, ground := Ground.data }], guard := none } : Oper)) (v := ?x6_v5) rfl (by kernel_rfl) (by kernel_rfl) (by kernel_rfl) (fun _ _ _ h => h) (Or.inl ⟨by rfl, ?x6_y5⟩) (by assumption) ?x6_r5
        case x6_y5 =>
          intro w hSw
          (try dsimp only at hSw)
          go_simp
          (try with_reducible rfl)
        try simp only [Act.put, List.setIfInBounds_toArray, List.set_cons_zero, List.set_cons_succ]
        refine wpAnyH_take (i := 6) (oi := ({ dst := some 123, op := Op.load 3 (Operand.tmp 122), type := 3, pos := "ref.go:150", after := #[{ on := 5, ground := Ground.data }], guard := none } : Oper)) (v := ?x7_v6) rfl (by kernel_rfl) (by kernel_rfl) (by kernel_rfl) (fun _ _ _ h => h) (Or.inl ⟨by rfl, ?x7_y6⟩) (by assumption) ?x7_r6
        case x7_y6 =>
          intro w hSw
          (try dsimp only at hSw)
          go_simp
          (try with_reducible rfl)
        try simp only [Act.put, List.setIfInBounds_toArray, List.set_cons_zero, List.set_cons_succ]
        refine wpAnyH_take (i := 7) (oi := ({ dst := some 124, op := Op.indexAddr 22 (Operand.tmp 119) (Operand.tmp 123), type := 0, pos := "ref.go:150", after := #[{ on := 2, ground := Ground.data }, { on := 6, ground := Ground.data }], guard := none } : Oper)) (v := ?x8_v7) rfl (by kernel_rfl) (by kernel_rfl) (by kernel_rfl) (fun _ _ _ h => h) (Or.inl ⟨by rfl, ?x8_y7⟩) (by assumption) ?x8_r7
        case x8_y7 =>
          intro w hSw
          (try dsimp only at hSw)
          go_simp
          (try with_reducible rfl)
        try simp only [Act.put, List.setIfInBounds_toArray, List.set_cons_zero, List.set_cons_succ]
        refine wpAnyH_take (i := 8) (oi := ({ dst := some 125, op := Op.fieldAddr 38 (Operand.tmp 124) 1, type := 0, pos := "ref.go:150", after := #[{ on := 7, ground := Ground.data }], guard := none } : Oper)) (v := ?x9_v8) rfl (by kernel_rfl) (by kernel_rfl) (by kernel_rfl) (fun _ _ _ h => h) (Or.inl ⟨by rfl, ?x9_y8⟩) (by assumption) ?x9_r8
        case x9_y8 =>
          intro w hSw
          (try dsimp only at hSw)
          go_simp
          (try with_reducible rfl)
        try simp only [Act.put, List.setIfInBounds_toArray, List.set_cons_zero, List.set_cons_succ]
        refine wpAnyH_take (i := 9) (oi := ({ dst := some 126, op := Op.load 3 (Operand.tmp 125), type := 3, pos := "ref.go:150", after := #[{ on := 8, ground := Ground.data }], guard := none } : Oper)) (v := ?x10_v9) rfl (by kernel_rfl) (by kernel_rfl) (by kernel_rfl) (fun _ _ _ h => h) (Or.inl ⟨by rfl, ?x10_y9⟩) (by assumption) ?x10_r9
        case x10_y9 =>
          intro w hSw
          (try dsimp only at hSw)
          go_simp
          (try with_reducible rfl)
        try simp only [Act.put, List.setIfInBounds_toArray, List.set_cons_zero, List.set_cons_succ]
        refine wpAnyH_take (i := 10) (oi := ({ dst := some 127, op := Op.fieldAddr 38 (Operand.tmp 7) 1, type := 0, pos := "ref.go:150", after := #[], guard := none } : Oper)) (v := ?x11_v10) rfl (by kernel_rfl) (by kernel_rfl) (by kernel_rfl) (fun _ _ _ h => h) (Or.inl ⟨by rfl, ?x11_y10⟩) (by assumption) ?x11_r10
        case x11_y10 =>
          intro w hSw
          (try dsimp only at hSw)
          go_simp
          (try with_reducible rfl)
        try simp only [Act.put, List.setIfInBounds_toArray, List.set_cons_zero, List.set_cons_succ]
        refine wpAnyH_take (i := 11) (oi := ({ dst := some 128, op := Op.load 3 (Operand.tmp 127), type := 3, pos := "ref.go:150", after := #[{ on := 10, ground := Ground.data }], guard := none } : Oper)) (v := ?x12_v11) rfl (by kernel_rfl) (by kernel_rfl) (by kernel_rfl) (fun _ _ _ h => h) (Or.inl ⟨by rfl, ?x12_y11⟩) (by assumption) ?x12_r11
        case x12_y11 =>
          intro w hSw
          (try dsimp only at hSw)
          go_simp
          (try with_reducible rfl)
        try simp only [Act.put, List.setIfInBounds_toArray, List.set_cons_zero, List.set_cons_succ]
        refine wpAnyH_take (i := 12) (oi := ({ dst := some 129, op := Op.move (Operand.tmp 5), type := 31, pos := "ref.go:150", after := #[], guard := none } : Oper)) (v := ?x13_v12) rfl (by kernel_rfl) (by kernel_rfl) (by kernel_rfl) (fun _ _ _ h => h) (Or.inl ⟨by rfl, ?x13_y12⟩) (by assumption) ?x13_r12
        case x13_y12 =>
          intro w hSw
          (try dsimp only at hSw)
          go_simp
          (try with_reducible rfl)
        try simp only [Act.put, List.setIfInBounds_toArray, List.set_cons_zero, List.set_cons_succ]
        refine wpAnyH_take (i := 13) (oi := ({ dst := some 130, op := Op.fieldAddr 38 (Operand.tmp 7) 3, type := 0, pos := "ref.go:150", after := #[], guard := none } : Oper)) (v := ?x14_v13) rfl (by kernel_rfl) (by kernel_rfl) (by kernel_rfl) (fun _ _ _ h => h) (Or.inl ⟨by rfl, ?x14_y13⟩) (by assumption) ?x14_r13
        case x14_y13 =>
          intro w hSw
          (try dsimp only at hSw)
          go_simp
          (try with_reducible rfl)
        try simp only [Act.put, List.setIfInBounds_toArray, List.set_cons_zero, List.set_cons_succ]
        refine wpAnyH_take (i := 14) (oi := ({ dst := some 131, op := Op.load 35 (Operand.tmp 130), type := 35, pos := "ref.go:150", after := #[{ on := 13, ground := Ground.data }], guard := none } : Oper)) (v := ?x15_v14) rfl (by kernel_rfl) (by kernel_rfl) (by kernel_rfl) (fun _ _ _ h => h) (Or.inl ⟨by rfl, ?x15_y14⟩) (by assumption) ?x15_r14
        case x15_y14 =>
          intro w hSw
          (try dsimp only at hSw)
          go_simp
          (try with_reducible rfl)
        try simp only [Act.put, List.setIfInBounds_toArray, List.set_cons_zero, List.set_cons_succ]
        refine wpAnyH_take (i := 15) (oi := ({ dst := some 132, op := Op.indexAddr 35 (Operand.tmp 131) (Operand.const (Value.int IntKind.i64 0)), type := 0, pos := "ref.go:150", after := #[{ on := 14, ground := Ground.data }], guard := none } : Oper)) (v := ?x16_v15) rfl (by kernel_rfl) (by kernel_rfl) (by kernel_rfl) (fun _ _ _ h => h) (Or.inl ⟨by rfl, ?x16_y15⟩) (by assumption) ?x16_r15
        case x16_y15 =>
          intro w hSw
          (try dsimp only at hSw)
          go_simp
          (try with_reducible rfl)
        try simp only [Act.put, List.setIfInBounds_toArray, List.set_cons_zero, List.set_cons_succ]
        refine wpAnyH_take (i := 16) (oi := ({ dst := some 133, op := Op.load 3 (Operand.tmp 132), type := 3, pos := "ref.go:150", after := #[{ on := 15, ground := Ground.data }], guard := none } : Oper)) (v := ?x17_v16) rfl (by kernel_rfl) (by kernel_rfl) (by kernel_rfl) (fun _ _ _ h => h) (Or.inl ⟨by rfl, ?x17_y16⟩) (by assumption) ?x17_r16
        case x17_y16 =>
          intro w hSw
          (try dsimp only at hSw)
          go_simp
          (try with_reducible rfl)
        try simp only [Act.put, List.setIfInBounds_toArray, List.set_cons_zero, List.set_cons_succ]
        refine wpAnyH_take (i := 17) (oi := ({ dst := some 134, op := Op.indexAddr 31 (Operand.tmp 129) (Operand.tmp 133), type := 0, pos := "ref.go:150", after := #[{ on := 12, ground := Ground.data }, { on := 16, ground := Ground.data }], guard := none } : Oper)) (v := ?x18_v17) rfl (by kernel_rfl) (by kernel_rfl) (by kernel_rfl) (fun _ _ _ h => h) (Or.inl ⟨by rfl, ?x18_y17⟩) (by assumption) ?x18_r17
        case x18_y17 =>
          intro w hSw
          (try dsimp only at hSw)
          go_simp
          (try with_reducible rfl)
        try simp only [Act.put, List.setIfInBounds_toArray, List.set_cons_zero, List.set_cons_succ]
        refine wpAnyH_take (i := 18) (oi := ({ dst := some 135, op := Op.load 36 (Operand.tmp 134), type := 36, pos := "ref.go:150", after := #[{ on := 17, ground := Ground.data }], guard := none } : Oper)) (v := ?x19_v18) rfl (by kernel_rfl) (by kernel_rfl) (by kernel_rfl) (fun _ _ _ h => h) (Or.inl ⟨by rfl, ?x19_y18⟩) (by assumption) ?x19_r18
        case x19_y18 =>
          intro w hSw
          (try dsimp only at hSw)
          go_simp
          (try with_reducible rfl)
        try simp only [Act.put, List.setIfInBounds_toArray, List.set_cons_zero, List.set_cons_succ]
        refine wpAnyH_ready (rs := [19]) (by kernel_rfl) (by simp) ?_
        refine AllReadyH.cons (o := ({ dst := some 136, op := Op.call { callee := Callee.value (Operand.func 70), args := #[Operand.tmp 118, Operand.tmp 126, Operand.tmp 128, Operand.tmp 135], argTypes := #[3, 3, 3, 36] }, type := 39, pos := "ref.go:150", after := #[{ on := 1, ground := Ground.data }, { on := 9, ground := Ground.data }, { on := 11, ground := Ground.data }, { on := 18, ground := Ground.data }], guard := none } : Oper)) rfl (fun K hKK => ?_) AllReadyH.nil
        go_simp
        refine (HC.out _).mono ?_
        rintro e w3 ⟨rfl, rfl⟩
        refine hKK.out _ _ (HS.out _ (by first | exact Below.refl _ _ | exact drewD (Below.refl _ _) | exact drewR (Below.refl _ _) | exact (drewD (Below.refl _ _)).trans hb3)) (fun hS19_19 => ?_)
        try simp only [Act.put, List.setIfInBounds_toArray, List.set_cons_zero, List.set_cons_succ]
        refine wpAnyH_take (i := 20) (oi := ({ dst := some 116, op := Op.move (Operand.tmp 136), type := 39, pos := "ref.go:150", after := #[{ on := 19, ground := Ground.data }], guard := none } : Oper)) (v := ?x20_v20) rfl (by kernel_rfl) (by kernel_rfl) (by kernel_rfl) (fun _ _ _ h => h) (Or.inl ⟨by rfl, ?x20_y20⟩) (by assumption) ?x20_r20
        case x20_y20 =>
          intro w hSw
          (try dsimp only at hSw)
          go_simp
          (try with_reducible rfl)
        try simp only [Act.put, List.setIfInBounds_toArray, List.set_cons_zero, List.set_cons_succ]
        refine wpAnyH_take (i := 21) (oi := ({ dst := some 137, op := Op.extract (Operand.tmp 116) 0, type := 36, pos := "ref.go:150", after := #[{ on := 20, ground := Ground.data }], guard := none } : Oper)) (v := ?x21_v21) rfl (by kernel_rfl) (by kernel_rfl) (by kernel_rfl) (fun _ _ _ h => h) (Or.inl ⟨by rfl, ?x21_y21⟩) (by assumption) ?x21_r21
        case x21_y21 =>
          intro w hSw
          (try dsimp only at hSw)
          go_simp
          (try with_reducible rfl)
        try simp only [Act.put, List.setIfInBounds_toArray, List.set_cons_zero, List.set_cons_succ]
        refine wpAnyH_take (i := 22) (oi := ({ dst := some 138, op := Op.extract (Operand.tmp 116) 1, type := 25, pos := "ref.go:150", after := #[{ on := 20, ground := Ground.data }, { on := 23, ground := Ground.gcOnly Departure.lateStores }], guard := none } : Oper)) (v := ?x22_v22) rfl (by kernel_rfl) (by kernel_rfl) (by kernel_rfl) (fun _ _ _ h => h) (Or.inl ⟨by rfl, ?x22_y22⟩) (by assumption) ?x22_r22
        case x22_y22 =>
          intro w hSw
          (try dsimp only at hSw)
          go_simp
          (try with_reducible rfl)
        try simp only [Act.put, List.setIfInBounds_toArray, List.set_cons_zero, List.set_cons_succ]
        refine wpAnyH_take (i := 23) (oi := ({ dst := some 8, op := Op.assign (Operand.tmp 137), type := 36, pos := "ref.go:150", after := #[{ on := 21, ground := Ground.data }, { on := 19, ground := Ground.chain }, { on := 0, ground := Ground.phase }, { on := 1, ground := Ground.phase }, { on := 2, ground := Ground.phase }, { on := 3, ground := Ground.phase }, { on := 4, ground := Ground.phase }, { on := 5, ground := Ground.phase }, { on := 6, ground := Ground.phase }, { on := 7, ground := Ground.phase }, { on := 8, ground := Ground.phase }, { on := 9, ground := Ground.phase }, { on := 10, ground := Ground.phase }, { on := 11, ground := Ground.phase }, { on := 12, ground := Ground.phase }, { on := 13, ground := Ground.phase }, { on := 14, ground := Ground.phase }, { on := 15, ground := Ground.phase }, { on := 16, ground := Ground.phase }, { on := 17, ground := Ground.phase }, { on := 18, ground := Ground.phase }, { on := 19, ground := Ground.phase }, { on := 20, ground := Ground.phase }, { on := 21, ground := Ground.phase }, { on := 22, ground := Ground.textOnly Departure.lateStores }], guard := none } : Oper)) (v := ?x23_v23) rfl (by kernel_rfl) (by kernel_rfl) (by kernel_rfl) (fun _ _ _ h => h) (Or.inl ⟨by rfl, ?x23_y23⟩) (by assumption) ?x23_r23
        case x23_y23 =>
          intro w hSw
          (try dsimp only at hSw)
          go_simp
          (try with_reducible rfl)
        try simp only [Act.put, List.setIfInBounds_toArray, List.set_cons_zero, List.set_cons_succ]
        refine wpAnyH_done (by kernel_rfl) ?_ _
        have hbX : Below W2.heap.size W2 W2.drew := drewD (Below.refl _ _)
        have hown4 := own_below hown2 hbX
        have hb6 := hb2.trans (hbX.mono hb2.size)
        clear hbX hown2 hb2 HS
        generalize W2.drew = w4 at hown4 hb6 ⊢
        clear b0 b1 b3 HC
        go_wp2_with (at_builtin; refine wpList_append_own _ rfl _ _ 31 rfl w.heap.size 36 i0 (.int .u32 0) 1 4 Tryz.underlying31 hi hz0 hz1 hz2 rfl (by decide) _ _ _ rfl (hown4.alloc _) ⟨w4.heap.size, 0, none⟩ 1 1 [.int .u32 ((V2 : Nat) : Int)] rfl rfl (one_new w4 _ _) ?k2 ?k3 ?k4 ?k5 ?_)
        case k2 => simp [Value.oneCell']
        case k3 => unfold maxLen; omega
        case k4 => omega
        case k5 => have := hb6.size; simp; omega
        intro v2 w7 hown7 hgrow _
        have hb7 : Below w.heap.size w w7 := (hb6.alloc hb6.size _).grown hgrow (by have := hb6.size; simp; omega) (own_base (hown4.alloc (.cells #[.int .u32 ((V2 : Nat) : Int)] 36)))
        have HO8 := Lib.hid (show w7.ownsRow w.heap.size 36 1 v2 (i + 1) (uV (vals T env (i + 1))) by
          rw [HVS.out, uV_app, HV2.out]
          exact hown7)
        clear hown4 hown7 hgrow hb6
        go_wp2
        go_roundw
        case rel => exact ⟨i + 1, by omega, by go_num, HO8.out, hb7⟩
        case measure => simp [intOf]; omega
      have o2 : x.op ≤ 13 := by omega
      have o3 : 1 ≤ x.op := by omega
      clear n0 n33 n14 n15 hop o1
      rename 1 ≤ x.op => o1
      have hn : n' = 2 := by
        have := hF.len
        rw [← hI.1, show argN x.op = 2 from if_pos (by omega)] at this
        omega
      obtain ⟨p, hp, hpT, hpl, hpw, hpv⟩ := hF.arg 0 (by rw [← hI.1]; omega)
      obtain ⟨q, hq, hqT, hql, hqw, hqv⟩ := hF.arg 1 (by rw [← hI.1]; omega)
      have HV2 := Lib.hid (HV.out.trans (val1_tot (T := T) (l := l) (env := env) o1 o2 hp hq))
      have hfit := hF.fit
      unfold fitB wOf at hfit
      rw [if_pos ⟨o1, o2⟩, hp, hq, Int.toNat_natCast, Int.toNat_natCast, Bool.and_eq_true, decide_eq_true_iff, decide_eq_true_iff] at hfit
      rw [hfit.1] at hpv
      rw [hfit.2] at hqv
      have hw := hF.wid
      rw [← hL.1] at hpl hql
      obtain ⟨bL, oL, rfl, hbL, hcp⟩ := hL.at_ hpl
      obtain ⟨bL', oL', e, -, hcq⟩ := hL.at_ hql
      injection e with e
      injection e with e e2 _
      subst e e2
      obtain ⟨bA, oA, rfl, hbA, ha0, ha1, -⟩ := hI.at0 (by omega)
      replace ha1 := ha1 (by omega)
      rw [hp] at ha0
      rw [hq] at ha1
      have hcapL := hL.2.1
      have hmaxL := hL.2.2.1
      have hcapI := hI.2.1
      have hmaxI := hI.2.2.1
      generalize l[p]! = a at HV2 hpv hcp
      generalize l[q]! = d at HV2 hqv hcq
      clear hF hI hL hfit hp hq hpw hqw hpT hqT HV
      obtain ⟨op, wid, fl, args, imm⟩ := x
      simp only at a0 a1 a2 a3 a4 o1 o2 hw HV2 hpv hqv ⊢
      subst hn
      have HC := Lib.hid (fun w1 => rTotal_any op wid a d w1 hw.1 hw.2 hpv hqv o1 o2)
      generalize totF op.toNat wid.toNat a d = V2 at HV2 HC
      have e0 : (op == 0) = false := beq_false_of_ne (by omega)
      have e33 : (op == 33) = false := beq_false_of_ne (by omega)
      have e14 : (op == 14) = false := beq_false_of_ne (by omega)
      have e15 : (op == 15) = false := beq_false_of_ne (by omega)
      have e16 : decide (16 ≤ op) = false := decide_eq_false (by omega)
      clear o1 o2 hw hpv hqv
      go_upto_region 6 with fail
      have hx := heap_alloc_new wr (.cells #[.int .i64 op, .int .i64 wid, .int .i64 fl, .slice (some ⟨bA, oA, none⟩) 2 c', .int .u32 imm] 38)
      have hb2 := hb.alloc hb.size (.cells #[.int .i64 op, .int .i64 wid, .int .i64 fl, .slice (some ⟨bA, oA, none⟩) 2 c', .int .u32 imm] 38)
      have hown2 := own_below hown ((Below.refl wr.heap.size wr).alloc (Nat.le_refl _) (.cells #[.int .i64 op, .int .i64 wid, .int .i64 fl, .slice (some ⟨bA, oA, none⟩) 2 c', .int .u32 imm] 38))
      have hbr : Below wr.heap.size wr (wr.alloc (.cells #[.int .i64 op, .int .i64 wid, .int .i64 fl, .slice (some ⟨bA, oA, none⟩) 2 c', .int .u32 imm] 38)) := (Below.refl _ _).alloc (Nat.le_refl _) _
      generalize World.alloc wr _ = W2 at hx hb2 hown2 hbr ⊢
      clear hown hb
      have HS := Lib.hid (show ∀ U, Below W2.heap.size W2 U → (U.cell? ⟨wr.heap.size, 0, none⟩ = some (.int .i64 op) ∧ U.cell? ⟨wr.heap.size, 1, none⟩ = some (.int .i64 wid) ∧ U.cell? ⟨wr.heap.size, 3, none⟩ = some (.slice (some ⟨bA, oA, none⟩) 2 c')) ∧ (U.cell? ⟨bA, oA, none⟩ = some (.int .i64 (p : Int)) ∧ U.cell? ⟨bA, oA + 1, none⟩ = some (.int .i64 (q : Int))) ∧ U.cell? ⟨bL, oL + p, none⟩ = some (.int .u32 (a : Int)) ∧ U.cell? ⟨bL, oL + q, none⟩ = some (.int .u32 (d : Int)) from fun U hU => by
        obtain ⟨d0, d1, -, d3, -⟩ := cells5 (x := ⟨op, wid, fl, args, imm⟩) ((hU.block _ (lt_of_block hx)).trans hx)
        have hbU := hbr.trans (hU.mono hbr.size)
        exact ⟨⟨d0, d1, d3⟩, ⟨(hbU.cell (p := ⟨bA, oA, none⟩) hbA).trans ha0, (hbU.cell (p := ⟨bA, oA + 1, none⟩) hbA).trans ha1⟩, (hbU.cell (p := ⟨bL, oL + p, none⟩) hbL).trans hcp, (hbU.cell (p := ⟨bL, oL + q, none⟩) hbL).trans hcq⟩)
      have hBl := lt_of_block hx
      obtain ⟨⟨b0, b1, b3⟩, -⟩ := HS.out W2 (Below.refl _ _)
      clear hx hbA ha0 ha1 hcp hcq hbL hbr a0 a1 a2 a3 a4
      generalize wr.heap.size = B at HS b0 b1 b3 hBl ⊢
      go_upto_region 7 with fail
      refine wp_region_held_drew (S := (fun U => (U.cell? ⟨B, 0, none⟩ = some (.int .i64 op) ∧ U.cell? ⟨B, 1, none⟩ = some (.int .i64 wid) ∧ U.cell? ⟨B, 3, none⟩ = some (.slice (some ⟨bA, oA, none⟩) 2 c')) ∧ (U.cell? ⟨bA, oA, none⟩ = some (.int .i64 (p : Int)) ∧ U.cell? ⟨bA, oA + 1, none⟩ = some (.int .i64 (q : Int))) ∧ U.cell? ⟨bL, oL + p, none⟩ = some (.int .u32 (a : Int)) ∧ U.cell? ⟨bL, oL + q, none⟩ = some (.int .u32 (d : Int)))) (by kernel_rfl) ?_ (fun hHeld => ?_)
      · exact HS.out _ (by first | exact Below.refl _ _ | exact drewD (Below.refl _ _) | exact drewR (Below.refl _ _) | exact (drewD (Below.refl _ _)).trans hb3)
      refine wpAnyH_take (i := 0) (oi := ({ dst := some 22, op := Op.fieldAddr 38 (Operand.tmp 7) 0, type := 0, pos := "ref.go:152", after := #[], guard := none } : Oper)) (v := ?t1_v0) rfl (by kernel_rfl) (by kernel_rfl) (by kernel_rfl) (fun _ _ _ h => h) (Or.inl ⟨by rfl, ?t1_y0⟩) (by assumption) ?t1_r0
      case t1_y0 =>
        intro w hSw
        (try dsimp only at hSw)
        go_simp
        (try with_reducible rfl)
      try simp only [Act.put, List.setIfInBounds_toArray, List.set_cons_zero, List.set_cons_succ]
      refine wpAnyH_take (i := 1) (oi := ({ dst := some 23, op := Op.load 3 (Operand.tmp 22), type := 3, pos := "ref.go:152", after := #[{ on := 0, ground := Ground.data }], guard := none } : Oper)) (v := ?t2_v1) rfl (by kernel_rfl) (by kernel_rfl) (by kernel_rfl) (fun _ _ _ h => h) (Or.inl ⟨by rfl, ?t2_y1⟩) (by assumption) ?t2_r1
      case t2_y1 =>
        intro w hSw
        (try dsimp only at hSw)
        go_simp
        (try with_reducible rfl)
      try simp only [Act.put, List.setIfInBounds_toArray, List.set_cons_zero, List.set_cons_succ]
      refine wpAnyH_take (i := 2) (oi := ({ dst := some 24, op := Op.fieldAddr 38 (Operand.tmp 7) 1, type := 0, pos := "ref.go:152", after := #[], guard := none } : Oper)) (v := ?t3_v2) rfl (by kernel_rfl) (by kernel_rfl) (by kernel_rfl) (fun _ _ _ h => h) (Or.inl ⟨by rfl, ?t3_y2⟩) (by assumption) ?t3_r2
      case t3_y2 =>
        intro w hSw
        (try dsimp only at hSw)
        go_simp
        (try with_reducible rfl)
      try simp only [Act.put, List.setIfInBounds_toArray, List.set_cons_zero, List.set_cons_succ]
      refine wpAnyH_take (i := 3) (oi := ({ dst := some 25, op := Op.load 3 (Operand.tmp 24), type := 3, pos := "ref.go:152", after := #[{ on := 2, ground := Ground.data }], guard := none } : Oper)) (v := ?t4_v3) rfl (by kernel_rfl) (by kernel_rfl) (by kernel_rfl) (fun _ _ _ h => h) (Or.inl ⟨by rfl, ?t4_y3⟩) (by assumption) ?t4_r3
      case t4_y3 =>
        intro w hSw
        (try dsimp only at hSw)
        go_simp
        (try with_reducible rfl)
      try simp only [Act.put, List.setIfInBounds_toArray, List.set_cons_zero, List.set_cons_succ]
      refine wpAnyH_take (i := 4) (oi := ({ dst := some 26, op := Op.move (Operand.tmp 5), type := 31, pos := "ref.go:152", after := #[], guard := none } : Oper)) (v := ?t5_v4) rfl (by kernel_rfl) (by kernel_rfl) (by kernel_rfl) (fun _ _ _ h => h) (Or.inl ⟨by rfl, ?t5_y4⟩) (by assumption) ?t5_r4
      case t5_y4 =>
        intro w hSw
        (try dsimp only at hSw)
        go_simp
        (try with_reducible rfl)
      try simp only [Act.put, List.setIfInBounds_toArray, List.set_cons_zero, List.set_cons_succ]
      refine wpAnyH_take (i := 5) (oi := ({ dst := some 27, op := Op.fieldAddr 38 (Operand.tmp 7) 3, type := 0, pos := "ref.go:152", after := #[], guard := none } : Oper)) (v := ?t6_v5) rfl (by kernel_rfl) (by kernel_rfl) (by kernel_rfl) (fun _ _ _ h => h) (Or.inl ⟨by rfl, ?t6_y5⟩) (by assumption) ?t6_r5
      case t6_y5 =>
        intro w hSw
        (try dsimp only at hSw)
        go_simp
        (try with_reducible rfl)
      try simp only [Act.put, List.setIfInBounds_toArray, List.set_cons_zero, List.set_cons_succ]
      refine wpAnyH_take (i := 6) (oi := ({ dst := some 28, op := Op.load 35 (Operand.tmp 27), type := 35, pos := "ref.go:152", after := #[{ on := 5, ground := Ground.data }], guard := none } : Oper)) (v := ?t7_v6) rfl (by kernel_rfl) (by kernel_rfl) (by kernel_rfl) (fun _ _ _ h => h) (Or.inl ⟨by rfl, ?t7_y6⟩) (by assumption) ?t7_r6
      case t7_y6 =>
        intro w hSw
        (try dsimp only at hSw)
        go_simp
        (try with_reducible rfl)
      try simp only [Act.put, List.setIfInBounds_toArray, List.set_cons_zero, List.set_cons_succ]
      refine wpAnyH_take (i := 7) (oi := ({ dst := some 29, op := Op.indexAddr 35 (Operand.tmp 28) (Operand.const (Value.int IntKind.i64 0)), type := 0, pos := "ref.go:152", after := #[{ on := 6, ground := Ground.data }], guard := none } : Oper)) (v := ?t8_v7) rfl (by kernel_rfl) (by kernel_rfl) (by kernel_rfl) (fun _ _ _ h => h) (Or.inl ⟨by rfl, ?t8_y7⟩) (by assumption) ?t8_r7
      case t8_y7 =>
        intro w hSw
        (try dsimp only at hSw)
        go_simp
        (try with_reducible rfl)
      try simp only [Act.put, List.setIfInBounds_toArray, List.set_cons_zero, List.set_cons_succ]
      refine wpAnyH_take (i := 8) (oi := ({ dst := some 30, op := Op.load 3 (Operand.tmp 29), type := 3, pos := "ref.go:152", after := #[{ on := 7, ground := Ground.data }], guard := none } : Oper)) (v := ?t9_v8) rfl (by kernel_rfl) (by kernel_rfl) (by kernel_rfl) (fun _ _ _ h => h) (Or.inl ⟨by rfl, ?t9_y8⟩) (by assumption) ?t9_r8
      case t9_y8 =>
        intro w hSw
        (try dsimp only at hSw)
        go_simp
        (try with_reducible rfl)
      try simp only [Act.put, List.setIfInBounds_toArray, List.set_cons_zero, List.set_cons_succ]
      refine wpAnyH_take (i := 9) (oi := ({ dst := some 31, op := Op.indexAddr 31 (Operand.tmp 26) (Operand.tmp 30), type := 0, pos := "ref.go:152", after := #[{ on := 4, ground := Ground.data }, { on := 8, ground := Ground.data }], guard := none } : Oper)) (v := ?t10_v9) rfl (by kernel_rfl) (by kernel_rfl) (by kernel_rfl) (fun _ _ _ h => h) (Or.inl ⟨by rfl, ?t10_y9⟩) (by assumption) ?t10_r9
      case t10_y9 =>
        intro w hSw
        (try dsimp only at hSw)
        go_simp
        (try with_reducible rfl)
      try simp only [Act.put, List.setIfInBounds_toArray, List.set_cons_zero, List.set_cons_succ]
      refine wpAnyH_take (i := 10) (oi := ({ dst := some 32, op := Op.load 36 (Operand.tmp 31), type := 36, pos := "ref.go:152", after := #[{ on := 9, ground := Ground.data }], guard := none } : Oper)) (v := ?t11_v10) rfl (by kernel_rfl) (by kernel_rfl) (by kernel_rfl) (fun _ _ _ h => h) (Or.inl ⟨by rfl, ?t11_y10⟩) (by assumption) ?t11_r10
      case t11_y10 =>
        intro w hSw
        (try dsimp only at hSw)
        go_simp
        (try with_reducible rfl)
      try simp only [Act.put, List.setIfInBounds_toArray, List.set_cons_zero, List.set_cons_succ]
      refine wpAnyH_take (i := 11) (oi := ({ dst := some 33, op := Op.move (Operand.tmp 5), type := 31, pos := "ref.go:152", after := #[], guard := none } : Oper)) (v := ?t12_v11) rfl (by kernel_rfl) (by kernel_rfl) (by kernel_rfl) (fun _ _ _ h => h) (Or.inl ⟨by rfl, ?t12_y11⟩) (by assumption) ?t12_r11
      case t12_y11 =>
        intro w hSw
        (try dsimp only at hSw)
        go_simp
        (try with_reducible rfl)
      try simp only [Act.put, List.setIfInBounds_toArray, List.set_cons_zero, List.set_cons_succ]
      refine wpAnyH_take (i := 12) (oi := ({ dst := some 34, op := Op.fieldAddr 38 (Operand.tmp 7) 3, type := 0, pos := "ref.go:152", after := #[], guard := none } : Oper)) (v := ?t13_v12) rfl (by kernel_rfl) (by kernel_rfl) (by kernel_rfl) (fun _ _ _ h => h) (Or.inl ⟨by rfl, ?t13_y12⟩) (by assumption) ?t13_r12
      case t13_y12 =>
        intro w hSw
        (try dsimp only at hSw)
        go_simp
        (try with_reducible rfl)
      try simp only [Act.put, List.setIfInBounds_toArray, List.set_cons_zero, List.set_cons_succ]
      refine wpAnyH_take (i := 13) (oi := ({ dst := some 35, op := Op.load 35 (Operand.tmp 34), type := 35, pos := "ref.go:152", after := #[{ on := 12, ground := Ground.data }], guard := none } : Oper)) (v := ?t14_v13) rfl (by kernel_rfl) (by kernel_rfl) (by kernel_rfl) (fun _ _ _ h => h) (Or.inl ⟨by rfl, ?t14_y13⟩) (by assumption) ?t14_r13
      case t14_y13 =>
        intro w hSw
        (try dsimp only at hSw)
        go_simp
        (try with_reducible rfl)
      try simp only [Act.put, List.setIfInBounds_toArray, List.set_cons_zero, List.set_cons_succ]
      refine wpAnyH_take (i := 14) (oi := ({ dst := some 36, op := Op.indexAddr 35 (Operand.tmp 35) (Operand.const (Value.int IntKind.i64 1)), type := 0, pos := "ref.go:152", after := #[{ on := 13, ground := Ground.data }], guard := none } : Oper)) (v := ?t15_v14) rfl (by kernel_rfl) (by kernel_rfl) (by kernel_rfl) (fun _ _ _ h => h) (Or.inl ⟨by rfl, ?t15_y14⟩) (by assumption) ?t15_r14
      case t15_y14 =>
        intro w hSw
        (try dsimp only at hSw)
        go_simp
        (try with_reducible rfl)
      try simp only [Act.put, List.setIfInBounds_toArray, List.set_cons_zero, List.set_cons_succ]
      refine wpAnyH_take (i := 15) (oi := ({ dst := some 37, op := Op.load 3 (Operand.tmp 36), type := 3, pos := "ref.go:152", after := #[{ on := 14, ground := Ground.data }], guard := none } : Oper)) (v := ?t16_v15) rfl (by kernel_rfl) (by kernel_rfl) (by kernel_rfl) (fun _ _ _ h => h) (Or.inl ⟨by rfl, ?t16_y15⟩) (by assumption) ?t16_r15
      case t16_y15 =>
        intro w hSw
        (try dsimp only at hSw)
        go_simp
        (try with_reducible rfl)
      try simp only [Act.put, List.setIfInBounds_toArray, List.set_cons_zero, List.set_cons_succ]
      refine wpAnyH_take (i := 16) (oi := ({ dst := some 38, op := Op.indexAddr 31 (Operand.tmp 33) (Operand.tmp 37), type := 0, pos := "ref.go:152", after := #[{ on := 11, ground := Ground.data }, { on := 15, ground := Ground.data }], guard := none } : Oper)) (v := ?t17_v16) rfl (by kernel_rfl) (by kernel_rfl) (by kernel_rfl) (fun _ _ _ h => h) (Or.inl ⟨by rfl, ?t17_y16⟩) (by assumption) ?t17_r16
      case t17_y16 =>
        intro w hSw
        (try dsimp only at hSw)
        go_simp
        (try with_reducible rfl)
      try simp only [Act.put, List.setIfInBounds_toArray, List.set_cons_zero, List.set_cons_succ]
      refine wpAnyH_take (i := 17) (oi := ({ dst := some 39, op := Op.load 36 (Operand.tmp 38), type := 36, pos := "ref.go:152", after := #[{ on := 16, ground := Ground.data }], guard := none } : Oper)) (v := ?t18_v17) rfl (by kernel_rfl) (by kernel_rfl) (by kernel_rfl) (fun _ _ _ h => h) (Or.inl ⟨by rfl, ?t18_y17⟩) (by assumption) ?t18_r17
      case t18_y17 =>
        intro w hSw
        (try dsimp only at hSw)
        go_simp
        (try with_reducible rfl)
      try simp only [Act.put, List.setIfInBounds_toArray, List.set_cons_zero, List.set_cons_succ]
      refine wpAnyH_ready (rs := [18]) (by kernel_rfl) (by simp) ?_
      refine AllReadyH.cons (o := ({ dst := some 40, op := Op.call { callee := Callee.value (Operand.func 71), args := #[Operand.tmp 23, Operand.tmp 25, Operand.tmp 32, Operand.tmp 39], argTypes := #[3, 3, 36, 36] }, type := 39, pos := "ref.go:152", after := #[{ on := 1, ground := Ground.data }, { on := 3, ground := Ground.data }, { on := 10, ground := Ground.data }, { on := 17, ground := Ground.data }], guard := none } : Oper)) rfl (fun K hKK => ?_) AllReadyH.nil
      go_simp
      refine (HC.out _).mono ?_
      rintro e w3 ⟨rfl, hb3⟩
      refine hKK.out _ _ (HS.out _ (by first | exact Below.refl _ _ | exact drewD (Below.refl _ _) | exact drewR (Below.refl _ _) | exact (drewD (Below.refl _ _)).trans hb3)) (fun hS18_18 => ?_)
      try simp only [Act.put, List.setIfInBounds_toArray, List.set_cons_zero, List.set_cons_succ]
      refine wpAnyH_take (i := 19) (oi := ({ dst := some 21, op := Op.move (Operand.tmp 40), type := 39, pos := "ref.go:152", after := #[{ on := 18, ground := Ground.data }], guard := none } : Oper)) (v := ?t19_v19) rfl (by kernel_rfl) (by kernel_rfl) (by kernel_rfl) (fun _ _ _ h => h) (Or.inl ⟨by rfl, ?t19_y19⟩) (by assumption) ?t19_r19
      case t19_y19 =>
        intro w hSw
        (try dsimp only at hSw)
        go_simp
        (try with_reducible rfl)
      try simp only [Act.put, List.setIfInBounds_toArray, List.set_cons_zero, List.set_cons_succ]
      refine wpAnyH_take (i := 20) (oi := ({ dst := some 41, op := Op.extract (Operand.tmp 21) 0, type := 36, pos := "ref.go:152", after := #[{ on := 19, ground := Ground.data }], guard := none } : Oper)) (v := ?t20_v20) rfl (by kernel_rfl) (by kernel_rfl) (by kernel_rfl) (fun _ _ _ h => h) (Or.inl ⟨by rfl, ?t20_y20⟩) (by assumption) ?t20_r20
      case t20_y20 =>
        intro w hSw
        (try dsimp only at hSw)
        go_simp
        (try with_reducible rfl)
      try simp only [Act.put, List.setIfInBounds_toArray, List.set_cons_zero, List.set_cons_succ]
      refine wpAnyH_take (i := 21) (oi := ({ dst := some 42, op := Op.extract (Operand.tmp 21) 1, type := 25, pos := "ref.go:152", after := #[{ on := 19, ground := Ground.data }, { on := 22, ground := Ground.gcOnly Departure.lateStores }], guard := none } : Oper)) (v := ?t21_v21) rfl (by kernel_rfl) (by kernel_rfl) (by kernel_rfl) (fun _ _ _ h => h) (Or.inl ⟨by rfl, ?t21_y21⟩) (by assumption) ?t21_r21
      case t21_y21 =>
        intro w hSw
        (try dsimp only at hSw)
        go_simp
        (try with_reducible rfl)
      try simp only [Act.put, List.setIfInBounds_toArray, List.set_cons_zero, List.set_cons_succ]
      refine wpAnyH_take (i := 22) (oi := ({ dst := some 8, op := Op.assign (Operand.tmp 41), type := 36, pos := "ref.go:152", after := #[{ on := 20, ground := Ground.data }, { on := 18, ground := Ground.chain }, { on := 0, ground := Ground.phase }, { on := 1, ground := Ground.phase }, { on := 2, ground := Ground.phase }, { on := 3, ground := Ground.phase }, { on := 4, ground := Ground.phase }, { on := 5, ground := Ground.phase }, { on := 6, ground := Ground.phase }, { on := 7, ground := Ground.phase }, { on := 8, ground := Ground.phase }, { on := 9, ground := Ground.phase }, { on := 10, ground := Ground.phase }, { on := 11, ground := Ground.phase }, { on := 12, ground := Ground.phase }, { on := 13, ground := Ground.phase }, { on := 14, ground := Ground.phase }, { on := 15, ground := Ground.phase }, { on := 16, ground := Ground.phase }, { on := 17, ground := Ground.phase }, { on := 18, ground := Ground.phase }, { on := 19, ground := Ground.phase }, { on := 20, ground := Ground.phase }, { on := 21, ground := Ground.textOnly Departure.lateStores }], guard := none } : Oper)) (v := ?t22_v22) rfl (by kernel_rfl) (by kernel_rfl) (by kernel_rfl) (fun _ _ _ h => h) (Or.inl ⟨by rfl, ?t22_y22⟩) (by assumption) ?t22_r22
      case t22_y22 =>
        intro w hSw
        (try dsimp only at hSw)
        go_simp
        (try with_reducible rfl)
      try simp only [Act.put, List.setIfInBounds_toArray, List.set_cons_zero, List.set_cons_succ]
      refine wpAnyH_done (by kernel_rfl) ?_ _
      have hbX : Below W2.heap.size W2 w3 := (drewD (Below.refl _ _)).trans hb3
      have hown4 := own_below hown2 hbX
      have hb6 := hb2.trans (hbX.mono hb2.size)
      clear hbX hown2 hb2 HS hb3 HC b0 b1 b3
      rename World => w4
      go_wp2_with (at_builtin; refine wpList_append_own _ rfl _ _ 31 rfl w.heap.size 36 i0 (.int .u32 0) 1 4 Tryz.underlying31 hi hz0 hz1 hz2 rfl (by decide) _ _ _ rfl (hown4.alloc _) ⟨w4.heap.size, 0, none⟩ 1 1 [.int .u32 ((V2 : Nat) : Int)] rfl rfl (one_new w4 _ _) ?k2 ?k3 ?k4 ?k5 ?_)
      case k2 => simp [Value.oneCell']
      case k3 => unfold maxLen; omega
      case k4 => omega
      case k5 => have := hb6.size; simp; omega
      intro v2 w7 hown7 hgrow _
      have hb7 : Below w.heap.size w w7 := (hb6.alloc hb6.size _).grown hgrow (by have := hb6.size; simp; omega) (own_base (hown4.alloc (.cells #[.int .u32 ((V2 : Nat) : Int)] 36)))
      have HO8 := Lib.hid (show w7.ownsRow w.heap.size 36 1 v2 (i + 1) (uV (vals T env (i + 1))) by
        rw [HVS.out, uV_app, HV2.out]
        exact hown7)
      clear hown4 hown7 hgrow hb6
      go_wp2
      go_roundw
      case rel => exact ⟨i + 1, by omega, by go_num, HO8.out, hb7⟩
      case measure => simp [intOf]; omega
    · obtain rfl : i = n := by omega
      have HL := Lib.hid hL
      go_wp2
      go_ret
      exact ⟨⟨L, cL, rfl, HL.out⟩, hb⟩
end
end
section
open Go.RowKit

section
variable {w : World} {A E : Option Addr} {n c m cE : Nat} {T : List Nd} {env : List Nat} (h : Term w A n c T) (hE : Ws w E m cE env) (hu : ∀ j, j < m → env[j]! < 4294967296)
include h hE hu
set_option maxRecDepth 100000 in
set_option maxHeartbeats 8000000 in
theorem refValues_any : Calls Tryz.prog 28 #[.slice A n c, .slice E m cE] w fun e w' => (∃ A' n' c', e = .returned (.tuple #[.slice A' n' c', .int .i64 (errV T env)]) ∧ Ws w' A' n' c' (resV T env)) ∧ Below w.heap.size w w' := by
  have HV := Lib.hid (refValidate_any h)
  by_cases hv : valF T = 0
  · have HEN := Lib.hid (fun w1 (hb : Below w.heap.size w w1) => refIsEnv_any (h.below hb) hv (hE.below hb) hu)
    rw [hv] at HV
    cases he : envB T env
    · have HE1 := Lib.hid (show errV T env = 1 by unfold errV; rw [if_pos hv, he]; rfl)
      have HR := Lib.hid (show resV T env = [] by unfold resV; rw [if_neg (by rw [HE1.out]; decide)])
      rw [he] at HEN
      generalize resV T env = rv at HR ⊢
      generalize errV T env = ev at HE1 ⊢
      clear h hE hu hv he
      go_enter Tryz.func28, Tryz.ntmps28
      go_wp2_with fail
      refine HV.out.mono ?_
      rintro e w1 ⟨rfl, hb⟩
      go_wp2_with fail
      refine (HEN.out _ hb).mono ?_
      rintro e w2 ⟨rfl, hb2⟩
      have hb3 := hb.trans (hb2.mono hb.size)
      go_wp2
      go_ret2
      exact ⟨⟨none, 0, 0, by exact ret_t HE1.out, ws_nil HR.out⟩, hb3⟩
    · have HE1 := Lib.hid (show errV T env = 0 by unfold errV; rw [if_pos hv, he]; rfl)
      have HR := Lib.hid (show resV T env = vals T env n by unfold resV; rw [if_pos HE1.out, h.1])
      rw [he] at HEN
      have HBL := Lib.hid (fun w1 (hb : Below w.heap.size w w1) => below_any (h.below hb) (hE.below hb) (val_zero.1 hv).1.2 (fun k hk => fit_valid (env := env) hv h.imm he hk))
      generalize resV T env = rv at HR ⊢
      generalize errV T env = ev at HE1 ⊢
      clear h hE hu hv he
      go_enter Tryz.func28, Tryz.ntmps28
      go_wp2_with fail
      refine HV.out.mono ?_
      rintro e w1 ⟨rfl, hb⟩
      go_wp2_with fail
      refine (HEN.out _ hb).mono ?_
      rintro e w2 ⟨rfl, hb2⟩
      have hb3 := hb.trans (hb2.mono hb.size)
      go_wp2_with fail
      refine (HBL.out _ hb3).mono ?_
      rintro e w3 ⟨⟨A', c', rfl, hL⟩, hb4⟩
      have hb5 := hb3.trans (hb4.mono hb3.size)
      have HL := Lib.hid hL
      clear hL
      go_wp2
      go_ret2
      exact ⟨⟨A', n, c', by exact ret_t HE1.out, by rw [HR.out]; exact HL.out⟩, hb5⟩
  · have HE1 := Lib.hid (show errV T env = valF T by unfold errV; rw [if_neg hv])
    have HR := Lib.hid (show resV T env = [] by unfold resV; rw [if_neg (by rw [HE1.out]; exact hv)])
    generalize resV T env = rv at HR ⊢
    generalize errV T env = ev at HE1 ⊢
    generalize valF T = V at HV HE1 hv
    have e1 : (V != 0) = true := by simp [hv]
    clear h hE hu hv
    go_enter Tryz.func28, Tryz.ntmps28
    go_wp2_with fail
    refine HV.out.mono ?_
    rintro e w1 ⟨rfl, hb⟩
    go_wp2
    go_ret2
    exact ⟨⟨none, 0, 0, by exact ret_t HE1.out, ws_nil HR.out⟩, hb⟩
set_option maxRecDepth 100000 in
set_option maxHeartbeats 8000000 in
theorem refEval_any : Calls Tryz.prog 13 #[.slice A n c, .slice E m cE] w fun e w' => e = .returned (.tuple #[.int .u32 (evF T env : Nat), .int .i64 (errV T env)]) ∧ Below w.heap.size w w' := by
  have HX := Lib.hid (refValues_any h hE hu)
  by_cases he : errV T env = 0
  · have hv := (val_zero.1 (errV_zero he).1).1
    have HL := Lib.hid (resV_len he)
    have HE := Lib.hid (resV_last he (by omega))
    have HZ := Lib.hid he
    generalize T.length = N at hv HL HE
    generalize resV T env = rv at HX HL HE
    generalize evF T env = ev at HE ⊢
    rw [he] at HX
    generalize errV T env = er at HZ ⊢
    clear h hE hu he
    go_enter Tryz.func13, Tryz.ntmps13
    go_wp2_with fail
    refine HX.out.mono ?_
    rintro e w1 ⟨⟨A', n', c', rfl, hL⟩, hb⟩
    obtain rfl : n' = N := by rw [hL.1, HL.out]
    obtain ⟨b, off, rfl, hbs, hc⟩ := hL.at_ (j := n' - 1) (by omega)
    rw [HE.out] at hc
    have hcap := hL.2.1
    have hmax := hL.2.2.1
    have hi1 : ((n' : Nat) : Int) - 1 = ((n' - 1 : Nat) : Int) := by omega
    clear hL HX
    go_wp2
    go_ret2
    exact ⟨by exact ret_ui rfl HZ.out, hb⟩
  · have HZ := Lib.hid (show evF T env = 0 by unfold evF; rw [if_neg he])
    have e1 : (errV T env != 0) = true := by simp [he]
    generalize errV T env = er at HX e1 ⊢
    generalize evF T env = ev at HZ ⊢
    clear h hE hu he
    go_enter Tryz.func13, Tryz.ntmps13
    go_wp2_with fail
    refine HX.out.mono ?_
    rintro e w1 ⟨⟨A', n', c', rfl, hL⟩, hb⟩
    clear hL HX
    go_wp2
    go_ret2
    exact ⟨by exact ret_ui HZ.out rfl, hb⟩
end
end
end Go.Proofs.YtbohigjfdnnomaaGreatDoor
