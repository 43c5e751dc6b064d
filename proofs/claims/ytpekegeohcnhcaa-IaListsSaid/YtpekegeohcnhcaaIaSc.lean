/-
  The reference: counts.
-/
import Derived.Test.YtpekegeohcnhcaaIaSw
namespace Go.Proofs.Ytpekegeohcnhcaa
open Go.RowKit

set_option maxRecDepth 100000 in
set_option maxHeartbeats 8000000 in
theorem cnt_B_32 (op n d s imm : Int) (w : World) (h1 : -9223372036854775808 ≤ imm) (h2 : imm ≤ 9223372036854775807) (hop : 14 ≤ op ∧ op ≤ 19) (hg : ∀ w1, Calls Try.prog 85 #[.int .i64 op] w1 fun e w' => e = .returned (.int .i64 n) ∧ w1 = w') (hn : isR n = true) : Calls Try.prog 41 #[aggI ⟨op, d, s, 32, imm⟩] w (REnd w (((((decide ((32 : Int) = 32) || decide ((32 : Int) = 16)) && isR d) && (s == 0)) && decide (0 ≤ imm ∧ imm < 4294967296))) (if isS (sgnR 2147483648 imm) 128 = true then [131, 192 + 8 * n + d, imm % 256] else 129 :: (192 + 8 * n + d) :: le4 imm)) := by
  obtain ⟨i0, hi, hz0, hz1, hz2⟩ := info_parts infoBy
  have HG := Lib.hid hg
  clear hg
  obtain ⟨LV, hLV⟩ : ∃ l, (if isS (sgnR 2147483648 imm) 128 = true then [131, 192 + 8 * n + d, imm % 256] else 129 :: (192 + 8 * n + d) :: le4 imm) = l := ⟨_, rfl⟩
  rw [hLV]
  have HLV := Lib.hid hLV
  clear hLV
  have f7 : (op == 7) = false := beq_false_of_ne (by omega)
  have f8 : (op == 8) = false := beq_false_of_ne (by omega)
  have f9 : (op == 9) = false := beq_false_of_ne (by omega)
  have f10 : (op == 10) = false := beq_false_of_ne (by omega)
  have f11 : (op == 11) = false := beq_false_of_ne (by omega)
  have f12 : (op == 12) = false := beq_false_of_ne (by omega)
  have f13 : (op == 13) = false := beq_false_of_ne (by omega)
  have HSW := Lib.hid (sw_14_19 op hop)
  clear hop
  obtain ⟨Z, hZ⟩ : ∃ b, (decide ((32 : Int) = 32) || decide ((32 : Int) = 16)) = b := ⟨_, rfl⟩
  try rw [hZ]
  have HZ := Lib.hid hZ
  clear hZ
  obtain ⟨RD, hRD⟩ : ∃ b, isR d = b := ⟨_, rfl⟩
  try rw [hRD]
  have HRD := Lib.hid hRD
  clear hRD
  obtain ⟨RS, hRS⟩ : ∃ b, isR s = b := ⟨_, rfl⟩
  try rw [hRS]
  have HRS := Lib.hid hRS
  clear hRS
  obtain ⟨S0, hS0⟩ : ∃ b, (s == 0) = b := ⟨_, rfl⟩
  try rw [hS0]
  have HS0 := Lib.hid hS0
  obtain ⟨I0, hI0⟩ : ∃ b, (imm == 0) = b := ⟨_, rfl⟩
  try rw [hI0]
  have HI0 := Lib.hid hI0
  obtain ⟨FT, hFT⟩ : ∃ b, decide (0 ≤ imm ∧ imm < 4294967296) = b := ⟨_, rfl⟩
  try rw [hFT]
  have HFT := Lib.hid hFT
  clear hFT
  obtain ⟨R, hR⟩ : ∃ b, ((RD && RS) && I0) = b := ⟨_, rfl⟩
  try rw [hR]
  have HR := Lib.hid hR
  clear hR
  obtain ⟨O, hO⟩ : ∃ b, ((RD && S0) && I0) = b := ⟨_, rfl⟩
  try rw [hO]
  have HO := Lib.hid hO
  clear hO
  have HD := Lib.hid (fun w1 => rIsReg_at d RD w1 HRD.out)
  have HE := Lib.hid (fun w1 => rIsReg_at s RS w1 HRS.out)
  go_enter Try.func41, Try.ntmps41
  go_upto_region 2 with fail
  have hx := heap_alloc_new w (.cells #[.int .i64 op, .int .i64 d, .int .i64 s, .int .i64 32, .int .i64 imm] 23)
  have hb : Below w.heap.size w (w.alloc (.cells #[.int .i64 op, .int .i64 d, .int .i64 s, .int .i64 32, .int .i64 imm] 23)) := (Below.refl _ _).alloc (Nat.le_refl _) _
  generalize World.alloc w _ = W at hx hb ⊢
  obtain ⟨X, hX⟩ : ∃ X, X = w.heap.size := ⟨_, rfl⟩
  rw [← hX] at hx ⊢
  have HX := Lib.hid hX
  have lX := lt_of_block hx
  obtain ⟨x0, x1, x2, x3, x4⟩ := cells5 hx
  have HXX := Lib.hid hx
  clear hX hx
  go_cut [5] from 10 (fun s5 wx => s5 = .bool Z ∧ W = wx)
  case first =>
    go_wp2_with fail
    go_meet
    exact ⟨by rw [← HZ.out]; rfl, rfl⟩
  case rest =>
    obtain ⟨rfl, rfl⟩ := hcut
    go_upto_region 3 with fail
    go_cut [6] from 10 (fun s6 wx => s6 = .bool R ∧ W = wx)
    case first =>
      go_wp2_with fail
      refine (HD.out _).mono ?_
      rintro e w2 ⟨rfl, rfl⟩
      cases RD
      · go_wp2_with fail
        go_meet
        exact ⟨by rw [← HR.out]; rfl, rfl⟩
      · go_wp2_with fail
        refine (HE.out _).mono ?_
        rintro e w2 ⟨rfl, rfl⟩
        cases RS
        all_goals
          go_wp2_with fail
          go_meet
          exact ⟨by rw [← HR.out]; rfl, rfl⟩
    case rest =>
      obtain ⟨rfl, rfl⟩ := hcut
      go_upto_region 4 with fail
      go_cut [7] from 10 (fun s7 wx => s7 = .bool O ∧ W = wx)
      case first =>
        go_wp2_with fail
        refine (HD.out _).mono ?_
        rintro e w2 ⟨rfl, rfl⟩
        cases RD
        · go_wp2_with fail
          go_meet
          exact ⟨by rw [← HO.out]; rfl, rfl⟩
        · cases S0
          all_goals
            go_wp2_with fail
            go_meet
            exact ⟨by rw [← HO.out]; rfl, rfl⟩
      case rest =>
        obtain ⟨rfl, rfl⟩ := hcut
        go_wp2_with fail
        refine (HG.out _).mono ?_
        rintro e w2 ⟨rfl, rfl⟩
        have HS5 := Lib.hid (show ∀ W', Below W.heap.size W W' → (fun W' => W'.cell? ⟨X, 0, none⟩ = some (.int .i64 op) ∧ W'.cell? ⟨X, 1, none⟩ = some (.int .i64 d) ∧ W'.cell? ⟨X, 2, none⟩ = some (.int .i64 s) ∧ W'.cell? ⟨X, 3, none⟩ = some (.int .i64 32) ∧ W'.cell? ⟨X, 4, none⟩ = some (.int .i64 imm)) W' from fun W' h => ⟨(h.cell (p := ⟨X, 0, none⟩) lX).trans x0, (h.cell (p := ⟨X, 1, none⟩) lX).trans x1, (h.cell (p := ⟨X, 2, none⟩) lX).trans x2, (h.cell (p := ⟨X, 3, none⟩) lX).trans x3, (h.cell (p := ⟨X, 4, none⟩) lX).trans x4⟩)
        rcases HSW.out with f14 | ⟨f14, f15⟩ | ⟨f14, f15, f16⟩ | ⟨f14, f15, f16, f17⟩ | ⟨f14, f15, f16, f17, f18⟩ | ⟨f14, f15, f16, f17, f18, f19⟩
        all_goals
          as_aux_lemma =>
            cases Z
            · go_wp2
              refine bodyPost_ret (res2 rfl _ _) rfl ?_
              exact ⟨_, rfl, fun hB => absurd hB (by simp), hb⟩
            · go_wp2_with fail
              refine (HD.out _).mono ?_
              rintro e w2 ⟨rfl, rfl⟩
              cases RD
              · go_wp2
                refine bodyPost_ret (res2 rfl _ _) rfl ?_
                exact ⟨_, rfl, fun hB => absurd hB (by simp), hb⟩
              · cases S0
                · have hS1 : (s != 0) = true := by show (!(s == 0)) = true; rw [HS0.out]; rfl
                  go_wp2
                  refine bodyPost_ret (res2 rfl _ _) rfl ?_
                  exact ⟨_, rfl, fun hB => absurd hB (by simp), hb⟩
                · have hS1 : (s != 0) = false := by show (!(s == 0)) = false; rw [HS0.out]; rfl
                  go_wp2_with fail
                  refine (rFits32_at imm FT _ HFT.out).mono ?_
                  rintro e w2 ⟨rfl, rfl⟩
                  cases FT
                  · go_wp2
                    refine bodyPost_ret (res2 rfl _ _) rfl ?_
                    exact ⟨_, rfl, fun hB => absurd hB (by simp), hb⟩
                  · have hft := of_decide_eq_true HFT.out
                    obtain ⟨V9, hV9⟩ : ∃ v, sgnR 2147483648 imm = v := ⟨_, rfl⟩
                    have HV9 := Lib.hid hV9
                    clear hV9
                    obtain ⟨hft1, hft2⟩ := hft
                    go_wp2_with fail
                    refine (rSigned32_at imm V9 _ HV9.out hft1 hft2).mono ?_
                    rintro e w2 ⟨rfl, rfl⟩
                    by_cases c1 : -128 ≤ V9 ∧ V9 < 128
                    · as_aux_lemma =>
                        have a1 : decide (V9 ≥ -128) = true := decide_eq_true (by omega)
                        have a2 : decide (V9 ≤ 127) = true := decide_eq_true (by omega)
                        have HIS := Lib.hid (show isS (sgnR 2147483648 imm) 128 = true by rw [HV9.out]; exact decide_eq_true (by omega))
                        have hq1 := and255 imm
                        have hq2 : IntKind.u8.wrap (imm % 256) = imm % 256 := u8_in (by omega) (by omega)
                        clear c1
                        go_wp2_with fail
                        refine wp_region_held_drew (S := (fun W' => W'.cell? ⟨X, 0, none⟩ = some (.int .i64 op) ∧ W'.cell? ⟨X, 1, none⟩ = some (.int .i64 d) ∧ W'.cell? ⟨X, 2, none⟩ = some (.int .i64 s) ∧ W'.cell? ⟨X, 3, none⟩ = some (.int .i64 32) ∧ W'.cell? ⟨X, 4, none⟩ = some (.int .i64 imm))) (by kernel_rfl) ?_ (fun hHeld => ?_)
                        · exact HS5.out _ (drewR (Below.refl _ _))
                        have hb0 : Below W.heap.size W W.drew := drewR (Below.refl _ _)
                        generalize W.drew = wn0 at hb0 hHeld ⊢
                        refine wpAnyH_take (i := 0) (oi := ({ dst := some 110, op := Op.move (Operand.tmp 8), type := 3, pos := "ref.go:129", after := #[], guard := none } : Oper)) (v := ?_) rfl (by kernel_rfl) (by kernel_rfl) (by kernel_rfl) (fun _ _ _ h => h) (Or.inl ⟨by rfl, ?_⟩) (by assumption) ?_
                        rotate_left 1
                        · intro w hSw
                          (try dsimp only at hSw)
                          go_simp
                          (try with_reducible rfl)
                        try simp only [Act.put, List.setIfInBounds_toArray, List.set_cons_zero, List.set_cons_succ]
                        refine wpAnyH_take (i := 1) (oi := ({ dst := some 111, op := Op.fieldAddr 23 (Operand.tmp 1) 1, type := 0, pos := "ref.go:129", after := #[], guard := none } : Oper)) (v := ?_) rfl (by kernel_rfl) (by kernel_rfl) (by kernel_rfl) (fun _ _ _ h => h) (Or.inl ⟨by rfl, ?_⟩) (by assumption) ?_
                        rotate_left 1
                        · intro w hSw
                          (try dsimp only at hSw)
                          go_simp
                          (try with_reducible rfl)
                        try simp only [Act.put, List.setIfInBounds_toArray, List.set_cons_zero, List.set_cons_succ]
                        refine wpAnyH_take (i := 2) (oi := ({ dst := some 112, op := Op.load 3 (Operand.tmp 111), type := 3, pos := "ref.go:129", after := #[{ on := 1, ground := Ground.data }], guard := none } : Oper)) (v := ?_) rfl (by kernel_rfl) (by kernel_rfl) (by kernel_rfl) (fun _ _ _ h => h) (Or.inl ⟨by rfl, ?_⟩) (by assumption) ?_
                        rotate_left 1
                        · intro w hSw
                          (try dsimp only at hSw)
                          go_simp
                          (try with_reducible rfl)
                        try simp only [Act.put, List.setIfInBounds_toArray, List.set_cons_zero, List.set_cons_succ]
                        refine wpAnyH_take (i := 4) (oi := ({ dst := some 114, op := Op.fieldAddr 23 (Operand.tmp 1) 4, type := 0, pos := "ref.go:129", after := #[], guard := none } : Oper)) (v := ?_) rfl (by kernel_rfl) (by kernel_rfl) (by kernel_rfl) (fun _ _ _ h => h) (Or.inl ⟨by rfl, ?_⟩) (by assumption) ?_
                        rotate_left 1
                        · intro w hSw
                          (try dsimp only at hSw)
                          go_simp
                          (try with_reducible rfl)
                        try simp only [Act.put, List.setIfInBounds_toArray, List.set_cons_zero, List.set_cons_succ]
                        refine wpAnyH_take (i := 5) (oi := ({ dst := some 115, op := Op.load 3 (Operand.tmp 114), type := 3, pos := "ref.go:129", after := #[{ on := 4, ground := Ground.data }], guard := none } : Oper)) (v := ?_) rfl (by kernel_rfl) (by kernel_rfl) (by kernel_rfl) (fun _ _ _ h => h) (Or.inl ⟨by rfl, ?_⟩) (by assumption) ?_
                        rotate_left 1
                        · intro w hSw
                          (try dsimp only at hSw)
                          go_simp
                          (try with_reducible rfl)
                        try simp only [Act.put, List.setIfInBounds_toArray, List.set_cons_zero, List.set_cons_succ]
                        refine wpAnyH_take (i := 6) (oi := ({ dst := some 116, op := Op.binOp BinOp.and 3 (Operand.tmp 115) (Operand.const (Value.int IntKind.i64 255)) 3, type := 3, pos := "ref.go:129", after := #[{ on := 5, ground := Ground.data }], guard := none } : Oper)) (v := ?_) rfl (by kernel_rfl) (by kernel_rfl) (by kernel_rfl) (fun _ _ _ h => h) (Or.inl ⟨by rfl, ?_⟩) (by assumption) ?_
                        rotate_left 1
                        · intro w hSw
                          (try dsimp only at hSw)
                          go_simp
                          (try with_reducible rfl)
                        try simp only [Act.put, List.setIfInBounds_toArray, List.set_cons_zero, List.set_cons_succ]
                        refine wpAnyH_take (i := 7) (oi := ({ dst := some 117, op := Op.convert 3 5 (Operand.tmp 116), type := 5, pos := "ref.go:129", after := #[{ on := 6, ground := Ground.data }], guard := none } : Oper)) (v := ?_) rfl (by kernel_rfl) (by kernel_rfl) (by kernel_rfl) (fun _ _ _ h => h) (Or.inl ⟨by rfl, ?_⟩) (by assumption) ?_
                        rotate_left 1
                        · intro w hSw
                          (try dsimp only at hSw)
                          go_simp
                          (try with_reducible rfl)
                        try simp only [Act.put, List.setIfInBounds_toArray, List.set_cons_zero, List.set_cons_succ]
                        refine wpAnyH_ready (rs := [3]) (by kernel_rfl) (by simp) ?_
                        refine (AllReadyH.cons (o := ({ dst := some 113, op := Op.call { callee := Callee.value (Operand.func 80), args := #[Operand.tmp 110, Operand.tmp 112], argTypes := #[3, 3] }, type := 5, pos := "ref.go:129", after := #[{ on := 0, ground := Ground.data }, { on := 2, ground := Ground.data }], guard := none } : Oper)) rfl (fun K hK => ?_) AllReadyH.nil)
                        go_simp
                        refine (rMr_sym _ _ _).mono ?_
                        rintro e w' ⟨v8, rfl, hv8, rfl⟩
                        refine hK.out _ _ (HS5.out _ hb0) (fun hS8 => ?_)
                        refine wpAnyH_ready (rs := [8]) (by kernel_rfl) (by simp) ?_
                        refine (AllReadyH.cons (o := ({ dst := some 118, op := Op.buildSlice 24 3 #[(0, Operand.const (Value.int IntKind.u8 131)), (1, Operand.tmp 113), (2, Operand.tmp 117)], type := 24, pos := "ref.go:129", after := #[{ on := 3, ground := Ground.data }, { on := 7, ground := Ground.data }], guard := none } : Oper)) rfl (fun K hK => ?_) AllReadyH.nil)
                        go_simp
                        generalize hA9 : World.alloc _ _ = wn9
                        have hb9 := below_new hA9 hb0
                        have ho9 := own_new3 hA9 hb0
                        clear hA9
                        refine hK.out _ _ (HS5.out _ hb9) (fun hS9 => ?_)
                        refine wpAnyH_take (i := 9) (oi := ({ dst := some 2, op := Op.assign (Operand.tmp 118), type := 24, pos := "ref.go:129", after := #[{ on := 8, ground := Ground.data }, { on := 3, ground := Ground.chain }, { on := 0, ground := Ground.phase }, { on := 1, ground := Ground.phase }, { on := 2, ground := Ground.phase }, { on := 3, ground := Ground.phase }, { on := 4, ground := Ground.phase }, { on := 5, ground := Ground.phase }, { on := 6, ground := Ground.phase }, { on := 7, ground := Ground.phase }, { on := 8, ground := Ground.phase }], guard := none } : Oper)) (v := ?_) rfl (by kernel_rfl) (by kernel_rfl) (by kernel_rfl) (fun _ _ _ h => h) (Or.inl ⟨by rfl, ?_⟩) (by assumption) ?_
                        rotate_left 1
                        · intro w hSw
                          (try dsimp only at hSw)
                          go_simp
                          (try with_reducible rfl)
                        try simp only [Act.put, List.setIfInBounds_toArray, List.set_cons_zero, List.set_cons_succ]
                        refine wpAnyH_take (i := 10) (oi := ({ dst := some 3, op := Op.assign (Operand.const (Value.bool true)), type := 4, pos := "ref.go:129", after := #[{ on := 9, ground := Ground.chain }, { on := 0, ground := Ground.phase }, { on := 1, ground := Ground.phase }, { on := 2, ground := Ground.phase }, { on := 3, ground := Ground.phase }, { on := 4, ground := Ground.phase }, { on := 5, ground := Ground.phase }, { on := 6, ground := Ground.phase }, { on := 7, ground := Ground.phase }, { on := 8, ground := Ground.phase }, { on := 9, ground := Ground.phase }], guard := none } : Oper)) (v := ?_) rfl (by kernel_rfl) (by kernel_rfl) (by kernel_rfl) (fun _ _ _ h => h) (Or.inl ⟨by rfl, ?_⟩) (by assumption) ?_
                        rotate_left 1
                        · intro w hSw
                          (try dsimp only at hSw)
                          go_simp
                          (try with_reducible rfl)
                        try simp only [Act.put, List.setIfInBounds_toArray, List.set_cons_zero, List.set_cons_succ]
                        refine wpAnyH_done (by kernel_rfl) ?_ _
                        go_wp2
                        refine bodyPost_ret (res2 rfl _ _) rfl ?_
                        refine ⟨_, rfl, fun hB => ?_, hb.trans (hb9.mono (by have := HX.out; omega))⟩
                        try rw [← byV_append] at ho9
                        have e := own_lower (b2 := w.heap.size) ho9 (by have := HX.out; omega)
                        rw [hv8.out hn HRD.out] at e
                        rw [← HLV.out, if_pos HIS.out]
                        exact e
                    · have HIS := Lib.hid (show isS (sgnR 2147483648 imm) 128 = false by rw [HV9.out]; exact decide_eq_false c1)
                      rcases (show decide (V9 ≥ -128) = false ∨ (decide (V9 ≥ -128) = true ∧ decide (V9 ≤ 127) = false) by simp only [decide_eq_true_eq, decide_eq_false_iff_not]; omega) with a1 | ⟨a1, a2⟩
                      all_goals
                        as_aux_lemma =>
                          clear c1
                          go_wp2_with fail
                          refine wp_region_held_drew (S := (fun W' => W'.cell? ⟨X, 0, none⟩ = some (.int .i64 op) ∧ W'.cell? ⟨X, 1, none⟩ = some (.int .i64 d) ∧ W'.cell? ⟨X, 2, none⟩ = some (.int .i64 s) ∧ W'.cell? ⟨X, 3, none⟩ = some (.int .i64 32) ∧ W'.cell? ⟨X, 4, none⟩ = some (.int .i64 imm))) (by kernel_rfl) ?_ (fun hHeld => ?_)
                          · exact HS5.out _ (drewR (Below.refl _ _))
                          have hb0 : Below W.heap.size W W.drew := drewR (Below.refl _ _)
                          generalize W.drew = wn0 at hb0 hHeld ⊢
                          refine wpAnyH_take (i := 0) (oi := ({ dst := some 119, op := Op.move (Operand.tmp 8), type := 3, pos := "ref.go:131", after := #[], guard := none } : Oper)) (v := ?_) rfl (by kernel_rfl) (by kernel_rfl) (by kernel_rfl) (fun _ _ _ h => h) (Or.inl ⟨by rfl, ?_⟩) (by assumption) ?_
                          rotate_left 1
                          · intro w hSw
                            (try dsimp only at hSw)
                            go_simp
                            (try with_reducible rfl)
                          try simp only [Act.put, List.setIfInBounds_toArray, List.set_cons_zero, List.set_cons_succ]
                          refine wpAnyH_take (i := 1) (oi := ({ dst := some 120, op := Op.fieldAddr 23 (Operand.tmp 1) 1, type := 0, pos := "ref.go:131", after := #[], guard := none } : Oper)) (v := ?_) rfl (by kernel_rfl) (by kernel_rfl) (by kernel_rfl) (fun _ _ _ h => h) (Or.inl ⟨by rfl, ?_⟩) (by assumption) ?_
                          rotate_left 1
                          · intro w hSw
                            (try dsimp only at hSw)
                            go_simp
                            (try with_reducible rfl)
                          try simp only [Act.put, List.setIfInBounds_toArray, List.set_cons_zero, List.set_cons_succ]
                          refine wpAnyH_take (i := 2) (oi := ({ dst := some 121, op := Op.load 3 (Operand.tmp 120), type := 3, pos := "ref.go:131", after := #[{ on := 1, ground := Ground.data }], guard := none } : Oper)) (v := ?_) rfl (by kernel_rfl) (by kernel_rfl) (by kernel_rfl) (fun _ _ _ h => h) (Or.inl ⟨by rfl, ?_⟩) (by assumption) ?_
                          rotate_left 1
                          · intro w hSw
                            (try dsimp only at hSw)
                            go_simp
                            (try with_reducible rfl)
                          try simp only [Act.put, List.setIfInBounds_toArray, List.set_cons_zero, List.set_cons_succ]
                          refine wpAnyH_take (i := 5) (oi := ({ dst := some 124, op := Op.fieldAddr 23 (Operand.tmp 1) 4, type := 0, pos := "ref.go:131", after := #[], guard := none } : Oper)) (v := ?_) rfl (by kernel_rfl) (by kernel_rfl) (by kernel_rfl) (fun _ _ _ h => h) (Or.inl ⟨by rfl, ?_⟩) (by assumption) ?_
                          rotate_left 1
                          · intro w hSw
                            (try dsimp only at hSw)
                            go_simp
                            (try with_reducible rfl)
                          try simp only [Act.put, List.setIfInBounds_toArray, List.set_cons_zero, List.set_cons_succ]
                          refine wpAnyH_take (i := 6) (oi := ({ dst := some 125, op := Op.load 3 (Operand.tmp 124), type := 3, pos := "ref.go:131", after := #[{ on := 5, ground := Ground.data }], guard := none } : Oper)) (v := ?_) rfl (by kernel_rfl) (by kernel_rfl) (by kernel_rfl) (fun _ _ _ h => h) (Or.inl ⟨by rfl, ?_⟩) (by assumption) ?_
                          rotate_left 1
                          · intro w hSw
                            (try dsimp only at hSw)
                            go_simp
                            (try with_reducible rfl)
                          try simp only [Act.put, List.setIfInBounds_toArray, List.set_cons_zero, List.set_cons_succ]
                          refine wpAnyH_take (i := 7) (oi := ({ dst := some 126, op := Op.fieldAddr 23 (Operand.tmp 1) 3, type := 0, pos := "ref.go:131", after := #[], guard := none } : Oper)) (v := ?_) rfl (by kernel_rfl) (by kernel_rfl) (by kernel_rfl) (fun _ _ _ h => h) (Or.inl ⟨by rfl, ?_⟩) (by assumption) ?_
                          rotate_left 1
                          · intro w hSw
                            (try dsimp only at hSw)
                            go_simp
                            (try with_reducible rfl)
                          try simp only [Act.put, List.setIfInBounds_toArray, List.set_cons_zero, List.set_cons_succ]
                          refine wpAnyH_take (i := 8) (oi := ({ dst := some 127, op := Op.load 3 (Operand.tmp 126), type := 3, pos := "ref.go:131", after := #[{ on := 7, ground := Ground.data }], guard := none } : Oper)) (v := ?_) rfl (by kernel_rfl) (by kernel_rfl) (by kernel_rfl) (fun _ _ _ h => h) (Or.inl ⟨by rfl, ?_⟩) (by assumption) ?_
                          rotate_left 1
                          · intro w hSw
                            (try dsimp only at hSw)
                            go_simp
                            (try with_reducible rfl)
                          try simp only [Act.put, List.setIfInBounds_toArray, List.set_cons_zero, List.set_cons_succ]
                          refine wpAnyH_take (i := 9) (oi := ({ dst := some 128, op := Op.binOp BinOp.quo 3 (Operand.tmp 127) (Operand.const (Value.int IntKind.i64 8)) 3, type := 3, pos := "ref.go:131", after := #[{ on := 8, ground := Ground.data }], guard := none } : Oper)) (v := ?_) rfl (by kernel_rfl) (by kernel_rfl) (by kernel_rfl) (fun _ _ _ h => h) (Or.inl ⟨by rfl, ?_⟩) (by assumption) ?_
                          rotate_left 1
                          · intro w hSw
                            (try dsimp only at hSw)
                            go_simp
                            (try with_reducible rfl)
                          try simp only [Act.put, List.setIfInBounds_toArray, List.set_cons_zero, List.set_cons_succ]
                          refine wpAnyH_ready (rs := [3]) (by kernel_rfl) (by simp) ?_
                          refine (AllReadyH.cons (o := ({ dst := some 122, op := Op.call { callee := Callee.value (Operand.func 80), args := #[Operand.tmp 119, Operand.tmp 121], argTypes := #[3, 3] }, type := 5, pos := "ref.go:131", after := #[{ on := 0, ground := Ground.data }, { on := 2, ground := Ground.data }], guard := none } : Oper)) rfl (fun K hK => ?_) AllReadyH.nil)
                          go_simp
                          refine (rMr_sym _ _ _).mono ?_
                          rintro e w' ⟨v9, rfl, hv9, rfl⟩
                          refine hK.out _ _ (HS5.out _ hb0) (fun hS9 => ?_)
                          refine wpAnyH_ready (rs := [4, 10]) (by kernel_rfl) (by simp) ?_
                          refine (AllReadyH.cons (o := ({ dst := some 123, op := Op.buildSlice 24 2 #[(0, Operand.const (Value.int IntKind.u8 129)), (1, Operand.tmp 122)], type := 24, pos := "ref.go:131", after := #[{ on := 3, ground := Ground.data }], guard := none } : Oper)) rfl (fun K hK => ?_) (AllReadyH.cons (o := ({ dst := some 129, op := Op.call { callee := Callee.value (Operand.func 81), args := #[Operand.tmp 125, Operand.tmp 128], argTypes := #[3, 3] }, type := 24, pos := "ref.go:131", after := #[{ on := 6, ground := Ground.data }, { on := 9, ground := Ground.data }, { on := 3, ground := Ground.chain }], guard := none } : Oper)) rfl (fun K hK => ?_) AllReadyH.nil))
                          · go_simp
                            generalize hA10 : World.alloc _ _ = wn10
                            have hb10 := below_new hA10 hb0
                            have ho10 := own_new2 hA10 hb0
                            clear hA10
                            refine hK.out _ _ (HS5.out _ hb10) (fun hS10 => ?_)
                            refine wpAnyH_ready (rs := [10]) (by kernel_rfl) (by simp) ?_
                            refine (AllReadyH.cons (o := ({ dst := some 129, op := Op.call { callee := Callee.value (Operand.func 81), args := #[Operand.tmp 125, Operand.tmp 128], argTypes := #[3, 3] }, type := 24, pos := "ref.go:131", after := #[{ on := 6, ground := Ground.data }, { on := 9, ground := Ground.data }, { on := 3, ground := Ground.chain }], guard := none } : Oper)) rfl (fun K hK => ?_) AllReadyH.nil)
                            go_simp
                            refine (rLittle4_any _ _ h1 h2).mono ?_
                            rintro e wn11 ⟨g11, c11, rfl, ho11, hw11⟩
                            have hb11 := hb10.trans (hw11.mono hb10.size)
                            have ho10x11 := own_below ho10 hw11
                            replace ho11 := own_lower ho11 hb10.size
                            clear hw11
                            refine hK.out _ _ (HS5.out _ hb11) (fun hS11 => ?_)
                            refine wpAnyH_ready (rs := [11]) (by kernel_rfl) (by simp) ?_
                            refine (AllReadyH.cons (o := ({ dst := some 130, op := Op.call { callee := Callee.builtin Builtin.append, args := #[Operand.tmp 123, Operand.tmp 129], argTypes := #[24, 24] }, type := 24, pos := "ref.go:131", after := #[{ on := 4, ground := Ground.data }, { on := 10, ground := Ground.data }, { on := 10, ground := Ground.chain }], guard := none } : Oper)) rfl (fun K hK => ?_) AllReadyH.nil)
                            refine step_append_lies _ (by rfl) _ _ _ (by rfl) W.heap.size 5 i0 (.int .u8 0) 1 1 Try.underlying24 hi hz0 hz1 hz2 rfl (by decide) (.slice (some ⟨wn0.heap.size, 0, none⟩) 2 2) 2 _ (by rfl) ho10x11 ⟨g11, 0, none⟩ 4 c11 _ (by rfl) (by simp [byV, le4]) (ho11.cells rfl) (byV_one _) (by omega) (by unfold maxLen; omega) (by omega) (hb11.size) _ rfl ?_
                            intro g12 c12 wn12 ho12 hgr12 hat12 hlt12
                            have hb12 := hb11.grown hgr12 hb11.size (own_base ho10x11)
                            clear hgr12 hat12 hlt12
                            refine hK.out _ _ (HS5.out _ hb12) (fun hS12 => ?_)
                            refine wpAnyH_take (i := 12) (oi := ({ dst := some 2, op := Op.assign (Operand.tmp 130), type := 24, pos := "ref.go:131", after := #[{ on := 11, ground := Ground.data }, { on := 11, ground := Ground.chain }, { on := 0, ground := Ground.phase }, { on := 1, ground := Ground.phase }, { on := 2, ground := Ground.phase }, { on := 3, ground := Ground.phase }, { on := 4, ground := Ground.phase }, { on := 5, ground := Ground.phase }, { on := 6, ground := Ground.phase }, { on := 7, ground := Ground.phase }, { on := 8, ground := Ground.phase }, { on := 9, ground := Ground.phase }, { on := 10, ground := Ground.phase }, { on := 11, ground := Ground.phase }], guard := none } : Oper)) (v := ?_) rfl (by kernel_rfl) (by kernel_rfl) (by kernel_rfl) (fun _ _ _ h => h) (Or.inl ⟨by rfl, ?_⟩) (by assumption) ?_
                            rotate_left 1
                            · intro w hSw
                              (try dsimp only at hSw)
                              go_simp
                              (try with_reducible rfl)
                            try simp only [Act.put, List.setIfInBounds_toArray, List.set_cons_zero, List.set_cons_succ]
                            refine wpAnyH_take (i := 13) (oi := ({ dst := some 3, op := Op.assign (Operand.const (Value.bool true)), type := 4, pos := "ref.go:131", after := #[{ on := 12, ground := Ground.chain }, { on := 0, ground := Ground.phase }, { on := 1, ground := Ground.phase }, { on := 2, ground := Ground.phase }, { on := 3, ground := Ground.phase }, { on := 4, ground := Ground.phase }, { on := 5, ground := Ground.phase }, { on := 6, ground := Ground.phase }, { on := 7, ground := Ground.phase }, { on := 8, ground := Ground.phase }, { on := 9, ground := Ground.phase }, { on := 10, ground := Ground.phase }, { on := 11, ground := Ground.phase }, { on := 12, ground := Ground.phase }], guard := none } : Oper)) (v := ?_) rfl (by kernel_rfl) (by kernel_rfl) (by kernel_rfl) (fun _ _ _ h => h) (Or.inl ⟨by rfl, ?_⟩) (by assumption) ?_
                            rotate_left 1
                            · intro w hSw
                              (try dsimp only at hSw)
                              go_simp
                              (try with_reducible rfl)
                            try simp only [Act.put, List.setIfInBounds_toArray, List.set_cons_zero, List.set_cons_succ]
                            refine wpAnyH_done (by kernel_rfl) ?_ _
                            go_wp2
                            refine bodyPost_ret (res2 rfl _ _) rfl ?_
                            refine ⟨_, rfl, fun hB => ?_, hb.trans (hb12.mono (by have := HX.out; omega))⟩
                            try rw [← byV_append] at ho12
                            have e := own_lower (b2 := w.heap.size) ho12 (by have := HX.out; omega)
                            rw [hv9.out hn HRD.out] at e
                            rw [← HLV.out, if_neg (by rw [HIS.out]; decide)]
                            exact e
                          · go_simp
                            refine (rLittle4_any _ _ h1 h2).mono ?_
                            rintro e wn15 ⟨g15, c15, rfl, ho15, hw15⟩
                            have hb15 := hb0.trans (hw15.mono hb0.size)
                            replace ho15 := own_lower ho15 hb0.size
                            clear hw15
                            refine hK.out _ _ (HS5.out _ hb15) (fun hS15 => ?_)
                            refine wpAnyH_ready (rs := [4]) (by kernel_rfl) (by simp) ?_
                            refine (AllReadyH.cons (o := ({ dst := some 123, op := Op.buildSlice 24 2 #[(0, Operand.const (Value.int IntKind.u8 129)), (1, Operand.tmp 122)], type := 24, pos := "ref.go:131", after := #[{ on := 3, ground := Ground.data }], guard := none } : Oper)) rfl (fun K hK => ?_) AllReadyH.nil)
                            go_simp
                            generalize hA16 : World.alloc _ _ = wn16
                            have hb16 := below_new hA16 hb15
                            have ho15x16 := own_below ho15 (below_one hA16)
                            have ho16 := own_new2 hA16 hb15
                            clear hA16
                            refine hK.out _ _ (HS5.out _ hb16) (fun hS16 => ?_)
                            refine wpAnyH_ready (rs := [11]) (by kernel_rfl) (by simp) ?_
                            refine (AllReadyH.cons (o := ({ dst := some 130, op := Op.call { callee := Callee.builtin Builtin.append, args := #[Operand.tmp 123, Operand.tmp 129], argTypes := #[24, 24] }, type := 24, pos := "ref.go:131", after := #[{ on := 4, ground := Ground.data }, { on := 10, ground := Ground.data }, { on := 10, ground := Ground.chain }], guard := none } : Oper)) rfl (fun K hK => ?_) AllReadyH.nil)
                            refine step_append_lies _ (by rfl) _ _ _ (by rfl) W.heap.size 5 i0 (.int .u8 0) 1 1 Try.underlying24 hi hz0 hz1 hz2 rfl (by decide) (.slice (some ⟨wn15.heap.size, 0, none⟩) 2 2) 2 _ (by rfl) ho16 ⟨g15, 0, none⟩ 4 c15 _ (by rfl) (by simp [byV, le4]) (ho15x16.cells rfl) (byV_one _) (by omega) (by unfold maxLen; omega) (by omega) (hb16.size) _ rfl ?_
                            intro g17 c17 wn17 ho17 hgr17 hat17 hlt17
                            have hb17 := hb16.grown hgr17 hb16.size (own_base ho16)
                            clear hgr17 hat17 hlt17
                            refine hK.out _ _ (HS5.out _ hb17) (fun hS17 => ?_)
                            refine wpAnyH_take (i := 12) (oi := ({ dst := some 2, op := Op.assign (Operand.tmp 130), type := 24, pos := "ref.go:131", after := #[{ on := 11, ground := Ground.data }, { on := 11, ground := Ground.chain }, { on := 0, ground := Ground.phase }, { on := 1, ground := Ground.phase }, { on := 2, ground := Ground.phase }, { on := 3, ground := Ground.phase }, { on := 4, ground := Ground.phase }, { on := 5, ground := Ground.phase }, { on := 6, ground := Ground.phase }, { on := 7, ground := Ground.phase }, { on := 8, ground := Ground.phase }, { on := 9, ground := Ground.phase }, { on := 10, ground := Ground.phase }, { on := 11, ground := Ground.phase }], guard := none } : Oper)) (v := ?_) rfl (by kernel_rfl) (by kernel_rfl) (by kernel_rfl) (fun _ _ _ h => h) (Or.inl ⟨by rfl, ?_⟩) (by assumption) ?_
                            rotate_left 1
                            · intro w hSw
                              (try dsimp only at hSw)
                              go_simp
                              (try with_reducible rfl)
                            try simp only [Act.put, List.setIfInBounds_toArray, List.set_cons_zero, List.set_cons_succ]
                            refine wpAnyH_take (i := 13) (oi := ({ dst := some 3, op := Op.assign (Operand.const (Value.bool true)), type := 4, pos := "ref.go:131", after := #[{ on := 12, ground := Ground.chain }, { on := 0, ground := Ground.phase }, { on := 1, ground := Ground.phase }, { on := 2, ground := Ground.phase }, { on := 3, ground := Ground.phase }, { on := 4, ground := Ground.phase }, { on := 5, ground := Ground.phase }, { on := 6, ground := Ground.phase }, { on := 7, ground := Ground.phase }, { on := 8, ground := Ground.phase }, { on := 9, ground := Ground.phase }, { on := 10, ground := Ground.phase }, { on := 11, ground := Ground.phase }, { on := 12, ground := Ground.phase }], guard := none } : Oper)) (v := ?_) rfl (by kernel_rfl) (by kernel_rfl) (by kernel_rfl) (fun _ _ _ h => h) (Or.inl ⟨by rfl, ?_⟩) (by assumption) ?_
                            rotate_left 1
                            · intro w hSw
                              (try dsimp only at hSw)
                              go_simp
                              (try with_reducible rfl)
                            try simp only [Act.put, List.setIfInBounds_toArray, List.set_cons_zero, List.set_cons_succ]
                            refine wpAnyH_done (by kernel_rfl) ?_ _
                            go_wp2
                            refine bodyPost_ret (res2 rfl _ _) rfl ?_
                            refine ⟨_, rfl, fun hB => ?_, hb.trans (hb17.mono (by have := HX.out; omega))⟩
                            try rw [← byV_append] at ho17
                            have e := own_lower (b2 := w.heap.size) ho17 (by have := HX.out; omega)
                            rw [hv9.out hn HRD.out] at e
                            rw [← HLV.out, if_neg (by rw [HIS.out]; decide)]
                            exact e
end Go.Proofs.Ytpekegeohcnhcaa
