/-
  The reference: moves.
-/
import Derived.Test.YtpekegeohcnhcaaIaGe
namespace Go.Proofs.Ytpekegeohcnhcaa
open Go.RowKit

set_option maxRecDepth 100000 in
set_option maxHeartbeats 8000000 in
theorem mov_0 (d s sz imm : Int) (w : World) (_ : -9223372036854775808 ≤ imm) (_ : imm ≤ 9223372036854775807) : Calls Try.prog 40 #[aggI ⟨0, d, s, sz, imm⟩] w (REnd w ((((decide (sz = 32) || decide (sz = 16)) && (isR d && isR s)) && (imm == 0))) ([137, 192 + 8 * s + d])) := by
  obtain ⟨i0, hi, hz0, hz1, hz2⟩ := info_parts infoBy
  obtain ⟨Z, hZ⟩ : ∃ b, (decide (sz = 32) || decide (sz = 16)) = b := ⟨_, rfl⟩
  try rw [hZ]
  have HZ0 := Lib.hid hZ
  clear hZ
  obtain ⟨R, hR⟩ : ∃ b, (isR d && isR s) = b := ⟨_, rfl⟩
  try rw [hR]
  have HR0 := Lib.hid hR
  clear hR
  obtain ⟨F, hF⟩ : ∃ b, isS imm 2147483648 = b := ⟨_, rfl⟩
  try rw [hF]
  have HF0 := Lib.hid hF
  clear hF
  obtain ⟨q, hq⟩ : ∃ b, (sz == 32) = b := ⟨_, rfl⟩
  try rw [hq]
  have Hq := Lib.hid hq
  obtain ⟨I0, hI0⟩ : ∃ b, (imm == 0) = b := ⟨_, rfl⟩
  try rw [hI0]
  have HI0 := Lib.hid hI0
  have HF := Lib.hid (fun w1 => rBetween32_at imm F w1 HF0.out)
  have HD := Lib.hid (fun b h w1 => rIsReg_at d b w1 h)
  have HS := Lib.hid (fun b h w1 => rIsReg_at s b w1 h)
  go_enter Try.func40, Try.ntmps40
  go_upto_region 2 with fail
  have hx := heap_alloc_new w (.cells #[.int .i64 0, .int .i64 d, .int .i64 s, .int .i64 sz, .int .i64 imm] 23)
  have hb : Below w.heap.size w (w.alloc (.cells #[.int .i64 0, .int .i64 d, .int .i64 s, .int .i64 sz, .int .i64 imm] 23)) := (Below.refl _ _).alloc (Nat.le_refl _) _
  generalize World.alloc w _ = W at hx hb ⊢
  obtain ⟨X, hX⟩ : ∃ X, X = w.heap.size := ⟨_, rfl⟩
  rw [← hX] at hx ⊢
  have HX := Lib.hid hX
  have lX := lt_of_block hx
  obtain ⟨x0, x1, x2, x3, x4⟩ := cells5 hx
  have HXX := Lib.hid hx
  clear hX hx
  go_cut [5] from 8 (fun s5 wx => s5 = .bool Z ∧ W = wx)
  case first =>
    cases q
    · have a1 : sz ≠ 32 := ne_of_beq_false Hq.out
      by_cases a3 : sz = 16
      · subst a3
        go_wp2_with fail
        go_meet
        exact ⟨by rw [← HZ0.out]; rfl, rfl⟩
      · have a4 : (sz == 16) = false := beq_false_of_ne a3
        go_wp2_with fail
        go_meet
        exact ⟨by rw [← HZ0.out, decide_eq_false a1, decide_eq_false a3]; rfl, rfl⟩
    · obtain rfl : sz = 32 := eq_of_beq Hq.out
      go_wp2_with fail
      go_meet
      exact ⟨by rw [← HZ0.out]; rfl, rfl⟩
  case rest =>
    obtain ⟨rfl, rfl⟩ := hcut
    go_upto_region 3 with fail
    go_cut [6] from 8 (fun s6 wx => s6 = .bool R ∧ W = wx)
    case first =>
      cases r1 : isR d
      · replace HD := Lib.hid (HD.out _ r1)
        go_wp2_with fail
        refine (HD.out _).mono ?_
        rintro e w2 ⟨rfl, rfl⟩
        go_wp2_with fail
        go_meet
        exact ⟨by rw [← HR0.out, r1]; rfl, rfl⟩
      · replace HD := Lib.hid (HD.out _ r1)
        go_wp2_with fail
        refine (HD.out _).mono ?_
        rintro e w2 ⟨rfl, rfl⟩
        cases r2 : isR s
        all_goals
          replace HS := Lib.hid (HS.out _ r2)
          go_wp2_with fail
          refine (HS.out _).mono ?_
          rintro e w2 ⟨rfl, rfl⟩
          go_wp2_with fail
          go_meet
          exact ⟨by rw [← HR0.out, r1, r2]; rfl, rfl⟩
    case rest =>
      obtain ⟨rfl, rfl⟩ := hcut
      clear HD HS
      go_wp2_with fail
      refine (HF.out _).mono ?_
      rintro e w2 ⟨rfl, rfl⟩
      clear HF
      have HS5 := Lib.hid (show ∀ W', Below W.heap.size W W' → (fun W' => W'.cell? ⟨X, 0, none⟩ = some (.int .i64 0) ∧ W'.cell? ⟨X, 1, none⟩ = some (.int .i64 d) ∧ W'.cell? ⟨X, 2, none⟩ = some (.int .i64 s) ∧ W'.cell? ⟨X, 3, none⟩ = some (.int .i64 sz) ∧ W'.cell? ⟨X, 4, none⟩ = some (.int .i64 imm)) W' from fun W' h => ⟨(h.cell (p := ⟨X, 0, none⟩) lX).trans x0, (h.cell (p := ⟨X, 1, none⟩) lX).trans x1, (h.cell (p := ⟨X, 2, none⟩) lX).trans x2, (h.cell (p := ⟨X, 3, none⟩) lX).trans x3, (h.cell (p := ⟨X, 4, none⟩) lX).trans x4⟩)
      go_wp2_with fail
      refine wp_region_held_drew (S := (fun W' => W'.cell? ⟨X, 0, none⟩ = some (.int .i64 0) ∧ W'.cell? ⟨X, 1, none⟩ = some (.int .i64 d) ∧ W'.cell? ⟨X, 2, none⟩ = some (.int .i64 s) ∧ W'.cell? ⟨X, 3, none⟩ = some (.int .i64 sz) ∧ W'.cell? ⟨X, 4, none⟩ = some (.int .i64 imm))) (by kernel_rfl) ?_ (fun hHeld => ?_)
      · exact HS5.out _ (drewR (Below.refl _ _))
      have hb0 : Below W.heap.size W W.drew := drewR (Below.refl _ _)
      generalize W.drew = wn0 at hb0 hHeld ⊢
      refine wpAnyH_take (i := 0) (oi := ({ dst := some 32, op := Op.fieldAddr 23 (Operand.tmp 1) 2, type := 0, pos := "ref.go:97", after := #[], guard := none } : Oper)) (v := ?_) rfl (by kernel_rfl) (by kernel_rfl) (by kernel_rfl) (fun _ _ _ h => h) (Or.inl ⟨by rfl, ?_⟩) (by assumption) ?_
      rotate_left 1
      · intro w hSw
        (try dsimp only at hSw)
        go_simp
        (try with_reducible rfl)
      try simp only [Act.put, List.setIfInBounds_toArray, List.set_cons_zero, List.set_cons_succ]
      refine wpAnyH_take (i := 1) (oi := ({ dst := some 33, op := Op.load 3 (Operand.tmp 32), type := 3, pos := "ref.go:97", after := #[{ on := 0, ground := Ground.data }], guard := none } : Oper)) (v := ?_) rfl (by kernel_rfl) (by kernel_rfl) (by kernel_rfl) (fun _ _ _ h => h) (Or.inl ⟨by rfl, ?_⟩) (by assumption) ?_
      rotate_left 1
      · intro w hSw
        (try dsimp only at hSw)
        go_simp
        (try with_reducible rfl)
      try simp only [Act.put, List.setIfInBounds_toArray, List.set_cons_zero, List.set_cons_succ]
      refine wpAnyH_take (i := 2) (oi := ({ dst := some 34, op := Op.fieldAddr 23 (Operand.tmp 1) 1, type := 0, pos := "ref.go:97", after := #[], guard := none } : Oper)) (v := ?_) rfl (by kernel_rfl) (by kernel_rfl) (by kernel_rfl) (fun _ _ _ h => h) (Or.inl ⟨by rfl, ?_⟩) (by assumption) ?_
      rotate_left 1
      · intro w hSw
        (try dsimp only at hSw)
        go_simp
        (try with_reducible rfl)
      try simp only [Act.put, List.setIfInBounds_toArray, List.set_cons_zero, List.set_cons_succ]
      refine wpAnyH_take (i := 3) (oi := ({ dst := some 35, op := Op.load 3 (Operand.tmp 34), type := 3, pos := "ref.go:97", after := #[{ on := 2, ground := Ground.data }], guard := none } : Oper)) (v := ?_) rfl (by kernel_rfl) (by kernel_rfl) (by kernel_rfl) (fun _ _ _ h => h) (Or.inl ⟨by rfl, ?_⟩) (by assumption) ?_
      rotate_left 1
      · intro w hSw
        (try dsimp only at hSw)
        go_simp
        (try with_reducible rfl)
      try simp only [Act.put, List.setIfInBounds_toArray, List.set_cons_zero, List.set_cons_succ]
      refine wpAnyH_take (i := 6) (oi := ({ dst := some 38, op := Op.move (Operand.tmp 5), type := 4, pos := "ref.go:97", after := #[], guard := none } : Oper)) (v := ?_) rfl (by kernel_rfl) (by kernel_rfl) (by kernel_rfl) (fun _ _ _ h => h) (Or.inl ⟨by rfl, ?_⟩) (by assumption) ?_
      rotate_left 1
      · intro w hSw
        (try dsimp only at hSw)
        go_simp
        (try with_reducible rfl)
      try simp only [Act.put, List.setIfInBounds_toArray, List.set_cons_zero, List.set_cons_succ]
      refine wpAnyH_ready (rs := [4]) (by kernel_rfl) (by simp) ?_
      refine (AllReadyH.cons (o := ({ dst := some 36, op := Op.call { callee := Callee.value (Operand.func 80), args := #[Operand.tmp 33, Operand.tmp 35], argTypes := #[3, 3] }, type := 5, pos := "ref.go:97", after := #[{ on := 1, ground := Ground.data }, { on := 3, ground := Ground.data }], guard := none } : Oper)) rfl (fun K hK => ?_) AllReadyH.nil)
      go_simp
      refine (rMr_sym _ _ _).mono ?_
      rintro e w' ⟨v6, rfl, hv6, rfl⟩
      refine hK.out _ _ (HS5.out _ hb0) (fun hS6 => ?_)
      refine wpAnyH_take (i := 7) (oi := ({ dst := some 39, op := Op.move (Operand.tmp 38), type := 4, pos := "ref.go:97", after := #[{ on := 6, ground := Ground.data }, { on := 4, ground := Ground.chain }], guard := none } : Oper)) (v := ?_) rfl (by kernel_rfl) (by kernel_rfl) (by kernel_rfl) (fun _ _ _ h => h) (Or.inl ⟨by rfl, ?_⟩) (by assumption) ?_
      rotate_left 1
      · intro w hSw
        (try dsimp only at hSw)
        go_simp
        (try with_reducible rfl)
      try simp only [Act.put, List.setIfInBounds_toArray, List.set_cons_zero, List.set_cons_succ]
      refine wpAnyH_take (i := 8) (oi := ({ dst := some 40, op := Op.move (Operand.tmp 6), type := 4, pos := "ref.go:97", after := #[{ on := 7, ground := Ground.guard }], guard := some (7, true) } : Oper)) (v := gv (Z) ?_) rfl (by kernel_rfl) (by kernel_rfl) (by kernel_rfl) (fun _ _ _ h => h) (yieldsIf_guard (g := Z) (wanted_open rfl (by rfl)) ?_) (by assumption) ?_
      rotate_left 1
      · intro hg w hSw
        (try dsimp only at hSw)
        (try simp only [hg])
        clear hg
        go_simp
        (try with_reducible rfl)
      try simp only [Act.put, List.setIfInBounds_toArray, List.set_cons_zero, List.set_cons_succ]
      refine wpAnyH_take (i := 9) (oi := ({ dst := some 41, op := Op.pick (Operand.tmp 39) (Operand.tmp 40) (Operand.const (Value.bool false)), type := 4, pos := "ref.go:97", after := #[{ on := 7, ground := Ground.data }, { on := 8, ground := Ground.data }], guard := none } : Oper)) (v := .bool (Z && R)) rfl (by kernel_rfl) (by kernel_rfl) (by kernel_rfl) (fun _ _ _ h => h) (yieldsIf_and (g := Z) (h := R) rfl rfl rfl rfl rfl) (by assumption) ?_
      try simp only [Act.put, List.setIfInBounds_toArray, List.set_cons_zero, List.set_cons_succ]
      refine wpAnyH_take (i := 10) (oi := ({ dst := some 42, op := Op.move (Operand.tmp 41), type := 4, pos := "ref.go:97", after := #[{ on := 9, ground := Ground.data }, { on := 7, ground := Ground.chain }], guard := none } : Oper)) (v := ?_) rfl (by kernel_rfl) (by kernel_rfl) (by kernel_rfl) (fun _ _ _ h => h) (Or.inl ⟨by rfl, ?_⟩) (by assumption) ?_
      rotate_left 1
      · intro w hSw
        (try dsimp only at hSw)
        go_simp
        (try with_reducible rfl)
      try simp only [Act.put, List.setIfInBounds_toArray, List.set_cons_zero, List.set_cons_succ]
      refine wpAnyH_take (i := 11) (oi := ({ dst := some 43, op := Op.fieldAddr 23 (Operand.tmp 1) 4, type := 0, pos := "ref.go:97", after := #[{ on := 10, ground := Ground.guard }, { on := 15, ground := Ground.gcOnly Departure.lateStores }], guard := some (10, true) } : Oper)) (v := gv ((Z && R)) ?_) rfl (by kernel_rfl) (by kernel_rfl) (by kernel_rfl) (fun _ _ _ h => h) (yieldsIf_guard (g := (Z && R)) (wanted_open rfl (by rfl)) ?_) (by assumption) ?_
      rotate_left 1
      · intro hg w hSw
        (try dsimp only at hSw)
        (try simp only [hg])
        clear hg
        go_simp
        (try with_reducible rfl)
      try simp only [Act.put, List.setIfInBounds_toArray, List.set_cons_zero, List.set_cons_succ]
      refine wpAnyH_take (i := 12) (oi := ({ dst := some 44, op := Op.load 3 (Operand.tmp 43), type := 3, pos := "ref.go:97", after := #[{ on := 11, ground := Ground.data }, { on := 10, ground := Ground.guard }, { on := 15, ground := Ground.gcOnly Departure.lateStores }], guard := some (10, true) } : Oper)) (v := gv ((Z && R)) ?_) rfl (by kernel_rfl) (by kernel_rfl) (by kernel_rfl) (fun _ _ _ h => h) (yieldsIf_guard (g := (Z && R)) (wanted_open rfl (by rfl)) ?_) (by assumption) ?_
      rotate_left 1
      · intro hg w hSw
        (try dsimp only at hSw)
        (try simp only [hg, gv_true])
        clear hg
        go_simp
        (try with_reducible rfl)
      try simp only [Act.put, List.setIfInBounds_toArray, List.set_cons_zero, List.set_cons_succ]
      refine wpAnyH_take (i := 13) (oi := ({ dst := some 45, op := Op.binOp BinOp.eql 3 (Operand.tmp 44) (Operand.const (Value.int IntKind.i64 0)) 3, type := 4, pos := "ref.go:97", after := #[{ on := 12, ground := Ground.data }, { on := 10, ground := Ground.guard }, { on := 15, ground := Ground.gcOnly Departure.lateStores }], guard := some (10, true) } : Oper)) (v := gv ((Z && R)) ?_) rfl (by kernel_rfl) (by kernel_rfl) (by kernel_rfl) (fun _ _ _ h => h) (yieldsIf_guard (g := (Z && R)) (wanted_open rfl (by rfl)) ?_) (by assumption) ?_
      rotate_left 1
      · intro hg w hSw
        (try dsimp only at hSw)
        (try simp only [hg, gv_true])
        clear hg
        go_simp
        (try with_reducible rfl)
      try simp only [Act.put, List.setIfInBounds_toArray, List.set_cons_zero, List.set_cons_succ]
      refine wpAnyH_take (i := 14) (oi := ({ dst := some 46, op := Op.pick (Operand.tmp 42) (Operand.tmp 45) (Operand.const (Value.bool false)), type := 4, pos := "ref.go:97", after := #[{ on := 10, ground := Ground.data }, { on := 13, ground := Ground.data }, { on := 15, ground := Ground.gcOnly Departure.lateStores }], guard := none } : Oper)) (v := .bool ((Z && R) && I0)) rfl (by kernel_rfl) (by kernel_rfl) (by kernel_rfl) (fun _ _ _ h => h) (yieldsIf_and (g := (Z && R)) (h := I0) rfl rfl rfl rfl rfl) (by assumption) ?_
      try simp only [Act.put, List.setIfInBounds_toArray, List.set_cons_zero, List.set_cons_succ]
      refine wpAnyH_ready (rs := [5]) (by kernel_rfl) (by simp) ?_
      refine (AllReadyH.cons (o := ({ dst := some 37, op := Op.buildSlice 24 2 #[(0, Operand.const (Value.int IntKind.u8 137)), (1, Operand.tmp 36)], type := 24, pos := "ref.go:97", after := #[{ on := 4, ground := Ground.data }], guard := none } : Oper)) rfl (fun K hK => ?_) AllReadyH.nil)
      go_simp
      generalize hA15 : World.alloc _ _ = wn15
      have hb15 := below_new hA15 hb0
      have ho15 := own_new2 hA15 hb0
      clear hA15
      refine hK.out _ _ (HS5.out _ hb15) (fun hS15 => ?_)
      refine wpAnyH_take (i := 15) (oi := ({ dst := some 2, op := Op.assign (Operand.tmp 37), type := 24, pos := "ref.go:97", after := #[{ on := 5, ground := Ground.data }, { on := 10, ground := Ground.chain }, { on := 0, ground := Ground.phase }, { on := 1, ground := Ground.phase }, { on := 2, ground := Ground.phase }, { on := 3, ground := Ground.phase }, { on := 4, ground := Ground.phase }, { on := 5, ground := Ground.phase }, { on := 6, ground := Ground.textOnly Departure.lateStores }, { on := 7, ground := Ground.textOnly Departure.lateStores }, { on := 8, ground := Ground.textOnly Departure.lateStores }, { on := 9, ground := Ground.textOnly Departure.lateStores }, { on := 10, ground := Ground.textOnly Departure.lateStores }, { on := 11, ground := Ground.textOnly Departure.lateStores }, { on := 12, ground := Ground.textOnly Departure.lateStores }, { on := 13, ground := Ground.textOnly Departure.lateStores }, { on := 14, ground := Ground.textOnly Departure.lateStores }], guard := none } : Oper)) (v := ?_) rfl (by kernel_rfl) (by kernel_rfl) (by kernel_rfl) (fun _ _ _ h => h) (Or.inl ⟨by rfl, ?_⟩) (by assumption) ?_
      rotate_left 1
      · intro w hSw
        (try dsimp only at hSw)
        go_simp
        (try with_reducible rfl)
      try simp only [Act.put, List.setIfInBounds_toArray, List.set_cons_zero, List.set_cons_succ]
      refine wpAnyH_take (i := 16) (oi := ({ dst := some 3, op := Op.assign (Operand.tmp 46), type := 4, pos := "ref.go:97", after := #[{ on := 14, ground := Ground.data }, { on := 15, ground := Ground.chain }, { on := 0, ground := Ground.phase }, { on := 1, ground := Ground.phase }, { on := 2, ground := Ground.phase }, { on := 3, ground := Ground.phase }, { on := 4, ground := Ground.phase }, { on := 5, ground := Ground.phase }, { on := 6, ground := Ground.phase }, { on := 7, ground := Ground.phase }, { on := 8, ground := Ground.phase }, { on := 9, ground := Ground.phase }, { on := 10, ground := Ground.phase }, { on := 11, ground := Ground.phase }, { on := 12, ground := Ground.phase }, { on := 13, ground := Ground.phase }, { on := 14, ground := Ground.phase }, { on := 15, ground := Ground.phase }], guard := none } : Oper)) (v := ?_) rfl (by kernel_rfl) (by kernel_rfl) (by kernel_rfl) (fun _ _ _ h => h) (Or.inl ⟨by rfl, ?_⟩) (by assumption) ?_
      rotate_left 1
      · intro w hSw
        (try dsimp only at hSw)
        go_simp
        (try with_reducible rfl)
      try simp only [Act.put, List.setIfInBounds_toArray, List.set_cons_zero, List.set_cons_succ]
      refine wpAnyH_done (by kernel_rfl) ?_ _
      go_wp2
      refine bodyPost_ret (res2 rfl _ _) rfl ?_
      refine ⟨_, rfl, fun hB => ?_, hb.trans (hb15.mono (by have := HX.out; omega))⟩
      have hR1 : R = true := by revert hB; cases R <;> simp
      have hR2 := HR0.out.trans hR1
      simp only [Bool.and_eq_true] at hR2
      obtain ⟨hd, hs⟩ := hR2
      try rw [← byV_append] at ho15
      have e := own_lower (b2 := w.heap.size) ho15 (by have := HX.out; omega)
      rw [hv6.out hs hd] at e
      exact e
set_option maxRecDepth 100000 in
set_option maxHeartbeats 8000000 in
theorem mov_2 (d s sz imm : Int) (w : World) (h1 : -9223372036854775808 ≤ imm) (h2 : imm ≤ 9223372036854775807) : Calls Try.prog 40 #[aggI ⟨2, d, s, sz, imm⟩] w (REnd w (((((decide (sz = 32) || decide (sz = 16)) && (isR d && isR s)) && (s != 4)) && isS imm 2147483648)) (139 :: (128 + 8 * d + s) :: le4 imm)) := by
  obtain ⟨i0, hi, hz0, hz1, hz2⟩ := info_parts infoBy
  obtain ⟨Z, hZ⟩ : ∃ b, (decide (sz = 32) || decide (sz = 16)) = b := ⟨_, rfl⟩
  try rw [hZ]
  have HZ0 := Lib.hid hZ
  clear hZ
  obtain ⟨R, hR⟩ : ∃ b, (isR d && isR s) = b := ⟨_, rfl⟩
  try rw [hR]
  have HR0 := Lib.hid hR
  clear hR
  obtain ⟨F, hF⟩ : ∃ b, isS imm 2147483648 = b := ⟨_, rfl⟩
  try rw [hF]
  have HF0 := Lib.hid hF
  clear hF
  obtain ⟨q, hq⟩ : ∃ b, (sz == 32) = b := ⟨_, rfl⟩
  try rw [hq]
  have Hq := Lib.hid hq
  obtain ⟨S4, hS4⟩ : ∃ b, (s != 4) = b := ⟨_, rfl⟩
  try rw [hS4]
  have HS4 := Lib.hid hS4
  have HF := Lib.hid (fun w1 => rBetween32_at imm F w1 HF0.out)
  have HD := Lib.hid (fun b h w1 => rIsReg_at d b w1 h)
  have HS := Lib.hid (fun b h w1 => rIsReg_at s b w1 h)
  go_enter Try.func40, Try.ntmps40
  go_upto_region 2 with fail
  have hx := heap_alloc_new w (.cells #[.int .i64 2, .int .i64 d, .int .i64 s, .int .i64 sz, .int .i64 imm] 23)
  have hb : Below w.heap.size w (w.alloc (.cells #[.int .i64 2, .int .i64 d, .int .i64 s, .int .i64 sz, .int .i64 imm] 23)) := (Below.refl _ _).alloc (Nat.le_refl _) _
  generalize World.alloc w _ = W at hx hb ⊢
  obtain ⟨X, hX⟩ : ∃ X, X = w.heap.size := ⟨_, rfl⟩
  rw [← hX] at hx ⊢
  have HX := Lib.hid hX
  have lX := lt_of_block hx
  obtain ⟨x0, x1, x2, x3, x4⟩ := cells5 hx
  have HXX := Lib.hid hx
  clear hX hx
  go_cut [5] from 8 (fun s5 wx => s5 = .bool Z ∧ W = wx)
  case first =>
    cases q
    · have a1 : sz ≠ 32 := ne_of_beq_false Hq.out
      by_cases a3 : sz = 16
      · subst a3
        go_wp2_with fail
        go_meet
        exact ⟨by rw [← HZ0.out]; rfl, rfl⟩
      · have a4 : (sz == 16) = false := beq_false_of_ne a3
        go_wp2_with fail
        go_meet
        exact ⟨by rw [← HZ0.out, decide_eq_false a1, decide_eq_false a3]; rfl, rfl⟩
    · obtain rfl : sz = 32 := eq_of_beq Hq.out
      go_wp2_with fail
      go_meet
      exact ⟨by rw [← HZ0.out]; rfl, rfl⟩
  case rest =>
    obtain ⟨rfl, rfl⟩ := hcut
    go_upto_region 3 with fail
    go_cut [6] from 8 (fun s6 wx => s6 = .bool R ∧ W = wx)
    case first =>
      cases r1 : isR d
      · replace HD := Lib.hid (HD.out _ r1)
        go_wp2_with fail
        refine (HD.out _).mono ?_
        rintro e w2 ⟨rfl, rfl⟩
        go_wp2_with fail
        go_meet
        exact ⟨by rw [← HR0.out, r1]; rfl, rfl⟩
      · replace HD := Lib.hid (HD.out _ r1)
        go_wp2_with fail
        refine (HD.out _).mono ?_
        rintro e w2 ⟨rfl, rfl⟩
        cases r2 : isR s
        all_goals
          replace HS := Lib.hid (HS.out _ r2)
          go_wp2_with fail
          refine (HS.out _).mono ?_
          rintro e w2 ⟨rfl, rfl⟩
          go_wp2_with fail
          go_meet
          exact ⟨by rw [← HR0.out, r1, r2]; rfl, rfl⟩
    case rest =>
      obtain ⟨rfl, rfl⟩ := hcut
      clear HD HS
      go_wp2_with fail
      refine (HF.out _).mono ?_
      rintro e w2 ⟨rfl, rfl⟩
      clear HF
      have HS5 := Lib.hid (show ∀ W', Below W.heap.size W W' → (fun W' => W'.cell? ⟨X, 0, none⟩ = some (.int .i64 2) ∧ W'.cell? ⟨X, 1, none⟩ = some (.int .i64 d) ∧ W'.cell? ⟨X, 2, none⟩ = some (.int .i64 s) ∧ W'.cell? ⟨X, 3, none⟩ = some (.int .i64 sz) ∧ W'.cell? ⟨X, 4, none⟩ = some (.int .i64 imm)) W' from fun W' h => ⟨(h.cell (p := ⟨X, 0, none⟩) lX).trans x0, (h.cell (p := ⟨X, 1, none⟩) lX).trans x1, (h.cell (p := ⟨X, 2, none⟩) lX).trans x2, (h.cell (p := ⟨X, 3, none⟩) lX).trans x3, (h.cell (p := ⟨X, 4, none⟩) lX).trans x4⟩)
      go_wp2_with fail
      generalize hA1 : World.alloc _ _ = wn1
      have hb1 := below_new hA1 (Below.refl W.heap.size W)
      have ho1 := own_new1 hA1 (Below.refl W.heap.size W)
      clear hA1
      refine (rMm_sym _ _ _ _ h1 h2).mono ?_
      rintro e wn2 ⟨v2, g2, c2, rfl, ho2, hv2, hw2⟩
      have hb2 := hb1.trans (hw2.mono hb1.size)
      have ho1x := own_below ho1 hw2
      replace ho2 := own_lower ho2 hb1.size
      clear hw2 ho1
      go_wp2_with (at_builtin; refine wpList_append_own _ rfl _ _ 24 rfl W.heap.size 5 i0 (.int .u8 0) 1 1 Try.underlying24 hi hz0 hz1 hz2 rfl (by decide) _ _ _ rfl ho1x ⟨g2, 0, none⟩ 5 c2 (byV (v2 :: le4 imm)) rfl ?c0 ?c1 ?c2 ?c3 ?c4 ?c5 ?_)
      case c0 => rfl
      case c1 => exact ho2.cells rfl
      case c2 => exact byV_one _
      case c3 => unfold maxLen; simp
      case c4 => simp
      case c5 => exact hb2.size
      intro v3 wn3 ho3 hgr3 _
      have hb3 := hb2.grown hgr3 hb2.size (own_base ho1x)
      clear hgr3 ho2 ho1x
      rw [← byV_append] at ho3
      obtain ⟨g3, c3, hv3⟩ := own_form ho3 (by simp)
      subst hv3
      obtain ⟨y3_0, y3_1, y3_2, y3_3, y3_4⟩ := HS5.out _ hb3
      cases Z
      · go_wp2
        refine bodyPost_ret (res2 rfl _ _) rfl ?_
        refine ⟨_, rfl, fun hB => ?_, hb.trans (hb3.mono (by have := HX.out; omega))⟩
        exact absurd hB (by simp)
      · cases R
        · go_wp2
          refine bodyPost_ret (res2 rfl _ _) rfl ?_
          refine ⟨_, rfl, fun hB => ?_, hb.trans (hb3.mono (by have := HX.out; omega))⟩
          exact absurd hB (by simp)
        · cases S4
          · go_wp2
            refine bodyPost_ret (res2 rfl _ _) rfl ?_
            refine ⟨_, rfl, fun hB => ?_, hb.trans (hb3.mono (by have := HX.out; omega))⟩
            exact absurd hB (by simp)
          · go_wp2
            refine bodyPost_ret (res2 rfl _ _) rfl ?_
            refine ⟨_, rfl, fun hB => ?_, hb.trans (hb3.mono (by have := HX.out; omega))⟩
            have hR2 := HR0.out
            simp only [Bool.and_eq_true] at hR2
            obtain ⟨hd, hs⟩ := hR2
            try rw [← byV_append] at ho3
            have e := own_lower (b2 := w.heap.size) ho3 (by have := HX.out; omega)
            rw [hv2.out hd hs] at e
            exact e
set_option maxRecDepth 100000 in
set_option maxHeartbeats 8000000 in
theorem mov_3 (d s sz imm : Int) (w : World) (h1 : -9223372036854775808 ≤ imm) (h2 : imm ≤ 9223372036854775807) : Calls Try.prog 40 #[aggI ⟨3, d, s, sz, imm⟩] w (REnd w (((((decide (sz = 32) || decide (sz = 16)) && (isR d && isR s)) && (d != 4)) && isS imm 2147483648)) (137 :: (128 + 8 * s + d) :: le4 imm)) := by
  obtain ⟨i0, hi, hz0, hz1, hz2⟩ := info_parts infoBy
  obtain ⟨Z, hZ⟩ : ∃ b, (decide (sz = 32) || decide (sz = 16)) = b := ⟨_, rfl⟩
  try rw [hZ]
  have HZ0 := Lib.hid hZ
  clear hZ
  obtain ⟨R, hR⟩ : ∃ b, (isR d && isR s) = b := ⟨_, rfl⟩
  try rw [hR]
  have HR0 := Lib.hid hR
  clear hR
  obtain ⟨F, hF⟩ : ∃ b, isS imm 2147483648 = b := ⟨_, rfl⟩
  try rw [hF]
  have HF0 := Lib.hid hF
  clear hF
  obtain ⟨q, hq⟩ : ∃ b, (sz == 32) = b := ⟨_, rfl⟩
  try rw [hq]
  have Hq := Lib.hid hq
  obtain ⟨D4, hD4⟩ : ∃ b, (d != 4) = b := ⟨_, rfl⟩
  try rw [hD4]
  have HD4 := Lib.hid hD4
  have HF := Lib.hid (fun w1 => rBetween32_at imm F w1 HF0.out)
  have HD := Lib.hid (fun b h w1 => rIsReg_at d b w1 h)
  have HS := Lib.hid (fun b h w1 => rIsReg_at s b w1 h)
  go_enter Try.func40, Try.ntmps40
  go_upto_region 2 with fail
  have hx := heap_alloc_new w (.cells #[.int .i64 3, .int .i64 d, .int .i64 s, .int .i64 sz, .int .i64 imm] 23)
  have hb : Below w.heap.size w (w.alloc (.cells #[.int .i64 3, .int .i64 d, .int .i64 s, .int .i64 sz, .int .i64 imm] 23)) := (Below.refl _ _).alloc (Nat.le_refl _) _
  generalize World.alloc w _ = W at hx hb ⊢
  obtain ⟨X, hX⟩ : ∃ X, X = w.heap.size := ⟨_, rfl⟩
  rw [← hX] at hx ⊢
  have HX := Lib.hid hX
  have lX := lt_of_block hx
  obtain ⟨x0, x1, x2, x3, x4⟩ := cells5 hx
  have HXX := Lib.hid hx
  clear hX hx
  go_cut [5] from 8 (fun s5 wx => s5 = .bool Z ∧ W = wx)
  case first =>
    cases q
    · have a1 : sz ≠ 32 := ne_of_beq_false Hq.out
      by_cases a3 : sz = 16
      · subst a3
        go_wp2_with fail
        go_meet
        exact ⟨by rw [← HZ0.out]; rfl, rfl⟩
      · have a4 : (sz == 16) = false := beq_false_of_ne a3
        go_wp2_with fail
        go_meet
        exact ⟨by rw [← HZ0.out, decide_eq_false a1, decide_eq_false a3]; rfl, rfl⟩
    · obtain rfl : sz = 32 := eq_of_beq Hq.out
      go_wp2_with fail
      go_meet
      exact ⟨by rw [← HZ0.out]; rfl, rfl⟩
  case rest =>
    obtain ⟨rfl, rfl⟩ := hcut
    go_upto_region 3 with fail
    go_cut [6] from 8 (fun s6 wx => s6 = .bool R ∧ W = wx)
    case first =>
      cases r1 : isR d
      · replace HD := Lib.hid (HD.out _ r1)
        go_wp2_with fail
        refine (HD.out _).mono ?_
        rintro e w2 ⟨rfl, rfl⟩
        go_wp2_with fail
        go_meet
        exact ⟨by rw [← HR0.out, r1]; rfl, rfl⟩
      · replace HD := Lib.hid (HD.out _ r1)
        go_wp2_with fail
        refine (HD.out _).mono ?_
        rintro e w2 ⟨rfl, rfl⟩
        cases r2 : isR s
        all_goals
          replace HS := Lib.hid (HS.out _ r2)
          go_wp2_with fail
          refine (HS.out _).mono ?_
          rintro e w2 ⟨rfl, rfl⟩
          go_wp2_with fail
          go_meet
          exact ⟨by rw [← HR0.out, r1, r2]; rfl, rfl⟩
    case rest =>
      obtain ⟨rfl, rfl⟩ := hcut
      clear HD HS
      go_wp2_with fail
      refine (HF.out _).mono ?_
      rintro e w2 ⟨rfl, rfl⟩
      clear HF
      have HS5 := Lib.hid (show ∀ W', Below W.heap.size W W' → (fun W' => W'.cell? ⟨X, 0, none⟩ = some (.int .i64 3) ∧ W'.cell? ⟨X, 1, none⟩ = some (.int .i64 d) ∧ W'.cell? ⟨X, 2, none⟩ = some (.int .i64 s) ∧ W'.cell? ⟨X, 3, none⟩ = some (.int .i64 sz) ∧ W'.cell? ⟨X, 4, none⟩ = some (.int .i64 imm)) W' from fun W' h => ⟨(h.cell (p := ⟨X, 0, none⟩) lX).trans x0, (h.cell (p := ⟨X, 1, none⟩) lX).trans x1, (h.cell (p := ⟨X, 2, none⟩) lX).trans x2, (h.cell (p := ⟨X, 3, none⟩) lX).trans x3, (h.cell (p := ⟨X, 4, none⟩) lX).trans x4⟩)
      go_wp2_with fail
      generalize hA1 : World.alloc _ _ = wn1
      have hb1 := below_new hA1 (Below.refl W.heap.size W)
      have ho1 := own_new1 hA1 (Below.refl W.heap.size W)
      clear hA1
      refine (rMm_sym _ _ _ _ h1 h2).mono ?_
      rintro e wn2 ⟨v2, g2, c2, rfl, ho2, hv2, hw2⟩
      have hb2 := hb1.trans (hw2.mono hb1.size)
      have ho1x := own_below ho1 hw2
      replace ho2 := own_lower ho2 hb1.size
      clear hw2 ho1
      go_wp2_with (at_builtin; refine wpList_append_own _ rfl _ _ 24 rfl W.heap.size 5 i0 (.int .u8 0) 1 1 Try.underlying24 hi hz0 hz1 hz2 rfl (by decide) _ _ _ rfl ho1x ⟨g2, 0, none⟩ 5 c2 (byV (v2 :: le4 imm)) rfl ?c0 ?c1 ?c2 ?c3 ?c4 ?c5 ?_)
      case c0 => rfl
      case c1 => exact ho2.cells rfl
      case c2 => exact byV_one _
      case c3 => unfold maxLen; simp
      case c4 => simp
      case c5 => exact hb2.size
      intro v3 wn3 ho3 hgr3 _
      have hb3 := hb2.grown hgr3 hb2.size (own_base ho1x)
      clear hgr3 ho2 ho1x
      rw [← byV_append] at ho3
      obtain ⟨g3, c3, hv3⟩ := own_form ho3 (by simp)
      subst hv3
      obtain ⟨y3_0, y3_1, y3_2, y3_3, y3_4⟩ := HS5.out _ hb3
      cases Z
      · go_wp2
        refine bodyPost_ret (res2 rfl _ _) rfl ?_
        refine ⟨_, rfl, fun hB => ?_, hb.trans (hb3.mono (by have := HX.out; omega))⟩
        exact absurd hB (by simp)
      · cases R
        · go_wp2
          refine bodyPost_ret (res2 rfl _ _) rfl ?_
          refine ⟨_, rfl, fun hB => ?_, hb.trans (hb3.mono (by have := HX.out; omega))⟩
          exact absurd hB (by simp)
        · cases D4
          · go_wp2
            refine bodyPost_ret (res2 rfl _ _) rfl ?_
            refine ⟨_, rfl, fun hB => ?_, hb.trans (hb3.mono (by have := HX.out; omega))⟩
            exact absurd hB (by simp)
          · go_wp2
            refine bodyPost_ret (res2 rfl _ _) rfl ?_
            refine ⟨_, rfl, fun hB => ?_, hb.trans (hb3.mono (by have := HX.out; omega))⟩
            have hR2 := HR0.out
            simp only [Bool.and_eq_true] at hR2
            obtain ⟨hd, hs⟩ := hR2
            try rw [← byV_append] at ho3
            have e := own_lower (b2 := w.heap.size) ho3 (by have := HX.out; omega)
            rw [hv2.out hs hd] at e
            exact e
end Go.Proofs.Ytpekegeohcnhcaa
