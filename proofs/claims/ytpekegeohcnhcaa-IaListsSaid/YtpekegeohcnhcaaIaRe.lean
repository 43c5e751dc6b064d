/-
  The reference: moves.
-/
import Derived.Test.YtpekegeohcnhcaaIaGe
namespace Go.Proofs.Ytpekegeohcnhcaa
open Go.RowKit

set_option maxRecDepth 100000 in
set_option maxHeartbeats 8000000 in
theorem mov_1_32 (d s imm : Int) (w : World) (h1 : -9223372036854775808 ≤ imm) (h2 : imm ≤ 9223372036854775807) : Calls Try.prog 40 #[aggI ⟨1, d, s, 32, imm⟩] w (REnd w (((((decide ((32 : Int) = 32) || decide ((32 : Int) = 16)) && isR d) && (s == 0)) && decide (0 ≤ imm ∧ imm < 4294967296))) ((184 + d) :: le4 imm)) := by
  obtain ⟨i0, hi, hz0, hz1, hz2⟩ := info_parts infoBy
  obtain ⟨Z, hZ⟩ : ∃ b, (decide ((32 : Int) = 32) || decide ((32 : Int) = 16)) = b := ⟨_, rfl⟩
  try rw [hZ]
  have HZ0 := Lib.hid hZ
  clear hZ
  obtain ⟨R, hR⟩ : ∃ b, (isR d && isR s) = b := ⟨_, rfl⟩
  try rw [hR]
  have HR0 := Lib.hid hR
  clear hR
  obtain ⟨F, hF⟩ : ∃ b, isS imm 2147483648 = b := ⟨_, rfl⟩
  try rw [hF]
  have HF0 := Lib.hid hF
  clear hF
  obtain ⟨S0, hS0⟩ : ∃ b, (s == 0) = b := ⟨_, rfl⟩
  try rw [hS0]
  have HS0 := Lib.hid hS0
  obtain ⟨FT, hFT⟩ : ∃ b, decide (0 ≤ imm ∧ imm < 4294967296) = b := ⟨_, rfl⟩
  try rw [hFT]
  have HFT := Lib.hid hFT
  clear hFT
  have HF := Lib.hid (fun w1 => rBetween32_at imm F w1 HF0.out)
  have HD := Lib.hid (fun b h w1 => rIsReg_at d b w1 h)
  have HS := Lib.hid (fun b h w1 => rIsReg_at s b w1 h)
  go_enter Try.func40, Try.ntmps40
  go_upto_region 2 with fail
  have hx := heap_alloc_new w (.cells #[.int .i64 1, .int .i64 d, .int .i64 s, .int .i64 32, .int .i64 imm] 23)
  have hb : Below w.heap.size w (w.alloc (.cells #[.int .i64 1, .int .i64 d, .int .i64 s, .int .i64 32, .int .i64 imm] 23)) := (Below.refl _ _).alloc (Nat.le_refl _) _
  generalize World.alloc w _ = W at hx hb ⊢
  obtain ⟨X, hX⟩ : ∃ X, X = w.heap.size := ⟨_, rfl⟩
  rw [← hX] at hx ⊢
  have HX := Lib.hid hX
  have lX := lt_of_block hx
  obtain ⟨x0, x1, x2, x3, x4⟩ := cells5 hx
  have HXX := Lib.hid hx
  clear hX hx
  go_cut [5] from 8 (fun s5 wx => s5 = .bool Z ∧ W = wx)
  case first =>
    go_wp2_with fail
    go_meet
    exact ⟨by rw [← HZ0.out]; rfl, rfl⟩
  case rest =>
    obtain ⟨rfl, rfl⟩ := hcut
    go_upto_region 3 with fail
    go_cut [6] from 8 (fun s6 wx => s6 = .bool R ∧ W = wx)
    case first =>
      cases r1 : isR d
      · replace HD := Lib.hid (HD.out _ r1)
        go_wp2_with fail
        refine (HD.out _).mono ?_
        rintro e w2 ⟨rfl, rfl⟩
        go_wp2_with fail
        go_meet
        exact ⟨by rw [← HR0.out, r1]; rfl, rfl⟩
      · replace HD := Lib.hid (HD.out _ r1)
        go_wp2_with fail
        refine (HD.out _).mono ?_
        rintro e w2 ⟨rfl, rfl⟩
        cases r2 : isR s
        all_goals
          replace HS := Lib.hid (HS.out _ r2)
          go_wp2_with fail
          refine (HS.out _).mono ?_
          rintro e w2 ⟨rfl, rfl⟩
          go_wp2_with fail
          go_meet
          exact ⟨by rw [← HR0.out, r1, r2]; rfl, rfl⟩
    case rest =>
      obtain ⟨rfl, rfl⟩ := hcut
      clear HD HS
      go_wp2_with fail
      refine (HF.out _).mono ?_
      rintro e w2 ⟨rfl, rfl⟩
      clear HF
      have HS5 := Lib.hid (show ∀ W', Below W.heap.size W W' → (fun W' => W'.cell? ⟨X, 0, none⟩ = some (.int .i64 1) ∧ W'.cell? ⟨X, 1, none⟩ = some (.int .i64 d) ∧ W'.cell? ⟨X, 2, none⟩ = some (.int .i64 s) ∧ W'.cell? ⟨X, 3, none⟩ = some (.int .i64 32) ∧ W'.cell? ⟨X, 4, none⟩ = some (.int .i64 imm)) W' from fun W' h => ⟨(h.cell (p := ⟨X, 0, none⟩) lX).trans x0, (h.cell (p := ⟨X, 1, none⟩) lX).trans x1, (h.cell (p := ⟨X, 2, none⟩) lX).trans x2, (h.cell (p := ⟨X, 3, none⟩) lX).trans x3, (h.cell (p := ⟨X, 4, none⟩) lX).trans x4⟩)
      go_wp2_with fail
      refine wp_region_held_drew (S := (fun W' => W'.cell? ⟨X, 0, none⟩ = some (.int .i64 1) ∧ W'.cell? ⟨X, 1, none⟩ = some (.int .i64 d) ∧ W'.cell? ⟨X, 2, none⟩ = some (.int .i64 s) ∧ W'.cell? ⟨X, 3, none⟩ = some (.int .i64 32) ∧ W'.cell? ⟨X, 4, none⟩ = some (.int .i64 imm))) (by kernel_rfl) ?_ (fun hHeld => ?_)
      · exact HS5.out _ (drewR (Below.refl _ _))
      have hb0 : Below W.heap.size W W.drew := drewR (Below.refl _ _)
      generalize W.drew = wn0 at hb0 hHeld ⊢
      refine wpAnyH_take (i := 0) (oi := ({ dst := some 49, op := Op.fieldAddr 23 (Operand.tmp 1) 1, type := 0, pos := "ref.go:99", after := #[], guard := none } : Oper)) (v := ?_) rfl (by kernel_rfl) (by kernel_rfl) (by kernel_rfl) (fun _ _ _ h => h) (Or.inl ⟨by rfl, ?_⟩) (by assumption) ?_
      rotate_left 1
      · intro w hSw
        (try dsimp only at hSw)
        go_simp
        (try with_reducible rfl)
      try simp only [Act.put, List.setIfInBounds_toArray, List.set_cons_zero, List.set_cons_succ]
      refine wpAnyH_take (i := 1) (oi := ({ dst := some 50, op := Op.load 3 (Operand.tmp 49), type := 3, pos := "ref.go:99", after := #[{ on := 0, ground := Ground.data }], guard := none } : Oper)) (v := ?_) rfl (by kernel_rfl) (by kernel_rfl) (by kernel_rfl) (fun _ _ _ h => h) (Or.inl ⟨by rfl, ?_⟩) (by assumption) ?_
      rotate_left 1
      · intro w hSw
        (try dsimp only at hSw)
        go_simp
        (try with_reducible rfl)
      try simp only [Act.put, List.setIfInBounds_toArray, List.set_cons_zero, List.set_cons_succ]
      refine wpAnyH_take (i := 2) (oi := ({ dst := some 51, op := Op.binOp BinOp.add 3 (Operand.const (Value.int IntKind.i64 184)) (Operand.tmp 50) 3, type := 3, pos := "ref.go:99", after := #[{ on := 1, ground := Ground.data }], guard := none } : Oper)) (v := ?_) rfl (by kernel_rfl) (by kernel_rfl) (by kernel_rfl) (fun _ _ _ h => h) (Or.inl ⟨by rfl, ?_⟩) (by assumption) ?_
      rotate_left 1
      · intro w hSw
        (try dsimp only at hSw)
        go_simp
        (try with_reducible rfl)
      try simp only [Act.put, List.setIfInBounds_toArray, List.set_cons_zero, List.set_cons_succ]
      refine wpAnyH_take (i := 3) (oi := ({ dst := some 52, op := Op.convert 3 5 (Operand.tmp 51), type := 5, pos := "ref.go:99", after := #[{ on := 2, ground := Ground.data }], guard := none } : Oper)) (v := ?_) rfl (by kernel_rfl) (by kernel_rfl) (by kernel_rfl) (fun _ _ _ h => h) (Or.inl ⟨by rfl, ?_⟩) (by assumption) ?_
      rotate_left 1
      · intro w hSw
        (try dsimp only at hSw)
        go_simp
        (try with_reducible rfl)
      try simp only [Act.put, List.setIfInBounds_toArray, List.set_cons_zero, List.set_cons_succ]
      refine wpAnyH_take (i := 5) (oi := ({ dst := some 54, op := Op.fieldAddr 23 (Operand.tmp 1) 4, type := 0, pos := "ref.go:99", after := #[], guard := none } : Oper)) (v := ?_) rfl (by kernel_rfl) (by kernel_rfl) (by kernel_rfl) (fun _ _ _ h => h) (Or.inl ⟨by rfl, ?_⟩) (by assumption) ?_
      rotate_left 1
      · intro w hSw
        (try dsimp only at hSw)
        go_simp
        (try with_reducible rfl)
      try simp only [Act.put, List.setIfInBounds_toArray, List.set_cons_zero, List.set_cons_succ]
      refine wpAnyH_take (i := 6) (oi := ({ dst := some 55, op := Op.load 3 (Operand.tmp 54), type := 3, pos := "ref.go:99", after := #[{ on := 5, ground := Ground.data }], guard := none } : Oper)) (v := ?_) rfl (by kernel_rfl) (by kernel_rfl) (by kernel_rfl) (fun _ _ _ h => h) (Or.inl ⟨by rfl, ?_⟩) (by assumption) ?_
      rotate_left 1
      · intro w hSw
        (try dsimp only at hSw)
        go_simp
        (try with_reducible rfl)
      try simp only [Act.put, List.setIfInBounds_toArray, List.set_cons_zero, List.set_cons_succ]
      refine wpAnyH_take (i := 7) (oi := ({ dst := some 56, op := Op.fieldAddr 23 (Operand.tmp 1) 3, type := 0, pos := "ref.go:99", after := #[], guard := none } : Oper)) (v := ?_) rfl (by kernel_rfl) (by kernel_rfl) (by kernel_rfl) (fun _ _ _ h => h) (Or.inl ⟨by rfl, ?_⟩) (by assumption) ?_
      rotate_left 1
      · intro w hSw
        (try dsimp only at hSw)
        go_simp
        (try with_reducible rfl)
      try simp only [Act.put, List.setIfInBounds_toArray, List.set_cons_zero, List.set_cons_succ]
      refine wpAnyH_take (i := 8) (oi := ({ dst := some 57, op := Op.load 3 (Operand.tmp 56), type := 3, pos := "ref.go:99", after := #[{ on := 7, ground := Ground.data }], guard := none } : Oper)) (v := ?_) rfl (by kernel_rfl) (by kernel_rfl) (by kernel_rfl) (fun _ _ _ h => h) (Or.inl ⟨by rfl, ?_⟩) (by assumption) ?_
      rotate_left 1
      · intro w hSw
        (try dsimp only at hSw)
        go_simp
        (try with_reducible rfl)
      try simp only [Act.put, List.setIfInBounds_toArray, List.set_cons_zero, List.set_cons_succ]
      refine wpAnyH_take (i := 9) (oi := ({ dst := some 58, op := Op.binOp BinOp.quo 3 (Operand.tmp 57) (Operand.const (Value.int IntKind.i64 8)) 3, type := 3, pos := "ref.go:99", after := #[{ on := 8, ground := Ground.data }], guard := none } : Oper)) (v := ?_) rfl (by kernel_rfl) (by kernel_rfl) (by kernel_rfl) (fun _ _ _ h => h) (Or.inl ⟨by rfl, ?_⟩) (by assumption) ?_
      rotate_left 1
      · intro w hSw
        (try dsimp only at hSw)
        go_simp
        (try with_reducible rfl)
      try simp only [Act.put, List.setIfInBounds_toArray, List.set_cons_zero, List.set_cons_succ]
      refine wpAnyH_take (i := 12) (oi := ({ dst := some 61, op := Op.move (Operand.tmp 5), type := 4, pos := "ref.go:99", after := #[], guard := none } : Oper)) (v := ?_) rfl (by kernel_rfl) (by kernel_rfl) (by kernel_rfl) (fun _ _ _ h => h) (Or.inl ⟨by rfl, ?_⟩) (by assumption) ?_
      rotate_left 1
      · intro w hSw
        (try dsimp only at hSw)
        go_simp
        (try with_reducible rfl)
      try simp only [Act.put, List.setIfInBounds_toArray, List.set_cons_zero, List.set_cons_succ]
      refine wpAnyH_ready (rs := [4, 10]) (by kernel_rfl) (by simp) ?_
      refine (AllReadyH.cons (o := ({ dst := some 53, op := Op.buildSlice 24 1 #[(0, Operand.tmp 52)], type := 24, pos := "ref.go:99", after := #[{ on := 3, ground := Ground.data }], guard := none } : Oper)) rfl (fun K hK => ?_) (AllReadyH.cons (o := ({ dst := some 59, op := Op.call { callee := Callee.value (Operand.func 81), args := #[Operand.tmp 55, Operand.tmp 58], argTypes := #[3, 3] }, type := 24, pos := "ref.go:99", after := #[{ on := 6, ground := Ground.data }, { on := 9, ground := Ground.data }], guard := none } : Oper)) rfl (fun K hK => ?_) AllReadyH.nil))
      · go_simp
        generalize hA11 : World.alloc _ _ = wn11
        have hb11 := below_new hA11 hb0
        have ho11 := own_new1 hA11 hb0
        clear hA11
        refine hK.out _ _ (HS5.out _ hb11) (fun hS11 => ?_)
        refine wpAnyH_ready (rs := [10]) (by kernel_rfl) (by simp) ?_
        refine (AllReadyH.cons (o := ({ dst := some 59, op := Op.call { callee := Callee.value (Operand.func 81), args := #[Operand.tmp 55, Operand.tmp 58], argTypes := #[3, 3] }, type := 24, pos := "ref.go:99", after := #[{ on := 6, ground := Ground.data }, { on := 9, ground := Ground.data }], guard := none } : Oper)) rfl (fun K hK => ?_) AllReadyH.nil)
        go_simp
        refine (rLittle4_any _ _ h1 h2).mono ?_
        rintro e wn12 ⟨g12, c12, rfl, ho12, hw12⟩
        have hb12 := hb11.trans (hw12.mono hb11.size)
        have ho11x12 := own_below ho11 hw12
        replace ho12 := own_lower ho12 hb11.size
        clear hw12
        refine hK.out _ _ (HS5.out _ hb12) (fun hS12 => ?_)
        refine wpAnyH_ready (rs := [11]) (by kernel_rfl) (by simp) ?_
        refine (AllReadyH.cons (o := ({ dst := some 60, op := Op.call { callee := Callee.builtin Builtin.append, args := #[Operand.tmp 53, Operand.tmp 59], argTypes := #[24, 24] }, type := 24, pos := "ref.go:99", after := #[{ on := 4, ground := Ground.data }, { on := 10, ground := Ground.data }, { on := 10, ground := Ground.chain }], guard := none } : Oper)) rfl (fun K hK => ?_) AllReadyH.nil)
        refine step_append_lies _ (by rfl) _ _ _ (by rfl) W.heap.size 5 i0 (.int .u8 0) 1 1 Try.underlying24 hi hz0 hz1 hz2 rfl (by decide) (.slice (some ⟨wn0.heap.size, 0, none⟩) 1 1) 1 _ (by rfl) ho11x12 ⟨g12, 0, none⟩ 4 c12 _ (by rfl) (by simp [byV, le4]) (ho12.cells rfl) (byV_one _) (by omega) (by unfold maxLen; omega) (by omega) (hb12.size) _ rfl ?_
        intro g13 c13 wn13 ho13 hgr13 hat13 hlt13
        have hb13 := hb12.grown hgr13 hb12.size (own_base ho11x12)
        clear hgr13 hat13 hlt13
        refine hK.out _ _ (HS5.out _ hb13) (fun hS13 => ?_)
        refine wpAnyH_take (i := 13) (oi := ({ dst := some 62, op := Op.move (Operand.tmp 61), type := 4, pos := "ref.go:99", after := #[{ on := 12, ground := Ground.data }, { on := 11, ground := Ground.chain }], guard := none } : Oper)) (v := ?_) rfl (by kernel_rfl) (by kernel_rfl) (by kernel_rfl) (fun _ _ _ h => h) (Or.inl ⟨by rfl, ?_⟩) (by assumption) ?_
        rotate_left 1
        · intro w hSw
          (try dsimp only at hSw)
          go_simp
          (try with_reducible rfl)
        try simp only [Act.put, List.setIfInBounds_toArray, List.set_cons_zero, List.set_cons_succ]
        refine wpAnyH_take (i := 14) (oi := ({ dst := some 63, op := Op.fieldAddr 23 (Operand.tmp 1) 1, type := 0, pos := "ref.go:99", after := #[{ on := 13, ground := Ground.guard }], guard := some (13, true) } : Oper)) (v := gv (Z) ?_) rfl (by kernel_rfl) (by kernel_rfl) (by kernel_rfl) (fun _ _ _ h => h) (yieldsIf_guard (g := Z) (wanted_open rfl (by rfl)) ?_) (by assumption) ?_
        rotate_left 1
        · intro hg w hSw
          (try dsimp only at hSw)
          (try simp only [hg])
          clear hg
          go_simp
          (try with_reducible rfl)
        try simp only [Act.put, List.setIfInBounds_toArray, List.set_cons_zero, List.set_cons_succ]
        refine wpAnyH_take (i := 15) (oi := ({ dst := some 64, op := Op.load 3 (Operand.tmp 63), type := 3, pos := "ref.go:99", after := #[{ on := 14, ground := Ground.data }, { on := 13, ground := Ground.guard }], guard := some (13, true) } : Oper)) (v := gv (Z) ?_) rfl (by kernel_rfl) (by kernel_rfl) (by kernel_rfl) (fun _ _ _ h => h) (yieldsIf_guard (g := Z) (wanted_open rfl (by rfl)) ?_) (by assumption) ?_
        rotate_left 1
        · intro hg w hSw
          (try dsimp only at hSw)
          (try simp only [hg, gv_true])
          clear hg
          go_simp
          (try with_reducible rfl)
        try simp only [Act.put, List.setIfInBounds_toArray, List.set_cons_zero, List.set_cons_succ]
        refine wpAnyH_ready (rs := [16]) (by kernel_rfl) (by simp) ?_
        refine (AllReadyH.cons (o := ({ dst := some 65, op := Op.call { callee := Callee.value (Operand.func 78), args := #[Operand.tmp 64], argTypes := #[3] }, type := 4, pos := "ref.go:99", after := #[{ on := 15, ground := Ground.data }, { on := 13, ground := Ground.chain }, { on := 13, ground := Ground.guard }], guard := some (13, true) } : Oper)) rfl (fun K hK => ?_) AllReadyH.nil)
        refine guard_event (g := Z) (v := .bool (isR d)) (wanted_open rfl (by rfl)) (fun hg K0 hK0 => ?_) ?_
        · (try simp only [hg, gv_true] at hK0 ⊢)
          clear hg
          have HK0 := Lib.hid hK0
          clear hK0
          go_simp
          refine (rIsReg_at d _ _ rfl).mono ?_
          rintro e w' ⟨rfl, rfl⟩
          exact HK0.out
        try simp only [Act.put, List.setIfInBounds_toArray, List.set_cons_zero, List.set_cons_succ]
        refine hK.out _ _ (HS5.out _ hb13) (fun hS17 => ?_)
        refine wpAnyH_take (i := 17) (oi := ({ dst := some 66, op := Op.pick (Operand.tmp 62) (Operand.tmp 65) (Operand.const (Value.bool false)), type := 4, pos := "ref.go:99", after := #[{ on := 13, ground := Ground.data }, { on := 16, ground := Ground.data }], guard := none } : Oper)) (v := .bool (Z && isR d)) rfl (by kernel_rfl) (by kernel_rfl) (by kernel_rfl) (fun _ _ _ h => h) (yieldsIf_and (g := Z) (h := isR d) rfl rfl rfl rfl rfl) (by assumption) ?_
        try simp only [Act.put, List.setIfInBounds_toArray, List.set_cons_zero, List.set_cons_succ]
        refine wpAnyH_take (i := 18) (oi := ({ dst := some 67, op := Op.move (Operand.tmp 66), type := 4, pos := "ref.go:99", after := #[{ on := 17, ground := Ground.data }, { on := 16, ground := Ground.chain }], guard := none } : Oper)) (v := ?_) rfl (by kernel_rfl) (by kernel_rfl) (by kernel_rfl) (fun _ _ _ h => h) (Or.inl ⟨by rfl, ?_⟩) (by assumption) ?_
        rotate_left 1
        · intro w hSw
          (try dsimp only at hSw)
          go_simp
          (try with_reducible rfl)
        try simp only [Act.put, List.setIfInBounds_toArray, List.set_cons_zero, List.set_cons_succ]
        refine wpAnyH_take (i := 19) (oi := ({ dst := some 68, op := Op.fieldAddr 23 (Operand.tmp 1) 2, type := 0, pos := "ref.go:99", after := #[{ on := 18, ground := Ground.guard }], guard := some (18, true) } : Oper)) (v := gv ((Z && isR d)) ?_) rfl (by kernel_rfl) (by kernel_rfl) (by kernel_rfl) (fun _ _ _ h => h) (yieldsIf_guard (g := (Z && isR d)) (wanted_open rfl (by rfl)) ?_) (by assumption) ?_
        rotate_left 1
        · intro hg w hSw
          (try dsimp only at hSw)
          (try simp only [hg])
          clear hg
          go_simp
          (try with_reducible rfl)
        try simp only [Act.put, List.setIfInBounds_toArray, List.set_cons_zero, List.set_cons_succ]
        refine wpAnyH_take (i := 20) (oi := ({ dst := some 69, op := Op.load 3 (Operand.tmp 68), type := 3, pos := "ref.go:99", after := #[{ on := 19, ground := Ground.data }, { on := 18, ground := Ground.guard }], guard := some (18, true) } : Oper)) (v := gv ((Z && isR d)) ?_) rfl (by kernel_rfl) (by kernel_rfl) (by kernel_rfl) (fun _ _ _ h => h) (yieldsIf_guard (g := (Z && isR d)) (wanted_open rfl (by rfl)) ?_) (by assumption) ?_
        rotate_left 1
        · intro hg w hSw
          (try dsimp only at hSw)
          (try simp only [hg, gv_true])
          clear hg
          go_simp
          (try with_reducible rfl)
        try simp only [Act.put, List.setIfInBounds_toArray, List.set_cons_zero, List.set_cons_succ]
        refine wpAnyH_take (i := 21) (oi := ({ dst := some 70, op := Op.binOp BinOp.eql 3 (Operand.tmp 69) (Operand.const (Value.int IntKind.i64 0)) 3, type := 4, pos := "ref.go:99", after := #[{ on := 20, ground := Ground.data }, { on := 18, ground := Ground.guard }], guard := some (18, true) } : Oper)) (v := gv ((Z && isR d)) ?_) rfl (by kernel_rfl) (by kernel_rfl) (by kernel_rfl) (fun _ _ _ h => h) (yieldsIf_guard (g := (Z && isR d)) (wanted_open rfl (by rfl)) ?_) (by assumption) ?_
        rotate_left 1
        · intro hg w hSw
          (try dsimp only at hSw)
          (try simp only [hg, gv_true])
          clear hg
          go_simp
          (try with_reducible rfl)
        try simp only [Act.put, List.setIfInBounds_toArray, List.set_cons_zero, List.set_cons_succ]
        refine wpAnyH_take (i := 22) (oi := ({ dst := some 71, op := Op.pick (Operand.tmp 67) (Operand.tmp 70) (Operand.const (Value.bool false)), type := 4, pos := "ref.go:99", after := #[{ on := 18, ground := Ground.data }, { on := 21, ground := Ground.data }], guard := none } : Oper)) (v := .bool ((Z && isR d) && S0)) rfl (by kernel_rfl) (by kernel_rfl) (by kernel_rfl) (fun _ _ _ h => h) (yieldsIf_and (g := (Z && isR d)) (h := S0) rfl rfl rfl rfl rfl) (by assumption) ?_
        try simp only [Act.put, List.setIfInBounds_toArray, List.set_cons_zero, List.set_cons_succ]
        refine wpAnyH_take (i := 23) (oi := ({ dst := some 72, op := Op.move (Operand.tmp 71), type := 4, pos := "ref.go:99", after := #[{ on := 22, ground := Ground.data }, { on := 18, ground := Ground.chain }], guard := none } : Oper)) (v := ?_) rfl (by kernel_rfl) (by kernel_rfl) (by kernel_rfl) (fun _ _ _ h => h) (Or.inl ⟨by rfl, ?_⟩) (by assumption) ?_
        rotate_left 1
        · intro w hSw
          (try dsimp only at hSw)
          go_simp
          (try with_reducible rfl)
        try simp only [Act.put, List.setIfInBounds_toArray, List.set_cons_zero, List.set_cons_succ]
        refine wpAnyH_take (i := 24) (oi := ({ dst := some 73, op := Op.fieldAddr 23 (Operand.tmp 1) 4, type := 0, pos := "ref.go:99", after := #[{ on := 23, ground := Ground.guard }], guard := some (23, true) } : Oper)) (v := gv (((Z && isR d) && S0)) ?_) rfl (by kernel_rfl) (by kernel_rfl) (by kernel_rfl) (fun _ _ _ h => h) (yieldsIf_guard (g := ((Z && isR d) && S0)) (wanted_open rfl (by rfl)) ?_) (by assumption) ?_
        rotate_left 1
        · intro hg w hSw
          (try dsimp only at hSw)
          (try simp only [hg])
          clear hg
          go_simp
          (try with_reducible rfl)
        try simp only [Act.put, List.setIfInBounds_toArray, List.set_cons_zero, List.set_cons_succ]
        refine wpAnyH_take (i := 25) (oi := ({ dst := some 74, op := Op.load 3 (Operand.tmp 73), type := 3, pos := "ref.go:99", after := #[{ on := 24, ground := Ground.data }, { on := 23, ground := Ground.guard }], guard := some (23, true) } : Oper)) (v := gv (((Z && isR d) && S0)) ?_) rfl (by kernel_rfl) (by kernel_rfl) (by kernel_rfl) (fun _ _ _ h => h) (yieldsIf_guard (g := ((Z && isR d) && S0)) (wanted_open rfl (by rfl)) ?_) (by assumption) ?_
        rotate_left 1
        · intro hg w hSw
          (try dsimp only at hSw)
          (try simp only [hg, gv_true])
          clear hg
          go_simp
          (try with_reducible rfl)
        try simp only [Act.put, List.setIfInBounds_toArray, List.set_cons_zero, List.set_cons_succ]
        refine wpAnyH_take (i := 26) (oi := ({ dst := some 75, op := Op.fieldAddr 23 (Operand.tmp 1) 3, type := 0, pos := "ref.go:99", after := #[{ on := 23, ground := Ground.guard }], guard := some (23, true) } : Oper)) (v := gv (((Z && isR d) && S0)) ?_) rfl (by kernel_rfl) (by kernel_rfl) (by kernel_rfl) (fun _ _ _ h => h) (yieldsIf_guard (g := ((Z && isR d) && S0)) (wanted_open rfl (by rfl)) ?_) (by assumption) ?_
        rotate_left 1
        · intro hg w hSw
          (try dsimp only at hSw)
          (try simp only [hg, gv_true])
          clear hg
          go_simp
          (try with_reducible rfl)
        try simp only [Act.put, List.setIfInBounds_toArray, List.set_cons_zero, List.set_cons_succ]
        refine wpAnyH_take (i := 27) (oi := ({ dst := some 76, op := Op.load 3 (Operand.tmp 75), type := 3, pos := "ref.go:99", after := #[{ on := 26, ground := Ground.data }, { on := 23, ground := Ground.guard }], guard := some (23, true) } : Oper)) (v := gv (((Z && isR d) && S0)) ?_) rfl (by kernel_rfl) (by kernel_rfl) (by kernel_rfl) (fun _ _ _ h => h) (yieldsIf_guard (g := ((Z && isR d) && S0)) (wanted_open rfl (by rfl)) ?_) (by assumption) ?_
        rotate_left 1
        · intro hg w hSw
          (try dsimp only at hSw)
          (try simp only [hg, gv_true])
          clear hg
          go_simp
          (try with_reducible rfl)
        try simp only [Act.put, List.setIfInBounds_toArray, List.set_cons_zero, List.set_cons_succ]
        refine wpAnyH_ready (rs := [28]) (by kernel_rfl) (by simp) ?_
        refine (AllReadyH.cons (o := ({ dst := some 77, op := Op.call { callee := Callee.value (Operand.func 82), args := #[Operand.tmp 74, Operand.tmp 76], argTypes := #[3, 3] }, type := 4, pos := "ref.go:99", after := #[{ on := 25, ground := Ground.data }, { on := 27, ground := Ground.data }, { on := 23, ground := Ground.chain }, { on := 23, ground := Ground.guard }], guard := some (23, true) } : Oper)) rfl (fun K hK => ?_) AllReadyH.nil)
        refine guard_event (g := ((Z && isR d) && S0)) (v := .bool (FT)) (wanted_open rfl (by rfl)) (fun hg K0 hK0 => ?_) ?_
        · (try simp only [hg, gv_true] at hK0 ⊢)
          clear hg
          have HK0 := Lib.hid hK0
          clear hK0
          go_simp
          refine (rFits32_at imm FT _ HFT.out).mono ?_
          rintro e w' ⟨rfl, rfl⟩
          exact HK0.out
        try simp only [Act.put, List.setIfInBounds_toArray, List.set_cons_zero, List.set_cons_succ]
        refine hK.out _ _ (HS5.out _ hb13) (fun hS29 => ?_)
        refine wpAnyH_take (i := 29) (oi := ({ dst := some 78, op := Op.pick (Operand.tmp 72) (Operand.tmp 77) (Operand.const (Value.bool false)), type := 4, pos := "ref.go:99", after := #[{ on := 23, ground := Ground.data }, { on := 28, ground := Ground.data }, { on := 30, ground := Ground.gcOnly Departure.lateStores }], guard := none } : Oper)) (v := .bool (((Z && isR d) && S0) && FT)) rfl (by kernel_rfl) (by kernel_rfl) (by kernel_rfl) (fun _ _ _ h => h) (yieldsIf_and (g := ((Z && isR d) && S0)) (h := FT) rfl rfl rfl rfl rfl) (by assumption) ?_
        try simp only [Act.put, List.setIfInBounds_toArray, List.set_cons_zero, List.set_cons_succ]
        refine wpAnyH_take (i := 30) (oi := ({ dst := some 2, op := Op.assign (Operand.tmp 60), type := 24, pos := "ref.go:99", after := #[{ on := 11, ground := Ground.data }, { on := 28, ground := Ground.chain }, { on := 0, ground := Ground.phase }, { on := 1, ground := Ground.phase }, { on := 2, ground := Ground.phase }, { on := 3, ground := Ground.phase }, { on := 4, ground := Ground.phase }, { on := 5, ground := Ground.phase }, { on := 6, ground := Ground.phase }, { on := 7, ground := Ground.phase }, { on := 8, ground := Ground.phase }, { on := 9, ground := Ground.phase }, { on := 10, ground := Ground.phase }, { on := 11, ground := Ground.phase }, { on := 12, ground := Ground.textOnly Departure.lateStores }, { on := 13, ground := Ground.textOnly Departure.lateStores }, { on := 14, ground := Ground.textOnly Departure.lateStores }, { on := 15, ground := Ground.textOnly Departure.lateStores }, { on := 16, ground := Ground.textOnly Departure.lateStoresUnsure }, { on := 17, ground := Ground.textOnly Departure.lateStores }, { on := 18, ground := Ground.textOnly Departure.lateStores }, { on := 19, ground := Ground.textOnly Departure.lateStores }, { on := 20, ground := Ground.textOnly Departure.lateStores }, { on := 21, ground := Ground.textOnly Departure.lateStores }, { on := 22, ground := Ground.textOnly Departure.lateStores }, { on := 23, ground := Ground.textOnly Departure.lateStores }, { on := 24, ground := Ground.textOnly Departure.lateStores }, { on := 25, ground := Ground.textOnly Departure.lateStores }, { on := 26, ground := Ground.textOnly Departure.lateStores }, { on := 27, ground := Ground.textOnly Departure.lateStores }, { on := 28, ground := Ground.textOnly Departure.lateStoresUnsure }, { on := 29, ground := Ground.textOnly Departure.lateStores }], guard := none } : Oper)) (v := ?_) rfl (by kernel_rfl) (by kernel_rfl) (by kernel_rfl) (fun _ _ _ h => h) (Or.inl ⟨by rfl, ?_⟩) (by assumption) ?_
        rotate_left 1
        · intro w hSw
          (try dsimp only at hSw)
          go_simp
          (try with_reducible rfl)
        try simp only [Act.put, List.setIfInBounds_toArray, List.set_cons_zero, List.set_cons_succ]
        refine wpAnyH_take (i := 31) (oi := ({ dst := some 3, op := Op.assign (Operand.tmp 78), type := 4, pos := "ref.go:99", after := #[{ on := 29, ground := Ground.data }, { on := 30, ground := Ground.chain }, { on := 0, ground := Ground.phase }, { on := 1, ground := Ground.phase }, { on := 2, ground := Ground.phase }, { on := 3, ground := Ground.phase }, { on := 4, ground := Ground.phase }, { on := 5, ground := Ground.phase }, { on := 6, ground := Ground.phase }, { on := 7, ground := Ground.phase }, { on := 8, ground := Ground.phase }, { on := 9, ground := Ground.phase }, { on := 10, ground := Ground.phase }, { on := 11, ground := Ground.phase }, { on := 12, ground := Ground.phase }, { on := 13, ground := Ground.phase }, { on := 14, ground := Ground.phase }, { on := 15, ground := Ground.phase }, { on := 16, ground := Ground.phase }, { on := 17, ground := Ground.phase }, { on := 18, ground := Ground.phase }, { on := 19, ground := Ground.phase }, { on := 20, ground := Ground.phase }, { on := 21, ground := Ground.phase }, { on := 22, ground := Ground.phase }, { on := 23, ground := Ground.phase }, { on := 24, ground := Ground.phase }, { on := 25, ground := Ground.phase }, { on := 26, ground := Ground.phase }, { on := 27, ground := Ground.phase }, { on := 28, ground := Ground.phase }, { on := 29, ground := Ground.phase }, { on := 30, ground := Ground.phase }], guard := none } : Oper)) (v := ?_) rfl (by kernel_rfl) (by kernel_rfl) (by kernel_rfl) (fun _ _ _ h => h) (Or.inl ⟨by rfl, ?_⟩) (by assumption) ?_
        rotate_left 1
        · intro w hSw
          (try dsimp only at hSw)
          go_simp
          (try with_reducible rfl)
        try simp only [Act.put, List.setIfInBounds_toArray, List.set_cons_zero, List.set_cons_succ]
        refine wpAnyH_done (by kernel_rfl) ?_ _
        go_wp2
        refine bodyPost_ret (res2 rfl _ _) rfl ?_
        refine ⟨_, rfl, fun hB => ?_, hb.trans (hb13.mono (by have := HX.out; omega))⟩
        have hd : isR d = true := by revert hB; cases isR d <;> simp
        have hd2 := isR_of hd
        try rw [← byV_append] at ho13
        have e := own_lower (b2 := w.heap.size) ho13 (by have := HX.out; omega)
        rw [show IntKind.u8.wrap (IntKind.i64.wrap (184 + d)) = 184 + d by rw [IntWalk.i64_in _ (by omega), u8_in (by omega) (by omega)]] at e
        exact e
      · go_simp
        refine (rLittle4_any _ _ h1 h2).mono ?_
        rintro e wn33 ⟨g33, c33, rfl, ho33, hw33⟩
        have hb33 := hb0.trans (hw33.mono hb0.size)
        replace ho33 := own_lower ho33 hb0.size
        clear hw33
        refine hK.out _ _ (HS5.out _ hb33) (fun hS33 => ?_)
        refine wpAnyH_ready (rs := [4]) (by kernel_rfl) (by simp) ?_
        refine (AllReadyH.cons (o := ({ dst := some 53, op := Op.buildSlice 24 1 #[(0, Operand.tmp 52)], type := 24, pos := "ref.go:99", after := #[{ on := 3, ground := Ground.data }], guard := none } : Oper)) rfl (fun K hK => ?_) AllReadyH.nil)
        go_simp
        generalize hA34 : World.alloc _ _ = wn34
        have hb34 := below_new hA34 hb33
        have ho33x34 := own_below ho33 (below_one hA34)
        have ho34 := own_new1 hA34 hb33
        clear hA34
        refine hK.out _ _ (HS5.out _ hb34) (fun hS34 => ?_)
        refine wpAnyH_ready (rs := [11]) (by kernel_rfl) (by simp) ?_
        refine (AllReadyH.cons (o := ({ dst := some 60, op := Op.call { callee := Callee.builtin Builtin.append, args := #[Operand.tmp 53, Operand.tmp 59], argTypes := #[24, 24] }, type := 24, pos := "ref.go:99", after := #[{ on := 4, ground := Ground.data }, { on := 10, ground := Ground.data }, { on := 10, ground := Ground.chain }], guard := none } : Oper)) rfl (fun K hK => ?_) AllReadyH.nil)
        refine step_append_lies _ (by rfl) _ _ _ (by rfl) W.heap.size 5 i0 (.int .u8 0) 1 1 Try.underlying24 hi hz0 hz1 hz2 rfl (by decide) (.slice (some ⟨wn33.heap.size, 0, none⟩) 1 1) 1 _ (by rfl) ho34 ⟨g33, 0, none⟩ 4 c33 _ (by rfl) (by simp [byV, le4]) (ho33x34.cells rfl) (byV_one _) (by omega) (by unfold maxLen; omega) (by omega) (hb34.size) _ rfl ?_
        intro g35 c35 wn35 ho35 hgr35 hat35 hlt35
        have hb35 := hb34.grown hgr35 hb34.size (own_base ho34)
        clear hgr35 hat35 hlt35
        refine hK.out _ _ (HS5.out _ hb35) (fun hS35 => ?_)
        refine wpAnyH_take (i := 13) (oi := ({ dst := some 62, op := Op.move (Operand.tmp 61), type := 4, pos := "ref.go:99", after := #[{ on := 12, ground := Ground.data }, { on := 11, ground := Ground.chain }], guard := none } : Oper)) (v := ?_) rfl (by kernel_rfl) (by kernel_rfl) (by kernel_rfl) (fun _ _ _ h => h) (Or.inl ⟨by rfl, ?_⟩) (by assumption) ?_
        rotate_left 1
        · intro w hSw
          (try dsimp only at hSw)
          go_simp
          (try with_reducible rfl)
        try simp only [Act.put, List.setIfInBounds_toArray, List.set_cons_zero, List.set_cons_succ]
        refine wpAnyH_take (i := 14) (oi := ({ dst := some 63, op := Op.fieldAddr 23 (Operand.tmp 1) 1, type := 0, pos := "ref.go:99", after := #[{ on := 13, ground := Ground.guard }], guard := some (13, true) } : Oper)) (v := gv (Z) ?_) rfl (by kernel_rfl) (by kernel_rfl) (by kernel_rfl) (fun _ _ _ h => h) (yieldsIf_guard (g := Z) (wanted_open rfl (by rfl)) ?_) (by assumption) ?_
        rotate_left 1
        · intro hg w hSw
          (try dsimp only at hSw)
          (try simp only [hg])
          clear hg
          go_simp
          (try with_reducible rfl)
        try simp only [Act.put, List.setIfInBounds_toArray, List.set_cons_zero, List.set_cons_succ]
        refine wpAnyH_take (i := 15) (oi := ({ dst := some 64, op := Op.load 3 (Operand.tmp 63), type := 3, pos := "ref.go:99", after := #[{ on := 14, ground := Ground.data }, { on := 13, ground := Ground.guard }], guard := some (13, true) } : Oper)) (v := gv (Z) ?_) rfl (by kernel_rfl) (by kernel_rfl) (by kernel_rfl) (fun _ _ _ h => h) (yieldsIf_guard (g := Z) (wanted_open rfl (by rfl)) ?_) (by assumption) ?_
        rotate_left 1
        · intro hg w hSw
          (try dsimp only at hSw)
          (try simp only [hg, gv_true])
          clear hg
          go_simp
          (try with_reducible rfl)
        try simp only [Act.put, List.setIfInBounds_toArray, List.set_cons_zero, List.set_cons_succ]
        refine wpAnyH_ready (rs := [16]) (by kernel_rfl) (by simp) ?_
        refine (AllReadyH.cons (o := ({ dst := some 65, op := Op.call { callee := Callee.value (Operand.func 78), args := #[Operand.tmp 64], argTypes := #[3] }, type := 4, pos := "ref.go:99", after := #[{ on := 15, ground := Ground.data }, { on := 13, ground := Ground.chain }, { on := 13, ground := Ground.guard }], guard := some (13, true) } : Oper)) rfl (fun K hK => ?_) AllReadyH.nil)
        refine guard_event (g := Z) (v := .bool (isR d)) (wanted_open rfl (by rfl)) (fun hg K0 hK0 => ?_) ?_
        · (try simp only [hg, gv_true] at hK0 ⊢)
          clear hg
          have HK0 := Lib.hid hK0
          clear hK0
          go_simp
          refine (rIsReg_at d _ _ rfl).mono ?_
          rintro e w' ⟨rfl, rfl⟩
          exact HK0.out
        try simp only [Act.put, List.setIfInBounds_toArray, List.set_cons_zero, List.set_cons_succ]
        refine hK.out _ _ (HS5.out _ hb35) (fun hS39 => ?_)
        refine wpAnyH_take (i := 17) (oi := ({ dst := some 66, op := Op.pick (Operand.tmp 62) (Operand.tmp 65) (Operand.const (Value.bool false)), type := 4, pos := "ref.go:99", after := #[{ on := 13, ground := Ground.data }, { on := 16, ground := Ground.data }], guard := none } : Oper)) (v := .bool (Z && isR d)) rfl (by kernel_rfl) (by kernel_rfl) (by kernel_rfl) (fun _ _ _ h => h) (yieldsIf_and (g := Z) (h := isR d) rfl rfl rfl rfl rfl) (by assumption) ?_
        try simp only [Act.put, List.setIfInBounds_toArray, List.set_cons_zero, List.set_cons_succ]
        refine wpAnyH_take (i := 18) (oi := ({ dst := some 67, op := Op.move (Operand.tmp 66), type := 4, pos := "ref.go:99", after := #[{ on := 17, ground := Ground.data }, { on := 16, ground := Ground.chain }], guard := none } : Oper)) (v := ?_) rfl (by kernel_rfl) (by kernel_rfl) (by kernel_rfl) (fun _ _ _ h => h) (Or.inl ⟨by rfl, ?_⟩) (by assumption) ?_
        rotate_left 1
        · intro w hSw
          (try dsimp only at hSw)
          go_simp
          (try with_reducible rfl)
        try simp only [Act.put, List.setIfInBounds_toArray, List.set_cons_zero, List.set_cons_succ]
        refine wpAnyH_take (i := 19) (oi := ({ dst := some 68, op := Op.fieldAddr 23 (Operand.tmp 1) 2, type := 0, pos := "ref.go:99", after := #[{ on := 18, ground := Ground.guard }], guard := some (18, true) } : Oper)) (v := gv ((Z && isR d)) ?_) rfl (by kernel_rfl) (by kernel_rfl) (by kernel_rfl) (fun _ _ _ h => h) (yieldsIf_guard (g := (Z && isR d)) (wanted_open rfl (by rfl)) ?_) (by assumption) ?_
        rotate_left 1
        · intro hg w hSw
          (try dsimp only at hSw)
          (try simp only [hg])
          clear hg
          go_simp
          (try with_reducible rfl)
        try simp only [Act.put, List.setIfInBounds_toArray, List.set_cons_zero, List.set_cons_succ]
        refine wpAnyH_take (i := 20) (oi := ({ dst := some 69, op := Op.load 3 (Operand.tmp 68), type := 3, pos := "ref.go:99", after := #[{ on := 19, ground := Ground.data }, { on := 18, ground := Ground.guard }], guard := some (18, true) } : Oper)) (v := gv ((Z && isR d)) ?_) rfl (by kernel_rfl) (by kernel_rfl) (by kernel_rfl) (fun _ _ _ h => h) (yieldsIf_guard (g := (Z && isR d)) (wanted_open rfl (by rfl)) ?_) (by assumption) ?_
        rotate_left 1
        · intro hg w hSw
          (try dsimp only at hSw)
          (try simp only [hg, gv_true])
          clear hg
          go_simp
          (try with_reducible rfl)
        try simp only [Act.put, List.setIfInBounds_toArray, List.set_cons_zero, List.set_cons_succ]
        refine wpAnyH_take (i := 21) (oi := ({ dst := some 70, op := Op.binOp BinOp.eql 3 (Operand.tmp 69) (Operand.const (Value.int IntKind.i64 0)) 3, type := 4, pos := "ref.go:99", after := #[{ on := 20, ground := Ground.data }, { on := 18, ground := Ground.guard }], guard := some (18, true) } : Oper)) (v := gv ((Z && isR d)) ?_) rfl (by kernel_rfl) (by kernel_rfl) (by kernel_rfl) (fun _ _ _ h => h) (yieldsIf_guard (g := (Z && isR d)) (wanted_open rfl (by rfl)) ?_) (by assumption) ?_
        rotate_left 1
        · intro hg w hSw
          (try dsimp only at hSw)
          (try simp only [hg, gv_true])
          clear hg
          go_simp
          (try with_reducible rfl)
        try simp only [Act.put, List.setIfInBounds_toArray, List.set_cons_zero, List.set_cons_succ]
        refine wpAnyH_take (i := 22) (oi := ({ dst := some 71, op := Op.pick (Operand.tmp 67) (Operand.tmp 70) (Operand.const (Value.bool false)), type := 4, pos := "ref.go:99", after := #[{ on := 18, ground := Ground.data }, { on := 21, ground := Ground.data }], guard := none } : Oper)) (v := .bool ((Z && isR d) && S0)) rfl (by kernel_rfl) (by kernel_rfl) (by kernel_rfl) (fun _ _ _ h => h) (yieldsIf_and (g := (Z && isR d)) (h := S0) rfl rfl rfl rfl rfl) (by assumption) ?_
        try simp only [Act.put, List.setIfInBounds_toArray, List.set_cons_zero, List.set_cons_succ]
        refine wpAnyH_take (i := 23) (oi := ({ dst := some 72, op := Op.move (Operand.tmp 71), type := 4, pos := "ref.go:99", after := #[{ on := 22, ground := Ground.data }, { on := 18, ground := Ground.chain }], guard := none } : Oper)) (v := ?_) rfl (by kernel_rfl) (by kernel_rfl) (by kernel_rfl) (fun _ _ _ h => h) (Or.inl ⟨by rfl, ?_⟩) (by assumption) ?_
        rotate_left 1
        · intro w hSw
          (try dsimp only at hSw)
          go_simp
          (try with_reducible rfl)
        try simp only [Act.put, List.setIfInBounds_toArray, List.set_cons_zero, List.set_cons_succ]
        refine wpAnyH_take (i := 24) (oi := ({ dst := some 73, op := Op.fieldAddr 23 (Operand.tmp 1) 4, type := 0, pos := "ref.go:99", after := #[{ on := 23, ground := Ground.guard }], guard := some (23, true) } : Oper)) (v := gv (((Z && isR d) && S0)) ?_) rfl (by kernel_rfl) (by kernel_rfl) (by kernel_rfl) (fun _ _ _ h => h) (yieldsIf_guard (g := ((Z && isR d) && S0)) (wanted_open rfl (by rfl)) ?_) (by assumption) ?_
        rotate_left 1
        · intro hg w hSw
          (try dsimp only at hSw)
          (try simp only [hg])
          clear hg
          go_simp
          (try with_reducible rfl)
        try simp only [Act.put, List.setIfInBounds_toArray, List.set_cons_zero, List.set_cons_succ]
        refine wpAnyH_take (i := 25) (oi := ({ dst := some 74, op := Op.load 3 (Operand.tmp 73), type := 3, pos := "ref.go:99", after := #[{ on := 24, ground := Ground.data }, { on := 23, ground := Ground.guard }], guard := some (23, true) } : Oper)) (v := gv (((Z && isR d) && S0)) ?_) rfl (by kernel_rfl) (by kernel_rfl) (by kernel_rfl) (fun _ _ _ h => h) (yieldsIf_guard (g := ((Z && isR d) && S0)) (wanted_open rfl (by rfl)) ?_) (by assumption) ?_
        rotate_left 1
        · intro hg w hSw
          (try dsimp only at hSw)
          (try simp only [hg, gv_true])
          clear hg
          go_simp
          (try with_reducible rfl)
        try simp only [Act.put, List.setIfInBounds_toArray, List.set_cons_zero, List.set_cons_succ]
        refine wpAnyH_take (i := 26) (oi := ({ dst := some 75, op := Op.fieldAddr 23 (Operand.tmp 1) 3, type := 0, pos := "ref.go:99", after := #[{ on := 23, ground := Ground.guard }], guard := some (23, true) } : Oper)) (v := gv (((Z && isR d) && S0)) ?_) rfl (by kernel_rfl) (by kernel_rfl) (by kernel_rfl) (fun _ _ _ h => h) (yieldsIf_guard (g := ((Z && isR d) && S0)) (wanted_open rfl (by rfl)) ?_) (by assumption) ?_
        rotate_left 1
        · intro hg w hSw
          (try dsimp only at hSw)
          (try simp only [hg, gv_true])
          clear hg
          go_simp
          (try with_reducible rfl)
        try simp only [Act.put, List.setIfInBounds_toArray, List.set_cons_zero, List.set_cons_succ]
        refine wpAnyH_take (i := 27) (oi := ({ dst := some 76, op := Op.load 3 (Operand.tmp 75), type := 3, pos := "ref.go:99", after := #[{ on := 26, ground := Ground.data }, { on := 23, ground := Ground.guard }], guard := some (23, true) } : Oper)) (v := gv (((Z && isR d) && S0)) ?_) rfl (by kernel_rfl) (by kernel_rfl) (by kernel_rfl) (fun _ _ _ h => h) (yieldsIf_guard (g := ((Z && isR d) && S0)) (wanted_open rfl (by rfl)) ?_) (by assumption) ?_
        rotate_left 1
        · intro hg w hSw
          (try dsimp only at hSw)
          (try simp only [hg, gv_true])
          clear hg
          go_simp
          (try with_reducible rfl)
        try simp only [Act.put, List.setIfInBounds_toArray, List.set_cons_zero, List.set_cons_succ]
        refine wpAnyH_ready (rs := [28]) (by kernel_rfl) (by simp) ?_
        refine (AllReadyH.cons (o := ({ dst := some 77, op := Op.call { callee := Callee.value (Operand.func 82), args := #[Operand.tmp 74, Operand.tmp 76], argTypes := #[3, 3] }, type := 4, pos := "ref.go:99", after := #[{ on := 25, ground := Ground.data }, { on := 27, ground := Ground.data }, { on := 23, ground := Ground.chain }, { on := 23, ground := Ground.guard }], guard := some (23, true) } : Oper)) rfl (fun K hK => ?_) AllReadyH.nil)
        refine guard_event (g := ((Z && isR d) && S0)) (v := .bool (FT)) (wanted_open rfl (by rfl)) (fun hg K0 hK0 => ?_) ?_
        · (try simp only [hg, gv_true] at hK0 ⊢)
          clear hg
          have HK0 := Lib.hid hK0
          clear hK0
          go_simp
          refine (rFits32_at imm FT _ HFT.out).mono ?_
          rintro e w' ⟨rfl, rfl⟩
          exact HK0.out
        try simp only [Act.put, List.setIfInBounds_toArray, List.set_cons_zero, List.set_cons_succ]
        refine hK.out _ _ (HS5.out _ hb35) (fun hS51 => ?_)
        refine wpAnyH_take (i := 29) (oi := ({ dst := some 78, op := Op.pick (Operand.tmp 72) (Operand.tmp 77) (Operand.const (Value.bool false)), type := 4, pos := "ref.go:99", after := #[{ on := 23, ground := Ground.data }, { on := 28, ground := Ground.data }, { on := 30, ground := Ground.gcOnly Departure.lateStores }], guard := none } : Oper)) (v := .bool (((Z && isR d) && S0) && FT)) rfl (by kernel_rfl) (by kernel_rfl) (by kernel_rfl) (fun _ _ _ h => h) (yieldsIf_and (g := ((Z && isR d) && S0)) (h := FT) rfl rfl rfl rfl rfl) (by assumption) ?_
        try simp only [Act.put, List.setIfInBounds_toArray, List.set_cons_zero, List.set_cons_succ]
        refine wpAnyH_take (i := 30) (oi := ({ dst := some 2, op := Op.assign (Operand.tmp 60), type := 24, pos := "ref.go:99", after := #[{ on := 11, ground := Ground.data }, { on := 28, ground := Ground.chain }, { on := 0, ground := Ground.phase }, { on := 1, ground := Ground.phase }, { on := 2, ground := Ground.phase }, { on := 3, ground := Ground.phase }, { on := 4, ground := Ground.phase }, { on := 5, ground := Ground.phase }, { on := 6, ground := Ground.phase }, { on := 7, ground := Ground.phase }, { on := 8, ground := Ground.phase }, { on := 9, ground := Ground.phase }, { on := 10, ground := Ground.phase }, { on := 11, ground := Ground.phase }, { on := 12, ground := Ground.textOnly Departure.lateStores }, { on := 13, ground := Ground.textOnly Departure.lateStores }, { on := 14, ground := Ground.textOnly Departure.lateStores }, { on := 15, ground := Ground.textOnly Departure.lateStores }, { on := 16, ground := Ground.textOnly Departure.lateStoresUnsure }, { on := 17, ground := Ground.textOnly Departure.lateStores }, { on := 18, ground := Ground.textOnly Departure.lateStores }, { on := 19, ground := Ground.textOnly Departure.lateStores }, { on := 20, ground := Ground.textOnly Departure.lateStores }, { on := 21, ground := Ground.textOnly Departure.lateStores }, { on := 22, ground := Ground.textOnly Departure.lateStores }, { on := 23, ground := Ground.textOnly Departure.lateStores }, { on := 24, ground := Ground.textOnly Departure.lateStores }, { on := 25, ground := Ground.textOnly Departure.lateStores }, { on := 26, ground := Ground.textOnly Departure.lateStores }, { on := 27, ground := Ground.textOnly Departure.lateStores }, { on := 28, ground := Ground.textOnly Departure.lateStoresUnsure }, { on := 29, ground := Ground.textOnly Departure.lateStores }], guard := none } : Oper)) (v := ?_) rfl (by kernel_rfl) (by kernel_rfl) (by kernel_rfl) (fun _ _ _ h => h) (Or.inl ⟨by rfl, ?_⟩) (by assumption) ?_
        rotate_left 1
        · intro w hSw
          (try dsimp only at hSw)
          go_simp
          (try with_reducible rfl)
        try simp only [Act.put, List.setIfInBounds_toArray, List.set_cons_zero, List.set_cons_succ]
        refine wpAnyH_take (i := 31) (oi := ({ dst := some 3, op := Op.assign (Operand.tmp 78), type := 4, pos := "ref.go:99", after := #[{ on := 29, ground := Ground.data }, { on := 30, ground := Ground.chain }, { on := 0, ground := Ground.phase }, { on := 1, ground := Ground.phase }, { on := 2, ground := Ground.phase }, { on := 3, ground := Ground.phase }, { on := 4, ground := Ground.phase }, { on := 5, ground := Ground.phase }, { on := 6, ground := Ground.phase }, { on := 7, ground := Ground.phase }, { on := 8, ground := Ground.phase }, { on := 9, ground := Ground.phase }, { on := 10, ground := Ground.phase }, { on := 11, ground := Ground.phase }, { on := 12, ground := Ground.phase }, { on := 13, ground := Ground.phase }, { on := 14, ground := Ground.phase }, { on := 15, ground := Ground.phase }, { on := 16, ground := Ground.phase }, { on := 17, ground := Ground.phase }, { on := 18, ground := Ground.phase }, { on := 19, ground := Ground.phase }, { on := 20, ground := Ground.phase }, { on := 21, ground := Ground.phase }, { on := 22, ground := Ground.phase }, { on := 23, ground := Ground.phase }, { on := 24, ground := Ground.phase }, { on := 25, ground := Ground.phase }, { on := 26, ground := Ground.phase }, { on := 27, ground := Ground.phase }, { on := 28, ground := Ground.phase }, { on := 29, ground := Ground.phase }, { on := 30, ground := Ground.phase }], guard := none } : Oper)) (v := ?_) rfl (by kernel_rfl) (by kernel_rfl) (by kernel_rfl) (fun _ _ _ h => h) (Or.inl ⟨by rfl, ?_⟩) (by assumption) ?_
        rotate_left 1
        · intro w hSw
          (try dsimp only at hSw)
          go_simp
          (try with_reducible rfl)
        try simp only [Act.put, List.setIfInBounds_toArray, List.set_cons_zero, List.set_cons_succ]
        refine wpAnyH_done (by kernel_rfl) ?_ _
        go_wp2
        refine bodyPost_ret (res2 rfl _ _) rfl ?_
        refine ⟨_, rfl, fun hB => ?_, hb.trans (hb35.mono (by have := HX.out; omega))⟩
        have hd : isR d = true := by revert hB; cases isR d <;> simp
        have hd2 := isR_of hd
        try rw [← byV_append] at ho35
        have e := own_lower (b2 := w.heap.size) ho35 (by have := HX.out; omega)
        rw [show IntKind.u8.wrap (IntKind.i64.wrap (184 + d)) = 184 + d by rw [IntWalk.i64_in _ (by omega), u8_in (by omega) (by omega)]] at e
        exact e
end Go.Proofs.Ytpekegeohcnhcaa
