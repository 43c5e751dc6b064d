/-
  The reference: others.
-/
import Derived.Test.YtpekegeohcnhcaaIaGe
namespace Go.Proofs.Ytpekegeohcnhcaa
open Go.RowKit

set_option maxRecDepth 100000 in
set_option maxHeartbeats 8000000 in
theorem oth_32 (d s sz imm : Int) (w : World) (h1 : -9223372036854775808 ≤ imm) (h2 : imm ≤ 9223372036854775807) (h8 : (sz == 8) = false) : Calls Try.prog 42 #[aggI ⟨32, d, s, sz, imm⟩] w (REnd w (((((sz == 32) && (d == 0)) && isC s) && isS imm 2147483648)) (15 :: (128 + s) :: le4 imm)) := by
  obtain ⟨i0, hi, hz0, hz1, hz2⟩ := info_parts infoBy
  obtain ⟨q, hq⟩ : ∃ b, (sz == 32) = b := ⟨_, rfl⟩
  try rw [hq]
  have Hq := Lib.hid hq
  obtain ⟨D0, hD0⟩ : ∃ b, (d == 0) = b := ⟨_, rfl⟩
  try rw [hD0]
  have HD0 := Lib.hid hD0
  obtain ⟨S0, hS0⟩ : ∃ b, (s == 0) = b := ⟨_, rfl⟩
  try rw [hS0]
  have HS0 := Lib.hid hS0
  obtain ⟨I0, hI0⟩ : ∃ b, (imm == 0) = b := ⟨_, rfl⟩
  try rw [hI0]
  have HI0 := Lib.hid hI0
  obtain ⟨CS, hCS⟩ : ∃ b, isC s = b := ⟨_, rfl⟩
  try rw [hCS]
  have HCS := Lib.hid hCS
  clear hCS
  obtain ⟨F32, hF32⟩ : ∃ b, isS imm 2147483648 = b := ⟨_, rfl⟩
  try rw [hF32]
  have HF32 := Lib.hid hF32
  clear hF32
  obtain ⟨N, hN⟩ : ∃ b, (((D0 && S0) && I0) && q) = b := ⟨_, rfl⟩
  try rw [hN]
  have HN := Lib.hid hN
  clear hN
  go_enter Try.func42, Try.ntmps42
  go_upto_region 2 with fail
  have hx := heap_alloc_new w (.cells #[.int .i64 32, .int .i64 d, .int .i64 s, .int .i64 sz, .int .i64 imm] 23)
  have hb : Below w.heap.size w (w.alloc (.cells #[.int .i64 32, .int .i64 d, .int .i64 s, .int .i64 sz, .int .i64 imm] 23)) := (Below.refl _ _).alloc (Nat.le_refl _) _
  generalize World.alloc w _ = W at hx hb ⊢
  obtain ⟨X, hX⟩ : ∃ X, X = w.heap.size := ⟨_, rfl⟩
  rw [← hX] at hx ⊢
  have HX := Lib.hid hX
  have lX := lt_of_block hx
  obtain ⟨x0, x1, x2, x3, x4⟩ := cells5 hx
  have HXX := Lib.hid hx
  clear hX hx
  go_cut [5] from 6 (fun s5 wx => s5 = .bool N ∧ W = wx)
  case first =>
    cases D0
    · go_wp2_with fail
      go_meet
      exact ⟨by rw [← HN.out]; rfl, rfl⟩
    · cases S0
      · go_wp2_with fail
        go_meet
        exact ⟨by rw [← HN.out]; rfl, rfl⟩
      · cases I0
        all_goals
          go_wp2_with fail
          go_meet
          exact ⟨by rw [← HN.out]; rfl, rfl⟩
  case rest =>
    obtain ⟨rfl, rfl⟩ := hcut
    have HS5 := Lib.hid (show ∀ W', Below W.heap.size W W' → (fun W' => W'.cell? ⟨X, 0, none⟩ = some (.int .i64 32) ∧ W'.cell? ⟨X, 1, none⟩ = some (.int .i64 d) ∧ W'.cell? ⟨X, 2, none⟩ = some (.int .i64 s) ∧ W'.cell? ⟨X, 3, none⟩ = some (.int .i64 sz) ∧ W'.cell? ⟨X, 4, none⟩ = some (.int .i64 imm)) W' from fun W' h => ⟨(h.cell (p := ⟨X, 0, none⟩) lX).trans x0, (h.cell (p := ⟨X, 1, none⟩) lX).trans x1, (h.cell (p := ⟨X, 2, none⟩) lX).trans x2, (h.cell (p := ⟨X, 3, none⟩) lX).trans x3, (h.cell (p := ⟨X, 4, none⟩) lX).trans x4⟩)
    go_wp2_with fail
    refine wp_region_held_drew (S := (fun W' => W'.cell? ⟨X, 0, none⟩ = some (.int .i64 32) ∧ W'.cell? ⟨X, 1, none⟩ = some (.int .i64 d) ∧ W'.cell? ⟨X, 2, none⟩ = some (.int .i64 s) ∧ W'.cell? ⟨X, 3, none⟩ = some (.int .i64 sz) ∧ W'.cell? ⟨X, 4, none⟩ = some (.int .i64 imm))) (by kernel_rfl) ?_ (fun hHeld => ?_)
    · exact HS5.out _ (drewR (Below.refl _ _))
    have hb0 : Below W.heap.size W W.drew := drewR (Below.refl _ _)
    generalize W.drew = wn0 at hb0 hHeld ⊢
    refine wpAnyH_take (i := 0) (oi := ({ dst := some 136, op := Op.fieldAddr 23 (Operand.tmp 1) 2, type := 0, pos := "ref.go:161", after := #[], guard := none } : Oper)) (v := ?_) rfl (by kernel_rfl) (by kernel_rfl) (by kernel_rfl) (fun _ _ _ h => h) (Or.inl ⟨by rfl, ?_⟩) (by assumption) ?_
    rotate_left 1
    · intro w hSw
      (try dsimp only at hSw)
      go_simp
      (try with_reducible rfl)
    try simp only [Act.put, List.setIfInBounds_toArray, List.set_cons_zero, List.set_cons_succ]
    refine wpAnyH_take (i := 1) (oi := ({ dst := some 137, op := Op.load 3 (Operand.tmp 136), type := 3, pos := "ref.go:161", after := #[{ on := 0, ground := Ground.data }], guard := none } : Oper)) (v := ?_) rfl (by kernel_rfl) (by kernel_rfl) (by kernel_rfl) (fun _ _ _ h => h) (Or.inl ⟨by rfl, ?_⟩) (by assumption) ?_
    rotate_left 1
    · intro w hSw
      (try dsimp only at hSw)
      go_simp
      (try with_reducible rfl)
    try simp only [Act.put, List.setIfInBounds_toArray, List.set_cons_zero, List.set_cons_succ]
    refine wpAnyH_take (i := 2) (oi := ({ dst := some 138, op := Op.binOp BinOp.add 3 (Operand.const (Value.int IntKind.i64 128)) (Operand.tmp 137) 3, type := 3, pos := "ref.go:161", after := #[{ on := 1, ground := Ground.data }], guard := none } : Oper)) (v := ?_) rfl (by kernel_rfl) (by kernel_rfl) (by kernel_rfl) (fun _ _ _ h => h) (Or.inl ⟨by rfl, ?_⟩) (by assumption) ?_
    rotate_left 1
    · intro w hSw
      (try dsimp only at hSw)
      go_simp
      (try with_reducible rfl)
    try simp only [Act.put, List.setIfInBounds_toArray, List.set_cons_zero, List.set_cons_succ]
    refine wpAnyH_take (i := 3) (oi := ({ dst := some 139, op := Op.convert 3 5 (Operand.tmp 138), type := 5, pos := "ref.go:161", after := #[{ on := 2, ground := Ground.data }], guard := none } : Oper)) (v := ?_) rfl (by kernel_rfl) (by kernel_rfl) (by kernel_rfl) (fun _ _ _ h => h) (Or.inl ⟨by rfl, ?_⟩) (by assumption) ?_
    rotate_left 1
    · intro w hSw
      (try dsimp only at hSw)
      go_simp
      (try with_reducible rfl)
    try simp only [Act.put, List.setIfInBounds_toArray, List.set_cons_zero, List.set_cons_succ]
    refine wpAnyH_take (i := 5) (oi := ({ dst := some 141, op := Op.fieldAddr 23 (Operand.tmp 1) 4, type := 0, pos := "ref.go:161", after := #[], guard := none } : Oper)) (v := ?_) rfl (by kernel_rfl) (by kernel_rfl) (by kernel_rfl) (fun _ _ _ h => h) (Or.inl ⟨by rfl, ?_⟩) (by assumption) ?_
    rotate_left 1
    · intro w hSw
      (try dsimp only at hSw)
      go_simp
      (try with_reducible rfl)
    try simp only [Act.put, List.setIfInBounds_toArray, List.set_cons_zero, List.set_cons_succ]
    refine wpAnyH_take (i := 6) (oi := ({ dst := some 142, op := Op.load 3 (Operand.tmp 141), type := 3, pos := "ref.go:161", after := #[{ on := 5, ground := Ground.data }], guard := none } : Oper)) (v := ?_) rfl (by kernel_rfl) (by kernel_rfl) (by kernel_rfl) (fun _ _ _ h => h) (Or.inl ⟨by rfl, ?_⟩) (by assumption) ?_
    rotate_left 1
    · intro w hSw
      (try dsimp only at hSw)
      go_simp
      (try with_reducible rfl)
    try simp only [Act.put, List.setIfInBounds_toArray, List.set_cons_zero, List.set_cons_succ]
    refine wpAnyH_take (i := 9) (oi := ({ dst := some 145, op := Op.move (Operand.tmp 4), type := 4, pos := "ref.go:161", after := #[], guard := none } : Oper)) (v := ?_) rfl (by kernel_rfl) (by kernel_rfl) (by kernel_rfl) (fun _ _ _ h => h) (Or.inl ⟨by rfl, ?_⟩) (by assumption) ?_
    rotate_left 1
    · intro w hSw
      (try dsimp only at hSw)
      go_simp
      (try with_reducible rfl)
    try simp only [Act.put, List.setIfInBounds_toArray, List.set_cons_zero, List.set_cons_succ]
    refine wpAnyH_ready (rs := [4, 7]) (by kernel_rfl) (by simp) ?_
    refine (AllReadyH.cons (o := ({ dst := some 140, op := Op.buildSlice 24 2 #[(0, Operand.const (Value.int IntKind.u8 15)), (1, Operand.tmp 139)], type := 24, pos := "ref.go:161", after := #[{ on := 3, ground := Ground.data }], guard := none } : Oper)) rfl (fun K hK => ?_) (AllReadyH.cons (o := ({ dst := some 143, op := Op.call { callee := Callee.value (Operand.func 81), args := #[Operand.tmp 142, Operand.const (Value.int IntKind.i64 4)], argTypes := #[3, 3] }, type := 24, pos := "ref.go:161", after := #[{ on := 6, ground := Ground.data }], guard := none } : Oper)) rfl (fun K hK => ?_) AllReadyH.nil))
    · go_simp
      generalize hA8 : World.alloc _ _ = wn8
      have hb8 := below_new hA8 hb0
      have ho8 := own_new2 hA8 hb0
      clear hA8
      refine hK.out _ _ (HS5.out _ hb8) (fun hS8 => ?_)
      refine wpAnyH_ready (rs := [7]) (by kernel_rfl) (by simp) ?_
      refine (AllReadyH.cons (o := ({ dst := some 143, op := Op.call { callee := Callee.value (Operand.func 81), args := #[Operand.tmp 142, Operand.const (Value.int IntKind.i64 4)], argTypes := #[3, 3] }, type := 24, pos := "ref.go:161", after := #[{ on := 6, ground := Ground.data }], guard := none } : Oper)) rfl (fun K hK => ?_) AllReadyH.nil)
      go_simp
      refine (rLittle4_any _ _ h1 h2).mono ?_
      rintro e wn9 ⟨g9, c9, rfl, ho9, hw9⟩
      have hb9 := hb8.trans (hw9.mono hb8.size)
      have ho8x9 := own_below ho8 hw9
      replace ho9 := own_lower ho9 hb8.size
      clear hw9
      refine hK.out _ _ (HS5.out _ hb9) (fun hS9 => ?_)
      refine wpAnyH_ready (rs := [8]) (by kernel_rfl) (by simp) ?_
      refine (AllReadyH.cons (o := ({ dst := some 144, op := Op.call { callee := Callee.builtin Builtin.append, args := #[Operand.tmp 140, Operand.tmp 143], argTypes := #[24, 24] }, type := 24, pos := "ref.go:161", after := #[{ on := 4, ground := Ground.data }, { on := 7, ground := Ground.data }, { on := 7, ground := Ground.chain }], guard := none } : Oper)) rfl (fun K hK => ?_) AllReadyH.nil)
      refine step_append_lies _ (by rfl) _ _ _ (by rfl) W.heap.size 5 i0 (.int .u8 0) 1 1 Try.underlying24 hi hz0 hz1 hz2 rfl (by decide) (.slice (some ⟨wn0.heap.size, 0, none⟩) 2 2) 2 _ (by rfl) ho8x9 ⟨g9, 0, none⟩ 4 c9 _ (by rfl) (by simp [byV, le4]) (ho9.cells rfl) (byV_one _) (by omega) (by unfold maxLen; omega) (by omega) (hb9.size) _ rfl ?_
      intro g10 c10 wn10 ho10 hgr10 hat10 hlt10
      have hb10 := hb9.grown hgr10 hb9.size (own_base ho8x9)
      clear hgr10 hat10 hlt10
      refine hK.out _ _ (HS5.out _ hb10) (fun hS10 => ?_)
      refine wpAnyH_take (i := 10) (oi := ({ dst := some 146, op := Op.move (Operand.tmp 145), type := 4, pos := "ref.go:161", after := #[{ on := 9, ground := Ground.data }, { on := 8, ground := Ground.chain }], guard := none } : Oper)) (v := ?_) rfl (by kernel_rfl) (by kernel_rfl) (by kernel_rfl) (fun _ _ _ h => h) (Or.inl ⟨by rfl, ?_⟩) (by assumption) ?_
      rotate_left 1
      · intro w hSw
        (try dsimp only at hSw)
        go_simp
        (try with_reducible rfl)
      try simp only [Act.put, List.setIfInBounds_toArray, List.set_cons_zero, List.set_cons_succ]
      refine wpAnyH_take (i := 11) (oi := ({ dst := some 147, op := Op.fieldAddr 23 (Operand.tmp 1) 1, type := 0, pos := "ref.go:161", after := #[{ on := 10, ground := Ground.guard }], guard := some (10, true) } : Oper)) (v := gv (q) ?_) rfl (by kernel_rfl) (by kernel_rfl) (by kernel_rfl) (fun _ _ _ h => h) (yieldsIf_guard (g := q) (wanted_open rfl (by rfl)) ?_) (by assumption) ?_
      rotate_left 1
      · intro hg w hSw
        (try dsimp only at hSw)
        (try simp only [hg])
        clear hg
        go_simp
        (try with_reducible rfl)
      try simp only [Act.put, List.setIfInBounds_toArray, List.set_cons_zero, List.set_cons_succ]
      refine wpAnyH_take (i := 12) (oi := ({ dst := some 148, op := Op.load 3 (Operand.tmp 147), type := 3, pos := "ref.go:161", after := #[{ on := 11, ground := Ground.data }, { on := 10, ground := Ground.guard }], guard := some (10, true) } : Oper)) (v := gv (q) ?_) rfl (by kernel_rfl) (by kernel_rfl) (by kernel_rfl) (fun _ _ _ h => h) (yieldsIf_guard (g := q) (wanted_open rfl (by rfl)) ?_) (by assumption) ?_
      rotate_left 1
      · intro hg w hSw
        (try dsimp only at hSw)
        (try simp only [hg, gv_true])
        clear hg
        go_simp
        (try with_reducible rfl)
      try simp only [Act.put, List.setIfInBounds_toArray, List.set_cons_zero, List.set_cons_succ]
      refine wpAnyH_take (i := 13) (oi := ({ dst := some 149, op := Op.binOp BinOp.eql 3 (Operand.tmp 148) (Operand.const (Value.int IntKind.i64 0)) 3, type := 4, pos := "ref.go:161", after := #[{ on := 12, ground := Ground.data }, { on := 10, ground := Ground.guard }], guard := some (10, true) } : Oper)) (v := gv (q) ?_) rfl (by kernel_rfl) (by kernel_rfl) (by kernel_rfl) (fun _ _ _ h => h) (yieldsIf_guard (g := q) (wanted_open rfl (by rfl)) ?_) (by assumption) ?_
      rotate_left 1
      · intro hg w hSw
        (try dsimp only at hSw)
        (try simp only [hg, gv_true])
        clear hg
        go_simp
        (try with_reducible rfl)
      try simp only [Act.put, List.setIfInBounds_toArray, List.set_cons_zero, List.set_cons_succ]
      refine wpAnyH_take (i := 14) (oi := ({ dst := some 150, op := Op.pick (Operand.tmp 146) (Operand.tmp 149) (Operand.const (Value.bool false)), type := 4, pos := "ref.go:161", after := #[{ on := 10, ground := Ground.data }, { on := 13, ground := Ground.data }], guard := none } : Oper)) (v := .bool (q && D0)) rfl (by kernel_rfl) (by kernel_rfl) (by kernel_rfl) (fun _ _ _ h => h) (yieldsIf_and (g := q) (h := D0) rfl rfl rfl rfl rfl) (by assumption) ?_
      try simp only [Act.put, List.setIfInBounds_toArray, List.set_cons_zero, List.set_cons_succ]
      refine wpAnyH_take (i := 15) (oi := ({ dst := some 151, op := Op.move (Operand.tmp 150), type := 4, pos := "ref.go:161", after := #[{ on := 14, ground := Ground.data }, { on := 10, ground := Ground.chain }], guard := none } : Oper)) (v := ?_) rfl (by kernel_rfl) (by kernel_rfl) (by kernel_rfl) (fun _ _ _ h => h) (Or.inl ⟨by rfl, ?_⟩) (by assumption) ?_
      rotate_left 1
      · intro w hSw
        (try dsimp only at hSw)
        go_simp
        (try with_reducible rfl)
      try simp only [Act.put, List.setIfInBounds_toArray, List.set_cons_zero, List.set_cons_succ]
      refine wpAnyH_take (i := 16) (oi := ({ dst := some 152, op := Op.fieldAddr 23 (Operand.tmp 1) 2, type := 0, pos := "ref.go:161", after := #[{ on := 15, ground := Ground.guard }], guard := some (15, true) } : Oper)) (v := gv ((q && D0)) ?_) rfl (by kernel_rfl) (by kernel_rfl) (by kernel_rfl) (fun _ _ _ h => h) (yieldsIf_guard (g := (q && D0)) (wanted_open rfl (by rfl)) ?_) (by assumption) ?_
      rotate_left 1
      · intro hg w hSw
        (try dsimp only at hSw)
        (try simp only [hg])
        clear hg
        go_simp
        (try with_reducible rfl)
      try simp only [Act.put, List.setIfInBounds_toArray, List.set_cons_zero, List.set_cons_succ]
      refine wpAnyH_take (i := 17) (oi := ({ dst := some 153, op := Op.load 3 (Operand.tmp 152), type := 3, pos := "ref.go:161", after := #[{ on := 16, ground := Ground.data }, { on := 15, ground := Ground.guard }], guard := some (15, true) } : Oper)) (v := gv ((q && D0)) ?_) rfl (by kernel_rfl) (by kernel_rfl) (by kernel_rfl) (fun _ _ _ h => h) (yieldsIf_guard (g := (q && D0)) (wanted_open rfl (by rfl)) ?_) (by assumption) ?_
      rotate_left 1
      · intro hg w hSw
        (try dsimp only at hSw)
        (try simp only [hg, gv_true])
        clear hg
        go_simp
        (try with_reducible rfl)
      try simp only [Act.put, List.setIfInBounds_toArray, List.set_cons_zero, List.set_cons_succ]
      refine wpAnyH_ready (rs := [18]) (by kernel_rfl) (by simp) ?_
      refine (AllReadyH.cons (o := ({ dst := some 154, op := Op.call { callee := Callee.value (Operand.func 35), args := #[Operand.tmp 153], argTypes := #[3] }, type := 4, pos := "ref.go:161", after := #[{ on := 17, ground := Ground.data }, { on := 15, ground := Ground.chain }, { on := 15, ground := Ground.guard }], guard := some (15, true) } : Oper)) rfl (fun K hK => ?_) AllReadyH.nil)
      refine guard_event (g := (q && D0)) (v := .bool (CS)) (wanted_open rfl (by rfl)) (fun hg K0 hK0 => ?_) ?_
      · (try simp only [hg, gv_true] at hK0 ⊢)
        clear hg
        have HK0 := Lib.hid hK0
        clear hK0
        go_simp
        refine (rIsCond_at _ CS _ HCS.out).mono ?_
        rintro e w' ⟨rfl, rfl⟩
        exact HK0.out
      try simp only [Act.put, List.setIfInBounds_toArray, List.set_cons_zero, List.set_cons_succ]
      refine hK.out _ _ (HS5.out _ hb10) (fun hS19 => ?_)
      refine wpAnyH_take (i := 19) (oi := ({ dst := some 155, op := Op.pick (Operand.tmp 151) (Operand.tmp 154) (Operand.const (Value.bool false)), type := 4, pos := "ref.go:161", after := #[{ on := 15, ground := Ground.data }, { on := 18, ground := Ground.data }], guard := none } : Oper)) (v := .bool ((q && D0) && CS)) rfl (by kernel_rfl) (by kernel_rfl) (by kernel_rfl) (fun _ _ _ h => h) (yieldsIf_and (g := (q && D0)) (h := CS) rfl rfl rfl rfl rfl) (by assumption) ?_
      try simp only [Act.put, List.setIfInBounds_toArray, List.set_cons_zero, List.set_cons_succ]
      refine wpAnyH_take (i := 20) (oi := ({ dst := some 156, op := Op.move (Operand.tmp 155), type := 4, pos := "ref.go:161", after := #[{ on := 19, ground := Ground.data }, { on := 18, ground := Ground.chain }], guard := none } : Oper)) (v := ?_) rfl (by kernel_rfl) (by kernel_rfl) (by kernel_rfl) (fun _ _ _ h => h) (Or.inl ⟨by rfl, ?_⟩) (by assumption) ?_
      rotate_left 1
      · intro w hSw
        (try dsimp only at hSw)
        go_simp
        (try with_reducible rfl)
      try simp only [Act.put, List.setIfInBounds_toArray, List.set_cons_zero, List.set_cons_succ]
      refine wpAnyH_take (i := 21) (oi := ({ dst := some 157, op := Op.fieldAddr 23 (Operand.tmp 1) 4, type := 0, pos := "ref.go:161", after := #[{ on := 20, ground := Ground.guard }], guard := some (20, true) } : Oper)) (v := gv (((q && D0) && CS)) ?_) rfl (by kernel_rfl) (by kernel_rfl) (by kernel_rfl) (fun _ _ _ h => h) (yieldsIf_guard (g := ((q && D0) && CS)) (wanted_open rfl (by rfl)) ?_) (by assumption) ?_
      rotate_left 1
      · intro hg w hSw
        (try dsimp only at hSw)
        (try simp only [hg])
        clear hg
        go_simp
        (try with_reducible rfl)
      try simp only [Act.put, List.setIfInBounds_toArray, List.set_cons_zero, List.set_cons_succ]
      refine wpAnyH_take (i := 22) (oi := ({ dst := some 158, op := Op.load 3 (Operand.tmp 157), type := 3, pos := "ref.go:161", after := #[{ on := 21, ground := Ground.data }, { on := 20, ground := Ground.guard }], guard := some (20, true) } : Oper)) (v := gv (((q && D0) && CS)) ?_) rfl (by kernel_rfl) (by kernel_rfl) (by kernel_rfl) (fun _ _ _ h => h) (yieldsIf_guard (g := ((q && D0) && CS)) (wanted_open rfl (by rfl)) ?_) (by assumption) ?_
      rotate_left 1
      · intro hg w hSw
        (try dsimp only at hSw)
        (try simp only [hg, gv_true])
        clear hg
        go_simp
        (try with_reducible rfl)
      try simp only [Act.put, List.setIfInBounds_toArray, List.set_cons_zero, List.set_cons_succ]
      refine wpAnyH_ready (rs := [23]) (by kernel_rfl) (by simp) ?_
      refine (AllReadyH.cons (o := ({ dst := some 159, op := Op.call { callee := Callee.value (Operand.func 79), args := #[Operand.tmp 158, Operand.const (Value.int IntKind.i64 32)], argTypes := #[3, 3] }, type := 4, pos := "ref.go:161", after := #[{ on := 22, ground := Ground.data }, { on := 20, ground := Ground.chain }, { on := 20, ground := Ground.guard }], guard := some (20, true) } : Oper)) rfl (fun K hK => ?_) AllReadyH.nil)
      refine guard_event (g := ((q && D0) && CS)) (v := .bool (F32)) (wanted_open rfl (by rfl)) (fun hg K0 hK0 => ?_) ?_
      · (try simp only [hg, gv_true] at hK0 ⊢)
        clear hg
        have HK0 := Lib.hid hK0
        clear hK0
        go_simp
        refine (rBetween32_at _ F32 _ HF32.out).mono ?_
        rintro e w' ⟨rfl, rfl⟩
        exact HK0.out
      try simp only [Act.put, List.setIfInBounds_toArray, List.set_cons_zero, List.set_cons_succ]
      refine hK.out _ _ (HS5.out _ hb10) (fun hS24 => ?_)
      refine wpAnyH_take (i := 24) (oi := ({ dst := some 160, op := Op.pick (Operand.tmp 156) (Operand.tmp 159) (Operand.const (Value.bool false)), type := 4, pos := "ref.go:161", after := #[{ on := 20, ground := Ground.data }, { on := 23, ground := Ground.data }, { on := 25, ground := Ground.gcOnly Departure.lateStores }], guard := none } : Oper)) (v := .bool (((q && D0) && CS) && F32)) rfl (by kernel_rfl) (by kernel_rfl) (by kernel_rfl) (fun _ _ _ h => h) (yieldsIf_and (g := ((q && D0) && CS)) (h := F32) rfl rfl rfl rfl rfl) (by assumption) ?_
      try simp only [Act.put, List.setIfInBounds_toArray, List.set_cons_zero, List.set_cons_succ]
      refine wpAnyH_take (i := 25) (oi := ({ dst := some 2, op := Op.assign (Operand.tmp 144), type := 24, pos := "ref.go:161", after := #[{ on := 8, ground := Ground.data }, { on := 23, ground := Ground.chain }, { on := 0, ground := Ground.phase }, { on := 1, ground := Ground.phase }, { on := 2, ground := Ground.phase }, { on := 3, ground := Ground.phase }, { on := 4, ground := Ground.phase }, { on := 5, ground := Ground.phase }, { on := 6, ground := Ground.phase }, { on := 7, ground := Ground.phase }, { on := 8, ground := Ground.phase }, { on := 9, ground := Ground.textOnly Departure.lateStores }, { on := 10, ground := Ground.textOnly Departure.lateStores }, { on := 11, ground := Ground.textOnly Departure.lateStores }, { on := 12, ground := Ground.textOnly Departure.lateStores }, { on := 13, ground := Ground.textOnly Departure.lateStores }, { on := 14, ground := Ground.textOnly Departure.lateStores }, { on := 15, ground := Ground.textOnly Departure.lateStores }, { on := 16, ground := Ground.textOnly Departure.lateStores }, { on := 17, ground := Ground.textOnly Departure.lateStores }, { on := 18, ground := Ground.textOnly Departure.lateStoresUnsure }, { on := 19, ground := Ground.textOnly Departure.lateStores }, { on := 20, ground := Ground.textOnly Departure.lateStores }, { on := 21, ground := Ground.textOnly Departure.lateStores }, { on := 22, ground := Ground.textOnly Departure.lateStores }, { on := 23, ground := Ground.textOnly Departure.lateStoresUnsure }, { on := 24, ground := Ground.textOnly Departure.lateStores }], guard := none } : Oper)) (v := ?_) rfl (by kernel_rfl) (by kernel_rfl) (by kernel_rfl) (fun _ _ _ h => h) (Or.inl ⟨by rfl, ?_⟩) (by assumption) ?_
      rotate_left 1
      · intro w hSw
        (try dsimp only at hSw)
        go_simp
        (try with_reducible rfl)
      try simp only [Act.put, List.setIfInBounds_toArray, List.set_cons_zero, List.set_cons_succ]
      refine wpAnyH_take (i := 26) (oi := ({ dst := some 3, op := Op.assign (Operand.tmp 160), type := 4, pos := "ref.go:161", after := #[{ on := 24, ground := Ground.data }, { on := 25, ground := Ground.chain }, { on := 0, ground := Ground.phase }, { on := 1, ground := Ground.phase }, { on := 2, ground := Ground.phase }, { on := 3, ground := Ground.phase }, { on := 4, ground := Ground.phase }, { on := 5, ground := Ground.phase }, { on := 6, ground := Ground.phase }, { on := 7, ground := Ground.phase }, { on := 8, ground := Ground.phase }, { on := 9, ground := Ground.phase }, { on := 10, ground := Ground.phase }, { on := 11, ground := Ground.phase }, { on := 12, ground := Ground.phase }, { on := 13, ground := Ground.phase }, { on := 14, ground := Ground.phase }, { on := 15, ground := Ground.phase }, { on := 16, ground := Ground.phase }, { on := 17, ground := Ground.phase }, { on := 18, ground := Ground.phase }, { on := 19, ground := Ground.phase }, { on := 20, ground := Ground.phase }, { on := 21, ground := Ground.phase }, { on := 22, ground := Ground.phase }, { on := 23, ground := Ground.phase }, { on := 24, ground := Ground.phase }, { on := 25, ground := Ground.phase }], guard := none } : Oper)) (v := ?_) rfl (by kernel_rfl) (by kernel_rfl) (by kernel_rfl) (fun _ _ _ h => h) (Or.inl ⟨by rfl, ?_⟩) (by assumption) ?_
      rotate_left 1
      · intro w hSw
        (try dsimp only at hSw)
        go_simp
        (try with_reducible rfl)
      try simp only [Act.put, List.setIfInBounds_toArray, List.set_cons_zero, List.set_cons_succ]
      refine wpAnyH_done (by kernel_rfl) ?_ _
      go_wp2
      refine bodyPost_ret (res2 rfl _ _) rfl ?_
      refine ⟨_, rfl, fun hB => ?_, hb.trans (hb10.mono (by have := HX.out; omega))⟩
      have tCS := HCS.out.trans (show CS = true by revert hB; cases CS <;> simp)
      have rs := isC_of tCS
      try rw [← byV_append] at ho10
      have e := own_lower (b2 := w.heap.size) ho10 (by have := HX.out; omega)
      rw [show IntKind.u8.wrap (IntKind.i64.wrap (128 + s)) = 128 + s by rw [IntWalk.i64_in _ (by omega), u8_in (by omega) (by omega)]] at e
      exact e
    · go_simp
      refine (rLittle4_any _ _ h1 h2).mono ?_
      rintro e wn28 ⟨g28, c28, rfl, ho28, hw28⟩
      have hb28 := hb0.trans (hw28.mono hb0.size)
      replace ho28 := own_lower ho28 hb0.size
      clear hw28
      refine hK.out _ _ (HS5.out _ hb28) (fun hS28 => ?_)
      refine wpAnyH_ready (rs := [4]) (by kernel_rfl) (by simp) ?_
      refine (AllReadyH.cons (o := ({ dst := some 140, op := Op.buildSlice 24 2 #[(0, Operand.const (Value.int IntKind.u8 15)), (1, Operand.tmp 139)], type := 24, pos := "ref.go:161", after := #[{ on := 3, ground := Ground.data }], guard := none } : Oper)) rfl (fun K hK => ?_) AllReadyH.nil)
      go_simp
      generalize hA29 : World.alloc _ _ = wn29
      have hb29 := below_new hA29 hb28
      have ho28x29 := own_below ho28 (below_one hA29)
      have ho29 := own_new2 hA29 hb28
      clear hA29
      refine hK.out _ _ (HS5.out _ hb29) (fun hS29 => ?_)
      refine wpAnyH_ready (rs := [8]) (by kernel_rfl) (by simp) ?_
      refine (AllReadyH.cons (o := ({ dst := some 144, op := Op.call { callee := Callee.builtin Builtin.append, args := #[Operand.tmp 140, Operand.tmp 143], argTypes := #[24, 24] }, type := 24, pos := "ref.go:161", after := #[{ on := 4, ground := Ground.data }, { on := 7, ground := Ground.data }, { on := 7, ground := Ground.chain }], guard := none } : Oper)) rfl (fun K hK => ?_) AllReadyH.nil)
      refine step_append_lies _ (by rfl) _ _ _ (by rfl) W.heap.size 5 i0 (.int .u8 0) 1 1 Try.underlying24 hi hz0 hz1 hz2 rfl (by decide) (.slice (some ⟨wn28.heap.size, 0, none⟩) 2 2) 2 _ (by rfl) ho29 ⟨g28, 0, none⟩ 4 c28 _ (by rfl) (by simp [byV, le4]) (ho28x29.cells rfl) (byV_one _) (by omega) (by unfold maxLen; omega) (by omega) (hb29.size) _ rfl ?_
      intro g30 c30 wn30 ho30 hgr30 hat30 hlt30
      have hb30 := hb29.grown hgr30 hb29.size (own_base ho29)
      clear hgr30 hat30 hlt30
      refine hK.out _ _ (HS5.out _ hb30) (fun hS30 => ?_)
      refine wpAnyH_take (i := 10) (oi := ({ dst := some 146, op := Op.move (Operand.tmp 145), type := 4, pos := "ref.go:161", after := #[{ on := 9, ground := Ground.data }, { on := 8, ground := Ground.chain }], guard := none } : Oper)) (v := ?_) rfl (by kernel_rfl) (by kernel_rfl) (by kernel_rfl) (fun _ _ _ h => h) (Or.inl ⟨by rfl, ?_⟩) (by assumption) ?_
      rotate_left 1
      · intro w hSw
        (try dsimp only at hSw)
        go_simp
        (try with_reducible rfl)
      try simp only [Act.put, List.setIfInBounds_toArray, List.set_cons_zero, List.set_cons_succ]
      refine wpAnyH_take (i := 11) (oi := ({ dst := some 147, op := Op.fieldAddr 23 (Operand.tmp 1) 1, type := 0, pos := "ref.go:161", after := #[{ on := 10, ground := Ground.guard }], guard := some (10, true) } : Oper)) (v := gv (q) ?_) rfl (by kernel_rfl) (by kernel_rfl) (by kernel_rfl) (fun _ _ _ h => h) (yieldsIf_guard (g := q) (wanted_open rfl (by rfl)) ?_) (by assumption) ?_
      rotate_left 1
      · intro hg w hSw
        (try dsimp only at hSw)
        (try simp only [hg])
        clear hg
        go_simp
        (try with_reducible rfl)
      try simp only [Act.put, List.setIfInBounds_toArray, List.set_cons_zero, List.set_cons_succ]
      refine wpAnyH_take (i := 12) (oi := ({ dst := some 148, op := Op.load 3 (Operand.tmp 147), type := 3, pos := "ref.go:161", after := #[{ on := 11, ground := Ground.data }, { on := 10, ground := Ground.guard }], guard := some (10, true) } : Oper)) (v := gv (q) ?_) rfl (by kernel_rfl) (by kernel_rfl) (by kernel_rfl) (fun _ _ _ h => h) (yieldsIf_guard (g := q) (wanted_open rfl (by rfl)) ?_) (by assumption) ?_
      rotate_left 1
      · intro hg w hSw
        (try dsimp only at hSw)
        (try simp only [hg, gv_true])
        clear hg
        go_simp
        (try with_reducible rfl)
      try simp only [Act.put, List.setIfInBounds_toArray, List.set_cons_zero, List.set_cons_succ]
      refine wpAnyH_take (i := 13) (oi := ({ dst := some 149, op := Op.binOp BinOp.eql 3 (Operand.tmp 148) (Operand.const (Value.int IntKind.i64 0)) 3, type := 4, pos := "ref.go:161", after := #[{ on := 12, ground := Ground.data }, { on := 10, ground := Ground.guard }], guard := some (10, true) } : Oper)) (v := gv (q) ?_) rfl (by kernel_rfl) (by kernel_rfl) (by kernel_rfl) (fun _ _ _ h => h) (yieldsIf_guard (g := q) (wanted_open rfl (by rfl)) ?_) (by assumption) ?_
      rotate_left 1
      · intro hg w hSw
        (try dsimp only at hSw)
        (try simp only [hg, gv_true])
        clear hg
        go_simp
        (try with_reducible rfl)
      try simp only [Act.put, List.setIfInBounds_toArray, List.set_cons_zero, List.set_cons_succ]
      refine wpAnyH_take (i := 14) (oi := ({ dst := some 150, op := Op.pick (Operand.tmp 146) (Operand.tmp 149) (Operand.const (Value.bool false)), type := 4, pos := "ref.go:161", after := #[{ on := 10, ground := Ground.data }, { on := 13, ground := Ground.data }], guard := none } : Oper)) (v := .bool (q && D0)) rfl (by kernel_rfl) (by kernel_rfl) (by kernel_rfl) (fun _ _ _ h => h) (yieldsIf_and (g := q) (h := D0) rfl rfl rfl rfl rfl) (by assumption) ?_
      try simp only [Act.put, List.setIfInBounds_toArray, List.set_cons_zero, List.set_cons_succ]
      refine wpAnyH_take (i := 15) (oi := ({ dst := some 151, op := Op.move (Operand.tmp 150), type := 4, pos := "ref.go:161", after := #[{ on := 14, ground := Ground.data }, { on := 10, ground := Ground.chain }], guard := none } : Oper)) (v := ?_) rfl (by kernel_rfl) (by kernel_rfl) (by kernel_rfl) (fun _ _ _ h => h) (Or.inl ⟨by rfl, ?_⟩) (by assumption) ?_
      rotate_left 1
      · intro w hSw
        (try dsimp only at hSw)
        go_simp
        (try with_reducible rfl)
      try simp only [Act.put, List.setIfInBounds_toArray, List.set_cons_zero, List.set_cons_succ]
      refine wpAnyH_take (i := 16) (oi := ({ dst := some 152, op := Op.fieldAddr 23 (Operand.tmp 1) 2, type := 0, pos := "ref.go:161", after := #[{ on := 15, ground := Ground.guard }], guard := some (15, true) } : Oper)) (v := gv ((q && D0)) ?_) rfl (by kernel_rfl) (by kernel_rfl) (by kernel_rfl) (fun _ _ _ h => h) (yieldsIf_guard (g := (q && D0)) (wanted_open rfl (by rfl)) ?_) (by assumption) ?_
      rotate_left 1
      · intro hg w hSw
        (try dsimp only at hSw)
        (try simp only [hg])
        clear hg
        go_simp
        (try with_reducible rfl)
      try simp only [Act.put, List.setIfInBounds_toArray, List.set_cons_zero, List.set_cons_succ]
      refine wpAnyH_take (i := 17) (oi := ({ dst := some 153, op := Op.load 3 (Operand.tmp 152), type := 3, pos := "ref.go:161", after := #[{ on := 16, ground := Ground.data }, { on := 15, ground := Ground.guard }], guard := some (15, true) } : Oper)) (v := gv ((q && D0)) ?_) rfl (by kernel_rfl) (by kernel_rfl) (by kernel_rfl) (fun _ _ _ h => h) (yieldsIf_guard (g := (q && D0)) (wanted_open rfl (by rfl)) ?_) (by assumption) ?_
      rotate_left 1
      · intro hg w hSw
        (try dsimp only at hSw)
        (try simp only [hg, gv_true])
        clear hg
        go_simp
        (try with_reducible rfl)
      try simp only [Act.put, List.setIfInBounds_toArray, List.set_cons_zero, List.set_cons_succ]
      refine wpAnyH_ready (rs := [18]) (by kernel_rfl) (by simp) ?_
      refine (AllReadyH.cons (o := ({ dst := some 154, op := Op.call { callee := Callee.value (Operand.func 35), args := #[Operand.tmp 153], argTypes := #[3] }, type := 4, pos := "ref.go:161", after := #[{ on := 17, ground := Ground.data }, { on := 15, ground := Ground.chain }, { on := 15, ground := Ground.guard }], guard := some (15, true) } : Oper)) rfl (fun K hK => ?_) AllReadyH.nil)
      refine guard_event (g := (q && D0)) (v := .bool (CS)) (wanted_open rfl (by rfl)) (fun hg K0 hK0 => ?_) ?_
      · (try simp only [hg, gv_true] at hK0 ⊢)
        clear hg
        have HK0 := Lib.hid hK0
        clear hK0
        go_simp
        refine (rIsCond_at _ CS _ HCS.out).mono ?_
        rintro e w' ⟨rfl, rfl⟩
        exact HK0.out
      try simp only [Act.put, List.setIfInBounds_toArray, List.set_cons_zero, List.set_cons_succ]
      refine hK.out _ _ (HS5.out _ hb30) (fun hS39 => ?_)
      refine wpAnyH_take (i := 19) (oi := ({ dst := some 155, op := Op.pick (Operand.tmp 151) (Operand.tmp 154) (Operand.const (Value.bool false)), type := 4, pos := "ref.go:161", after := #[{ on := 15, ground := Ground.data }, { on := 18, ground := Ground.data }], guard := none } : Oper)) (v := .bool ((q && D0) && CS)) rfl (by kernel_rfl) (by kernel_rfl) (by kernel_rfl) (fun _ _ _ h => h) (yieldsIf_and (g := (q && D0)) (h := CS) rfl rfl rfl rfl rfl) (by assumption) ?_
      try simp only [Act.put, List.setIfInBounds_toArray, List.set_cons_zero, List.set_cons_succ]
      refine wpAnyH_take (i := 20) (oi := ({ dst := some 156, op := Op.move (Operand.tmp 155), type := 4, pos := "ref.go:161", after := #[{ on := 19, ground := Ground.data }, { on := 18, ground := Ground.chain }], guard := none } : Oper)) (v := ?_) rfl (by kernel_rfl) (by kernel_rfl) (by kernel_rfl) (fun _ _ _ h => h) (Or.inl ⟨by rfl, ?_⟩) (by assumption) ?_
      rotate_left 1
      · intro w hSw
        (try dsimp only at hSw)
        go_simp
        (try with_reducible rfl)
      try simp only [Act.put, List.setIfInBounds_toArray, List.set_cons_zero, List.set_cons_succ]
      refine wpAnyH_take (i := 21) (oi := ({ dst := some 157, op := Op.fieldAddr 23 (Operand.tmp 1) 4, type := 0, pos := "ref.go:161", after := #[{ on := 20, ground := Ground.guard }], guard := some (20, true) } : Oper)) (v := gv (((q && D0) && CS)) ?_) rfl (by kernel_rfl) (by kernel_rfl) (by kernel_rfl) (fun _ _ _ h => h) (yieldsIf_guard (g := ((q && D0) && CS)) (wanted_open rfl (by rfl)) ?_) (by assumption) ?_
      rotate_left 1
      · intro hg w hSw
        (try dsimp only at hSw)
        (try simp only [hg])
        clear hg
        go_simp
        (try with_reducible rfl)
      try simp only [Act.put, List.setIfInBounds_toArray, List.set_cons_zero, List.set_cons_succ]
      refine wpAnyH_take (i := 22) (oi := ({ dst := some 158, op := Op.load 3 (Operand.tmp 157), type := 3, pos := "ref.go:161", after := #[{ on := 21, ground := Ground.data }, { on := 20, ground := Ground.guard }], guard := some (20, true) } : Oper)) (v := gv (((q && D0) && CS)) ?_) rfl (by kernel_rfl) (by kernel_rfl) (by kernel_rfl) (fun _ _ _ h => h) (yieldsIf_guard (g := ((q && D0) && CS)) (wanted_open rfl (by rfl)) ?_) (by assumption) ?_
      rotate_left 1
      · intro hg w hSw
        (try dsimp only at hSw)
        (try simp only [hg, gv_true])
        clear hg
        go_simp
        (try with_reducible rfl)
      try simp only [Act.put, List.setIfInBounds_toArray, List.set_cons_zero, List.set_cons_succ]
      refine wpAnyH_ready (rs := [23]) (by kernel_rfl) (by simp) ?_
      refine (AllReadyH.cons (o := ({ dst := some 159, op := Op.call { callee := Callee.value (Operand.func 79), args := #[Operand.tmp 158, Operand.const (Value.int IntKind.i64 32)], argTypes := #[3, 3] }, type := 4, pos := "ref.go:161", after := #[{ on := 22, ground := Ground.data }, { on := 20, ground := Ground.chain }, { on := 20, ground := Ground.guard }], guard := some (20, true) } : Oper)) rfl (fun K hK => ?_) AllReadyH.nil)
      refine guard_event (g := ((q && D0) && CS)) (v := .bool (F32)) (wanted_open rfl (by rfl)) (fun hg K0 hK0 => ?_) ?_
      · (try simp only [hg, gv_true] at hK0 ⊢)
        clear hg
        have HK0 := Lib.hid hK0
        clear hK0
        go_simp
        refine (rBetween32_at _ F32 _ HF32.out).mono ?_
        rintro e w' ⟨rfl, rfl⟩
        exact HK0.out
      try simp only [Act.put, List.setIfInBounds_toArray, List.set_cons_zero, List.set_cons_succ]
      refine hK.out _ _ (HS5.out _ hb30) (fun hS44 => ?_)
      refine wpAnyH_take (i := 24) (oi := ({ dst := some 160, op := Op.pick (Operand.tmp 156) (Operand.tmp 159) (Operand.const (Value.bool false)), type := 4, pos := "ref.go:161", after := #[{ on := 20, ground := Ground.data }, { on := 23, ground := Ground.data }, { on := 25, ground := Ground.gcOnly Departure.lateStores }], guard := none } : Oper)) (v := .bool (((q && D0) && CS) && F32)) rfl (by kernel_rfl) (by kernel_rfl) (by kernel_rfl) (fun _ _ _ h => h) (yieldsIf_and (g := ((q && D0) && CS)) (h := F32) rfl rfl rfl rfl rfl) (by assumption) ?_
      try simp only [Act.put, List.setIfInBounds_toArray, List.set_cons_zero, List.set_cons_succ]
      refine wpAnyH_take (i := 25) (oi := ({ dst := some 2, op := Op.assign (Operand.tmp 144), type := 24, pos := "ref.go:161", after := #[{ on := 8, ground := Ground.data }, { on := 23, ground := Ground.chain }, { on := 0, ground := Ground.phase }, { on := 1, ground := Ground.phase }, { on := 2, ground := Ground.phase }, { on := 3, ground := Ground.phase }, { on := 4, ground := Ground.phase }, { on := 5, ground := Ground.phase }, { on := 6, ground := Ground.phase }, { on := 7, ground := Ground.phase }, { on := 8, ground := Ground.phase }, { on := 9, ground := Ground.textOnly Departure.lateStores }, { on := 10, ground := Ground.textOnly Departure.lateStores }, { on := 11, ground := Ground.textOnly Departure.lateStores }, { on := 12, ground := Ground.textOnly Departure.lateStores }, { on := 13, ground := Ground.textOnly Departure.lateStores }, { on := 14, ground := Ground.textOnly Departure.lateStores }, { on := 15, ground := Ground.textOnly Departure.lateStores }, { on := 16, ground := Ground.textOnly Departure.lateStores }, { on := 17, ground := Ground.textOnly Departure.lateStores }, { on := 18, ground := Ground.textOnly Departure.lateStoresUnsure }, { on := 19, ground := Ground.textOnly Departure.lateStores }, { on := 20, ground := Ground.textOnly Departure.lateStores }, { on := 21, ground := Ground.textOnly Departure.lateStores }, { on := 22, ground := Ground.textOnly Departure.lateStores }, { on := 23, ground := Ground.textOnly Departure.lateStoresUnsure }, { on := 24, ground := Ground.textOnly Departure.lateStores }], guard := none } : Oper)) (v := ?_) rfl (by kernel_rfl) (by kernel_rfl) (by kernel_rfl) (fun _ _ _ h => h) (Or.inl ⟨by rfl, ?_⟩) (by assumption) ?_
      rotate_left 1
      · intro w hSw
        (try dsimp only at hSw)
        go_simp
        (try with_reducible rfl)
      try simp only [Act.put, List.setIfInBounds_toArray, List.set_cons_zero, List.set_cons_succ]
      refine wpAnyH_take (i := 26) (oi := ({ dst := some 3, op := Op.assign (Operand.tmp 160), type := 4, pos := "ref.go:161", after := #[{ on := 24, ground := Ground.data }, { on := 25, ground := Ground.chain }, { on := 0, ground := Ground.phase }, { on := 1, ground := Ground.phase }, { on := 2, ground := Ground.phase }, { on := 3, ground := Ground.phase }, { on := 4, ground := Ground.phase }, { on := 5, ground := Ground.phase }, { on := 6, ground := Ground.phase }, { on := 7, ground := Ground.phase }, { on := 8, ground := Ground.phase }, { on := 9, ground := Ground.phase }, { on := 10, ground := Ground.phase }, { on := 11, ground := Ground.phase }, { on := 12, ground := Ground.phase }, { on := 13, ground := Ground.phase }, { on := 14, ground := Ground.phase }, { on := 15, ground := Ground.phase }, { on := 16, ground := Ground.phase }, { on := 17, ground := Ground.phase }, { on := 18, ground := Ground.phase }, { on := 19, ground := Ground.phase }, { on := 20, ground := Ground.phase }, { on := 21, ground := Ground.phase }, { on := 22, ground := Ground.phase }, { on := 23, ground := Ground.phase }, { on := 24, ground := Ground.phase }, { on := 25, ground := Ground.phase }], guard := none } : Oper)) (v := ?_) rfl (by kernel_rfl) (by kernel_rfl) (by kernel_rfl) (fun _ _ _ h => h) (Or.inl ⟨by rfl, ?_⟩) (by assumption) ?_
      rotate_left 1
      · intro w hSw
        (try dsimp only at hSw)
        go_simp
        (try with_reducible rfl)
      try simp only [Act.put, List.setIfInBounds_toArray, List.set_cons_zero, List.set_cons_succ]
      refine wpAnyH_done (by kernel_rfl) ?_ _
      go_wp2
      refine bodyPost_ret (res2 rfl _ _) rfl ?_
      refine ⟨_, rfl, fun hB => ?_, hb.trans (hb30.mono (by have := HX.out; omega))⟩
      have tCS := HCS.out.trans (show CS = true by revert hB; cases CS <;> simp)
      have rs := isC_of tCS
      try rw [← byV_append] at ho30
      have e := own_lower (b2 := w.heap.size) ho30 (by have := HX.out; omega)
      rw [show IntKind.u8.wrap (IntKind.i64.wrap (128 + s)) = 128 + s by rw [IntWalk.i64_in _ (by omega), u8_in (by omega) (by omega)]] at e
      exact e
end Go.Proofs.Ytpekegeohcnhcaa
