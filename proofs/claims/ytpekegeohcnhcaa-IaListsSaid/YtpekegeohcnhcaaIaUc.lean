/-
  The reference: others.
-/
import Derived.Test.YtpekegeohcnhcaaIaGe
namespace Go.Proofs.Ytpekegeohcnhcaa
open Go.RowKit

set_option maxRecDepth 100000 in
set_option maxHeartbeats 8000000 in
theorem oth_31 (d s sz imm : Int) (w : World) (h1 : -9223372036854775808 ≤ imm) (h2 : imm ≤ 9223372036854775807) : Calls Try.prog 42 #[aggI ⟨31, d, s, sz, imm⟩] w (REnd w (((((sz == 32) && isR d) && isR s) && isC imm)) ([15, 64 + imm, 192 + 8 * d + s])) := by
  obtain ⟨i0, hi, hz0, hz1, hz2⟩ := info_parts infoBy
  obtain ⟨q, hq⟩ : ∃ b, (sz == 32) = b := ⟨_, rfl⟩
  try rw [hq]
  have Hq := Lib.hid hq
  obtain ⟨D0, hD0⟩ : ∃ b, (d == 0) = b := ⟨_, rfl⟩
  try rw [hD0]
  have HD0 := Lib.hid hD0
  obtain ⟨S0, hS0⟩ : ∃ b, (s == 0) = b := ⟨_, rfl⟩
  try rw [hS0]
  have HS0 := Lib.hid hS0
  obtain ⟨I0, hI0⟩ : ∃ b, (imm == 0) = b := ⟨_, rfl⟩
  try rw [hI0]
  have HI0 := Lib.hid hI0
  obtain ⟨RD, hRD⟩ : ∃ b, isR d = b := ⟨_, rfl⟩
  try rw [hRD]
  have HRD := Lib.hid hRD
  clear hRD
  obtain ⟨RS, hRS⟩ : ∃ b, isR s = b := ⟨_, rfl⟩
  try rw [hRS]
  have HRS := Lib.hid hRS
  clear hRS
  obtain ⟨CI, hCI⟩ : ∃ b, isC imm = b := ⟨_, rfl⟩
  try rw [hCI]
  have HCI := Lib.hid hCI
  clear hCI
  obtain ⟨N, hN⟩ : ∃ b, (((D0 && S0) && I0) && q) = b := ⟨_, rfl⟩
  try rw [hN]
  have HN := Lib.hid hN
  clear hN
  go_enter Try.func42, Try.ntmps42
  go_upto_region 2 with fail
  have hx := heap_alloc_new w (.cells #[.int .i64 31, .int .i64 d, .int .i64 s, .int .i64 sz, .int .i64 imm] 23)
  have hb : Below w.heap.size w (w.alloc (.cells #[.int .i64 31, .int .i64 d, .int .i64 s, .int .i64 sz, .int .i64 imm] 23)) := (Below.refl _ _).alloc (Nat.le_refl _) _
  generalize World.alloc w _ = W at hx hb ⊢
  obtain ⟨X, hX⟩ : ∃ X, X = w.heap.size := ⟨_, rfl⟩
  rw [← hX] at hx ⊢
  have HX := Lib.hid hX
  have lX := lt_of_block hx
  obtain ⟨x0, x1, x2, x3, x4⟩ := cells5 hx
  have HXX := Lib.hid hx
  clear hX hx
  go_cut [5] from 6 (fun s5 wx => s5 = .bool N ∧ W = wx)
  case first =>
    cases D0
    · go_wp2_with fail
      go_meet
      exact ⟨by rw [← HN.out]; rfl, rfl⟩
    · cases S0
      · go_wp2_with fail
        go_meet
        exact ⟨by rw [← HN.out]; rfl, rfl⟩
      · cases I0
        all_goals
          go_wp2_with fail
          go_meet
          exact ⟨by rw [← HN.out]; rfl, rfl⟩
  case rest =>
    obtain ⟨rfl, rfl⟩ := hcut
    have HS5 := Lib.hid (show ∀ W', Below W.heap.size W W' → (fun W' => W'.cell? ⟨X, 0, none⟩ = some (.int .i64 31) ∧ W'.cell? ⟨X, 1, none⟩ = some (.int .i64 d) ∧ W'.cell? ⟨X, 2, none⟩ = some (.int .i64 s) ∧ W'.cell? ⟨X, 3, none⟩ = some (.int .i64 sz) ∧ W'.cell? ⟨X, 4, none⟩ = some (.int .i64 imm)) W' from fun W' h => ⟨(h.cell (p := ⟨X, 0, none⟩) lX).trans x0, (h.cell (p := ⟨X, 1, none⟩) lX).trans x1, (h.cell (p := ⟨X, 2, none⟩) lX).trans x2, (h.cell (p := ⟨X, 3, none⟩) lX).trans x3, (h.cell (p := ⟨X, 4, none⟩) lX).trans x4⟩)
    go_wp2_with fail
    refine wp_region_held_drew (S := (fun W' => W'.cell? ⟨X, 0, none⟩ = some (.int .i64 31) ∧ W'.cell? ⟨X, 1, none⟩ = some (.int .i64 d) ∧ W'.cell? ⟨X, 2, none⟩ = some (.int .i64 s) ∧ W'.cell? ⟨X, 3, none⟩ = some (.int .i64 sz) ∧ W'.cell? ⟨X, 4, none⟩ = some (.int .i64 imm))) (by kernel_rfl) ?_ (fun hHeld => ?_)
    · exact HS5.out _ (drewR (Below.refl _ _))
    have hb0 : Below W.heap.size W W.drew := drewR (Below.refl _ _)
    generalize W.drew = wn0 at hb0 hHeld ⊢
    refine wpAnyH_take (i := 0) (oi := ({ dst := some 83, op := Op.fieldAddr 23 (Operand.tmp 1) 4, type := 0, pos := "ref.go:156", after := #[], guard := none } : Oper)) (v := ?_) rfl (by kernel_rfl) (by kernel_rfl) (by kernel_rfl) (fun _ _ _ h => h) (Or.inl ⟨by rfl, ?_⟩) (by assumption) ?_
    rotate_left 1
    · intro w hSw
      (try dsimp only at hSw)
      go_simp
      (try with_reducible rfl)
    try simp only [Act.put, List.setIfInBounds_toArray, List.set_cons_zero, List.set_cons_succ]
    refine wpAnyH_take (i := 1) (oi := ({ dst := some 84, op := Op.load 3 (Operand.tmp 83), type := 3, pos := "ref.go:156", after := #[{ on := 0, ground := Ground.data }], guard := none } : Oper)) (v := ?_) rfl (by kernel_rfl) (by kernel_rfl) (by kernel_rfl) (fun _ _ _ h => h) (Or.inl ⟨by rfl, ?_⟩) (by assumption) ?_
    rotate_left 1
    · intro w hSw
      (try dsimp only at hSw)
      go_simp
      (try with_reducible rfl)
    try simp only [Act.put, List.setIfInBounds_toArray, List.set_cons_zero, List.set_cons_succ]
    refine wpAnyH_take (i := 2) (oi := ({ dst := some 85, op := Op.binOp BinOp.add 3 (Operand.const (Value.int IntKind.i64 64)) (Operand.tmp 84) 3, type := 3, pos := "ref.go:156", after := #[{ on := 1, ground := Ground.data }], guard := none } : Oper)) (v := ?_) rfl (by kernel_rfl) (by kernel_rfl) (by kernel_rfl) (fun _ _ _ h => h) (Or.inl ⟨by rfl, ?_⟩) (by assumption) ?_
    rotate_left 1
    · intro w hSw
      (try dsimp only at hSw)
      go_simp
      (try with_reducible rfl)
    try simp only [Act.put, List.setIfInBounds_toArray, List.set_cons_zero, List.set_cons_succ]
    refine wpAnyH_take (i := 3) (oi := ({ dst := some 86, op := Op.convert 3 5 (Operand.tmp 85), type := 5, pos := "ref.go:156", after := #[{ on := 2, ground := Ground.data }], guard := none } : Oper)) (v := ?_) rfl (by kernel_rfl) (by kernel_rfl) (by kernel_rfl) (fun _ _ _ h => h) (Or.inl ⟨by rfl, ?_⟩) (by assumption) ?_
    rotate_left 1
    · intro w hSw
      (try dsimp only at hSw)
      go_simp
      (try with_reducible rfl)
    try simp only [Act.put, List.setIfInBounds_toArray, List.set_cons_zero, List.set_cons_succ]
    refine wpAnyH_take (i := 4) (oi := ({ dst := some 87, op := Op.fieldAddr 23 (Operand.tmp 1) 1, type := 0, pos := "ref.go:156", after := #[], guard := none } : Oper)) (v := ?_) rfl (by kernel_rfl) (by kernel_rfl) (by kernel_rfl) (fun _ _ _ h => h) (Or.inl ⟨by rfl, ?_⟩) (by assumption) ?_
    rotate_left 1
    · intro w hSw
      (try dsimp only at hSw)
      go_simp
      (try with_reducible rfl)
    try simp only [Act.put, List.setIfInBounds_toArray, List.set_cons_zero, List.set_cons_succ]
    refine wpAnyH_take (i := 5) (oi := ({ dst := some 88, op := Op.load 3 (Operand.tmp 87), type := 3, pos := "ref.go:156", after := #[{ on := 4, ground := Ground.data }], guard := none } : Oper)) (v := ?_) rfl (by kernel_rfl) (by kernel_rfl) (by kernel_rfl) (fun _ _ _ h => h) (Or.inl ⟨by rfl, ?_⟩) (by assumption) ?_
    rotate_left 1
    · intro w hSw
      (try dsimp only at hSw)
      go_simp
      (try with_reducible rfl)
    try simp only [Act.put, List.setIfInBounds_toArray, List.set_cons_zero, List.set_cons_succ]
    refine wpAnyH_take (i := 6) (oi := ({ dst := some 89, op := Op.fieldAddr 23 (Operand.tmp 1) 2, type := 0, pos := "ref.go:156", after := #[], guard := none } : Oper)) (v := ?_) rfl (by kernel_rfl) (by kernel_rfl) (by kernel_rfl) (fun _ _ _ h => h) (Or.inl ⟨by rfl, ?_⟩) (by assumption) ?_
    rotate_left 1
    · intro w hSw
      (try dsimp only at hSw)
      go_simp
      (try with_reducible rfl)
    try simp only [Act.put, List.setIfInBounds_toArray, List.set_cons_zero, List.set_cons_succ]
    refine wpAnyH_take (i := 7) (oi := ({ dst := some 90, op := Op.load 3 (Operand.tmp 89), type := 3, pos := "ref.go:156", after := #[{ on := 6, ground := Ground.data }], guard := none } : Oper)) (v := ?_) rfl (by kernel_rfl) (by kernel_rfl) (by kernel_rfl) (fun _ _ _ h => h) (Or.inl ⟨by rfl, ?_⟩) (by assumption) ?_
    rotate_left 1
    · intro w hSw
      (try dsimp only at hSw)
      go_simp
      (try with_reducible rfl)
    try simp only [Act.put, List.setIfInBounds_toArray, List.set_cons_zero, List.set_cons_succ]
    refine wpAnyH_take (i := 10) (oi := ({ dst := some 93, op := Op.move (Operand.tmp 4), type := 4, pos := "ref.go:156", after := #[], guard := none } : Oper)) (v := ?_) rfl (by kernel_rfl) (by kernel_rfl) (by kernel_rfl) (fun _ _ _ h => h) (Or.inl ⟨by rfl, ?_⟩) (by assumption) ?_
    rotate_left 1
    · intro w hSw
      (try dsimp only at hSw)
      go_simp
      (try with_reducible rfl)
    try simp only [Act.put, List.setIfInBounds_toArray, List.set_cons_zero, List.set_cons_succ]
    refine wpAnyH_ready (rs := [8]) (by kernel_rfl) (by simp) ?_
    refine (AllReadyH.cons (o := ({ dst := some 91, op := Op.call { callee := Callee.value (Operand.func 80), args := #[Operand.tmp 88, Operand.tmp 90], argTypes := #[3, 3] }, type := 5, pos := "ref.go:156", after := #[{ on := 5, ground := Ground.data }, { on := 7, ground := Ground.data }], guard := none } : Oper)) rfl (fun K hK => ?_) AllReadyH.nil)
    go_simp
    refine (rMr_sym _ _ _).mono ?_
    rintro e w' ⟨v10, rfl, hv10, rfl⟩
    refine hK.out _ _ (HS5.out _ hb0) (fun hS10 => ?_)
    refine wpAnyH_take (i := 11) (oi := ({ dst := some 94, op := Op.move (Operand.tmp 93), type := 4, pos := "ref.go:156", after := #[{ on := 10, ground := Ground.data }, { on := 8, ground := Ground.chain }], guard := none } : Oper)) (v := ?_) rfl (by kernel_rfl) (by kernel_rfl) (by kernel_rfl) (fun _ _ _ h => h) (Or.inl ⟨by rfl, ?_⟩) (by assumption) ?_
    rotate_left 1
    · intro w hSw
      (try dsimp only at hSw)
      go_simp
      (try with_reducible rfl)
    try simp only [Act.put, List.setIfInBounds_toArray, List.set_cons_zero, List.set_cons_succ]
    refine wpAnyH_take (i := 12) (oi := ({ dst := some 95, op := Op.fieldAddr 23 (Operand.tmp 1) 1, type := 0, pos := "ref.go:156", after := #[{ on := 11, ground := Ground.guard }], guard := some (11, true) } : Oper)) (v := gv (q) ?_) rfl (by kernel_rfl) (by kernel_rfl) (by kernel_rfl) (fun _ _ _ h => h) (yieldsIf_guard (g := q) (wanted_open rfl (by rfl)) ?_) (by assumption) ?_
    rotate_left 1
    · intro hg w hSw
      (try dsimp only at hSw)
      (try simp only [hg])
      clear hg
      go_simp
      (try with_reducible rfl)
    try simp only [Act.put, List.setIfInBounds_toArray, List.set_cons_zero, List.set_cons_succ]
    refine wpAnyH_take (i := 13) (oi := ({ dst := some 96, op := Op.load 3 (Operand.tmp 95), type := 3, pos := "ref.go:156", after := #[{ on := 12, ground := Ground.data }, { on := 11, ground := Ground.guard }], guard := some (11, true) } : Oper)) (v := gv (q) ?_) rfl (by kernel_rfl) (by kernel_rfl) (by kernel_rfl) (fun _ _ _ h => h) (yieldsIf_guard (g := q) (wanted_open rfl (by rfl)) ?_) (by assumption) ?_
    rotate_left 1
    · intro hg w hSw
      (try dsimp only at hSw)
      (try simp only [hg, gv_true])
      clear hg
      go_simp
      (try with_reducible rfl)
    try simp only [Act.put, List.setIfInBounds_toArray, List.set_cons_zero, List.set_cons_succ]
    refine wpAnyH_ready (rs := [9, 14]) (by kernel_rfl) (by simp) ?_
    refine (AllReadyH.cons (o := ({ dst := some 92, op := Op.buildSlice 24 3 #[(0, Operand.const (Value.int IntKind.u8 15)), (1, Operand.tmp 86), (2, Operand.tmp 91)], type := 24, pos := "ref.go:156", after := #[{ on := 3, ground := Ground.data }, { on := 8, ground := Ground.data }], guard := none } : Oper)) rfl (fun K hK => ?_) (AllReadyH.cons (o := ({ dst := some 97, op := Op.call { callee := Callee.value (Operand.func 78), args := #[Operand.tmp 96], argTypes := #[3] }, type := 4, pos := "ref.go:156", after := #[{ on := 13, ground := Ground.data }, { on := 11, ground := Ground.chain }, { on := 11, ground := Ground.guard }], guard := some (11, true) } : Oper)) rfl (fun K hK => ?_) AllReadyH.nil))
    · go_simp
      generalize hA14 : World.alloc _ _ = wn14
      have hb14 := below_new hA14 hb0
      have ho14 := own_new3 hA14 hb0
      clear hA14
      refine hK.out _ _ (HS5.out _ hb14) (fun hS14 => ?_)
      refine wpAnyH_ready (rs := [14]) (by kernel_rfl) (by simp) ?_
      refine (AllReadyH.cons (o := ({ dst := some 97, op := Op.call { callee := Callee.value (Operand.func 78), args := #[Operand.tmp 96], argTypes := #[3] }, type := 4, pos := "ref.go:156", after := #[{ on := 13, ground := Ground.data }, { on := 11, ground := Ground.chain }, { on := 11, ground := Ground.guard }], guard := some (11, true) } : Oper)) rfl (fun K hK => ?_) AllReadyH.nil)
      refine guard_event (g := q) (v := .bool (RD)) (wanted_open rfl (by rfl)) (fun hg K0 hK0 => ?_) ?_
      · (try simp only [hg, gv_true] at hK0 ⊢)
        clear hg
        have HK0 := Lib.hid hK0
        clear hK0
        go_simp
        refine (rIsReg_at _ RD _ HRD.out).mono ?_
        rintro e w' ⟨rfl, rfl⟩
        exact HK0.out
      try simp only [Act.put, List.setIfInBounds_toArray, List.set_cons_zero, List.set_cons_succ]
      refine hK.out _ _ (HS5.out _ hb14) (fun hS15 => ?_)
      refine wpAnyH_take (i := 15) (oi := ({ dst := some 98, op := Op.pick (Operand.tmp 94) (Operand.tmp 97) (Operand.const (Value.bool false)), type := 4, pos := "ref.go:156", after := #[{ on := 11, ground := Ground.data }, { on := 14, ground := Ground.data }], guard := none } : Oper)) (v := .bool (q && RD)) rfl (by kernel_rfl) (by kernel_rfl) (by kernel_rfl) (fun _ _ _ h => h) (yieldsIf_and (g := q) (h := RD) rfl rfl rfl rfl rfl) (by assumption) ?_
      try simp only [Act.put, List.setIfInBounds_toArray, List.set_cons_zero, List.set_cons_succ]
      refine wpAnyH_take (i := 16) (oi := ({ dst := some 99, op := Op.move (Operand.tmp 98), type := 4, pos := "ref.go:156", after := #[{ on := 15, ground := Ground.data }, { on := 14, ground := Ground.chain }], guard := none } : Oper)) (v := ?_) rfl (by kernel_rfl) (by kernel_rfl) (by kernel_rfl) (fun _ _ _ h => h) (Or.inl ⟨by rfl, ?_⟩) (by assumption) ?_
      rotate_left 1
      · intro w hSw
        (try dsimp only at hSw)
        go_simp
        (try with_reducible rfl)
      try simp only [Act.put, List.setIfInBounds_toArray, List.set_cons_zero, List.set_cons_succ]
      refine wpAnyH_take (i := 17) (oi := ({ dst := some 100, op := Op.fieldAddr 23 (Operand.tmp 1) 2, type := 0, pos := "ref.go:156", after := #[{ on := 16, ground := Ground.guard }], guard := some (16, true) } : Oper)) (v := gv ((q && RD)) ?_) rfl (by kernel_rfl) (by kernel_rfl) (by kernel_rfl) (fun _ _ _ h => h) (yieldsIf_guard (g := (q && RD)) (wanted_open rfl (by rfl)) ?_) (by assumption) ?_
      rotate_left 1
      · intro hg w hSw
        (try dsimp only at hSw)
        (try simp only [hg])
        clear hg
        go_simp
        (try with_reducible rfl)
      try simp only [Act.put, List.setIfInBounds_toArray, List.set_cons_zero, List.set_cons_succ]
      refine wpAnyH_take (i := 18) (oi := ({ dst := some 101, op := Op.load 3 (Operand.tmp 100), type := 3, pos := "ref.go:156", after := #[{ on := 17, ground := Ground.data }, { on := 16, ground := Ground.guard }], guard := some (16, true) } : Oper)) (v := gv ((q && RD)) ?_) rfl (by kernel_rfl) (by kernel_rfl) (by kernel_rfl) (fun _ _ _ h => h) (yieldsIf_guard (g := (q && RD)) (wanted_open rfl (by rfl)) ?_) (by assumption) ?_
      rotate_left 1
      · intro hg w hSw
        (try dsimp only at hSw)
        (try simp only [hg, gv_true])
        clear hg
        go_simp
        (try with_reducible rfl)
      try simp only [Act.put, List.setIfInBounds_toArray, List.set_cons_zero, List.set_cons_succ]
      refine wpAnyH_ready (rs := [19]) (by kernel_rfl) (by simp) ?_
      refine (AllReadyH.cons (o := ({ dst := some 102, op := Op.call { callee := Callee.value (Operand.func 78), args := #[Operand.tmp 101], argTypes := #[3] }, type := 4, pos := "ref.go:156", after := #[{ on := 18, ground := Ground.data }, { on := 16, ground := Ground.chain }, { on := 16, ground := Ground.guard }], guard := some (16, true) } : Oper)) rfl (fun K hK => ?_) AllReadyH.nil)
      refine guard_event (g := (q && RD)) (v := .bool (RS)) (wanted_open rfl (by rfl)) (fun hg K0 hK0 => ?_) ?_
      · (try simp only [hg, gv_true] at hK0 ⊢)
        clear hg
        have HK0 := Lib.hid hK0
        clear hK0
        go_simp
        refine (rIsReg_at _ RS _ HRS.out).mono ?_
        rintro e w' ⟨rfl, rfl⟩
        exact HK0.out
      try simp only [Act.put, List.setIfInBounds_toArray, List.set_cons_zero, List.set_cons_succ]
      refine hK.out _ _ (HS5.out _ hb14) (fun hS20 => ?_)
      refine wpAnyH_take (i := 20) (oi := ({ dst := some 103, op := Op.pick (Operand.tmp 99) (Operand.tmp 102) (Operand.const (Value.bool false)), type := 4, pos := "ref.go:156", after := #[{ on := 16, ground := Ground.data }, { on := 19, ground := Ground.data }], guard := none } : Oper)) (v := .bool ((q && RD) && RS)) rfl (by kernel_rfl) (by kernel_rfl) (by kernel_rfl) (fun _ _ _ h => h) (yieldsIf_and (g := (q && RD)) (h := RS) rfl rfl rfl rfl rfl) (by assumption) ?_
      try simp only [Act.put, List.setIfInBounds_toArray, List.set_cons_zero, List.set_cons_succ]
      refine wpAnyH_take (i := 21) (oi := ({ dst := some 104, op := Op.move (Operand.tmp 103), type := 4, pos := "ref.go:156", after := #[{ on := 20, ground := Ground.data }, { on := 19, ground := Ground.chain }], guard := none } : Oper)) (v := ?_) rfl (by kernel_rfl) (by kernel_rfl) (by kernel_rfl) (fun _ _ _ h => h) (Or.inl ⟨by rfl, ?_⟩) (by assumption) ?_
      rotate_left 1
      · intro w hSw
        (try dsimp only at hSw)
        go_simp
        (try with_reducible rfl)
      try simp only [Act.put, List.setIfInBounds_toArray, List.set_cons_zero, List.set_cons_succ]
      refine wpAnyH_take (i := 22) (oi := ({ dst := some 105, op := Op.fieldAddr 23 (Operand.tmp 1) 4, type := 0, pos := "ref.go:156", after := #[{ on := 21, ground := Ground.guard }], guard := some (21, true) } : Oper)) (v := gv (((q && RD) && RS)) ?_) rfl (by kernel_rfl) (by kernel_rfl) (by kernel_rfl) (fun _ _ _ h => h) (yieldsIf_guard (g := ((q && RD) && RS)) (wanted_open rfl (by rfl)) ?_) (by assumption) ?_
      rotate_left 1
      · intro hg w hSw
        (try dsimp only at hSw)
        (try simp only [hg])
        clear hg
        go_simp
        (try with_reducible rfl)
      try simp only [Act.put, List.setIfInBounds_toArray, List.set_cons_zero, List.set_cons_succ]
      refine wpAnyH_take (i := 23) (oi := ({ dst := some 106, op := Op.load 3 (Operand.tmp 105), type := 3, pos := "ref.go:156", after := #[{ on := 22, ground := Ground.data }, { on := 21, ground := Ground.guard }], guard := some (21, true) } : Oper)) (v := gv (((q && RD) && RS)) ?_) rfl (by kernel_rfl) (by kernel_rfl) (by kernel_rfl) (fun _ _ _ h => h) (yieldsIf_guard (g := ((q && RD) && RS)) (wanted_open rfl (by rfl)) ?_) (by assumption) ?_
      rotate_left 1
      · intro hg w hSw
        (try dsimp only at hSw)
        (try simp only [hg, gv_true])
        clear hg
        go_simp
        (try with_reducible rfl)
      try simp only [Act.put, List.setIfInBounds_toArray, List.set_cons_zero, List.set_cons_succ]
      refine wpAnyH_ready (rs := [24]) (by kernel_rfl) (by simp) ?_
      refine (AllReadyH.cons (o := ({ dst := some 107, op := Op.call { callee := Callee.value (Operand.func 35), args := #[Operand.tmp 106], argTypes := #[3] }, type := 4, pos := "ref.go:156", after := #[{ on := 23, ground := Ground.data }, { on := 21, ground := Ground.chain }, { on := 21, ground := Ground.guard }], guard := some (21, true) } : Oper)) rfl (fun K hK => ?_) AllReadyH.nil)
      refine guard_event (g := ((q && RD) && RS)) (v := .bool (CI)) (wanted_open rfl (by rfl)) (fun hg K0 hK0 => ?_) ?_
      · (try simp only [hg, gv_true] at hK0 ⊢)
        clear hg
        have HK0 := Lib.hid hK0
        clear hK0
        go_simp
        refine (rIsCond_at _ CI _ HCI.out).mono ?_
        rintro e w' ⟨rfl, rfl⟩
        exact HK0.out
      try simp only [Act.put, List.setIfInBounds_toArray, List.set_cons_zero, List.set_cons_succ]
      refine hK.out _ _ (HS5.out _ hb14) (fun hS25 => ?_)
      refine wpAnyH_take (i := 25) (oi := ({ dst := some 108, op := Op.pick (Operand.tmp 104) (Operand.tmp 107) (Operand.const (Value.bool false)), type := 4, pos := "ref.go:156", after := #[{ on := 21, ground := Ground.data }, { on := 24, ground := Ground.data }, { on := 26, ground := Ground.gcOnly Departure.lateStores }], guard := none } : Oper)) (v := .bool (((q && RD) && RS) && CI)) rfl (by kernel_rfl) (by kernel_rfl) (by kernel_rfl) (fun _ _ _ h => h) (yieldsIf_and (g := ((q && RD) && RS)) (h := CI) rfl rfl rfl rfl rfl) (by assumption) ?_
      try simp only [Act.put, List.setIfInBounds_toArray, List.set_cons_zero, List.set_cons_succ]
      refine wpAnyH_take (i := 26) (oi := ({ dst := some 2, op := Op.assign (Operand.tmp 92), type := 24, pos := "ref.go:156", after := #[{ on := 9, ground := Ground.data }, { on := 24, ground := Ground.chain }, { on := 0, ground := Ground.phase }, { on := 1, ground := Ground.phase }, { on := 2, ground := Ground.phase }, { on := 3, ground := Ground.phase }, { on := 4, ground := Ground.phase }, { on := 5, ground := Ground.phase }, { on := 6, ground := Ground.phase }, { on := 7, ground := Ground.phase }, { on := 8, ground := Ground.phase }, { on := 9, ground := Ground.phase }, { on := 10, ground := Ground.textOnly Departure.lateStores }, { on := 11, ground := Ground.textOnly Departure.lateStores }, { on := 12, ground := Ground.textOnly Departure.lateStores }, { on := 13, ground := Ground.textOnly Departure.lateStores }, { on := 14, ground := Ground.textOnly Departure.lateStoresUnsure }, { on := 15, ground := Ground.textOnly Departure.lateStores }, { on := 16, ground := Ground.textOnly Departure.lateStores }, { on := 17, ground := Ground.textOnly Departure.lateStores }, { on := 18, ground := Ground.textOnly Departure.lateStores }, { on := 19, ground := Ground.textOnly Departure.lateStoresUnsure }, { on := 20, ground := Ground.textOnly Departure.lateStores }, { on := 21, ground := Ground.textOnly Departure.lateStores }, { on := 22, ground := Ground.textOnly Departure.lateStores }, { on := 23, ground := Ground.textOnly Departure.lateStores }, { on := 24, ground := Ground.textOnly Departure.lateStoresUnsure }, { on := 25, ground := Ground.textOnly Departure.lateStores }], guard := none } : Oper)) (v := ?_) rfl (by kernel_rfl) (by kernel_rfl) (by kernel_rfl) (fun _ _ _ h => h) (Or.inl ⟨by rfl, ?_⟩) (by assumption) ?_
      rotate_left 1
      · intro w hSw
        (try dsimp only at hSw)
        go_simp
        (try with_reducible rfl)
      try simp only [Act.put, List.setIfInBounds_toArray, List.set_cons_zero, List.set_cons_succ]
      refine wpAnyH_take (i := 27) (oi := ({ dst := some 3, op := Op.assign (Operand.tmp 108), type := 4, pos := "ref.go:156", after := #[{ on := 25, ground := Ground.data }, { on := 26, ground := Ground.chain }, { on := 0, ground := Ground.phase }, { on := 1, ground := Ground.phase }, { on := 2, ground := Ground.phase }, { on := 3, ground := Ground.phase }, { on := 4, ground := Ground.phase }, { on := 5, ground := Ground.phase }, { on := 6, ground := Ground.phase }, { on := 7, ground := Ground.phase }, { on := 8, ground := Ground.phase }, { on := 9, ground := Ground.phase }, { on := 10, ground := Ground.phase }, { on := 11, ground := Ground.phase }, { on := 12, ground := Ground.phase }, { on := 13, ground := Ground.phase }, { on := 14, ground := Ground.phase }, { on := 15, ground := Ground.phase }, { on := 16, ground := Ground.phase }, { on := 17, ground := Ground.phase }, { on := 18, ground := Ground.phase }, { on := 19, ground := Ground.phase }, { on := 20, ground := Ground.phase }, { on := 21, ground := Ground.phase }, { on := 22, ground := Ground.phase }, { on := 23, ground := Ground.phase }, { on := 24, ground := Ground.phase }, { on := 25, ground := Ground.phase }, { on := 26, ground := Ground.phase }], guard := none } : Oper)) (v := ?_) rfl (by kernel_rfl) (by kernel_rfl) (by kernel_rfl) (fun _ _ _ h => h) (Or.inl ⟨by rfl, ?_⟩) (by assumption) ?_
      rotate_left 1
      · intro w hSw
        (try dsimp only at hSw)
        go_simp
        (try with_reducible rfl)
      try simp only [Act.put, List.setIfInBounds_toArray, List.set_cons_zero, List.set_cons_succ]
      refine wpAnyH_done (by kernel_rfl) ?_ _
      go_wp2
      refine bodyPost_ret (res2 rfl _ _) rfl ?_
      refine ⟨_, rfl, fun hB => ?_, hb.trans (hb14.mono (by have := HX.out; omega))⟩
      have tRD := HRD.out.trans (show RD = true by revert hB; cases RD <;> simp)
      have tRS := HRS.out.trans (show RS = true by revert hB; cases RS <;> simp)
      have tCI := HCI.out.trans (show CI = true by revert hB; cases CI <;> simp)
      have ri := isC_of tCI
      try rw [← byV_append] at ho14
      have e := own_lower (b2 := w.heap.size) ho14 (by have := HX.out; omega)
      rw [hv10.out tRD tRS] at e
      rw [show IntKind.u8.wrap (IntKind.i64.wrap (64 + imm)) = 64 + imm by rw [IntWalk.i64_in _ (by omega), u8_in (by omega) (by omega)]] at e
      exact e
    · refine guard_event (g := q) (v := .bool (RD)) (wanted_open rfl (by rfl)) (fun hg K0 hK0 => ?_) ?_
      · (try simp only [hg, gv_true] at hK0 ⊢)
        clear hg
        have HK0 := Lib.hid hK0
        clear hK0
        go_simp
        refine (rIsReg_at _ RD _ HRD.out).mono ?_
        rintro e w' ⟨rfl, rfl⟩
        exact HK0.out
      try simp only [Act.put, List.setIfInBounds_toArray, List.set_cons_zero, List.set_cons_succ]
      refine hK.out _ _ (HS5.out _ hb0) (fun hS29 => ?_)
      refine wpAnyH_take (i := 15) (oi := ({ dst := some 98, op := Op.pick (Operand.tmp 94) (Operand.tmp 97) (Operand.const (Value.bool false)), type := 4, pos := "ref.go:156", after := #[{ on := 11, ground := Ground.data }, { on := 14, ground := Ground.data }], guard := none } : Oper)) (v := .bool (q && RD)) rfl (by kernel_rfl) (by kernel_rfl) (by kernel_rfl) (fun _ _ _ h => h) (yieldsIf_and (g := q) (h := RD) rfl rfl rfl rfl rfl) (by assumption) ?_
      try simp only [Act.put, List.setIfInBounds_toArray, List.set_cons_zero, List.set_cons_succ]
      refine wpAnyH_take (i := 16) (oi := ({ dst := some 99, op := Op.move (Operand.tmp 98), type := 4, pos := "ref.go:156", after := #[{ on := 15, ground := Ground.data }, { on := 14, ground := Ground.chain }], guard := none } : Oper)) (v := ?_) rfl (by kernel_rfl) (by kernel_rfl) (by kernel_rfl) (fun _ _ _ h => h) (Or.inl ⟨by rfl, ?_⟩) (by assumption) ?_
      rotate_left 1
      · intro w hSw
        (try dsimp only at hSw)
        go_simp
        (try with_reducible rfl)
      try simp only [Act.put, List.setIfInBounds_toArray, List.set_cons_zero, List.set_cons_succ]
      refine wpAnyH_take (i := 17) (oi := ({ dst := some 100, op := Op.fieldAddr 23 (Operand.tmp 1) 2, type := 0, pos := "ref.go:156", after := #[{ on := 16, ground := Ground.guard }], guard := some (16, true) } : Oper)) (v := gv ((q && RD)) ?_) rfl (by kernel_rfl) (by kernel_rfl) (by kernel_rfl) (fun _ _ _ h => h) (yieldsIf_guard (g := (q && RD)) (wanted_open rfl (by rfl)) ?_) (by assumption) ?_
      rotate_left 1
      · intro hg w hSw
        (try dsimp only at hSw)
        (try simp only [hg])
        clear hg
        go_simp
        (try with_reducible rfl)
      try simp only [Act.put, List.setIfInBounds_toArray, List.set_cons_zero, List.set_cons_succ]
      refine wpAnyH_take (i := 18) (oi := ({ dst := some 101, op := Op.load 3 (Operand.tmp 100), type := 3, pos := "ref.go:156", after := #[{ on := 17, ground := Ground.data }, { on := 16, ground := Ground.guard }], guard := some (16, true) } : Oper)) (v := gv ((q && RD)) ?_) rfl (by kernel_rfl) (by kernel_rfl) (by kernel_rfl) (fun _ _ _ h => h) (yieldsIf_guard (g := (q && RD)) (wanted_open rfl (by rfl)) ?_) (by assumption) ?_
      rotate_left 1
      · intro hg w hSw
        (try dsimp only at hSw)
        (try simp only [hg, gv_true])
        clear hg
        go_simp
        (try with_reducible rfl)
      try simp only [Act.put, List.setIfInBounds_toArray, List.set_cons_zero, List.set_cons_succ]
      refine wpAnyH_ready (rs := [9, 19]) (by kernel_rfl) (by simp) ?_
      refine (AllReadyH.cons (o := ({ dst := some 92, op := Op.buildSlice 24 3 #[(0, Operand.const (Value.int IntKind.u8 15)), (1, Operand.tmp 86), (2, Operand.tmp 91)], type := 24, pos := "ref.go:156", after := #[{ on := 3, ground := Ground.data }, { on := 8, ground := Ground.data }], guard := none } : Oper)) rfl (fun K hK => ?_) (AllReadyH.cons (o := ({ dst := some 102, op := Op.call { callee := Callee.value (Operand.func 78), args := #[Operand.tmp 101], argTypes := #[3] }, type := 4, pos := "ref.go:156", after := #[{ on := 18, ground := Ground.data }, { on := 16, ground := Ground.chain }, { on := 16, ground := Ground.guard }], guard := some (16, true) } : Oper)) rfl (fun K hK => ?_) AllReadyH.nil))
      · go_simp
        generalize hA34 : World.alloc _ _ = wn34
        have hb34 := below_new hA34 hb0
        have ho34 := own_new3 hA34 hb0
        clear hA34
        refine hK.out _ _ (HS5.out _ hb34) (fun hS34 => ?_)
        refine wpAnyH_ready (rs := [19]) (by kernel_rfl) (by simp) ?_
        refine (AllReadyH.cons (o := ({ dst := some 102, op := Op.call { callee := Callee.value (Operand.func 78), args := #[Operand.tmp 101], argTypes := #[3] }, type := 4, pos := "ref.go:156", after := #[{ on := 18, ground := Ground.data }, { on := 16, ground := Ground.chain }, { on := 16, ground := Ground.guard }], guard := some (16, true) } : Oper)) rfl (fun K hK => ?_) AllReadyH.nil)
        refine guard_event (g := (q && RD)) (v := .bool (RS)) (wanted_open rfl (by rfl)) (fun hg K0 hK0 => ?_) ?_
        · (try simp only [hg, gv_true] at hK0 ⊢)
          clear hg
          have HK0 := Lib.hid hK0
          clear hK0
          go_simp
          refine (rIsReg_at _ RS _ HRS.out).mono ?_
          rintro e w' ⟨rfl, rfl⟩
          exact HK0.out
        try simp only [Act.put, List.setIfInBounds_toArray, List.set_cons_zero, List.set_cons_succ]
        refine hK.out _ _ (HS5.out _ hb34) (fun hS35 => ?_)
        refine wpAnyH_take (i := 20) (oi := ({ dst := some 103, op := Op.pick (Operand.tmp 99) (Operand.tmp 102) (Operand.const (Value.bool false)), type := 4, pos := "ref.go:156", after := #[{ on := 16, ground := Ground.data }, { on := 19, ground := Ground.data }], guard := none } : Oper)) (v := .bool ((q && RD) && RS)) rfl (by kernel_rfl) (by kernel_rfl) (by kernel_rfl) (fun _ _ _ h => h) (yieldsIf_and (g := (q && RD)) (h := RS) rfl rfl rfl rfl rfl) (by assumption) ?_
        try simp only [Act.put, List.setIfInBounds_toArray, List.set_cons_zero, List.set_cons_succ]
        refine wpAnyH_take (i := 21) (oi := ({ dst := some 104, op := Op.move (Operand.tmp 103), type := 4, pos := "ref.go:156", after := #[{ on := 20, ground := Ground.data }, { on := 19, ground := Ground.chain }], guard := none } : Oper)) (v := ?_) rfl (by kernel_rfl) (by kernel_rfl) (by kernel_rfl) (fun _ _ _ h => h) (Or.inl ⟨by rfl, ?_⟩) (by assumption) ?_
        rotate_left 1
        · intro w hSw
          (try dsimp only at hSw)
          go_simp
          (try with_reducible rfl)
        try simp only [Act.put, List.setIfInBounds_toArray, List.set_cons_zero, List.set_cons_succ]
        refine wpAnyH_take (i := 22) (oi := ({ dst := some 105, op := Op.fieldAddr 23 (Operand.tmp 1) 4, type := 0, pos := "ref.go:156", after := #[{ on := 21, ground := Ground.guard }], guard := some (21, true) } : Oper)) (v := gv (((q && RD) && RS)) ?_) rfl (by kernel_rfl) (by kernel_rfl) (by kernel_rfl) (fun _ _ _ h => h) (yieldsIf_guard (g := ((q && RD) && RS)) (wanted_open rfl (by rfl)) ?_) (by assumption) ?_
        rotate_left 1
        · intro hg w hSw
          (try dsimp only at hSw)
          (try simp only [hg])
          clear hg
          go_simp
          (try with_reducible rfl)
        try simp only [Act.put, List.setIfInBounds_toArray, List.set_cons_zero, List.set_cons_succ]
        refine wpAnyH_take (i := 23) (oi := ({ dst := some 106, op := Op.load 3 (Operand.tmp 105), type := 3, pos := "ref.go:156", after := #[{ on := 22, ground := Ground.data }, { on := 21, ground := Ground.guard }], guard := some (21, true) } : Oper)) (v := gv (((q && RD) && RS)) ?_) rfl (by kernel_rfl) (by kernel_rfl) (by kernel_rfl) (fun _ _ _ h => h) (yieldsIf_guard (g := ((q && RD) && RS)) (wanted_open rfl (by rfl)) ?_) (by assumption) ?_
        rotate_left 1
        · intro hg w hSw
          (try dsimp only at hSw)
          (try simp only [hg, gv_true])
          clear hg
          go_simp
          (try with_reducible rfl)
        try simp only [Act.put, List.setIfInBounds_toArray, List.set_cons_zero, List.set_cons_succ]
        refine wpAnyH_ready (rs := [24]) (by kernel_rfl) (by simp) ?_
        refine (AllReadyH.cons (o := ({ dst := some 107, op := Op.call { callee := Callee.value (Operand.func 35), args := #[Operand.tmp 106], argTypes := #[3] }, type := 4, pos := "ref.go:156", after := #[{ on := 23, ground := Ground.data }, { on := 21, ground := Ground.chain }, { on := 21, ground := Ground.guard }], guard := some (21, true) } : Oper)) rfl (fun K hK => ?_) AllReadyH.nil)
        refine guard_event (g := ((q && RD) && RS)) (v := .bool (CI)) (wanted_open rfl (by rfl)) (fun hg K0 hK0 => ?_) ?_
        · (try simp only [hg, gv_true] at hK0 ⊢)
          clear hg
          have HK0 := Lib.hid hK0
          clear hK0
          go_simp
          refine (rIsCond_at _ CI _ HCI.out).mono ?_
          rintro e w' ⟨rfl, rfl⟩
          exact HK0.out
        try simp only [Act.put, List.setIfInBounds_toArray, List.set_cons_zero, List.set_cons_succ]
        refine hK.out _ _ (HS5.out _ hb34) (fun hS40 => ?_)
        refine wpAnyH_take (i := 25) (oi := ({ dst := some 108, op := Op.pick (Operand.tmp 104) (Operand.tmp 107) (Operand.const (Value.bool false)), type := 4, pos := "ref.go:156", after := #[{ on := 21, ground := Ground.data }, { on := 24, ground := Ground.data }, { on := 26, ground := Ground.gcOnly Departure.lateStores }], guard := none } : Oper)) (v := .bool (((q && RD) && RS) && CI)) rfl (by kernel_rfl) (by kernel_rfl) (by kernel_rfl) (fun _ _ _ h => h) (yieldsIf_and (g := ((q && RD) && RS)) (h := CI) rfl rfl rfl rfl rfl) (by assumption) ?_
        try simp only [Act.put, List.setIfInBounds_toArray, List.set_cons_zero, List.set_cons_succ]
        refine wpAnyH_take (i := 26) (oi := ({ dst := some 2, op := Op.assign (Operand.tmp 92), type := 24, pos := "ref.go:156", after := #[{ on := 9, ground := Ground.data }, { on := 24, ground := Ground.chain }, { on := 0, ground := Ground.phase }, { on := 1, ground := Ground.phase }, { on := 2, ground := Ground.phase }, { on := 3, ground := Ground.phase }, { on := 4, ground := Ground.phase }, { on := 5, ground := Ground.phase }, { on := 6, ground := Ground.phase }, { on := 7, ground := Ground.phase }, { on := 8, ground := Ground.phase }, { on := 9, ground := Ground.phase }, { on := 10, ground := Ground.textOnly Departure.lateStores }, { on := 11, ground := Ground.textOnly Departure.lateStores }, { on := 12, ground := Ground.textOnly Departure.lateStores }, { on := 13, ground := Ground.textOnly Departure.lateStores }, { on := 14, ground := Ground.textOnly Departure.lateStoresUnsure }, { on := 15, ground := Ground.textOnly Departure.lateStores }, { on := 16, ground := Ground.textOnly Departure.lateStores }, { on := 17, ground := Ground.textOnly Departure.lateStores }, { on := 18, ground := Ground.textOnly Departure.lateStores }, { on := 19, ground := Ground.textOnly Departure.lateStoresUnsure }, { on := 20, ground := Ground.textOnly Departure.lateStores }, { on := 21, ground := Ground.textOnly Departure.lateStores }, { on := 22, ground := Ground.textOnly Departure.lateStores }, { on := 23, ground := Ground.textOnly Departure.lateStores }, { on := 24, ground := Ground.textOnly Departure.lateStoresUnsure }, { on := 25, ground := Ground.textOnly Departure.lateStores }], guard := none } : Oper)) (v := ?_) rfl (by kernel_rfl) (by kernel_rfl) (by kernel_rfl) (fun _ _ _ h => h) (Or.inl ⟨by rfl, ?_⟩) (by assumption) ?_
        rotate_left 1
        · intro w hSw
          (try dsimp only at hSw)
          go_simp
          (try with_reducible rfl)
        try simp only [Act.put, List.setIfInBounds_toArray, List.set_cons_zero, List.set_cons_succ]
        refine wpAnyH_take (i := 27) (oi := ({ dst := some 3, op := Op.assign (Operand.tmp 108), type := 4, pos := "ref.go:156", after := #[{ on := 25, ground := Ground.data }, { on := 26, ground := Ground.chain }, { on := 0, ground := Ground.phase }, { on := 1, ground := Ground.phase }, { on := 2, ground := Ground.phase }, { on := 3, ground := Ground.phase }, { on := 4, ground := Ground.phase }, { on := 5, ground := Ground.phase }, { on := 6, ground := Ground.phase }, { on := 7, ground := Ground.phase }, { on := 8, ground := Ground.phase }, { on := 9, ground := Ground.phase }, { on := 10, ground := Ground.phase }, { on := 11, ground := Ground.phase }, { on := 12, ground := Ground.phase }, { on := 13, ground := Ground.phase }, { on := 14, ground := Ground.phase }, { on := 15, ground := Ground.phase }, { on := 16, ground := Ground.phase }, { on := 17, ground := Ground.phase }, { on := 18, ground := Ground.phase }, { on := 19, ground := Ground.phase }, { on := 20, ground := Ground.phase }, { on := 21, ground := Ground.phase }, { on := 22, ground := Ground.phase }, { on := 23, ground := Ground.phase }, { on := 24, ground := Ground.phase }, { on := 25, ground := Ground.phase }, { on := 26, ground := Ground.phase }], guard := none } : Oper)) (v := ?_) rfl (by kernel_rfl) (by kernel_rfl) (by kernel_rfl) (fun _ _ _ h => h) (Or.inl ⟨by rfl, ?_⟩) (by assumption) ?_
        rotate_left 1
        · intro w hSw
          (try dsimp only at hSw)
          go_simp
          (try with_reducible rfl)
        try simp only [Act.put, List.setIfInBounds_toArray, List.set_cons_zero, List.set_cons_succ]
        refine wpAnyH_done (by kernel_rfl) ?_ _
        go_wp2
        refine bodyPost_ret (res2 rfl _ _) rfl ?_
        refine ⟨_, rfl, fun hB => ?_, hb.trans (hb34.mono (by have := HX.out; omega))⟩
        have tRD := HRD.out.trans (show RD = true by revert hB; cases RD <;> simp)
        have tRS := HRS.out.trans (show RS = true by revert hB; cases RS <;> simp)
        have tCI := HCI.out.trans (show CI = true by revert hB; cases CI <;> simp)
        have ri := isC_of tCI
        try rw [← byV_append] at ho34
        have e := own_lower (b2 := w.heap.size) ho34 (by have := HX.out; omega)
        rw [hv10.out tRD tRS] at e
        rw [show IntKind.u8.wrap (IntKind.i64.wrap (64 + imm)) = 64 + imm by rw [IntWalk.i64_in _ (by omega), u8_in (by omega) (by omega)]] at e
        exact e
      · refine guard_event (g := (q && RD)) (v := .bool (RS)) (wanted_open rfl (by rfl)) (fun hg K0 hK0 => ?_) ?_
        · (try simp only [hg, gv_true] at hK0 ⊢)
          clear hg
          have HK0 := Lib.hid hK0
          clear hK0
          go_simp
          refine (rIsReg_at _ RS _ HRS.out).mono ?_
          rintro e w' ⟨rfl, rfl⟩
          exact HK0.out
        try simp only [Act.put, List.setIfInBounds_toArray, List.set_cons_zero, List.set_cons_succ]
        refine hK.out _ _ (HS5.out _ hb0) (fun hS44 => ?_)
        refine wpAnyH_take (i := 20) (oi := ({ dst := some 103, op := Op.pick (Operand.tmp 99) (Operand.tmp 102) (Operand.const (Value.bool false)), type := 4, pos := "ref.go:156", after := #[{ on := 16, ground := Ground.data }, { on := 19, ground := Ground.data }], guard := none } : Oper)) (v := .bool ((q && RD) && RS)) rfl (by kernel_rfl) (by kernel_rfl) (by kernel_rfl) (fun _ _ _ h => h) (yieldsIf_and (g := (q && RD)) (h := RS) rfl rfl rfl rfl rfl) (by assumption) ?_
        try simp only [Act.put, List.setIfInBounds_toArray, List.set_cons_zero, List.set_cons_succ]
        refine wpAnyH_take (i := 21) (oi := ({ dst := some 104, op := Op.move (Operand.tmp 103), type := 4, pos := "ref.go:156", after := #[{ on := 20, ground := Ground.data }, { on := 19, ground := Ground.chain }], guard := none } : Oper)) (v := ?_) rfl (by kernel_rfl) (by kernel_rfl) (by kernel_rfl) (fun _ _ _ h => h) (Or.inl ⟨by rfl, ?_⟩) (by assumption) ?_
        rotate_left 1
        · intro w hSw
          (try dsimp only at hSw)
          go_simp
          (try with_reducible rfl)
        try simp only [Act.put, List.setIfInBounds_toArray, List.set_cons_zero, List.set_cons_succ]
        refine wpAnyH_take (i := 22) (oi := ({ dst := some 105, op := Op.fieldAddr 23 (Operand.tmp 1) 4, type := 0, pos := "ref.go:156", after := #[{ on := 21, ground := Ground.guard }], guard := some (21, true) } : Oper)) (v := gv (((q && RD) && RS)) ?_) rfl (by kernel_rfl) (by kernel_rfl) (by kernel_rfl) (fun _ _ _ h => h) (yieldsIf_guard (g := ((q && RD) && RS)) (wanted_open rfl (by rfl)) ?_) (by assumption) ?_
        rotate_left 1
        · intro hg w hSw
          (try dsimp only at hSw)
          (try simp only [hg])
          clear hg
          go_simp
          (try with_reducible rfl)
        try simp only [Act.put, List.setIfInBounds_toArray, List.set_cons_zero, List.set_cons_succ]
        refine wpAnyH_take (i := 23) (oi := ({ dst := some 106, op := Op.load 3 (Operand.tmp 105), type := 3, pos := "ref.go:156", after := #[{ on := 22, ground := Ground.data }, { on := 21, ground := Ground.guard }], guard := some (21, true) } : Oper)) (v := gv (((q && RD) && RS)) ?_) rfl (by kernel_rfl) (by kernel_rfl) (by kernel_rfl) (fun _ _ _ h => h) (yieldsIf_guard (g := ((q && RD) && RS)) (wanted_open rfl (by rfl)) ?_) (by assumption) ?_
        rotate_left 1
        · intro hg w hSw
          (try dsimp only at hSw)
          (try simp only [hg, gv_true])
          clear hg
          go_simp
          (try with_reducible rfl)
        try simp only [Act.put, List.setIfInBounds_toArray, List.set_cons_zero, List.set_cons_succ]
        refine wpAnyH_ready (rs := [9, 24]) (by kernel_rfl) (by simp) ?_
        refine (AllReadyH.cons (o := ({ dst := some 92, op := Op.buildSlice 24 3 #[(0, Operand.const (Value.int IntKind.u8 15)), (1, Operand.tmp 86), (2, Operand.tmp 91)], type := 24, pos := "ref.go:156", after := #[{ on := 3, ground := Ground.data }, { on := 8, ground := Ground.data }], guard := none } : Oper)) rfl (fun K hK => ?_) (AllReadyH.cons (o := ({ dst := some 107, op := Op.call { callee := Callee.value (Operand.func 35), args := #[Operand.tmp 106], argTypes := #[3] }, type := 4, pos := "ref.go:156", after := #[{ on := 23, ground := Ground.data }, { on := 21, ground := Ground.chain }, { on := 21, ground := Ground.guard }], guard := some (21, true) } : Oper)) rfl (fun K hK => ?_) AllReadyH.nil))
        · go_simp
          generalize hA49 : World.alloc _ _ = wn49
          have hb49 := below_new hA49 hb0
          have ho49 := own_new3 hA49 hb0
          clear hA49
          refine hK.out _ _ (HS5.out _ hb49) (fun hS49 => ?_)
          refine wpAnyH_ready (rs := [24]) (by kernel_rfl) (by simp) ?_
          refine (AllReadyH.cons (o := ({ dst := some 107, op := Op.call { callee := Callee.value (Operand.func 35), args := #[Operand.tmp 106], argTypes := #[3] }, type := 4, pos := "ref.go:156", after := #[{ on := 23, ground := Ground.data }, { on := 21, ground := Ground.chain }, { on := 21, ground := Ground.guard }], guard := some (21, true) } : Oper)) rfl (fun K hK => ?_) AllReadyH.nil)
          refine guard_event (g := ((q && RD) && RS)) (v := .bool (CI)) (wanted_open rfl (by rfl)) (fun hg K0 hK0 => ?_) ?_
          · (try simp only [hg, gv_true] at hK0 ⊢)
            clear hg
            have HK0 := Lib.hid hK0
            clear hK0
            go_simp
            refine (rIsCond_at _ CI _ HCI.out).mono ?_
            rintro e w' ⟨rfl, rfl⟩
            exact HK0.out
          try simp only [Act.put, List.setIfInBounds_toArray, List.set_cons_zero, List.set_cons_succ]
          refine hK.out _ _ (HS5.out _ hb49) (fun hS50 => ?_)
          refine wpAnyH_take (i := 25) (oi := ({ dst := some 108, op := Op.pick (Operand.tmp 104) (Operand.tmp 107) (Operand.const (Value.bool false)), type := 4, pos := "ref.go:156", after := #[{ on := 21, ground := Ground.data }, { on := 24, ground := Ground.data }, { on := 26, ground := Ground.gcOnly Departure.lateStores }], guard := none } : Oper)) (v := .bool (((q && RD) && RS) && CI)) rfl (by kernel_rfl) (by kernel_rfl) (by kernel_rfl) (fun _ _ _ h => h) (yieldsIf_and (g := ((q && RD) && RS)) (h := CI) rfl rfl rfl rfl rfl) (by assumption) ?_
          try simp only [Act.put, List.setIfInBounds_toArray, List.set_cons_zero, List.set_cons_succ]
          refine wpAnyH_take (i := 26) (oi := ({ dst := some 2, op := Op.assign (Operand.tmp 92), type := 24, pos := "ref.go:156", after := #[{ on := 9, ground := Ground.data }, { on := 24, ground := Ground.chain }, { on := 0, ground := Ground.phase }, { on := 1, ground := Ground.phase }, { on := 2, ground := Ground.phase }, { on := 3, ground := Ground.phase }, { on := 4, ground := Ground.phase }, { on := 5, ground := Ground.phase }, { on := 6, ground := Ground.phase }, { on := 7, ground := Ground.phase }, { on := 8, ground := Ground.phase }, { on := 9, ground := Ground.phase }, { on := 10, ground := Ground.textOnly Departure.lateStores }, { on := 11, ground := Ground.textOnly Departure.lateStores }, { on := 12, ground := Ground.textOnly Departure.lateStores }, { on := 13, ground := Ground.textOnly Departure.lateStores }, { on := 14, ground := Ground.textOnly Departure.lateStoresUnsure }, { on := 15, ground := Ground.textOnly Departure.lateStores }, { on := 16, ground := Ground.textOnly Departure.lateStores }, { on := 17, ground := Ground.textOnly Departure.lateStores }, { on := 18, ground := Ground.textOnly Departure.lateStores }, { on := 19, ground := Ground.textOnly Departure.lateStoresUnsure }, { on := 20, ground := Ground.textOnly Departure.lateStores }, { on := 21, ground := Ground.textOnly Departure.lateStores }, { on := 22, ground := Ground.textOnly Departure.lateStores }, { on := 23, ground := Ground.textOnly Departure.lateStores }, { on := 24, ground := Ground.textOnly Departure.lateStoresUnsure }, { on := 25, ground := Ground.textOnly Departure.lateStores }], guard := none } : Oper)) (v := ?_) rfl (by kernel_rfl) (by kernel_rfl) (by kernel_rfl) (fun _ _ _ h => h) (Or.inl ⟨by rfl, ?_⟩) (by assumption) ?_
          rotate_left 1
          · intro w hSw
            (try dsimp only at hSw)
            go_simp
            (try with_reducible rfl)
          try simp only [Act.put, List.setIfInBounds_toArray, List.set_cons_zero, List.set_cons_succ]
          refine wpAnyH_take (i := 27) (oi := ({ dst := some 3, op := Op.assign (Operand.tmp 108), type := 4, pos := "ref.go:156", after := #[{ on := 25, ground := Ground.data }, { on := 26, ground := Ground.chain }, { on := 0, ground := Ground.phase }, { on := 1, ground := Ground.phase }, { on := 2, ground := Ground.phase }, { on := 3, ground := Ground.phase }, { on := 4, ground := Ground.phase }, { on := 5, ground := Ground.phase }, { on := 6, ground := Ground.phase }, { on := 7, ground := Ground.phase }, { on := 8, ground := Ground.phase }, { on := 9, ground := Ground.phase }, { on := 10, ground := Ground.phase }, { on := 11, ground := Ground.phase }, { on := 12, ground := Ground.phase }, { on := 13, ground := Ground.phase }, { on := 14, ground := Ground.phase }, { on := 15, ground := Ground.phase }, { on := 16, ground := Ground.phase }, { on := 17, ground := Ground.phase }, { on := 18, ground := Ground.phase }, { on := 19, ground := Ground.phase }, { on := 20, ground := Ground.phase }, { on := 21, ground := Ground.phase }, { on := 22, ground := Ground.phase }, { on := 23, ground := Ground.phase }, { on := 24, ground := Ground.phase }, { on := 25, ground := Ground.phase }, { on := 26, ground := Ground.phase }], guard := none } : Oper)) (v := ?_) rfl (by kernel_rfl) (by kernel_rfl) (by kernel_rfl) (fun _ _ _ h => h) (Or.inl ⟨by rfl, ?_⟩) (by assumption) ?_
          rotate_left 1
          · intro w hSw
            (try dsimp only at hSw)
            go_simp
            (try with_reducible rfl)
          try simp only [Act.put, List.setIfInBounds_toArray, List.set_cons_zero, List.set_cons_succ]
          refine wpAnyH_done (by kernel_rfl) ?_ _
          go_wp2
          refine bodyPost_ret (res2 rfl _ _) rfl ?_
          refine ⟨_, rfl, fun hB => ?_, hb.trans (hb49.mono (by have := HX.out; omega))⟩
          have tRD := HRD.out.trans (show RD = true by revert hB; cases RD <;> simp)
          have tRS := HRS.out.trans (show RS = true by revert hB; cases RS <;> simp)
          have tCI := HCI.out.trans (show CI = true by revert hB; cases CI <;> simp)
          have ri := isC_of tCI
          try rw [← byV_append] at ho49
          have e := own_lower (b2 := w.heap.size) ho49 (by have := HX.out; omega)
          rw [hv10.out tRD tRS] at e
          rw [show IntKind.u8.wrap (IntKind.i64.wrap (64 + imm)) = 64 + imm by rw [IntWalk.i64_in _ (by omega), u8_in (by omega) (by omega)]] at e
          exact e
        · refine guard_event (g := ((q && RD) && RS)) (v := .bool (CI)) (wanted_open rfl (by rfl)) (fun hg K0 hK0 => ?_) ?_
          · (try simp only [hg, gv_true] at hK0 ⊢)
            clear hg
            have HK0 := Lib.hid hK0
            clear hK0
            go_simp
            refine (rIsCond_at _ CI _ HCI.out).mono ?_
            rintro e w' ⟨rfl, rfl⟩
            exact HK0.out
          try simp only [Act.put, List.setIfInBounds_toArray, List.set_cons_zero, List.set_cons_succ]
          refine hK.out _ _ (HS5.out _ hb0) (fun hS54 => ?_)
          refine wpAnyH_take (i := 25) (oi := ({ dst := some 108, op := Op.pick (Operand.tmp 104) (Operand.tmp 107) (Operand.const (Value.bool false)), type := 4, pos := "ref.go:156", after := #[{ on := 21, ground := Ground.data }, { on := 24, ground := Ground.data }, { on := 26, ground := Ground.gcOnly Departure.lateStores }], guard := none } : Oper)) (v := .bool (((q && RD) && RS) && CI)) rfl (by kernel_rfl) (by kernel_rfl) (by kernel_rfl) (fun _ _ _ h => h) (yieldsIf_and (g := ((q && RD) && RS)) (h := CI) rfl rfl rfl rfl rfl) (by assumption) ?_
          try simp only [Act.put, List.setIfInBounds_toArray, List.set_cons_zero, List.set_cons_succ]
          refine wpAnyH_ready (rs := [9]) (by kernel_rfl) (by simp) ?_
          refine (AllReadyH.cons (o := ({ dst := some 92, op := Op.buildSlice 24 3 #[(0, Operand.const (Value.int IntKind.u8 15)), (1, Operand.tmp 86), (2, Operand.tmp 91)], type := 24, pos := "ref.go:156", after := #[{ on := 3, ground := Ground.data }, { on := 8, ground := Ground.data }], guard := none } : Oper)) rfl (fun K hK => ?_) AllReadyH.nil)
          go_simp
          generalize hA56 : World.alloc _ _ = wn56
          have hb56 := below_new hA56 hb0
          have ho56 := own_new3 hA56 hb0
          clear hA56
          refine hK.out _ _ (HS5.out _ hb56) (fun hS56 => ?_)
          refine wpAnyH_take (i := 26) (oi := ({ dst := some 2, op := Op.assign (Operand.tmp 92), type := 24, pos := "ref.go:156", after := #[{ on := 9, ground := Ground.data }, { on := 24, ground := Ground.chain }, { on := 0, ground := Ground.phase }, { on := 1, ground := Ground.phase }, { on := 2, ground := Ground.phase }, { on := 3, ground := Ground.phase }, { on := 4, ground := Ground.phase }, { on := 5, ground := Ground.phase }, { on := 6, ground := Ground.phase }, { on := 7, ground := Ground.phase }, { on := 8, ground := Ground.phase }, { on := 9, ground := Ground.phase }, { on := 10, ground := Ground.textOnly Departure.lateStores }, { on := 11, ground := Ground.textOnly Departure.lateStores }, { on := 12, ground := Ground.textOnly Departure.lateStores }, { on := 13, ground := Ground.textOnly Departure.lateStores }, { on := 14, ground := Ground.textOnly Departure.lateStoresUnsure }, { on := 15, ground := Ground.textOnly Departure.lateStores }, { on := 16, ground := Ground.textOnly Departure.lateStores }, { on := 17, ground := Ground.textOnly Departure.lateStores }, { on := 18, ground := Ground.textOnly Departure.lateStores }, { on := 19, ground := Ground.textOnly Departure.lateStoresUnsure }, { on := 20, ground := Ground.textOnly Departure.lateStores }, { on := 21, ground := Ground.textOnly Departure.lateStores }, { on := 22, ground := Ground.textOnly Departure.lateStores }, { on := 23, ground := Ground.textOnly Departure.lateStores }, { on := 24, ground := Ground.textOnly Departure.lateStoresUnsure }, { on := 25, ground := Ground.textOnly Departure.lateStores }], guard := none } : Oper)) (v := ?_) rfl (by kernel_rfl) (by kernel_rfl) (by kernel_rfl) (fun _ _ _ h => h) (Or.inl ⟨by rfl, ?_⟩) (by assumption) ?_
          rotate_left 1
          · intro w hSw
            (try dsimp only at hSw)
            go_simp
            (try with_reducible rfl)
          try simp only [Act.put, List.setIfInBounds_toArray, List.set_cons_zero, List.set_cons_succ]
          refine wpAnyH_take (i := 27) (oi := ({ dst := some 3, op := Op.assign (Operand.tmp 108), type := 4, pos := "ref.go:156", after := #[{ on := 25, ground := Ground.data }, { on := 26, ground := Ground.chain }, { on := 0, ground := Ground.phase }, { on := 1, ground := Ground.phase }, { on := 2, ground := Ground.phase }, { on := 3, ground := Ground.phase }, { on := 4, ground := Ground.phase }, { on := 5, ground := Ground.phase }, { on := 6, ground := Ground.phase }, { on := 7, ground := Ground.phase }, { on := 8, ground := Ground.phase }, { on := 9, ground := Ground.phase }, { on := 10, ground := Ground.phase }, { on := 11, ground := Ground.phase }, { on := 12, ground := Ground.phase }, { on := 13, ground := Ground.phase }, { on := 14, ground := Ground.phase }, { on := 15, ground := Ground.phase }, { on := 16, ground := Ground.phase }, { on := 17, ground := Ground.phase }, { on := 18, ground := Ground.phase }, { on := 19, ground := Ground.phase }, { on := 20, ground := Ground.phase }, { on := 21, ground := Ground.phase }, { on := 22, ground := Ground.phase }, { on := 23, ground := Ground.phase }, { on := 24, ground := Ground.phase }, { on := 25, ground := Ground.phase }, { on := 26, ground := Ground.phase }], guard := none } : Oper)) (v := ?_) rfl (by kernel_rfl) (by kernel_rfl) (by kernel_rfl) (fun _ _ _ h => h) (Or.inl ⟨by rfl, ?_⟩) (by assumption) ?_
          rotate_left 1
          · intro w hSw
            (try dsimp only at hSw)
            go_simp
            (try with_reducible rfl)
          try simp only [Act.put, List.setIfInBounds_toArray, List.set_cons_zero, List.set_cons_succ]
          refine wpAnyH_done (by kernel_rfl) ?_ _
          go_wp2
          refine bodyPost_ret (res2 rfl _ _) rfl ?_
          refine ⟨_, rfl, fun hB => ?_, hb.trans (hb56.mono (by have := HX.out; omega))⟩
          have tRD := HRD.out.trans (show RD = true by revert hB; cases RD <;> simp)
          have tRS := HRS.out.trans (show RS = true by revert hB; cases RS <;> simp)
          have tCI := HCI.out.trans (show CI = true by revert hB; cases CI <;> simp)
          have ri := isC_of tCI
          try rw [← byV_append] at ho56
          have e := own_lower (b2 := w.heap.size) ho56 (by have := HX.out; omega)
          rw [hv10.out tRD tRS] at e
          rw [show IntKind.u8.wrap (IntKind.i64.wrap (64 + imm)) = 64 + imm by rw [IntWalk.i64_in _ (by omega), u8_in (by omega) (by omega)]] at e
          exact e
set_option maxRecDepth 100000 in
set_option maxHeartbeats 8000000 in
theorem oth_32_8 (d s imm : Int) (w : World) (_ : -9223372036854775808 ≤ imm) (_ : imm ≤ 9223372036854775807) : Calls Try.prog 42 #[aggI ⟨32, d, s, 8, imm⟩] w (REnd w ((((d == 0) && isC s) && isS imm 128)) ([112 + s, imm % 256])) := by
  obtain ⟨i0, hi, hz0, hz1, hz2⟩ := info_parts infoBy
  obtain ⟨D0, hD0⟩ : ∃ b, (d == 0) = b := ⟨_, rfl⟩
  try rw [hD0]
  have HD0 := Lib.hid hD0
  obtain ⟨S0, hS0⟩ : ∃ b, (s == 0) = b := ⟨_, rfl⟩
  try rw [hS0]
  have HS0 := Lib.hid hS0
  obtain ⟨I0, hI0⟩ : ∃ b, (imm == 0) = b := ⟨_, rfl⟩
  try rw [hI0]
  have HI0 := Lib.hid hI0
  obtain ⟨CS, hCS⟩ : ∃ b, isC s = b := ⟨_, rfl⟩
  try rw [hCS]
  have HCS := Lib.hid hCS
  clear hCS
  obtain ⟨F8, hF8⟩ : ∃ b, isS imm 128 = b := ⟨_, rfl⟩
  try rw [hF8]
  have HF8 := Lib.hid hF8
  clear hF8
  obtain ⟨N, hN⟩ : ∃ b, (((D0 && S0) && I0) && false) = b := ⟨_, rfl⟩
  try rw [hN]
  have HN := Lib.hid hN
  clear hN
  go_enter Try.func42, Try.ntmps42
  go_upto_region 2 with fail
  have hx := heap_alloc_new w (.cells #[.int .i64 32, .int .i64 d, .int .i64 s, .int .i64 8, .int .i64 imm] 23)
  have hb : Below w.heap.size w (w.alloc (.cells #[.int .i64 32, .int .i64 d, .int .i64 s, .int .i64 8, .int .i64 imm] 23)) := (Below.refl _ _).alloc (Nat.le_refl _) _
  generalize World.alloc w _ = W at hx hb ⊢
  obtain ⟨X, hX⟩ : ∃ X, X = w.heap.size := ⟨_, rfl⟩
  rw [← hX] at hx ⊢
  have HX := Lib.hid hX
  have lX := lt_of_block hx
  obtain ⟨x0, x1, x2, x3, x4⟩ := cells5 hx
  have HXX := Lib.hid hx
  clear hX hx
  go_cut [5] from 6 (fun s5 wx => s5 = .bool N ∧ W = wx)
  case first =>
    cases D0
    · go_wp2_with fail
      go_meet
      exact ⟨by rw [← HN.out]; rfl, rfl⟩
    · cases S0
      · go_wp2_with fail
        go_meet
        exact ⟨by rw [← HN.out]; rfl, rfl⟩
      · cases I0
        all_goals
          go_wp2_with fail
          go_meet
          exact ⟨by rw [← HN.out]; rfl, rfl⟩
  case rest =>
    obtain ⟨rfl, rfl⟩ := hcut
    have HS5 := Lib.hid (show ∀ W', Below W.heap.size W W' → (fun W' => W'.cell? ⟨X, 0, none⟩ = some (.int .i64 32) ∧ W'.cell? ⟨X, 1, none⟩ = some (.int .i64 d) ∧ W'.cell? ⟨X, 2, none⟩ = some (.int .i64 s) ∧ W'.cell? ⟨X, 3, none⟩ = some (.int .i64 8) ∧ W'.cell? ⟨X, 4, none⟩ = some (.int .i64 imm)) W' from fun W' h => ⟨(h.cell (p := ⟨X, 0, none⟩) lX).trans x0, (h.cell (p := ⟨X, 1, none⟩) lX).trans x1, (h.cell (p := ⟨X, 2, none⟩) lX).trans x2, (h.cell (p := ⟨X, 3, none⟩) lX).trans x3, (h.cell (p := ⟨X, 4, none⟩) lX).trans x4⟩)
    have hq1 := and255 imm
    have hq2 : IntKind.u8.wrap (imm % 256) = imm % 256 := u8_in (by omega) (by omega)
    go_wp2_with fail
    refine wp_region_held_drew (S := (fun W' => W'.cell? ⟨X, 0, none⟩ = some (.int .i64 32) ∧ W'.cell? ⟨X, 1, none⟩ = some (.int .i64 d) ∧ W'.cell? ⟨X, 2, none⟩ = some (.int .i64 s) ∧ W'.cell? ⟨X, 3, none⟩ = some (.int .i64 8) ∧ W'.cell? ⟨X, 4, none⟩ = some (.int .i64 imm))) (by kernel_rfl) ?_ (fun hHeld => ?_)
    · exact HS5.out _ (drewR (Below.refl _ _))
    have hb0 : Below W.heap.size W W.drew := drewR (Below.refl _ _)
    generalize W.drew = wn0 at hb0 hHeld ⊢
    refine wpAnyH_take (i := 0) (oi := ({ dst := some 114, op := Op.fieldAddr 23 (Operand.tmp 1) 2, type := 0, pos := "ref.go:159", after := #[], guard := none } : Oper)) (v := ?_) rfl (by kernel_rfl) (by kernel_rfl) (by kernel_rfl) (fun _ _ _ h => h) (Or.inl ⟨by rfl, ?_⟩) (by assumption) ?_
    rotate_left 1
    · intro w hSw
      (try dsimp only at hSw)
      go_simp
      (try with_reducible rfl)
    try simp only [Act.put, List.setIfInBounds_toArray, List.set_cons_zero, List.set_cons_succ]
    refine wpAnyH_take (i := 1) (oi := ({ dst := some 115, op := Op.load 3 (Operand.tmp 114), type := 3, pos := "ref.go:159", after := #[{ on := 0, ground := Ground.data }], guard := none } : Oper)) (v := ?_) rfl (by kernel_rfl) (by kernel_rfl) (by kernel_rfl) (fun _ _ _ h => h) (Or.inl ⟨by rfl, ?_⟩) (by assumption) ?_
    rotate_left 1
    · intro w hSw
      (try dsimp only at hSw)
      go_simp
      (try with_reducible rfl)
    try simp only [Act.put, List.setIfInBounds_toArray, List.set_cons_zero, List.set_cons_succ]
    refine wpAnyH_take (i := 2) (oi := ({ dst := some 116, op := Op.binOp BinOp.add 3 (Operand.const (Value.int IntKind.i64 112)) (Operand.tmp 115) 3, type := 3, pos := "ref.go:159", after := #[{ on := 1, ground := Ground.data }], guard := none } : Oper)) (v := ?_) rfl (by kernel_rfl) (by kernel_rfl) (by kernel_rfl) (fun _ _ _ h => h) (Or.inl ⟨by rfl, ?_⟩) (by assumption) ?_
    rotate_left 1
    · intro w hSw
      (try dsimp only at hSw)
      go_simp
      (try with_reducible rfl)
    try simp only [Act.put, List.setIfInBounds_toArray, List.set_cons_zero, List.set_cons_succ]
    refine wpAnyH_take (i := 3) (oi := ({ dst := some 117, op := Op.convert 3 5 (Operand.tmp 116), type := 5, pos := "ref.go:159", after := #[{ on := 2, ground := Ground.data }], guard := none } : Oper)) (v := ?_) rfl (by kernel_rfl) (by kernel_rfl) (by kernel_rfl) (fun _ _ _ h => h) (Or.inl ⟨by rfl, ?_⟩) (by assumption) ?_
    rotate_left 1
    · intro w hSw
      (try dsimp only at hSw)
      go_simp
      (try with_reducible rfl)
    try simp only [Act.put, List.setIfInBounds_toArray, List.set_cons_zero, List.set_cons_succ]
    refine wpAnyH_take (i := 4) (oi := ({ dst := some 118, op := Op.fieldAddr 23 (Operand.tmp 1) 4, type := 0, pos := "ref.go:159", after := #[], guard := none } : Oper)) (v := ?_) rfl (by kernel_rfl) (by kernel_rfl) (by kernel_rfl) (fun _ _ _ h => h) (Or.inl ⟨by rfl, ?_⟩) (by assumption) ?_
    rotate_left 1
    · intro w hSw
      (try dsimp only at hSw)
      go_simp
      (try with_reducible rfl)
    try simp only [Act.put, List.setIfInBounds_toArray, List.set_cons_zero, List.set_cons_succ]
    refine wpAnyH_take (i := 5) (oi := ({ dst := some 119, op := Op.load 3 (Operand.tmp 118), type := 3, pos := "ref.go:159", after := #[{ on := 4, ground := Ground.data }], guard := none } : Oper)) (v := ?_) rfl (by kernel_rfl) (by kernel_rfl) (by kernel_rfl) (fun _ _ _ h => h) (Or.inl ⟨by rfl, ?_⟩) (by assumption) ?_
    rotate_left 1
    · intro w hSw
      (try dsimp only at hSw)
      go_simp
      (try with_reducible rfl)
    try simp only [Act.put, List.setIfInBounds_toArray, List.set_cons_zero, List.set_cons_succ]
    refine wpAnyH_take (i := 6) (oi := ({ dst := some 120, op := Op.binOp BinOp.and 3 (Operand.tmp 119) (Operand.const (Value.int IntKind.i64 255)) 3, type := 3, pos := "ref.go:159", after := #[{ on := 5, ground := Ground.data }], guard := none } : Oper)) (v := ?_) rfl (by kernel_rfl) (by kernel_rfl) (by kernel_rfl) (fun _ _ _ h => h) (Or.inl ⟨by rfl, ?_⟩) (by assumption) ?_
    rotate_left 1
    · intro w hSw
      (try dsimp only at hSw)
      go_simp
      (try with_reducible rfl)
    try simp only [Act.put, List.setIfInBounds_toArray, List.set_cons_zero, List.set_cons_succ]
    refine wpAnyH_take (i := 7) (oi := ({ dst := some 121, op := Op.convert 3 5 (Operand.tmp 120), type := 5, pos := "ref.go:159", after := #[{ on := 6, ground := Ground.data }], guard := none } : Oper)) (v := ?_) rfl (by kernel_rfl) (by kernel_rfl) (by kernel_rfl) (fun _ _ _ h => h) (Or.inl ⟨by rfl, ?_⟩) (by assumption) ?_
    rotate_left 1
    · intro w hSw
      (try dsimp only at hSw)
      go_simp
      (try with_reducible rfl)
    try simp only [Act.put, List.setIfInBounds_toArray, List.set_cons_zero, List.set_cons_succ]
    refine wpAnyH_take (i := 9) (oi := ({ dst := some 123, op := Op.fieldAddr 23 (Operand.tmp 1) 1, type := 0, pos := "ref.go:159", after := #[], guard := none } : Oper)) (v := ?_) rfl (by kernel_rfl) (by kernel_rfl) (by kernel_rfl) (fun _ _ _ h => h) (Or.inl ⟨by rfl, ?_⟩) (by assumption) ?_
    rotate_left 1
    · intro w hSw
      (try dsimp only at hSw)
      go_simp
      (try with_reducible rfl)
    try simp only [Act.put, List.setIfInBounds_toArray, List.set_cons_zero, List.set_cons_succ]
    refine wpAnyH_take (i := 10) (oi := ({ dst := some 124, op := Op.load 3 (Operand.tmp 123), type := 3, pos := "ref.go:159", after := #[{ on := 9, ground := Ground.data }], guard := none } : Oper)) (v := ?_) rfl (by kernel_rfl) (by kernel_rfl) (by kernel_rfl) (fun _ _ _ h => h) (Or.inl ⟨by rfl, ?_⟩) (by assumption) ?_
    rotate_left 1
    · intro w hSw
      (try dsimp only at hSw)
      go_simp
      (try with_reducible rfl)
    try simp only [Act.put, List.setIfInBounds_toArray, List.set_cons_zero, List.set_cons_succ]
    refine wpAnyH_take (i := 11) (oi := ({ dst := some 125, op := Op.binOp BinOp.eql 3 (Operand.tmp 124) (Operand.const (Value.int IntKind.i64 0)) 3, type := 4, pos := "ref.go:159", after := #[{ on := 10, ground := Ground.data }], guard := none } : Oper)) (v := ?_) rfl (by kernel_rfl) (by kernel_rfl) (by kernel_rfl) (fun _ _ _ h => h) (Or.inl ⟨by rfl, ?_⟩) (by assumption) ?_
    rotate_left 1
    · intro w hSw
      (try dsimp only at hSw)
      go_simp
      (try with_reducible rfl)
    try simp only [Act.put, List.setIfInBounds_toArray, List.set_cons_zero, List.set_cons_succ]
    refine wpAnyH_take (i := 12) (oi := ({ dst := some 126, op := Op.move (Operand.tmp 125), type := 4, pos := "ref.go:159", after := #[{ on := 11, ground := Ground.data }], guard := none } : Oper)) (v := ?_) rfl (by kernel_rfl) (by kernel_rfl) (by kernel_rfl) (fun _ _ _ h => h) (Or.inl ⟨by rfl, ?_⟩) (by assumption) ?_
    rotate_left 1
    · intro w hSw
      (try dsimp only at hSw)
      go_simp
      (try with_reducible rfl)
    try simp only [Act.put, List.setIfInBounds_toArray, List.set_cons_zero, List.set_cons_succ]
    refine wpAnyH_take (i := 13) (oi := ({ dst := some 127, op := Op.fieldAddr 23 (Operand.tmp 1) 2, type := 0, pos := "ref.go:159", after := #[{ on := 12, ground := Ground.guard }], guard := some (12, true) } : Oper)) (v := gv (D0) ?_) rfl (by kernel_rfl) (by kernel_rfl) (by kernel_rfl) (fun _ _ _ h => h) (yieldsIf_guard (g := D0) (wanted_open rfl (by rfl)) ?_) (by assumption) ?_
    rotate_left 1
    · intro hg w hSw
      (try dsimp only at hSw)
      (try simp only [hg])
      clear hg
      go_simp
      (try with_reducible rfl)
    try simp only [Act.put, List.setIfInBounds_toArray, List.set_cons_zero, List.set_cons_succ]
    refine wpAnyH_take (i := 14) (oi := ({ dst := some 128, op := Op.load 3 (Operand.tmp 127), type := 3, pos := "ref.go:159", after := #[{ on := 13, ground := Ground.data }, { on := 12, ground := Ground.guard }], guard := some (12, true) } : Oper)) (v := gv (D0) ?_) rfl (by kernel_rfl) (by kernel_rfl) (by kernel_rfl) (fun _ _ _ h => h) (yieldsIf_guard (g := D0) (wanted_open rfl (by rfl)) ?_) (by assumption) ?_
    rotate_left 1
    · intro hg w hSw
      (try dsimp only at hSw)
      (try simp only [hg, gv_true])
      clear hg
      go_simp
      (try with_reducible rfl)
    try simp only [Act.put, List.setIfInBounds_toArray, List.set_cons_zero, List.set_cons_succ]
    refine wpAnyH_ready (rs := [8, 15]) (by kernel_rfl) (by simp) ?_
    refine (AllReadyH.cons (o := ({ dst := some 122, op := Op.buildSlice 24 2 #[(0, Operand.tmp 117), (1, Operand.tmp 121)], type := 24, pos := "ref.go:159", after := #[{ on := 3, ground := Ground.data }, { on := 7, ground := Ground.data }], guard := none } : Oper)) rfl (fun K hK => ?_) (AllReadyH.cons (o := ({ dst := some 129, op := Op.call { callee := Callee.value (Operand.func 35), args := #[Operand.tmp 128], argTypes := #[3] }, type := 4, pos := "ref.go:159", after := #[{ on := 14, ground := Ground.data }, { on := 12, ground := Ground.chain }, { on := 12, ground := Ground.guard }], guard := some (12, true) } : Oper)) rfl (fun K hK => ?_) AllReadyH.nil))
    · go_simp
      generalize hA15 : World.alloc _ _ = wn15
      have hb15 := below_new hA15 hb0
      have ho15 := own_new2 hA15 hb0
      clear hA15
      refine hK.out _ _ (HS5.out _ hb15) (fun hS15 => ?_)
      refine wpAnyH_ready (rs := [15]) (by kernel_rfl) (by simp) ?_
      refine (AllReadyH.cons (o := ({ dst := some 129, op := Op.call { callee := Callee.value (Operand.func 35), args := #[Operand.tmp 128], argTypes := #[3] }, type := 4, pos := "ref.go:159", after := #[{ on := 14, ground := Ground.data }, { on := 12, ground := Ground.chain }, { on := 12, ground := Ground.guard }], guard := some (12, true) } : Oper)) rfl (fun K hK => ?_) AllReadyH.nil)
      refine guard_event (g := D0) (v := .bool (CS)) (wanted_open rfl (by rfl)) (fun hg K0 hK0 => ?_) ?_
      · (try simp only [hg, gv_true] at hK0 ⊢)
        clear hg
        have HK0 := Lib.hid hK0
        clear hK0
        go_simp
        refine (rIsCond_at _ CS _ HCS.out).mono ?_
        rintro e w' ⟨rfl, rfl⟩
        exact HK0.out
      try simp only [Act.put, List.setIfInBounds_toArray, List.set_cons_zero, List.set_cons_succ]
      refine hK.out _ _ (HS5.out _ hb15) (fun hS16 => ?_)
      refine wpAnyH_take (i := 16) (oi := ({ dst := some 130, op := Op.pick (Operand.tmp 126) (Operand.tmp 129) (Operand.const (Value.bool false)), type := 4, pos := "ref.go:159", after := #[{ on := 12, ground := Ground.data }, { on := 15, ground := Ground.data }], guard := none } : Oper)) (v := .bool (D0 && CS)) rfl (by kernel_rfl) (by kernel_rfl) (by kernel_rfl) (fun _ _ _ h => h) (yieldsIf_and (g := D0) (h := CS) rfl rfl rfl rfl rfl) (by assumption) ?_
      try simp only [Act.put, List.setIfInBounds_toArray, List.set_cons_zero, List.set_cons_succ]
      refine wpAnyH_take (i := 17) (oi := ({ dst := some 131, op := Op.move (Operand.tmp 130), type := 4, pos := "ref.go:159", after := #[{ on := 16, ground := Ground.data }, { on := 15, ground := Ground.chain }], guard := none } : Oper)) (v := ?_) rfl (by kernel_rfl) (by kernel_rfl) (by kernel_rfl) (fun _ _ _ h => h) (Or.inl ⟨by rfl, ?_⟩) (by assumption) ?_
      rotate_left 1
      · intro w hSw
        (try dsimp only at hSw)
        go_simp
        (try with_reducible rfl)
      try simp only [Act.put, List.setIfInBounds_toArray, List.set_cons_zero, List.set_cons_succ]
      refine wpAnyH_take (i := 18) (oi := ({ dst := some 132, op := Op.fieldAddr 23 (Operand.tmp 1) 4, type := 0, pos := "ref.go:159", after := #[{ on := 17, ground := Ground.guard }], guard := some (17, true) } : Oper)) (v := gv ((D0 && CS)) ?_) rfl (by kernel_rfl) (by kernel_rfl) (by kernel_rfl) (fun _ _ _ h => h) (yieldsIf_guard (g := (D0 && CS)) (wanted_open rfl (by rfl)) ?_) (by assumption) ?_
      rotate_left 1
      · intro hg w hSw
        (try dsimp only at hSw)
        (try simp only [hg])
        clear hg
        go_simp
        (try with_reducible rfl)
      try simp only [Act.put, List.setIfInBounds_toArray, List.set_cons_zero, List.set_cons_succ]
      refine wpAnyH_take (i := 19) (oi := ({ dst := some 133, op := Op.load 3 (Operand.tmp 132), type := 3, pos := "ref.go:159", after := #[{ on := 18, ground := Ground.data }, { on := 17, ground := Ground.guard }], guard := some (17, true) } : Oper)) (v := gv ((D0 && CS)) ?_) rfl (by kernel_rfl) (by kernel_rfl) (by kernel_rfl) (fun _ _ _ h => h) (yieldsIf_guard (g := (D0 && CS)) (wanted_open rfl (by rfl)) ?_) (by assumption) ?_
      rotate_left 1
      · intro hg w hSw
        (try dsimp only at hSw)
        (try simp only [hg, gv_true])
        clear hg
        go_simp
        (try with_reducible rfl)
      try simp only [Act.put, List.setIfInBounds_toArray, List.set_cons_zero, List.set_cons_succ]
      refine wpAnyH_ready (rs := [20]) (by kernel_rfl) (by simp) ?_
      refine (AllReadyH.cons (o := ({ dst := some 134, op := Op.call { callee := Callee.value (Operand.func 79), args := #[Operand.tmp 133, Operand.const (Value.int IntKind.i64 8)], argTypes := #[3, 3] }, type := 4, pos := "ref.go:159", after := #[{ on := 19, ground := Ground.data }, { on := 17, ground := Ground.chain }, { on := 17, ground := Ground.guard }], guard := some (17, true) } : Oper)) rfl (fun K hK => ?_) AllReadyH.nil)
      refine guard_event (g := (D0 && CS)) (v := .bool (F8)) (wanted_open rfl (by rfl)) (fun hg K0 hK0 => ?_) ?_
      · (try simp only [hg, gv_true] at hK0 ⊢)
        clear hg
        have HK0 := Lib.hid hK0
        clear hK0
        go_simp
        refine (rBetween8_at _ F8 _ HF8.out).mono ?_
        rintro e w' ⟨rfl, rfl⟩
        exact HK0.out
      try simp only [Act.put, List.setIfInBounds_toArray, List.set_cons_zero, List.set_cons_succ]
      refine hK.out _ _ (HS5.out _ hb15) (fun hS21 => ?_)
      refine wpAnyH_take (i := 21) (oi := ({ dst := some 135, op := Op.pick (Operand.tmp 131) (Operand.tmp 134) (Operand.const (Value.bool false)), type := 4, pos := "ref.go:159", after := #[{ on := 17, ground := Ground.data }, { on := 20, ground := Ground.data }, { on := 22, ground := Ground.gcOnly Departure.lateStores }], guard := none } : Oper)) (v := .bool ((D0 && CS) && F8)) rfl (by kernel_rfl) (by kernel_rfl) (by kernel_rfl) (fun _ _ _ h => h) (yieldsIf_and (g := (D0 && CS)) (h := F8) rfl rfl rfl rfl rfl) (by assumption) ?_
      try simp only [Act.put, List.setIfInBounds_toArray, List.set_cons_zero, List.set_cons_succ]
      refine wpAnyH_take (i := 22) (oi := ({ dst := some 2, op := Op.assign (Operand.tmp 122), type := 24, pos := "ref.go:159", after := #[{ on := 8, ground := Ground.data }, { on := 20, ground := Ground.chain }, { on := 0, ground := Ground.phase }, { on := 1, ground := Ground.phase }, { on := 2, ground := Ground.phase }, { on := 3, ground := Ground.phase }, { on := 4, ground := Ground.phase }, { on := 5, ground := Ground.phase }, { on := 6, ground := Ground.phase }, { on := 7, ground := Ground.phase }, { on := 8, ground := Ground.phase }, { on := 9, ground := Ground.textOnly Departure.lateStores }, { on := 10, ground := Ground.textOnly Departure.lateStores }, { on := 11, ground := Ground.textOnly Departure.lateStores }, { on := 12, ground := Ground.textOnly Departure.lateStores }, { on := 13, ground := Ground.textOnly Departure.lateStores }, { on := 14, ground := Ground.textOnly Departure.lateStores }, { on := 15, ground := Ground.textOnly Departure.lateStoresUnsure }, { on := 16, ground := Ground.textOnly Departure.lateStores }, { on := 17, ground := Ground.textOnly Departure.lateStores }, { on := 18, ground := Ground.textOnly Departure.lateStores }, { on := 19, ground := Ground.textOnly Departure.lateStores }, { on := 20, ground := Ground.textOnly Departure.lateStoresUnsure }, { on := 21, ground := Ground.textOnly Departure.lateStores }], guard := none } : Oper)) (v := ?_) rfl (by kernel_rfl) (by kernel_rfl) (by kernel_rfl) (fun _ _ _ h => h) (Or.inl ⟨by rfl, ?_⟩) (by assumption) ?_
      rotate_left 1
      · intro w hSw
        (try dsimp only at hSw)
        go_simp
        (try with_reducible rfl)
      try simp only [Act.put, List.setIfInBounds_toArray, List.set_cons_zero, List.set_cons_succ]
      refine wpAnyH_take (i := 23) (oi := ({ dst := some 3, op := Op.assign (Operand.tmp 135), type := 4, pos := "ref.go:159", after := #[{ on := 21, ground := Ground.data }, { on := 22, ground := Ground.chain }, { on := 0, ground := Ground.phase }, { on := 1, ground := Ground.phase }, { on := 2, ground := Ground.phase }, { on := 3, ground := Ground.phase }, { on := 4, ground := Ground.phase }, { on := 5, ground := Ground.phase }, { on := 6, ground := Ground.phase }, { on := 7, ground := Ground.phase }, { on := 8, ground := Ground.phase }, { on := 9, ground := Ground.phase }, { on := 10, ground := Ground.phase }, { on := 11, ground := Ground.phase }, { on := 12, ground := Ground.phase }, { on := 13, ground := Ground.phase }, { on := 14, ground := Ground.phase }, { on := 15, ground := Ground.phase }, { on := 16, ground := Ground.phase }, { on := 17, ground := Ground.phase }, { on := 18, ground := Ground.phase }, { on := 19, ground := Ground.phase }, { on := 20, ground := Ground.phase }, { on := 21, ground := Ground.phase }, { on := 22, ground := Ground.phase }], guard := none } : Oper)) (v := ?_) rfl (by kernel_rfl) (by kernel_rfl) (by kernel_rfl) (fun _ _ _ h => h) (Or.inl ⟨by rfl, ?_⟩) (by assumption) ?_
      rotate_left 1
      · intro w hSw
        (try dsimp only at hSw)
        go_simp
        (try with_reducible rfl)
      try simp only [Act.put, List.setIfInBounds_toArray, List.set_cons_zero, List.set_cons_succ]
      refine wpAnyH_done (by kernel_rfl) ?_ _
      go_wp2
      refine bodyPost_ret (res2 rfl _ _) rfl ?_
      refine ⟨_, rfl, fun hB => ?_, hb.trans (hb15.mono (by have := HX.out; omega))⟩
      have tCS := HCS.out.trans (show CS = true by revert hB; cases CS <;> simp)
      have rs := isC_of tCS
      try rw [← byV_append] at ho15
      have e := own_lower (b2 := w.heap.size) ho15 (by have := HX.out; omega)
      rw [show IntKind.u8.wrap (IntKind.i64.wrap (112 + s)) = 112 + s by rw [IntWalk.i64_in _ (by omega), u8_in (by omega) (by omega)]] at e
      exact e
    · refine guard_event (g := D0) (v := .bool (CS)) (wanted_open rfl (by rfl)) (fun hg K0 hK0 => ?_) ?_
      · (try simp only [hg, gv_true] at hK0 ⊢)
        clear hg
        have HK0 := Lib.hid hK0
        clear hK0
        go_simp
        refine (rIsCond_at _ CS _ HCS.out).mono ?_
        rintro e w' ⟨rfl, rfl⟩
        exact HK0.out
      try simp only [Act.put, List.setIfInBounds_toArray, List.set_cons_zero, List.set_cons_succ]
      refine hK.out _ _ (HS5.out _ hb0) (fun hS25 => ?_)
      refine wpAnyH_take (i := 16) (oi := ({ dst := some 130, op := Op.pick (Operand.tmp 126) (Operand.tmp 129) (Operand.const (Value.bool false)), type := 4, pos := "ref.go:159", after := #[{ on := 12, ground := Ground.data }, { on := 15, ground := Ground.data }], guard := none } : Oper)) (v := .bool (D0 && CS)) rfl (by kernel_rfl) (by kernel_rfl) (by kernel_rfl) (fun _ _ _ h => h) (yieldsIf_and (g := D0) (h := CS) rfl rfl rfl rfl rfl) (by assumption) ?_
      try simp only [Act.put, List.setIfInBounds_toArray, List.set_cons_zero, List.set_cons_succ]
      refine wpAnyH_take (i := 17) (oi := ({ dst := some 131, op := Op.move (Operand.tmp 130), type := 4, pos := "ref.go:159", after := #[{ on := 16, ground := Ground.data }, { on := 15, ground := Ground.chain }], guard := none } : Oper)) (v := ?_) rfl (by kernel_rfl) (by kernel_rfl) (by kernel_rfl) (fun _ _ _ h => h) (Or.inl ⟨by rfl, ?_⟩) (by assumption) ?_
      rotate_left 1
      · intro w hSw
        (try dsimp only at hSw)
        go_simp
        (try with_reducible rfl)
      try simp only [Act.put, List.setIfInBounds_toArray, List.set_cons_zero, List.set_cons_succ]
      refine wpAnyH_take (i := 18) (oi := ({ dst := some 132, op := Op.fieldAddr 23 (Operand.tmp 1) 4, type := 0, pos := "ref.go:159", after := #[{ on := 17, ground := Ground.guard }], guard := some (17, true) } : Oper)) (v := gv ((D0 && CS)) ?_) rfl (by kernel_rfl) (by kernel_rfl) (by kernel_rfl) (fun _ _ _ h => h) (yieldsIf_guard (g := (D0 && CS)) (wanted_open rfl (by rfl)) ?_) (by assumption) ?_
      rotate_left 1
      · intro hg w hSw
        (try dsimp only at hSw)
        (try simp only [hg])
        clear hg
        go_simp
        (try with_reducible rfl)
      try simp only [Act.put, List.setIfInBounds_toArray, List.set_cons_zero, List.set_cons_succ]
      refine wpAnyH_take (i := 19) (oi := ({ dst := some 133, op := Op.load 3 (Operand.tmp 132), type := 3, pos := "ref.go:159", after := #[{ on := 18, ground := Ground.data }, { on := 17, ground := Ground.guard }], guard := some (17, true) } : Oper)) (v := gv ((D0 && CS)) ?_) rfl (by kernel_rfl) (by kernel_rfl) (by kernel_rfl) (fun _ _ _ h => h) (yieldsIf_guard (g := (D0 && CS)) (wanted_open rfl (by rfl)) ?_) (by assumption) ?_
      rotate_left 1
      · intro hg w hSw
        (try dsimp only at hSw)
        (try simp only [hg, gv_true])
        clear hg
        go_simp
        (try with_reducible rfl)
      try simp only [Act.put, List.setIfInBounds_toArray, List.set_cons_zero, List.set_cons_succ]
      refine wpAnyH_ready (rs := [8, 20]) (by kernel_rfl) (by simp) ?_
      refine (AllReadyH.cons (o := ({ dst := some 122, op := Op.buildSlice 24 2 #[(0, Operand.tmp 117), (1, Operand.tmp 121)], type := 24, pos := "ref.go:159", after := #[{ on := 3, ground := Ground.data }, { on := 7, ground := Ground.data }], guard := none } : Oper)) rfl (fun K hK => ?_) (AllReadyH.cons (o := ({ dst := some 134, op := Op.call { callee := Callee.value (Operand.func 79), args := #[Operand.tmp 133, Operand.const (Value.int IntKind.i64 8)], argTypes := #[3, 3] }, type := 4, pos := "ref.go:159", after := #[{ on := 19, ground := Ground.data }, { on := 17, ground := Ground.chain }, { on := 17, ground := Ground.guard }], guard := some (17, true) } : Oper)) rfl (fun K hK => ?_) AllReadyH.nil))
      · go_simp
        generalize hA30 : World.alloc _ _ = wn30
        have hb30 := below_new hA30 hb0
        have ho30 := own_new2 hA30 hb0
        clear hA30
        refine hK.out _ _ (HS5.out _ hb30) (fun hS30 => ?_)
        refine wpAnyH_ready (rs := [20]) (by kernel_rfl) (by simp) ?_
        refine (AllReadyH.cons (o := ({ dst := some 134, op := Op.call { callee := Callee.value (Operand.func 79), args := #[Operand.tmp 133, Operand.const (Value.int IntKind.i64 8)], argTypes := #[3, 3] }, type := 4, pos := "ref.go:159", after := #[{ on := 19, ground := Ground.data }, { on := 17, ground := Ground.chain }, { on := 17, ground := Ground.guard }], guard := some (17, true) } : Oper)) rfl (fun K hK => ?_) AllReadyH.nil)
        refine guard_event (g := (D0 && CS)) (v := .bool (F8)) (wanted_open rfl (by rfl)) (fun hg K0 hK0 => ?_) ?_
        · (try simp only [hg, gv_true] at hK0 ⊢)
          clear hg
          have HK0 := Lib.hid hK0
          clear hK0
          go_simp
          refine (rBetween8_at _ F8 _ HF8.out).mono ?_
          rintro e w' ⟨rfl, rfl⟩
          exact HK0.out
        try simp only [Act.put, List.setIfInBounds_toArray, List.set_cons_zero, List.set_cons_succ]
        refine hK.out _ _ (HS5.out _ hb30) (fun hS31 => ?_)
        refine wpAnyH_take (i := 21) (oi := ({ dst := some 135, op := Op.pick (Operand.tmp 131) (Operand.tmp 134) (Operand.const (Value.bool false)), type := 4, pos := "ref.go:159", after := #[{ on := 17, ground := Ground.data }, { on := 20, ground := Ground.data }, { on := 22, ground := Ground.gcOnly Departure.lateStores }], guard := none } : Oper)) (v := .bool ((D0 && CS) && F8)) rfl (by kernel_rfl) (by kernel_rfl) (by kernel_rfl) (fun _ _ _ h => h) (yieldsIf_and (g := (D0 && CS)) (h := F8) rfl rfl rfl rfl rfl) (by assumption) ?_
        try simp only [Act.put, List.setIfInBounds_toArray, List.set_cons_zero, List.set_cons_succ]
        refine wpAnyH_take (i := 22) (oi := ({ dst := some 2, op := Op.assign (Operand.tmp 122), type := 24, pos := "ref.go:159", after := #[{ on := 8, ground := Ground.data }, { on := 20, ground := Ground.chain }, { on := 0, ground := Ground.phase }, { on := 1, ground := Ground.phase }, { on := 2, ground := Ground.phase }, { on := 3, ground := Ground.phase }, { on := 4, ground := Ground.phase }, { on := 5, ground := Ground.phase }, { on := 6, ground := Ground.phase }, { on := 7, ground := Ground.phase }, { on := 8, ground := Ground.phase }, { on := 9, ground := Ground.textOnly Departure.lateStores }, { on := 10, ground := Ground.textOnly Departure.lateStores }, { on := 11, ground := Ground.textOnly Departure.lateStores }, { on := 12, ground := Ground.textOnly Departure.lateStores }, { on := 13, ground := Ground.textOnly Departure.lateStores }, { on := 14, ground := Ground.textOnly Departure.lateStores }, { on := 15, ground := Ground.textOnly Departure.lateStoresUnsure }, { on := 16, ground := Ground.textOnly Departure.lateStores }, { on := 17, ground := Ground.textOnly Departure.lateStores }, { on := 18, ground := Ground.textOnly Departure.lateStores }, { on := 19, ground := Ground.textOnly Departure.lateStores }, { on := 20, ground := Ground.textOnly Departure.lateStoresUnsure }, { on := 21, ground := Ground.textOnly Departure.lateStores }], guard := none } : Oper)) (v := ?_) rfl (by kernel_rfl) (by kernel_rfl) (by kernel_rfl) (fun _ _ _ h => h) (Or.inl ⟨by rfl, ?_⟩) (by assumption) ?_
        rotate_left 1
        · intro w hSw
          (try dsimp only at hSw)
          go_simp
          (try with_reducible rfl)
        try simp only [Act.put, List.setIfInBounds_toArray, List.set_cons_zero, List.set_cons_succ]
        refine wpAnyH_take (i := 23) (oi := ({ dst := some 3, op := Op.assign (Operand.tmp 135), type := 4, pos := "ref.go:159", after := #[{ on := 21, ground := Ground.data }, { on := 22, ground := Ground.chain }, { on := 0, ground := Ground.phase }, { on := 1, ground := Ground.phase }, { on := 2, ground := Ground.phase }, { on := 3, ground := Ground.phase }, { on := 4, ground := Ground.phase }, { on := 5, ground := Ground.phase }, { on := 6, ground := Ground.phase }, { on := 7, ground := Ground.phase }, { on := 8, ground := Ground.phase }, { on := 9, ground := Ground.phase }, { on := 10, ground := Ground.phase }, { on := 11, ground := Ground.phase }, { on := 12, ground := Ground.phase }, { on := 13, ground := Ground.phase }, { on := 14, ground := Ground.phase }, { on := 15, ground := Ground.phase }, { on := 16, ground := Ground.phase }, { on := 17, ground := Ground.phase }, { on := 18, ground := Ground.phase }, { on := 19, ground := Ground.phase }, { on := 20, ground := Ground.phase }, { on := 21, ground := Ground.phase }, { on := 22, ground := Ground.phase }], guard := none } : Oper)) (v := ?_) rfl (by kernel_rfl) (by kernel_rfl) (by kernel_rfl) (fun _ _ _ h => h) (Or.inl ⟨by rfl, ?_⟩) (by assumption) ?_
        rotate_left 1
        · intro w hSw
          (try dsimp only at hSw)
          go_simp
          (try with_reducible rfl)
        try simp only [Act.put, List.setIfInBounds_toArray, List.set_cons_zero, List.set_cons_succ]
        refine wpAnyH_done (by kernel_rfl) ?_ _
        go_wp2
        refine bodyPost_ret (res2 rfl _ _) rfl ?_
        refine ⟨_, rfl, fun hB => ?_, hb.trans (hb30.mono (by have := HX.out; omega))⟩
        have tCS := HCS.out.trans (show CS = true by revert hB; cases CS <;> simp)
        have rs := isC_of tCS
        try rw [← byV_append] at ho30
        have e := own_lower (b2 := w.heap.size) ho30 (by have := HX.out; omega)
        rw [show IntKind.u8.wrap (IntKind.i64.wrap (112 + s)) = 112 + s by rw [IntWalk.i64_in _ (by omega), u8_in (by omega) (by omega)]] at e
        exact e
      · refine guard_event (g := (D0 && CS)) (v := .bool (F8)) (wanted_open rfl (by rfl)) (fun hg K0 hK0 => ?_) ?_
        · (try simp only [hg, gv_true] at hK0 ⊢)
          clear hg
          have HK0 := Lib.hid hK0
          clear hK0
          go_simp
          refine (rBetween8_at _ F8 _ HF8.out).mono ?_
          rintro e w' ⟨rfl, rfl⟩
          exact HK0.out
        try simp only [Act.put, List.setIfInBounds_toArray, List.set_cons_zero, List.set_cons_succ]
        refine hK.out _ _ (HS5.out _ hb0) (fun hS35 => ?_)
        refine wpAnyH_take (i := 21) (oi := ({ dst := some 135, op := Op.pick (Operand.tmp 131) (Operand.tmp 134) (Operand.const (Value.bool false)), type := 4, pos := "ref.go:159", after := #[{ on := 17, ground := Ground.data }, { on := 20, ground := Ground.data }, { on := 22, ground := Ground.gcOnly Departure.lateStores }], guard := none } : Oper)) (v := .bool ((D0 && CS) && F8)) rfl (by kernel_rfl) (by kernel_rfl) (by kernel_rfl) (fun _ _ _ h => h) (yieldsIf_and (g := (D0 && CS)) (h := F8) rfl rfl rfl rfl rfl) (by assumption) ?_
        try simp only [Act.put, List.setIfInBounds_toArray, List.set_cons_zero, List.set_cons_succ]
        refine wpAnyH_ready (rs := [8]) (by kernel_rfl) (by simp) ?_
        refine (AllReadyH.cons (o := ({ dst := some 122, op := Op.buildSlice 24 2 #[(0, Operand.tmp 117), (1, Operand.tmp 121)], type := 24, pos := "ref.go:159", after := #[{ on := 3, ground := Ground.data }, { on := 7, ground := Ground.data }], guard := none } : Oper)) rfl (fun K hK => ?_) AllReadyH.nil)
        go_simp
        generalize hA37 : World.alloc _ _ = wn37
        have hb37 := below_new hA37 hb0
        have ho37 := own_new2 hA37 hb0
        clear hA37
        refine hK.out _ _ (HS5.out _ hb37) (fun hS37 => ?_)
        refine wpAnyH_take (i := 22) (oi := ({ dst := some 2, op := Op.assign (Operand.tmp 122), type := 24, pos := "ref.go:159", after := #[{ on := 8, ground := Ground.data }, { on := 20, ground := Ground.chain }, { on := 0, ground := Ground.phase }, { on := 1, ground := Ground.phase }, { on := 2, ground := Ground.phase }, { on := 3, ground := Ground.phase }, { on := 4, ground := Ground.phase }, { on := 5, ground := Ground.phase }, { on := 6, ground := Ground.phase }, { on := 7, ground := Ground.phase }, { on := 8, ground := Ground.phase }, { on := 9, ground := Ground.textOnly Departure.lateStores }, { on := 10, ground := Ground.textOnly Departure.lateStores }, { on := 11, ground := Ground.textOnly Departure.lateStores }, { on := 12, ground := Ground.textOnly Departure.lateStores }, { on := 13, ground := Ground.textOnly Departure.lateStores }, { on := 14, ground := Ground.textOnly Departure.lateStores }, { on := 15, ground := Ground.textOnly Departure.lateStoresUnsure }, { on := 16, ground := Ground.textOnly Departure.lateStores }, { on := 17, ground := Ground.textOnly Departure.lateStores }, { on := 18, ground := Ground.textOnly Departure.lateStores }, { on := 19, ground := Ground.textOnly Departure.lateStores }, { on := 20, ground := Ground.textOnly Departure.lateStoresUnsure }, { on := 21, ground := Ground.textOnly Departure.lateStores }], guard := none } : Oper)) (v := ?_) rfl (by kernel_rfl) (by kernel_rfl) (by kernel_rfl) (fun _ _ _ h => h) (Or.inl ⟨by rfl, ?_⟩) (by assumption) ?_
        rotate_left 1
        · intro w hSw
          (try dsimp only at hSw)
          go_simp
          (try with_reducible rfl)
        try simp only [Act.put, List.setIfInBounds_toArray, List.set_cons_zero, List.set_cons_succ]
        refine wpAnyH_take (i := 23) (oi := ({ dst := some 3, op := Op.assign (Operand.tmp 135), type := 4, pos := "ref.go:159", after := #[{ on := 21, ground := Ground.data }, { on := 22, ground := Ground.chain }, { on := 0, ground := Ground.phase }, { on := 1, ground := Ground.phase }, { on := 2, ground := Ground.phase }, { on := 3, ground := Ground.phase }, { on := 4, ground := Ground.phase }, { on := 5, ground := Ground.phase }, { on := 6, ground := Ground.phase }, { on := 7, ground := Ground.phase }, { on := 8, ground := Ground.phase }, { on := 9, ground := Ground.phase }, { on := 10, ground := Ground.phase }, { on := 11, ground := Ground.phase }, { on := 12, ground := Ground.phase }, { on := 13, ground := Ground.phase }, { on := 14, ground := Ground.phase }, { on := 15, ground := Ground.phase }, { on := 16, ground := Ground.phase }, { on := 17, ground := Ground.phase }, { on := 18, ground := Ground.phase }, { on := 19, ground := Ground.phase }, { on := 20, ground := Ground.phase }, { on := 21, ground := Ground.phase }, { on := 22, ground := Ground.phase }], guard := none } : Oper)) (v := ?_) rfl (by kernel_rfl) (by kernel_rfl) (by kernel_rfl) (fun _ _ _ h => h) (Or.inl ⟨by rfl, ?_⟩) (by assumption) ?_
        rotate_left 1
        · intro w hSw
          (try dsimp only at hSw)
          go_simp
          (try with_reducible rfl)
        try simp only [Act.put, List.setIfInBounds_toArray, List.set_cons_zero, List.set_cons_succ]
        refine wpAnyH_done (by kernel_rfl) ?_ _
        go_wp2
        refine bodyPost_ret (res2 rfl _ _) rfl ?_
        refine ⟨_, rfl, fun hB => ?_, hb.trans (hb37.mono (by have := HX.out; omega))⟩
        have tCS := HCS.out.trans (show CS = true by revert hB; cases CS <;> simp)
        have rs := isC_of tCS
        try rw [← byV_append] at ho37
        have e := own_lower (b2 := w.heap.size) ho37 (by have := HX.out; omega)
        rw [show IntKind.u8.wrap (IntKind.i64.wrap (112 + s)) = 112 + s by rw [IntWalk.i64_in _ (by omega), u8_in (by omega) (by omega)]] at e
        exact e
set_option maxRecDepth 100000 in
set_option maxHeartbeats 8000000 in
theorem oth_33_8 (d s imm : Int) (w : World) (_ : -9223372036854775808 ≤ imm) (_ : imm ≤ 9223372036854775807) : Calls Try.prog 42 #[aggI ⟨33, d, s, 8, imm⟩] w (REnd w ((((d == 0) && (s == 0)) && isS imm 128)) ([235, imm % 256])) := by
  obtain ⟨i0, hi, hz0, hz1, hz2⟩ := info_parts infoBy
  obtain ⟨D0, hD0⟩ : ∃ b, (d == 0) = b := ⟨_, rfl⟩
  try rw [hD0]
  have HD0 := Lib.hid hD0
  obtain ⟨S0, hS0⟩ : ∃ b, (s == 0) = b := ⟨_, rfl⟩
  try rw [hS0]
  have HS0 := Lib.hid hS0
  obtain ⟨I0, hI0⟩ : ∃ b, (imm == 0) = b := ⟨_, rfl⟩
  try rw [hI0]
  have HI0 := Lib.hid hI0
  obtain ⟨F8, hF8⟩ : ∃ b, isS imm 128 = b := ⟨_, rfl⟩
  try rw [hF8]
  have HF8 := Lib.hid hF8
  clear hF8
  obtain ⟨N, hN⟩ : ∃ b, (((D0 && S0) && I0) && false) = b := ⟨_, rfl⟩
  try rw [hN]
  have HN := Lib.hid hN
  clear hN
  go_enter Try.func42, Try.ntmps42
  go_upto_region 2 with fail
  have hx := heap_alloc_new w (.cells #[.int .i64 33, .int .i64 d, .int .i64 s, .int .i64 8, .int .i64 imm] 23)
  have hb : Below w.heap.size w (w.alloc (.cells #[.int .i64 33, .int .i64 d, .int .i64 s, .int .i64 8, .int .i64 imm] 23)) := (Below.refl _ _).alloc (Nat.le_refl _) _
  generalize World.alloc w _ = W at hx hb ⊢
  obtain ⟨X, hX⟩ : ∃ X, X = w.heap.size := ⟨_, rfl⟩
  rw [← hX] at hx ⊢
  have HX := Lib.hid hX
  have lX := lt_of_block hx
  obtain ⟨x0, x1, x2, x3, x4⟩ := cells5 hx
  have HXX := Lib.hid hx
  clear hX hx
  go_cut [5] from 6 (fun s5 wx => s5 = .bool N ∧ W = wx)
  case first =>
    cases D0
    · go_wp2_with fail
      go_meet
      exact ⟨by rw [← HN.out]; rfl, rfl⟩
    · cases S0
      · go_wp2_with fail
        go_meet
        exact ⟨by rw [← HN.out]; rfl, rfl⟩
      · cases I0
        all_goals
          go_wp2_with fail
          go_meet
          exact ⟨by rw [← HN.out]; rfl, rfl⟩
  case rest =>
    obtain ⟨rfl, rfl⟩ := hcut
    have HS5 := Lib.hid (show ∀ W', Below W.heap.size W W' → (fun W' => W'.cell? ⟨X, 0, none⟩ = some (.int .i64 33) ∧ W'.cell? ⟨X, 1, none⟩ = some (.int .i64 d) ∧ W'.cell? ⟨X, 2, none⟩ = some (.int .i64 s) ∧ W'.cell? ⟨X, 3, none⟩ = some (.int .i64 8) ∧ W'.cell? ⟨X, 4, none⟩ = some (.int .i64 imm)) W' from fun W' h => ⟨(h.cell (p := ⟨X, 0, none⟩) lX).trans x0, (h.cell (p := ⟨X, 1, none⟩) lX).trans x1, (h.cell (p := ⟨X, 2, none⟩) lX).trans x2, (h.cell (p := ⟨X, 3, none⟩) lX).trans x3, (h.cell (p := ⟨X, 4, none⟩) lX).trans x4⟩)
    have hq1 := and255 imm
    have hq2 : IntKind.u8.wrap (imm % 256) = imm % 256 := u8_in (by omega) (by omega)
    go_wp2_with fail
    refine wp_region_held_drew (S := (fun W' => W'.cell? ⟨X, 0, none⟩ = some (.int .i64 33) ∧ W'.cell? ⟨X, 1, none⟩ = some (.int .i64 d) ∧ W'.cell? ⟨X, 2, none⟩ = some (.int .i64 s) ∧ W'.cell? ⟨X, 3, none⟩ = some (.int .i64 8) ∧ W'.cell? ⟨X, 4, none⟩ = some (.int .i64 imm))) (by kernel_rfl) ?_ (fun hHeld => ?_)
    · exact HS5.out _ (drewR (Below.refl _ _))
    have hb0 : Below W.heap.size W W.drew := drewR (Below.refl _ _)
    generalize W.drew = wn0 at hb0 hHeld ⊢
    refine wpAnyH_take (i := 0) (oi := ({ dst := some 166, op := Op.fieldAddr 23 (Operand.tmp 1) 4, type := 0, pos := "ref.go:164", after := #[], guard := none } : Oper)) (v := ?_) rfl (by kernel_rfl) (by kernel_rfl) (by kernel_rfl) (fun _ _ _ h => h) (Or.inl ⟨by rfl, ?_⟩) (by assumption) ?_
    rotate_left 1
    · intro w hSw
      (try dsimp only at hSw)
      go_simp
      (try with_reducible rfl)
    try simp only [Act.put, List.setIfInBounds_toArray, List.set_cons_zero, List.set_cons_succ]
    refine wpAnyH_take (i := 1) (oi := ({ dst := some 167, op := Op.load 3 (Operand.tmp 166), type := 3, pos := "ref.go:164", after := #[{ on := 0, ground := Ground.data }], guard := none } : Oper)) (v := ?_) rfl (by kernel_rfl) (by kernel_rfl) (by kernel_rfl) (fun _ _ _ h => h) (Or.inl ⟨by rfl, ?_⟩) (by assumption) ?_
    rotate_left 1
    · intro w hSw
      (try dsimp only at hSw)
      go_simp
      (try with_reducible rfl)
    try simp only [Act.put, List.setIfInBounds_toArray, List.set_cons_zero, List.set_cons_succ]
    refine wpAnyH_take (i := 2) (oi := ({ dst := some 168, op := Op.binOp BinOp.and 3 (Operand.tmp 167) (Operand.const (Value.int IntKind.i64 255)) 3, type := 3, pos := "ref.go:164", after := #[{ on := 1, ground := Ground.data }], guard := none } : Oper)) (v := ?_) rfl (by kernel_rfl) (by kernel_rfl) (by kernel_rfl) (fun _ _ _ h => h) (Or.inl ⟨by rfl, ?_⟩) (by assumption) ?_
    rotate_left 1
    · intro w hSw
      (try dsimp only at hSw)
      go_simp
      (try with_reducible rfl)
    try simp only [Act.put, List.setIfInBounds_toArray, List.set_cons_zero, List.set_cons_succ]
    refine wpAnyH_take (i := 3) (oi := ({ dst := some 169, op := Op.convert 3 5 (Operand.tmp 168), type := 5, pos := "ref.go:164", after := #[{ on := 2, ground := Ground.data }], guard := none } : Oper)) (v := ?_) rfl (by kernel_rfl) (by kernel_rfl) (by kernel_rfl) (fun _ _ _ h => h) (Or.inl ⟨by rfl, ?_⟩) (by assumption) ?_
    rotate_left 1
    · intro w hSw
      (try dsimp only at hSw)
      go_simp
      (try with_reducible rfl)
    try simp only [Act.put, List.setIfInBounds_toArray, List.set_cons_zero, List.set_cons_succ]
    refine wpAnyH_take (i := 5) (oi := ({ dst := some 171, op := Op.fieldAddr 23 (Operand.tmp 1) 1, type := 0, pos := "ref.go:164", after := #[], guard := none } : Oper)) (v := ?_) rfl (by kernel_rfl) (by kernel_rfl) (by kernel_rfl) (fun _ _ _ h => h) (Or.inl ⟨by rfl, ?_⟩) (by assumption) ?_
    rotate_left 1
    · intro w hSw
      (try dsimp only at hSw)
      go_simp
      (try with_reducible rfl)
    try simp only [Act.put, List.setIfInBounds_toArray, List.set_cons_zero, List.set_cons_succ]
    refine wpAnyH_take (i := 6) (oi := ({ dst := some 172, op := Op.load 3 (Operand.tmp 171), type := 3, pos := "ref.go:164", after := #[{ on := 5, ground := Ground.data }], guard := none } : Oper)) (v := ?_) rfl (by kernel_rfl) (by kernel_rfl) (by kernel_rfl) (fun _ _ _ h => h) (Or.inl ⟨by rfl, ?_⟩) (by assumption) ?_
    rotate_left 1
    · intro w hSw
      (try dsimp only at hSw)
      go_simp
      (try with_reducible rfl)
    try simp only [Act.put, List.setIfInBounds_toArray, List.set_cons_zero, List.set_cons_succ]
    refine wpAnyH_take (i := 7) (oi := ({ dst := some 173, op := Op.binOp BinOp.eql 3 (Operand.tmp 172) (Operand.const (Value.int IntKind.i64 0)) 3, type := 4, pos := "ref.go:164", after := #[{ on := 6, ground := Ground.data }], guard := none } : Oper)) (v := ?_) rfl (by kernel_rfl) (by kernel_rfl) (by kernel_rfl) (fun _ _ _ h => h) (Or.inl ⟨by rfl, ?_⟩) (by assumption) ?_
    rotate_left 1
    · intro w hSw
      (try dsimp only at hSw)
      go_simp
      (try with_reducible rfl)
    try simp only [Act.put, List.setIfInBounds_toArray, List.set_cons_zero, List.set_cons_succ]
    refine wpAnyH_take (i := 8) (oi := ({ dst := some 174, op := Op.move (Operand.tmp 173), type := 4, pos := "ref.go:164", after := #[{ on := 7, ground := Ground.data }], guard := none } : Oper)) (v := ?_) rfl (by kernel_rfl) (by kernel_rfl) (by kernel_rfl) (fun _ _ _ h => h) (Or.inl ⟨by rfl, ?_⟩) (by assumption) ?_
    rotate_left 1
    · intro w hSw
      (try dsimp only at hSw)
      go_simp
      (try with_reducible rfl)
    try simp only [Act.put, List.setIfInBounds_toArray, List.set_cons_zero, List.set_cons_succ]
    refine wpAnyH_take (i := 9) (oi := ({ dst := some 175, op := Op.fieldAddr 23 (Operand.tmp 1) 2, type := 0, pos := "ref.go:164", after := #[{ on := 8, ground := Ground.guard }], guard := some (8, true) } : Oper)) (v := gv (D0) ?_) rfl (by kernel_rfl) (by kernel_rfl) (by kernel_rfl) (fun _ _ _ h => h) (yieldsIf_guard (g := D0) (wanted_open rfl (by rfl)) ?_) (by assumption) ?_
    rotate_left 1
    · intro hg w hSw
      (try dsimp only at hSw)
      (try simp only [hg])
      clear hg
      go_simp
      (try with_reducible rfl)
    try simp only [Act.put, List.setIfInBounds_toArray, List.set_cons_zero, List.set_cons_succ]
    refine wpAnyH_take (i := 10) (oi := ({ dst := some 176, op := Op.load 3 (Operand.tmp 175), type := 3, pos := "ref.go:164", after := #[{ on := 9, ground := Ground.data }, { on := 8, ground := Ground.guard }], guard := some (8, true) } : Oper)) (v := gv (D0) ?_) rfl (by kernel_rfl) (by kernel_rfl) (by kernel_rfl) (fun _ _ _ h => h) (yieldsIf_guard (g := D0) (wanted_open rfl (by rfl)) ?_) (by assumption) ?_
    rotate_left 1
    · intro hg w hSw
      (try dsimp only at hSw)
      (try simp only [hg, gv_true])
      clear hg
      go_simp
      (try with_reducible rfl)
    try simp only [Act.put, List.setIfInBounds_toArray, List.set_cons_zero, List.set_cons_succ]
    refine wpAnyH_take (i := 11) (oi := ({ dst := some 177, op := Op.binOp BinOp.eql 3 (Operand.tmp 176) (Operand.const (Value.int IntKind.i64 0)) 3, type := 4, pos := "ref.go:164", after := #[{ on := 10, ground := Ground.data }, { on := 8, ground := Ground.guard }], guard := some (8, true) } : Oper)) (v := gv (D0) ?_) rfl (by kernel_rfl) (by kernel_rfl) (by kernel_rfl) (fun _ _ _ h => h) (yieldsIf_guard (g := D0) (wanted_open rfl (by rfl)) ?_) (by assumption) ?_
    rotate_left 1
    · intro hg w hSw
      (try dsimp only at hSw)
      (try simp only [hg, gv_true])
      clear hg
      go_simp
      (try with_reducible rfl)
    try simp only [Act.put, List.setIfInBounds_toArray, List.set_cons_zero, List.set_cons_succ]
    refine wpAnyH_take (i := 12) (oi := ({ dst := some 178, op := Op.pick (Operand.tmp 174) (Operand.tmp 177) (Operand.const (Value.bool false)), type := 4, pos := "ref.go:164", after := #[{ on := 8, ground := Ground.data }, { on := 11, ground := Ground.data }], guard := none } : Oper)) (v := .bool (D0 && S0)) rfl (by kernel_rfl) (by kernel_rfl) (by kernel_rfl) (fun _ _ _ h => h) (yieldsIf_and (g := D0) (h := S0) rfl rfl rfl rfl rfl) (by assumption) ?_
    try simp only [Act.put, List.setIfInBounds_toArray, List.set_cons_zero, List.set_cons_succ]
    refine wpAnyH_take (i := 13) (oi := ({ dst := some 179, op := Op.move (Operand.tmp 178), type := 4, pos := "ref.go:164", after := #[{ on := 12, ground := Ground.data }, { on := 8, ground := Ground.chain }], guard := none } : Oper)) (v := ?_) rfl (by kernel_rfl) (by kernel_rfl) (by kernel_rfl) (fun _ _ _ h => h) (Or.inl ⟨by rfl, ?_⟩) (by assumption) ?_
    rotate_left 1
    · intro w hSw
      (try dsimp only at hSw)
      go_simp
      (try with_reducible rfl)
    try simp only [Act.put, List.setIfInBounds_toArray, List.set_cons_zero, List.set_cons_succ]
    refine wpAnyH_take (i := 14) (oi := ({ dst := some 180, op := Op.fieldAddr 23 (Operand.tmp 1) 4, type := 0, pos := "ref.go:164", after := #[{ on := 13, ground := Ground.guard }], guard := some (13, true) } : Oper)) (v := gv ((D0 && S0)) ?_) rfl (by kernel_rfl) (by kernel_rfl) (by kernel_rfl) (fun _ _ _ h => h) (yieldsIf_guard (g := (D0 && S0)) (wanted_open rfl (by rfl)) ?_) (by assumption) ?_
    rotate_left 1
    · intro hg w hSw
      (try dsimp only at hSw)
      (try simp only [hg])
      clear hg
      go_simp
      (try with_reducible rfl)
    try simp only [Act.put, List.setIfInBounds_toArray, List.set_cons_zero, List.set_cons_succ]
    refine wpAnyH_take (i := 15) (oi := ({ dst := some 181, op := Op.load 3 (Operand.tmp 180), type := 3, pos := "ref.go:164", after := #[{ on := 14, ground := Ground.data }, { on := 13, ground := Ground.guard }], guard := some (13, true) } : Oper)) (v := gv ((D0 && S0)) ?_) rfl (by kernel_rfl) (by kernel_rfl) (by kernel_rfl) (fun _ _ _ h => h) (yieldsIf_guard (g := (D0 && S0)) (wanted_open rfl (by rfl)) ?_) (by assumption) ?_
    rotate_left 1
    · intro hg w hSw
      (try dsimp only at hSw)
      (try simp only [hg, gv_true])
      clear hg
      go_simp
      (try with_reducible rfl)
    try simp only [Act.put, List.setIfInBounds_toArray, List.set_cons_zero, List.set_cons_succ]
    refine wpAnyH_ready (rs := [4, 16]) (by kernel_rfl) (by simp) ?_
    refine (AllReadyH.cons (o := ({ dst := some 170, op := Op.buildSlice 24 2 #[(0, Operand.const (Value.int IntKind.u8 235)), (1, Operand.tmp 169)], type := 24, pos := "ref.go:164", after := #[{ on := 3, ground := Ground.data }], guard := none } : Oper)) rfl (fun K hK => ?_) (AllReadyH.cons (o := ({ dst := some 182, op := Op.call { callee := Callee.value (Operand.func 79), args := #[Operand.tmp 181, Operand.const (Value.int IntKind.i64 8)], argTypes := #[3, 3] }, type := 4, pos := "ref.go:164", after := #[{ on := 15, ground := Ground.data }, { on := 13, ground := Ground.chain }, { on := 13, ground := Ground.guard }], guard := some (13, true) } : Oper)) rfl (fun K hK => ?_) AllReadyH.nil))
    · go_simp
      generalize hA16 : World.alloc _ _ = wn16
      have hb16 := below_new hA16 hb0
      have ho16 := own_new2 hA16 hb0
      clear hA16
      refine hK.out _ _ (HS5.out _ hb16) (fun hS16 => ?_)
      refine wpAnyH_ready (rs := [16]) (by kernel_rfl) (by simp) ?_
      refine (AllReadyH.cons (o := ({ dst := some 182, op := Op.call { callee := Callee.value (Operand.func 79), args := #[Operand.tmp 181, Operand.const (Value.int IntKind.i64 8)], argTypes := #[3, 3] }, type := 4, pos := "ref.go:164", after := #[{ on := 15, ground := Ground.data }, { on := 13, ground := Ground.chain }, { on := 13, ground := Ground.guard }], guard := some (13, true) } : Oper)) rfl (fun K hK => ?_) AllReadyH.nil)
      refine guard_event (g := (D0 && S0)) (v := .bool (F8)) (wanted_open rfl (by rfl)) (fun hg K0 hK0 => ?_) ?_
      · (try simp only [hg, gv_true] at hK0 ⊢)
        clear hg
        have HK0 := Lib.hid hK0
        clear hK0
        go_simp
        refine (rBetween8_at _ F8 _ HF8.out).mono ?_
        rintro e w' ⟨rfl, rfl⟩
        exact HK0.out
      try simp only [Act.put, List.setIfInBounds_toArray, List.set_cons_zero, List.set_cons_succ]
      refine hK.out _ _ (HS5.out _ hb16) (fun hS17 => ?_)
      refine wpAnyH_take (i := 17) (oi := ({ dst := some 183, op := Op.pick (Operand.tmp 179) (Operand.tmp 182) (Operand.const (Value.bool false)), type := 4, pos := "ref.go:164", after := #[{ on := 13, ground := Ground.data }, { on := 16, ground := Ground.data }, { on := 18, ground := Ground.gcOnly Departure.lateStores }], guard := none } : Oper)) (v := .bool ((D0 && S0) && F8)) rfl (by kernel_rfl) (by kernel_rfl) (by kernel_rfl) (fun _ _ _ h => h) (yieldsIf_and (g := (D0 && S0)) (h := F8) rfl rfl rfl rfl rfl) (by assumption) ?_
      try simp only [Act.put, List.setIfInBounds_toArray, List.set_cons_zero, List.set_cons_succ]
      refine wpAnyH_take (i := 18) (oi := ({ dst := some 2, op := Op.assign (Operand.tmp 170), type := 24, pos := "ref.go:164", after := #[{ on := 4, ground := Ground.data }, { on := 16, ground := Ground.chain }, { on := 0, ground := Ground.phase }, { on := 1, ground := Ground.phase }, { on := 2, ground := Ground.phase }, { on := 3, ground := Ground.phase }, { on := 4, ground := Ground.phase }, { on := 5, ground := Ground.textOnly Departure.lateStores }, { on := 6, ground := Ground.textOnly Departure.lateStores }, { on := 7, ground := Ground.textOnly Departure.lateStores }, { on := 8, ground := Ground.textOnly Departure.lateStores }, { on := 9, ground := Ground.textOnly Departure.lateStores }, { on := 10, ground := Ground.textOnly Departure.lateStores }, { on := 11, ground := Ground.textOnly Departure.lateStores }, { on := 12, ground := Ground.textOnly Departure.lateStores }, { on := 13, ground := Ground.textOnly Departure.lateStores }, { on := 14, ground := Ground.textOnly Departure.lateStores }, { on := 15, ground := Ground.textOnly Departure.lateStores }, { on := 16, ground := Ground.textOnly Departure.lateStoresUnsure }, { on := 17, ground := Ground.textOnly Departure.lateStores }], guard := none } : Oper)) (v := ?_) rfl (by kernel_rfl) (by kernel_rfl) (by kernel_rfl) (fun _ _ _ h => h) (Or.inl ⟨by rfl, ?_⟩) (by assumption) ?_
      rotate_left 1
      · intro w hSw
        (try dsimp only at hSw)
        go_simp
        (try with_reducible rfl)
      try simp only [Act.put, List.setIfInBounds_toArray, List.set_cons_zero, List.set_cons_succ]
      refine wpAnyH_take (i := 19) (oi := ({ dst := some 3, op := Op.assign (Operand.tmp 183), type := 4, pos := "ref.go:164", after := #[{ on := 17, ground := Ground.data }, { on := 18, ground := Ground.chain }, { on := 0, ground := Ground.phase }, { on := 1, ground := Ground.phase }, { on := 2, ground := Ground.phase }, { on := 3, ground := Ground.phase }, { on := 4, ground := Ground.phase }, { on := 5, ground := Ground.phase }, { on := 6, ground := Ground.phase }, { on := 7, ground := Ground.phase }, { on := 8, ground := Ground.phase }, { on := 9, ground := Ground.phase }, { on := 10, ground := Ground.phase }, { on := 11, ground := Ground.phase }, { on := 12, ground := Ground.phase }, { on := 13, ground := Ground.phase }, { on := 14, ground := Ground.phase }, { on := 15, ground := Ground.phase }, { on := 16, ground := Ground.phase }, { on := 17, ground := Ground.phase }, { on := 18, ground := Ground.phase }], guard := none } : Oper)) (v := ?_) rfl (by kernel_rfl) (by kernel_rfl) (by kernel_rfl) (fun _ _ _ h => h) (Or.inl ⟨by rfl, ?_⟩) (by assumption) ?_
      rotate_left 1
      · intro w hSw
        (try dsimp only at hSw)
        go_simp
        (try with_reducible rfl)
      try simp only [Act.put, List.setIfInBounds_toArray, List.set_cons_zero, List.set_cons_succ]
      refine wpAnyH_done (by kernel_rfl) ?_ _
      go_wp2
      refine bodyPost_ret (res2 rfl _ _) rfl ?_
      refine ⟨_, rfl, fun hB => ?_, hb.trans (hb16.mono (by have := HX.out; omega))⟩
      try rw [← byV_append] at ho16
      have e := own_lower (b2 := w.heap.size) ho16 (by have := HX.out; omega)
      exact e
    · refine guard_event (g := (D0 && S0)) (v := .bool (F8)) (wanted_open rfl (by rfl)) (fun hg K0 hK0 => ?_) ?_
      · (try simp only [hg, gv_true] at hK0 ⊢)
        clear hg
        have HK0 := Lib.hid hK0
        clear hK0
        go_simp
        refine (rBetween8_at _ F8 _ HF8.out).mono ?_
        rintro e w' ⟨rfl, rfl⟩
        exact HK0.out
      try simp only [Act.put, List.setIfInBounds_toArray, List.set_cons_zero, List.set_cons_succ]
      refine hK.out _ _ (HS5.out _ hb0) (fun hS21 => ?_)
      refine wpAnyH_take (i := 17) (oi := ({ dst := some 183, op := Op.pick (Operand.tmp 179) (Operand.tmp 182) (Operand.const (Value.bool false)), type := 4, pos := "ref.go:164", after := #[{ on := 13, ground := Ground.data }, { on := 16, ground := Ground.data }, { on := 18, ground := Ground.gcOnly Departure.lateStores }], guard := none } : Oper)) (v := .bool ((D0 && S0) && F8)) rfl (by kernel_rfl) (by kernel_rfl) (by kernel_rfl) (fun _ _ _ h => h) (yieldsIf_and (g := (D0 && S0)) (h := F8) rfl rfl rfl rfl rfl) (by assumption) ?_
      try simp only [Act.put, List.setIfInBounds_toArray, List.set_cons_zero, List.set_cons_succ]
      refine wpAnyH_ready (rs := [4]) (by kernel_rfl) (by simp) ?_
      refine (AllReadyH.cons (o := ({ dst := some 170, op := Op.buildSlice 24 2 #[(0, Operand.const (Value.int IntKind.u8 235)), (1, Operand.tmp 169)], type := 24, pos := "ref.go:164", after := #[{ on := 3, ground := Ground.data }], guard := none } : Oper)) rfl (fun K hK => ?_) AllReadyH.nil)
      go_simp
      generalize hA23 : World.alloc _ _ = wn23
      have hb23 := below_new hA23 hb0
      have ho23 := own_new2 hA23 hb0
      clear hA23
      refine hK.out _ _ (HS5.out _ hb23) (fun hS23 => ?_)
      refine wpAnyH_take (i := 18) (oi := ({ dst := some 2, op := Op.assign (Operand.tmp 170), type := 24, pos := "ref.go:164", after := #[{ on := 4, ground := Ground.data }, { on := 16, ground := Ground.chain }, { on := 0, ground := Ground.phase }, { on := 1, ground := Ground.phase }, { on := 2, ground := Ground.phase }, { on := 3, ground := Ground.phase }, { on := 4, ground := Ground.phase }, { on := 5, ground := Ground.textOnly Departure.lateStores }, { on := 6, ground := Ground.textOnly Departure.lateStores }, { on := 7, ground := Ground.textOnly Departure.lateStores }, { on := 8, ground := Ground.textOnly Departure.lateStores }, { on := 9, ground := Ground.textOnly Departure.lateStores }, { on := 10, ground := Ground.textOnly Departure.lateStores }, { on := 11, ground := Ground.textOnly Departure.lateStores }, { on := 12, ground := Ground.textOnly Departure.lateStores }, { on := 13, ground := Ground.textOnly Departure.lateStores }, { on := 14, ground := Ground.textOnly Departure.lateStores }, { on := 15, ground := Ground.textOnly Departure.lateStores }, { on := 16, ground := Ground.textOnly Departure.lateStoresUnsure }, { on := 17, ground := Ground.textOnly Departure.lateStores }], guard := none } : Oper)) (v := ?_) rfl (by kernel_rfl) (by kernel_rfl) (by kernel_rfl) (fun _ _ _ h => h) (Or.inl ⟨by rfl, ?_⟩) (by assumption) ?_
      rotate_left 1
      · intro w hSw
        (try dsimp only at hSw)
        go_simp
        (try with_reducible rfl)
      try simp only [Act.put, List.setIfInBounds_toArray, List.set_cons_zero, List.set_cons_succ]
      refine wpAnyH_take (i := 19) (oi := ({ dst := some 3, op := Op.assign (Operand.tmp 183), type := 4, pos := "ref.go:164", after := #[{ on := 17, ground := Ground.data }, { on := 18, ground := Ground.chain }, { on := 0, ground := Ground.phase }, { on := 1, ground := Ground.phase }, { on := 2, ground := Ground.phase }, { on := 3, ground := Ground.phase }, { on := 4, ground := Ground.phase }, { on := 5, ground := Ground.phase }, { on := 6, ground := Ground.phase }, { on := 7, ground := Ground.phase }, { on := 8, ground := Ground.phase }, { on := 9, ground := Ground.phase }, { on := 10, ground := Ground.phase }, { on := 11, ground := Ground.phase }, { on := 12, ground := Ground.phase }, { on := 13, ground := Ground.phase }, { on := 14, ground := Ground.phase }, { on := 15, ground := Ground.phase }, { on := 16, ground := Ground.phase }, { on := 17, ground := Ground.phase }, { on := 18, ground := Ground.phase }], guard := none } : Oper)) (v := ?_) rfl (by kernel_rfl) (by kernel_rfl) (by kernel_rfl) (fun _ _ _ h => h) (Or.inl ⟨by rfl, ?_⟩) (by assumption) ?_
      rotate_left 1
      · intro w hSw
        (try dsimp only at hSw)
        go_simp
        (try with_reducible rfl)
      try simp only [Act.put, List.setIfInBounds_toArray, List.set_cons_zero, List.set_cons_succ]
      refine wpAnyH_done (by kernel_rfl) ?_ _
      go_wp2
      refine bodyPost_ret (res2 rfl _ _) rfl ?_
      refine ⟨_, rfl, fun hB => ?_, hb.trans (hb23.mono (by have := HX.out; omega))⟩
      try rw [← byV_append] at ho23
      have e := own_lower (b2 := w.heap.size) ho23 (by have := HX.out; omega)
      exact e
end Go.Proofs.Ytpekegeohcnhcaa
