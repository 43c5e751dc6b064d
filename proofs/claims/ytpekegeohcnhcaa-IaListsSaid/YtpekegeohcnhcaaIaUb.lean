/-
  The reference: others.
-/
import Derived.Test.YtpekegeohcnhcaaIaGe
namespace Go.Proofs.Ytpekegeohcnhcaa
open Go.RowKit

set_option maxRecDepth 100000 in
set_option maxHeartbeats 8000000 in
theorem oth_29 (d s sz imm : Int) (w : World) (_ : -9223372036854775808 ≤ imm) (_ : imm ≤ 9223372036854775807) : Calls Try.prog 42 #[aggI ⟨29, d, s, sz, imm⟩] w (REnd w (((((sz == 32) && isL d) && isC s) && (imm == 0))) ([15, 144 + s, 192 + 8 * 0 + d])) := by
  obtain ⟨i0, hi, hz0, hz1, hz2⟩ := info_parts infoBy
  obtain ⟨q, hq⟩ : ∃ b, (sz == 32) = b := ⟨_, rfl⟩
  try rw [hq]
  have Hq := Lib.hid hq
  obtain ⟨D0, hD0⟩ : ∃ b, (d == 0) = b := ⟨_, rfl⟩
  try rw [hD0]
  have HD0 := Lib.hid hD0
  obtain ⟨S0, hS0⟩ : ∃ b, (s == 0) = b := ⟨_, rfl⟩
  try rw [hS0]
  have HS0 := Lib.hid hS0
  obtain ⟨I0, hI0⟩ : ∃ b, (imm == 0) = b := ⟨_, rfl⟩
  try rw [hI0]
  have HI0 := Lib.hid hI0
  obtain ⟨LD, hLD⟩ : ∃ b, isL d = b := ⟨_, rfl⟩
  try rw [hLD]
  have HLD := Lib.hid hLD
  clear hLD
  obtain ⟨CS, hCS⟩ : ∃ b, isC s = b := ⟨_, rfl⟩
  try rw [hCS]
  have HCS := Lib.hid hCS
  clear hCS
  obtain ⟨N, hN⟩ : ∃ b, (((D0 && S0) && I0) && q) = b := ⟨_, rfl⟩
  try rw [hN]
  have HN := Lib.hid hN
  clear hN
  go_enter Try.func42, Try.ntmps42
  go_upto_region 2 with fail
  have hx := heap_alloc_new w (.cells #[.int .i64 29, .int .i64 d, .int .i64 s, .int .i64 sz, .int .i64 imm] 23)
  have hb : Below w.heap.size w (w.alloc (.cells #[.int .i64 29, .int .i64 d, .int .i64 s, .int .i64 sz, .int .i64 imm] 23)) := (Below.refl _ _).alloc (Nat.le_refl _) _
  generalize World.alloc w _ = W at hx hb ⊢
  obtain ⟨X, hX⟩ : ∃ X, X = w.heap.size := ⟨_, rfl⟩
  rw [← hX] at hx ⊢
  have HX := Lib.hid hX
  have lX := lt_of_block hx
  obtain ⟨x0, x1, x2, x3, x4⟩ := cells5 hx
  have HXX := Lib.hid hx
  clear hX hx
  go_cut [5] from 6 (fun s5 wx => s5 = .bool N ∧ W = wx)
  case first =>
    cases D0
    · go_wp2_with fail
      go_meet
      exact ⟨by rw [← HN.out]; rfl, rfl⟩
    · cases S0
      · go_wp2_with fail
        go_meet
        exact ⟨by rw [← HN.out]; rfl, rfl⟩
      · cases I0
        all_goals
          go_wp2_with fail
          go_meet
          exact ⟨by rw [← HN.out]; rfl, rfl⟩
  case rest =>
    obtain ⟨rfl, rfl⟩ := hcut
    have HS5 := Lib.hid (show ∀ W', Below W.heap.size W W' → (fun W' => W'.cell? ⟨X, 0, none⟩ = some (.int .i64 29) ∧ W'.cell? ⟨X, 1, none⟩ = some (.int .i64 d) ∧ W'.cell? ⟨X, 2, none⟩ = some (.int .i64 s) ∧ W'.cell? ⟨X, 3, none⟩ = some (.int .i64 sz) ∧ W'.cell? ⟨X, 4, none⟩ = some (.int .i64 imm)) W' from fun W' h => ⟨(h.cell (p := ⟨X, 0, none⟩) lX).trans x0, (h.cell (p := ⟨X, 1, none⟩) lX).trans x1, (h.cell (p := ⟨X, 2, none⟩) lX).trans x2, (h.cell (p := ⟨X, 3, none⟩) lX).trans x3, (h.cell (p := ⟨X, 4, none⟩) lX).trans x4⟩)
    go_wp2_with fail
    refine wp_region_held_drew (S := (fun W' => W'.cell? ⟨X, 0, none⟩ = some (.int .i64 29) ∧ W'.cell? ⟨X, 1, none⟩ = some (.int .i64 d) ∧ W'.cell? ⟨X, 2, none⟩ = some (.int .i64 s) ∧ W'.cell? ⟨X, 3, none⟩ = some (.int .i64 sz) ∧ W'.cell? ⟨X, 4, none⟩ = some (.int .i64 imm))) (by kernel_rfl) ?_ (fun hHeld => ?_)
    · exact HS5.out _ (drewR (Below.refl _ _))
    have hb0 : Below W.heap.size W W.drew := drewR (Below.refl _ _)
    generalize W.drew = wn0 at hb0 hHeld ⊢
    refine wpAnyH_take (i := 0) (oi := ({ dst := some 33, op := Op.fieldAddr 23 (Operand.tmp 1) 2, type := 0, pos := "ref.go:152", after := #[], guard := none } : Oper)) (v := ?_) rfl (by kernel_rfl) (by kernel_rfl) (by kernel_rfl) (fun _ _ _ h => h) (Or.inl ⟨by rfl, ?_⟩) (by assumption) ?_
    rotate_left 1
    · intro w hSw
      (try dsimp only at hSw)
      go_simp
      (try with_reducible rfl)
    try simp only [Act.put, List.setIfInBounds_toArray, List.set_cons_zero, List.set_cons_succ]
    refine wpAnyH_take (i := 1) (oi := ({ dst := some 34, op := Op.load 3 (Operand.tmp 33), type := 3, pos := "ref.go:152", after := #[{ on := 0, ground := Ground.data }], guard := none } : Oper)) (v := ?_) rfl (by kernel_rfl) (by kernel_rfl) (by kernel_rfl) (fun _ _ _ h => h) (Or.inl ⟨by rfl, ?_⟩) (by assumption) ?_
    rotate_left 1
    · intro w hSw
      (try dsimp only at hSw)
      go_simp
      (try with_reducible rfl)
    try simp only [Act.put, List.setIfInBounds_toArray, List.set_cons_zero, List.set_cons_succ]
    refine wpAnyH_take (i := 2) (oi := ({ dst := some 35, op := Op.binOp BinOp.add 3 (Operand.const (Value.int IntKind.i64 144)) (Operand.tmp 34) 3, type := 3, pos := "ref.go:152", after := #[{ on := 1, ground := Ground.data }], guard := none } : Oper)) (v := ?_) rfl (by kernel_rfl) (by kernel_rfl) (by kernel_rfl) (fun _ _ _ h => h) (Or.inl ⟨by rfl, ?_⟩) (by assumption) ?_
    rotate_left 1
    · intro w hSw
      (try dsimp only at hSw)
      go_simp
      (try with_reducible rfl)
    try simp only [Act.put, List.setIfInBounds_toArray, List.set_cons_zero, List.set_cons_succ]
    refine wpAnyH_take (i := 3) (oi := ({ dst := some 36, op := Op.convert 3 5 (Operand.tmp 35), type := 5, pos := "ref.go:152", after := #[{ on := 2, ground := Ground.data }], guard := none } : Oper)) (v := ?_) rfl (by kernel_rfl) (by kernel_rfl) (by kernel_rfl) (fun _ _ _ h => h) (Or.inl ⟨by rfl, ?_⟩) (by assumption) ?_
    rotate_left 1
    · intro w hSw
      (try dsimp only at hSw)
      go_simp
      (try with_reducible rfl)
    try simp only [Act.put, List.setIfInBounds_toArray, List.set_cons_zero, List.set_cons_succ]
    refine wpAnyH_take (i := 4) (oi := ({ dst := some 37, op := Op.fieldAddr 23 (Operand.tmp 1) 1, type := 0, pos := "ref.go:152", after := #[], guard := none } : Oper)) (v := ?_) rfl (by kernel_rfl) (by kernel_rfl) (by kernel_rfl) (fun _ _ _ h => h) (Or.inl ⟨by rfl, ?_⟩) (by assumption) ?_
    rotate_left 1
    · intro w hSw
      (try dsimp only at hSw)
      go_simp
      (try with_reducible rfl)
    try simp only [Act.put, List.setIfInBounds_toArray, List.set_cons_zero, List.set_cons_succ]
    refine wpAnyH_take (i := 5) (oi := ({ dst := some 38, op := Op.load 3 (Operand.tmp 37), type := 3, pos := "ref.go:152", after := #[{ on := 4, ground := Ground.data }], guard := none } : Oper)) (v := ?_) rfl (by kernel_rfl) (by kernel_rfl) (by kernel_rfl) (fun _ _ _ h => h) (Or.inl ⟨by rfl, ?_⟩) (by assumption) ?_
    rotate_left 1
    · intro w hSw
      (try dsimp only at hSw)
      go_simp
      (try with_reducible rfl)
    try simp only [Act.put, List.setIfInBounds_toArray, List.set_cons_zero, List.set_cons_succ]
    refine wpAnyH_take (i := 8) (oi := ({ dst := some 41, op := Op.move (Operand.tmp 4), type := 4, pos := "ref.go:152", after := #[], guard := none } : Oper)) (v := ?_) rfl (by kernel_rfl) (by kernel_rfl) (by kernel_rfl) (fun _ _ _ h => h) (Or.inl ⟨by rfl, ?_⟩) (by assumption) ?_
    rotate_left 1
    · intro w hSw
      (try dsimp only at hSw)
      go_simp
      (try with_reducible rfl)
    try simp only [Act.put, List.setIfInBounds_toArray, List.set_cons_zero, List.set_cons_succ]
    refine wpAnyH_ready (rs := [6]) (by kernel_rfl) (by simp) ?_
    refine (AllReadyH.cons (o := ({ dst := some 39, op := Op.call { callee := Callee.value (Operand.func 80), args := #[Operand.const (Value.int IntKind.i64 0), Operand.tmp 38], argTypes := #[3, 3] }, type := 5, pos := "ref.go:152", after := #[{ on := 5, ground := Ground.data }], guard := none } : Oper)) rfl (fun K hK => ?_) AllReadyH.nil)
    go_simp
    refine (rMr_sym _ _ _).mono ?_
    rintro e w' ⟨v8, rfl, hv8, rfl⟩
    refine hK.out _ _ (HS5.out _ hb0) (fun hS8 => ?_)
    refine wpAnyH_take (i := 9) (oi := ({ dst := some 42, op := Op.move (Operand.tmp 41), type := 4, pos := "ref.go:152", after := #[{ on := 8, ground := Ground.data }, { on := 6, ground := Ground.chain }], guard := none } : Oper)) (v := ?_) rfl (by kernel_rfl) (by kernel_rfl) (by kernel_rfl) (fun _ _ _ h => h) (Or.inl ⟨by rfl, ?_⟩) (by assumption) ?_
    rotate_left 1
    · intro w hSw
      (try dsimp only at hSw)
      go_simp
      (try with_reducible rfl)
    try simp only [Act.put, List.setIfInBounds_toArray, List.set_cons_zero, List.set_cons_succ]
    refine wpAnyH_take (i := 10) (oi := ({ dst := some 43, op := Op.fieldAddr 23 (Operand.tmp 1) 1, type := 0, pos := "ref.go:152", after := #[{ on := 9, ground := Ground.guard }], guard := some (9, true) } : Oper)) (v := gv (q) ?_) rfl (by kernel_rfl) (by kernel_rfl) (by kernel_rfl) (fun _ _ _ h => h) (yieldsIf_guard (g := q) (wanted_open rfl (by rfl)) ?_) (by assumption) ?_
    rotate_left 1
    · intro hg w hSw
      (try dsimp only at hSw)
      (try simp only [hg])
      clear hg
      go_simp
      (try with_reducible rfl)
    try simp only [Act.put, List.setIfInBounds_toArray, List.set_cons_zero, List.set_cons_succ]
    refine wpAnyH_take (i := 11) (oi := ({ dst := some 44, op := Op.load 3 (Operand.tmp 43), type := 3, pos := "ref.go:152", after := #[{ on := 10, ground := Ground.data }, { on := 9, ground := Ground.guard }], guard := some (9, true) } : Oper)) (v := gv (q) ?_) rfl (by kernel_rfl) (by kernel_rfl) (by kernel_rfl) (fun _ _ _ h => h) (yieldsIf_guard (g := q) (wanted_open rfl (by rfl)) ?_) (by assumption) ?_
    rotate_left 1
    · intro hg w hSw
      (try dsimp only at hSw)
      (try simp only [hg, gv_true])
      clear hg
      go_simp
      (try with_reducible rfl)
    try simp only [Act.put, List.setIfInBounds_toArray, List.set_cons_zero, List.set_cons_succ]
    refine wpAnyH_ready (rs := [7, 12]) (by kernel_rfl) (by simp) ?_
    refine (AllReadyH.cons (o := ({ dst := some 40, op := Op.buildSlice 24 3 #[(0, Operand.const (Value.int IntKind.u8 15)), (1, Operand.tmp 36), (2, Operand.tmp 39)], type := 24, pos := "ref.go:152", after := #[{ on := 3, ground := Ground.data }, { on := 6, ground := Ground.data }], guard := none } : Oper)) rfl (fun K hK => ?_) (AllReadyH.cons (o := ({ dst := some 45, op := Op.call { callee := Callee.value (Operand.func 84), args := #[Operand.tmp 44], argTypes := #[3] }, type := 4, pos := "ref.go:152", after := #[{ on := 11, ground := Ground.data }, { on := 9, ground := Ground.chain }, { on := 9, ground := Ground.guard }], guard := some (9, true) } : Oper)) rfl (fun K hK => ?_) AllReadyH.nil))
    · go_simp
      generalize hA12 : World.alloc _ _ = wn12
      have hb12 := below_new hA12 hb0
      have ho12 := own_new3 hA12 hb0
      clear hA12
      refine hK.out _ _ (HS5.out _ hb12) (fun hS12 => ?_)
      refine wpAnyH_ready (rs := [12]) (by kernel_rfl) (by simp) ?_
      refine (AllReadyH.cons (o := ({ dst := some 45, op := Op.call { callee := Callee.value (Operand.func 84), args := #[Operand.tmp 44], argTypes := #[3] }, type := 4, pos := "ref.go:152", after := #[{ on := 11, ground := Ground.data }, { on := 9, ground := Ground.chain }, { on := 9, ground := Ground.guard }], guard := some (9, true) } : Oper)) rfl (fun K hK => ?_) AllReadyH.nil)
      refine guard_event (g := q) (v := .bool (LD)) (wanted_open rfl (by rfl)) (fun hg K0 hK0 => ?_) ?_
      · (try simp only [hg, gv_true] at hK0 ⊢)
        clear hg
        have HK0 := Lib.hid hK0
        clear hK0
        go_simp
        refine (rLow_at _ LD _ HLD.out).mono ?_
        rintro e w' ⟨rfl, rfl⟩
        exact HK0.out
      try simp only [Act.put, List.setIfInBounds_toArray, List.set_cons_zero, List.set_cons_succ]
      refine hK.out _ _ (HS5.out _ hb12) (fun hS13 => ?_)
      refine wpAnyH_take (i := 13) (oi := ({ dst := some 46, op := Op.pick (Operand.tmp 42) (Operand.tmp 45) (Operand.const (Value.bool false)), type := 4, pos := "ref.go:152", after := #[{ on := 9, ground := Ground.data }, { on := 12, ground := Ground.data }], guard := none } : Oper)) (v := .bool (q && LD)) rfl (by kernel_rfl) (by kernel_rfl) (by kernel_rfl) (fun _ _ _ h => h) (yieldsIf_and (g := q) (h := LD) rfl rfl rfl rfl rfl) (by assumption) ?_
      try simp only [Act.put, List.setIfInBounds_toArray, List.set_cons_zero, List.set_cons_succ]
      refine wpAnyH_take (i := 14) (oi := ({ dst := some 47, op := Op.move (Operand.tmp 46), type := 4, pos := "ref.go:152", after := #[{ on := 13, ground := Ground.data }, { on := 12, ground := Ground.chain }], guard := none } : Oper)) (v := ?_) rfl (by kernel_rfl) (by kernel_rfl) (by kernel_rfl) (fun _ _ _ h => h) (Or.inl ⟨by rfl, ?_⟩) (by assumption) ?_
      rotate_left 1
      · intro w hSw
        (try dsimp only at hSw)
        go_simp
        (try with_reducible rfl)
      try simp only [Act.put, List.setIfInBounds_toArray, List.set_cons_zero, List.set_cons_succ]
      refine wpAnyH_take (i := 15) (oi := ({ dst := some 48, op := Op.fieldAddr 23 (Operand.tmp 1) 2, type := 0, pos := "ref.go:152", after := #[{ on := 14, ground := Ground.guard }], guard := some (14, true) } : Oper)) (v := gv ((q && LD)) ?_) rfl (by kernel_rfl) (by kernel_rfl) (by kernel_rfl) (fun _ _ _ h => h) (yieldsIf_guard (g := (q && LD)) (wanted_open rfl (by rfl)) ?_) (by assumption) ?_
      rotate_left 1
      · intro hg w hSw
        (try dsimp only at hSw)
        (try simp only [hg])
        clear hg
        go_simp
        (try with_reducible rfl)
      try simp only [Act.put, List.setIfInBounds_toArray, List.set_cons_zero, List.set_cons_succ]
      refine wpAnyH_take (i := 16) (oi := ({ dst := some 49, op := Op.load 3 (Operand.tmp 48), type := 3, pos := "ref.go:152", after := #[{ on := 15, ground := Ground.data }, { on := 14, ground := Ground.guard }], guard := some (14, true) } : Oper)) (v := gv ((q && LD)) ?_) rfl (by kernel_rfl) (by kernel_rfl) (by kernel_rfl) (fun _ _ _ h => h) (yieldsIf_guard (g := (q && LD)) (wanted_open rfl (by rfl)) ?_) (by assumption) ?_
      rotate_left 1
      · intro hg w hSw
        (try dsimp only at hSw)
        (try simp only [hg, gv_true])
        clear hg
        go_simp
        (try with_reducible rfl)
      try simp only [Act.put, List.setIfInBounds_toArray, List.set_cons_zero, List.set_cons_succ]
      refine wpAnyH_ready (rs := [17]) (by kernel_rfl) (by simp) ?_
      refine (AllReadyH.cons (o := ({ dst := some 50, op := Op.call { callee := Callee.value (Operand.func 35), args := #[Operand.tmp 49], argTypes := #[3] }, type := 4, pos := "ref.go:152", after := #[{ on := 16, ground := Ground.data }, { on := 14, ground := Ground.chain }, { on := 14, ground := Ground.guard }], guard := some (14, true) } : Oper)) rfl (fun K hK => ?_) AllReadyH.nil)
      refine guard_event (g := (q && LD)) (v := .bool (CS)) (wanted_open rfl (by rfl)) (fun hg K0 hK0 => ?_) ?_
      · (try simp only [hg, gv_true] at hK0 ⊢)
        clear hg
        have HK0 := Lib.hid hK0
        clear hK0
        go_simp
        refine (rIsCond_at _ CS _ HCS.out).mono ?_
        rintro e w' ⟨rfl, rfl⟩
        exact HK0.out
      try simp only [Act.put, List.setIfInBounds_toArray, List.set_cons_zero, List.set_cons_succ]
      refine hK.out _ _ (HS5.out _ hb12) (fun hS18 => ?_)
      refine wpAnyH_take (i := 18) (oi := ({ dst := some 51, op := Op.pick (Operand.tmp 47) (Operand.tmp 50) (Operand.const (Value.bool false)), type := 4, pos := "ref.go:152", after := #[{ on := 14, ground := Ground.data }, { on := 17, ground := Ground.data }], guard := none } : Oper)) (v := .bool ((q && LD) && CS)) rfl (by kernel_rfl) (by kernel_rfl) (by kernel_rfl) (fun _ _ _ h => h) (yieldsIf_and (g := (q && LD)) (h := CS) rfl rfl rfl rfl rfl) (by assumption) ?_
      try simp only [Act.put, List.setIfInBounds_toArray, List.set_cons_zero, List.set_cons_succ]
      refine wpAnyH_take (i := 19) (oi := ({ dst := some 52, op := Op.move (Operand.tmp 51), type := 4, pos := "ref.go:152", after := #[{ on := 18, ground := Ground.data }, { on := 17, ground := Ground.chain }], guard := none } : Oper)) (v := ?_) rfl (by kernel_rfl) (by kernel_rfl) (by kernel_rfl) (fun _ _ _ h => h) (Or.inl ⟨by rfl, ?_⟩) (by assumption) ?_
      rotate_left 1
      · intro w hSw
        (try dsimp only at hSw)
        go_simp
        (try with_reducible rfl)
      try simp only [Act.put, List.setIfInBounds_toArray, List.set_cons_zero, List.set_cons_succ]
      refine wpAnyH_take (i := 20) (oi := ({ dst := some 53, op := Op.fieldAddr 23 (Operand.tmp 1) 4, type := 0, pos := "ref.go:152", after := #[{ on := 19, ground := Ground.guard }, { on := 24, ground := Ground.gcOnly Departure.lateStores }], guard := some (19, true) } : Oper)) (v := gv (((q && LD) && CS)) ?_) rfl (by kernel_rfl) (by kernel_rfl) (by kernel_rfl) (fun _ _ _ h => h) (yieldsIf_guard (g := ((q && LD) && CS)) (wanted_open rfl (by rfl)) ?_) (by assumption) ?_
      rotate_left 1
      · intro hg w hSw
        (try dsimp only at hSw)
        (try simp only [hg])
        clear hg
        go_simp
        (try with_reducible rfl)
      try simp only [Act.put, List.setIfInBounds_toArray, List.set_cons_zero, List.set_cons_succ]
      refine wpAnyH_take (i := 21) (oi := ({ dst := some 54, op := Op.load 3 (Operand.tmp 53), type := 3, pos := "ref.go:152", after := #[{ on := 20, ground := Ground.data }, { on := 19, ground := Ground.guard }, { on := 24, ground := Ground.gcOnly Departure.lateStores }], guard := some (19, true) } : Oper)) (v := gv (((q && LD) && CS)) ?_) rfl (by kernel_rfl) (by kernel_rfl) (by kernel_rfl) (fun _ _ _ h => h) (yieldsIf_guard (g := ((q && LD) && CS)) (wanted_open rfl (by rfl)) ?_) (by assumption) ?_
      rotate_left 1
      · intro hg w hSw
        (try dsimp only at hSw)
        (try simp only [hg, gv_true])
        clear hg
        go_simp
        (try with_reducible rfl)
      try simp only [Act.put, List.setIfInBounds_toArray, List.set_cons_zero, List.set_cons_succ]
      refine wpAnyH_take (i := 22) (oi := ({ dst := some 55, op := Op.binOp BinOp.eql 3 (Operand.tmp 54) (Operand.const (Value.int IntKind.i64 0)) 3, type := 4, pos := "ref.go:152", after := #[{ on := 21, ground := Ground.data }, { on := 19, ground := Ground.guard }, { on := 24, ground := Ground.gcOnly Departure.lateStores }], guard := some (19, true) } : Oper)) (v := gv (((q && LD) && CS)) ?_) rfl (by kernel_rfl) (by kernel_rfl) (by kernel_rfl) (fun _ _ _ h => h) (yieldsIf_guard (g := ((q && LD) && CS)) (wanted_open rfl (by rfl)) ?_) (by assumption) ?_
      rotate_left 1
      · intro hg w hSw
        (try dsimp only at hSw)
        (try simp only [hg, gv_true])
        clear hg
        go_simp
        (try with_reducible rfl)
      try simp only [Act.put, List.setIfInBounds_toArray, List.set_cons_zero, List.set_cons_succ]
      refine wpAnyH_take (i := 23) (oi := ({ dst := some 56, op := Op.pick (Operand.tmp 52) (Operand.tmp 55) (Operand.const (Value.bool false)), type := 4, pos := "ref.go:152", after := #[{ on := 19, ground := Ground.data }, { on := 22, ground := Ground.data }, { on := 24, ground := Ground.gcOnly Departure.lateStores }], guard := none } : Oper)) (v := .bool (((q && LD) && CS) && I0)) rfl (by kernel_rfl) (by kernel_rfl) (by kernel_rfl) (fun _ _ _ h => h) (yieldsIf_and (g := ((q && LD) && CS)) (h := I0) rfl rfl rfl rfl rfl) (by assumption) ?_
      try simp only [Act.put, List.setIfInBounds_toArray, List.set_cons_zero, List.set_cons_succ]
      refine wpAnyH_take (i := 24) (oi := ({ dst := some 2, op := Op.assign (Operand.tmp 40), type := 24, pos := "ref.go:152", after := #[{ on := 7, ground := Ground.data }, { on := 19, ground := Ground.chain }, { on := 0, ground := Ground.phase }, { on := 1, ground := Ground.phase }, { on := 2, ground := Ground.phase }, { on := 3, ground := Ground.phase }, { on := 4, ground := Ground.phase }, { on := 5, ground := Ground.phase }, { on := 6, ground := Ground.phase }, { on := 7, ground := Ground.phase }, { on := 8, ground := Ground.textOnly Departure.lateStores }, { on := 9, ground := Ground.textOnly Departure.lateStores }, { on := 10, ground := Ground.textOnly Departure.lateStores }, { on := 11, ground := Ground.textOnly Departure.lateStores }, { on := 12, ground := Ground.textOnly Departure.lateStoresUnsure }, { on := 13, ground := Ground.textOnly Departure.lateStores }, { on := 14, ground := Ground.textOnly Departure.lateStores }, { on := 15, ground := Ground.textOnly Departure.lateStores }, { on := 16, ground := Ground.textOnly Departure.lateStores }, { on := 17, ground := Ground.textOnly Departure.lateStoresUnsure }, { on := 18, ground := Ground.textOnly Departure.lateStores }, { on := 19, ground := Ground.textOnly Departure.lateStores }, { on := 20, ground := Ground.textOnly Departure.lateStores }, { on := 21, ground := Ground.textOnly Departure.lateStores }, { on := 22, ground := Ground.textOnly Departure.lateStores }, { on := 23, ground := Ground.textOnly Departure.lateStores }], guard := none } : Oper)) (v := ?_) rfl (by kernel_rfl) (by kernel_rfl) (by kernel_rfl) (fun _ _ _ h => h) (Or.inl ⟨by rfl, ?_⟩) (by assumption) ?_
      rotate_left 1
      · intro w hSw
        (try dsimp only at hSw)
        go_simp
        (try with_reducible rfl)
      try simp only [Act.put, List.setIfInBounds_toArray, List.set_cons_zero, List.set_cons_succ]
      refine wpAnyH_take (i := 25) (oi := ({ dst := some 3, op := Op.assign (Operand.tmp 56), type := 4, pos := "ref.go:152", after := #[{ on := 23, ground := Ground.data }, { on := 24, ground := Ground.chain }, { on := 0, ground := Ground.phase }, { on := 1, ground := Ground.phase }, { on := 2, ground := Ground.phase }, { on := 3, ground := Ground.phase }, { on := 4, ground := Ground.phase }, { on := 5, ground := Ground.phase }, { on := 6, ground := Ground.phase }, { on := 7, ground := Ground.phase }, { on := 8, ground := Ground.phase }, { on := 9, ground := Ground.phase }, { on := 10, ground := Ground.phase }, { on := 11, ground := Ground.phase }, { on := 12, ground := Ground.phase }, { on := 13, ground := Ground.phase }, { on := 14, ground := Ground.phase }, { on := 15, ground := Ground.phase }, { on := 16, ground := Ground.phase }, { on := 17, ground := Ground.phase }, { on := 18, ground := Ground.phase }, { on := 19, ground := Ground.phase }, { on := 20, ground := Ground.phase }, { on := 21, ground := Ground.phase }, { on := 22, ground := Ground.phase }, { on := 23, ground := Ground.phase }, { on := 24, ground := Ground.phase }], guard := none } : Oper)) (v := ?_) rfl (by kernel_rfl) (by kernel_rfl) (by kernel_rfl) (fun _ _ _ h => h) (Or.inl ⟨by rfl, ?_⟩) (by assumption) ?_
      rotate_left 1
      · intro w hSw
        (try dsimp only at hSw)
        go_simp
        (try with_reducible rfl)
      try simp only [Act.put, List.setIfInBounds_toArray, List.set_cons_zero, List.set_cons_succ]
      refine wpAnyH_done (by kernel_rfl) ?_ _
      go_wp2
      refine bodyPost_ret (res2 rfl _ _) rfl ?_
      refine ⟨_, rfl, fun hB => ?_, hb.trans (hb12.mono (by have := HX.out; omega))⟩
      have tLD := HLD.out.trans (show LD = true by revert hB; cases LD <;> simp)
      have tCS := HCS.out.trans (show CS = true by revert hB; cases CS <;> simp)
      have rs := isC_of tCS
      have rd : isR d = true := decide_eq_true (by have := isL_of tLD; omega)
      try rw [← byV_append] at ho12
      have e := own_lower (b2 := w.heap.size) ho12 (by have := HX.out; omega)
      rw [hv8.out (by decide) rd] at e
      rw [show IntKind.u8.wrap (IntKind.i64.wrap (144 + s)) = 144 + s by rw [IntWalk.i64_in _ (by omega), u8_in (by omega) (by omega)]] at e
      exact e
    · refine guard_event (g := q) (v := .bool (LD)) (wanted_open rfl (by rfl)) (fun hg K0 hK0 => ?_) ?_
      · (try simp only [hg, gv_true] at hK0 ⊢)
        clear hg
        have HK0 := Lib.hid hK0
        clear hK0
        go_simp
        refine (rLow_at _ LD _ HLD.out).mono ?_
        rintro e w' ⟨rfl, rfl⟩
        exact HK0.out
      try simp only [Act.put, List.setIfInBounds_toArray, List.set_cons_zero, List.set_cons_succ]
      refine hK.out _ _ (HS5.out _ hb0) (fun hS27 => ?_)
      refine wpAnyH_take (i := 13) (oi := ({ dst := some 46, op := Op.pick (Operand.tmp 42) (Operand.tmp 45) (Operand.const (Value.bool false)), type := 4, pos := "ref.go:152", after := #[{ on := 9, ground := Ground.data }, { on := 12, ground := Ground.data }], guard := none } : Oper)) (v := .bool (q && LD)) rfl (by kernel_rfl) (by kernel_rfl) (by kernel_rfl) (fun _ _ _ h => h) (yieldsIf_and (g := q) (h := LD) rfl rfl rfl rfl rfl) (by assumption) ?_
      try simp only [Act.put, List.setIfInBounds_toArray, List.set_cons_zero, List.set_cons_succ]
      refine wpAnyH_take (i := 14) (oi := ({ dst := some 47, op := Op.move (Operand.tmp 46), type := 4, pos := "ref.go:152", after := #[{ on := 13, ground := Ground.data }, { on := 12, ground := Ground.chain }], guard := none } : Oper)) (v := ?_) rfl (by kernel_rfl) (by kernel_rfl) (by kernel_rfl) (fun _ _ _ h => h) (Or.inl ⟨by rfl, ?_⟩) (by assumption) ?_
      rotate_left 1
      · intro w hSw
        (try dsimp only at hSw)
        go_simp
        (try with_reducible rfl)
      try simp only [Act.put, List.setIfInBounds_toArray, List.set_cons_zero, List.set_cons_succ]
      refine wpAnyH_take (i := 15) (oi := ({ dst := some 48, op := Op.fieldAddr 23 (Operand.tmp 1) 2, type := 0, pos := "ref.go:152", after := #[{ on := 14, ground := Ground.guard }], guard := some (14, true) } : Oper)) (v := gv ((q && LD)) ?_) rfl (by kernel_rfl) (by kernel_rfl) (by kernel_rfl) (fun _ _ _ h => h) (yieldsIf_guard (g := (q && LD)) (wanted_open rfl (by rfl)) ?_) (by assumption) ?_
      rotate_left 1
      · intro hg w hSw
        (try dsimp only at hSw)
        (try simp only [hg])
        clear hg
        go_simp
        (try with_reducible rfl)
      try simp only [Act.put, List.setIfInBounds_toArray, List.set_cons_zero, List.set_cons_succ]
      refine wpAnyH_take (i := 16) (oi := ({ dst := some 49, op := Op.load 3 (Operand.tmp 48), type := 3, pos := "ref.go:152", after := #[{ on := 15, ground := Ground.data }, { on := 14, ground := Ground.guard }], guard := some (14, true) } : Oper)) (v := gv ((q && LD)) ?_) rfl (by kernel_rfl) (by kernel_rfl) (by kernel_rfl) (fun _ _ _ h => h) (yieldsIf_guard (g := (q && LD)) (wanted_open rfl (by rfl)) ?_) (by assumption) ?_
      rotate_left 1
      · intro hg w hSw
        (try dsimp only at hSw)
        (try simp only [hg, gv_true])
        clear hg
        go_simp
        (try with_reducible rfl)
      try simp only [Act.put, List.setIfInBounds_toArray, List.set_cons_zero, List.set_cons_succ]
      refine wpAnyH_ready (rs := [7, 17]) (by kernel_rfl) (by simp) ?_
      refine (AllReadyH.cons (o := ({ dst := some 40, op := Op.buildSlice 24 3 #[(0, Operand.const (Value.int IntKind.u8 15)), (1, Operand.tmp 36), (2, Operand.tmp 39)], type := 24, pos := "ref.go:152", after := #[{ on := 3, ground := Ground.data }, { on := 6, ground := Ground.data }], guard := none } : Oper)) rfl (fun K hK => ?_) (AllReadyH.cons (o := ({ dst := some 50, op := Op.call { callee := Callee.value (Operand.func 35), args := #[Operand.tmp 49], argTypes := #[3] }, type := 4, pos := "ref.go:152", after := #[{ on := 16, ground := Ground.data }, { on := 14, ground := Ground.chain }, { on := 14, ground := Ground.guard }], guard := some (14, true) } : Oper)) rfl (fun K hK => ?_) AllReadyH.nil))
      · go_simp
        generalize hA32 : World.alloc _ _ = wn32
        have hb32 := below_new hA32 hb0
        have ho32 := own_new3 hA32 hb0
        clear hA32
        refine hK.out _ _ (HS5.out _ hb32) (fun hS32 => ?_)
        refine wpAnyH_ready (rs := [17]) (by kernel_rfl) (by simp) ?_
        refine (AllReadyH.cons (o := ({ dst := some 50, op := Op.call { callee := Callee.value (Operand.func 35), args := #[Operand.tmp 49], argTypes := #[3] }, type := 4, pos := "ref.go:152", after := #[{ on := 16, ground := Ground.data }, { on := 14, ground := Ground.chain }, { on := 14, ground := Ground.guard }], guard := some (14, true) } : Oper)) rfl (fun K hK => ?_) AllReadyH.nil)
        refine guard_event (g := (q && LD)) (v := .bool (CS)) (wanted_open rfl (by rfl)) (fun hg K0 hK0 => ?_) ?_
        · (try simp only [hg, gv_true] at hK0 ⊢)
          clear hg
          have HK0 := Lib.hid hK0
          clear hK0
          go_simp
          refine (rIsCond_at _ CS _ HCS.out).mono ?_
          rintro e w' ⟨rfl, rfl⟩
          exact HK0.out
        try simp only [Act.put, List.setIfInBounds_toArray, List.set_cons_zero, List.set_cons_succ]
        refine hK.out _ _ (HS5.out _ hb32) (fun hS33 => ?_)
        refine wpAnyH_take (i := 18) (oi := ({ dst := some 51, op := Op.pick (Operand.tmp 47) (Operand.tmp 50) (Operand.const (Value.bool false)), type := 4, pos := "ref.go:152", after := #[{ on := 14, ground := Ground.data }, { on := 17, ground := Ground.data }], guard := none } : Oper)) (v := .bool ((q && LD) && CS)) rfl (by kernel_rfl) (by kernel_rfl) (by kernel_rfl) (fun _ _ _ h => h) (yieldsIf_and (g := (q && LD)) (h := CS) rfl rfl rfl rfl rfl) (by assumption) ?_
        try simp only [Act.put, List.setIfInBounds_toArray, List.set_cons_zero, List.set_cons_succ]
        refine wpAnyH_take (i := 19) (oi := ({ dst := some 52, op := Op.move (Operand.tmp 51), type := 4, pos := "ref.go:152", after := #[{ on := 18, ground := Ground.data }, { on := 17, ground := Ground.chain }], guard := none } : Oper)) (v := ?_) rfl (by kernel_rfl) (by kernel_rfl) (by kernel_rfl) (fun _ _ _ h => h) (Or.inl ⟨by rfl, ?_⟩) (by assumption) ?_
        rotate_left 1
        · intro w hSw
          (try dsimp only at hSw)
          go_simp
          (try with_reducible rfl)
        try simp only [Act.put, List.setIfInBounds_toArray, List.set_cons_zero, List.set_cons_succ]
        refine wpAnyH_take (i := 20) (oi := ({ dst := some 53, op := Op.fieldAddr 23 (Operand.tmp 1) 4, type := 0, pos := "ref.go:152", after := #[{ on := 19, ground := Ground.guard }, { on := 24, ground := Ground.gcOnly Departure.lateStores }], guard := some (19, true) } : Oper)) (v := gv (((q && LD) && CS)) ?_) rfl (by kernel_rfl) (by kernel_rfl) (by kernel_rfl) (fun _ _ _ h => h) (yieldsIf_guard (g := ((q && LD) && CS)) (wanted_open rfl (by rfl)) ?_) (by assumption) ?_
        rotate_left 1
        · intro hg w hSw
          (try dsimp only at hSw)
          (try simp only [hg])
          clear hg
          go_simp
          (try with_reducible rfl)
        try simp only [Act.put, List.setIfInBounds_toArray, List.set_cons_zero, List.set_cons_succ]
        refine wpAnyH_take (i := 21) (oi := ({ dst := some 54, op := Op.load 3 (Operand.tmp 53), type := 3, pos := "ref.go:152", after := #[{ on := 20, ground := Ground.data }, { on := 19, ground := Ground.guard }, { on := 24, ground := Ground.gcOnly Departure.lateStores }], guard := some (19, true) } : Oper)) (v := gv (((q && LD) && CS)) ?_) rfl (by kernel_rfl) (by kernel_rfl) (by kernel_rfl) (fun _ _ _ h => h) (yieldsIf_guard (g := ((q && LD) && CS)) (wanted_open rfl (by rfl)) ?_) (by assumption) ?_
        rotate_left 1
        · intro hg w hSw
          (try dsimp only at hSw)
          (try simp only [hg, gv_true])
          clear hg
          go_simp
          (try with_reducible rfl)
        try simp only [Act.put, List.setIfInBounds_toArray, List.set_cons_zero, List.set_cons_succ]
        refine wpAnyH_take (i := 22) (oi := ({ dst := some 55, op := Op.binOp BinOp.eql 3 (Operand.tmp 54) (Operand.const (Value.int IntKind.i64 0)) 3, type := 4, pos := "ref.go:152", after := #[{ on := 21, ground := Ground.data }, { on := 19, ground := Ground.guard }, { on := 24, ground := Ground.gcOnly Departure.lateStores }], guard := some (19, true) } : Oper)) (v := gv (((q && LD) && CS)) ?_) rfl (by kernel_rfl) (by kernel_rfl) (by kernel_rfl) (fun _ _ _ h => h) (yieldsIf_guard (g := ((q && LD) && CS)) (wanted_open rfl (by rfl)) ?_) (by assumption) ?_
        rotate_left 1
        · intro hg w hSw
          (try dsimp only at hSw)
          (try simp only [hg, gv_true])
          clear hg
          go_simp
          (try with_reducible rfl)
        try simp only [Act.put, List.setIfInBounds_toArray, List.set_cons_zero, List.set_cons_succ]
        refine wpAnyH_take (i := 23) (oi := ({ dst := some 56, op := Op.pick (Operand.tmp 52) (Operand.tmp 55) (Operand.const (Value.bool false)), type := 4, pos := "ref.go:152", after := #[{ on := 19, ground := Ground.data }, { on := 22, ground := Ground.data }, { on := 24, ground := Ground.gcOnly Departure.lateStores }], guard := none } : Oper)) (v := .bool (((q && LD) && CS) && I0)) rfl (by kernel_rfl) (by kernel_rfl) (by kernel_rfl) (fun _ _ _ h => h) (yieldsIf_and (g := ((q && LD) && CS)) (h := I0) rfl rfl rfl rfl rfl) (by assumption) ?_
        try simp only [Act.put, List.setIfInBounds_toArray, List.set_cons_zero, List.set_cons_succ]
        refine wpAnyH_take (i := 24) (oi := ({ dst := some 2, op := Op.assign (Operand.tmp 40), type := 24, pos := "ref.go:152", after := #[{ on := 7, ground := Ground.data }, { on := 19, ground := Ground.chain }, { on := 0, ground := Ground.phase }, { on := 1, ground := Ground.phase }, { on := 2, ground := Ground.phase }, { on := 3, ground := Ground.phase }, { on := 4, ground := Ground.phase }, { on := 5, ground := Ground.phase }, { on := 6, ground := Ground.phase }, { on := 7, ground := Ground.phase }, { on := 8, ground := Ground.textOnly Departure.lateStores }, { on := 9, ground := Ground.textOnly Departure.lateStores }, { on := 10, ground := Ground.textOnly Departure.lateStores }, { on := 11, ground := Ground.textOnly Departure.lateStores }, { on := 12, ground := Ground.textOnly Departure.lateStoresUnsure }, { on := 13, ground := Ground.textOnly Departure.lateStores }, { on := 14, ground := Ground.textOnly Departure.lateStores }, { on := 15, ground := Ground.textOnly Departure.lateStores }, { on := 16, ground := Ground.textOnly Departure.lateStores }, { on := 17, ground := Ground.textOnly Departure.lateStoresUnsure }, { on := 18, ground := Ground.textOnly Departure.lateStores }, { on := 19, ground := Ground.textOnly Departure.lateStores }, { on := 20, ground := Ground.textOnly Departure.lateStores }, { on := 21, ground := Ground.textOnly Departure.lateStores }, { on := 22, ground := Ground.textOnly Departure.lateStores }, { on := 23, ground := Ground.textOnly Departure.lateStores }], guard := none } : Oper)) (v := ?_) rfl (by kernel_rfl) (by kernel_rfl) (by kernel_rfl) (fun _ _ _ h => h) (Or.inl ⟨by rfl, ?_⟩) (by assumption) ?_
        rotate_left 1
        · intro w hSw
          (try dsimp only at hSw)
          go_simp
          (try with_reducible rfl)
        try simp only [Act.put, List.setIfInBounds_toArray, List.set_cons_zero, List.set_cons_succ]
        refine wpAnyH_take (i := 25) (oi := ({ dst := some 3, op := Op.assign (Operand.tmp 56), type := 4, pos := "ref.go:152", after := #[{ on := 23, ground := Ground.data }, { on := 24, ground := Ground.chain }, { on := 0, ground := Ground.phase }, { on := 1, ground := Ground.phase }, { on := 2, ground := Ground.phase }, { on := 3, ground := Ground.phase }, { on := 4, ground := Ground.phase }, { on := 5, ground := Ground.phase }, { on := 6, ground := Ground.phase }, { on := 7, ground := Ground.phase }, { on := 8, ground := Ground.phase }, { on := 9, ground := Ground.phase }, { on := 10, ground := Ground.phase }, { on := 11, ground := Ground.phase }, { on := 12, ground := Ground.phase }, { on := 13, ground := Ground.phase }, { on := 14, ground := Ground.phase }, { on := 15, ground := Ground.phase }, { on := 16, ground := Ground.phase }, { on := 17, ground := Ground.phase }, { on := 18, ground := Ground.phase }, { on := 19, ground := Ground.phase }, { on := 20, ground := Ground.phase }, { on := 21, ground := Ground.phase }, { on := 22, ground := Ground.phase }, { on := 23, ground := Ground.phase }, { on := 24, ground := Ground.phase }], guard := none } : Oper)) (v := ?_) rfl (by kernel_rfl) (by kernel_rfl) (by kernel_rfl) (fun _ _ _ h => h) (Or.inl ⟨by rfl, ?_⟩) (by assumption) ?_
        rotate_left 1
        · intro w hSw
          (try dsimp only at hSw)
          go_simp
          (try with_reducible rfl)
        try simp only [Act.put, List.setIfInBounds_toArray, List.set_cons_zero, List.set_cons_succ]
        refine wpAnyH_done (by kernel_rfl) ?_ _
        go_wp2
        refine bodyPost_ret (res2 rfl _ _) rfl ?_
        refine ⟨_, rfl, fun hB => ?_, hb.trans (hb32.mono (by have := HX.out; omega))⟩
        have tLD := HLD.out.trans (show LD = true by revert hB; cases LD <;> simp)
        have tCS := HCS.out.trans (show CS = true by revert hB; cases CS <;> simp)
        have rs := isC_of tCS
        have rd : isR d = true := decide_eq_true (by have := isL_of tLD; omega)
        try rw [← byV_append] at ho32
        have e := own_lower (b2 := w.heap.size) ho32 (by have := HX.out; omega)
        rw [hv8.out (by decide) rd] at e
        rw [show IntKind.u8.wrap (IntKind.i64.wrap (144 + s)) = 144 + s by rw [IntWalk.i64_in _ (by omega), u8_in (by omega) (by omega)]] at e
        exact e
      · refine guard_event (g := (q && LD)) (v := .bool (CS)) (wanted_open rfl (by rfl)) (fun hg K0 hK0 => ?_) ?_
        · (try simp only [hg, gv_true] at hK0 ⊢)
          clear hg
          have HK0 := Lib.hid hK0
          clear hK0
          go_simp
          refine (rIsCond_at _ CS _ HCS.out).mono ?_
          rintro e w' ⟨rfl, rfl⟩
          exact HK0.out
        try simp only [Act.put, List.setIfInBounds_toArray, List.set_cons_zero, List.set_cons_succ]
        refine hK.out _ _ (HS5.out _ hb0) (fun hS42 => ?_)
        refine wpAnyH_take (i := 18) (oi := ({ dst := some 51, op := Op.pick (Operand.tmp 47) (Operand.tmp 50) (Operand.const (Value.bool false)), type := 4, pos := "ref.go:152", after := #[{ on := 14, ground := Ground.data }, { on := 17, ground := Ground.data }], guard := none } : Oper)) (v := .bool ((q && LD) && CS)) rfl (by kernel_rfl) (by kernel_rfl) (by kernel_rfl) (fun _ _ _ h => h) (yieldsIf_and (g := (q && LD)) (h := CS) rfl rfl rfl rfl rfl) (by assumption) ?_
        try simp only [Act.put, List.setIfInBounds_toArray, List.set_cons_zero, List.set_cons_succ]
        refine wpAnyH_take (i := 19) (oi := ({ dst := some 52, op := Op.move (Operand.tmp 51), type := 4, pos := "ref.go:152", after := #[{ on := 18, ground := Ground.data }, { on := 17, ground := Ground.chain }], guard := none } : Oper)) (v := ?_) rfl (by kernel_rfl) (by kernel_rfl) (by kernel_rfl) (fun _ _ _ h => h) (Or.inl ⟨by rfl, ?_⟩) (by assumption) ?_
        rotate_left 1
        · intro w hSw
          (try dsimp only at hSw)
          go_simp
          (try with_reducible rfl)
        try simp only [Act.put, List.setIfInBounds_toArray, List.set_cons_zero, List.set_cons_succ]
        refine wpAnyH_take (i := 20) (oi := ({ dst := some 53, op := Op.fieldAddr 23 (Operand.tmp 1) 4, type := 0, pos := "ref.go:152", after := #[{ on := 19, ground := Ground.guard }, { on := 24, ground := Ground.gcOnly Departure.lateStores }], guard := some (19, true) } : Oper)) (v := gv (((q && LD) && CS)) ?_) rfl (by kernel_rfl) (by kernel_rfl) (by kernel_rfl) (fun _ _ _ h => h) (yieldsIf_guard (g := ((q && LD) && CS)) (wanted_open rfl (by rfl)) ?_) (by assumption) ?_
        rotate_left 1
        · intro hg w hSw
          (try dsimp only at hSw)
          (try simp only [hg])
          clear hg
          go_simp
          (try with_reducible rfl)
        try simp only [Act.put, List.setIfInBounds_toArray, List.set_cons_zero, List.set_cons_succ]
        refine wpAnyH_take (i := 21) (oi := ({ dst := some 54, op := Op.load 3 (Operand.tmp 53), type := 3, pos := "ref.go:152", after := #[{ on := 20, ground := Ground.data }, { on := 19, ground := Ground.guard }, { on := 24, ground := Ground.gcOnly Departure.lateStores }], guard := some (19, true) } : Oper)) (v := gv (((q && LD) && CS)) ?_) rfl (by kernel_rfl) (by kernel_rfl) (by kernel_rfl) (fun _ _ _ h => h) (yieldsIf_guard (g := ((q && LD) && CS)) (wanted_open rfl (by rfl)) ?_) (by assumption) ?_
        rotate_left 1
        · intro hg w hSw
          (try dsimp only at hSw)
          (try simp only [hg, gv_true])
          clear hg
          go_simp
          (try with_reducible rfl)
        try simp only [Act.put, List.setIfInBounds_toArray, List.set_cons_zero, List.set_cons_succ]
        refine wpAnyH_take (i := 22) (oi := ({ dst := some 55, op := Op.binOp BinOp.eql 3 (Operand.tmp 54) (Operand.const (Value.int IntKind.i64 0)) 3, type := 4, pos := "ref.go:152", after := #[{ on := 21, ground := Ground.data }, { on := 19, ground := Ground.guard }, { on := 24, ground := Ground.gcOnly Departure.lateStores }], guard := some (19, true) } : Oper)) (v := gv (((q && LD) && CS)) ?_) rfl (by kernel_rfl) (by kernel_rfl) (by kernel_rfl) (fun _ _ _ h => h) (yieldsIf_guard (g := ((q && LD) && CS)) (wanted_open rfl (by rfl)) ?_) (by assumption) ?_
        rotate_left 1
        · intro hg w hSw
          (try dsimp only at hSw)
          (try simp only [hg, gv_true])
          clear hg
          go_simp
          (try with_reducible rfl)
        try simp only [Act.put, List.setIfInBounds_toArray, List.set_cons_zero, List.set_cons_succ]
        refine wpAnyH_take (i := 23) (oi := ({ dst := some 56, op := Op.pick (Operand.tmp 52) (Operand.tmp 55) (Operand.const (Value.bool false)), type := 4, pos := "ref.go:152", after := #[{ on := 19, ground := Ground.data }, { on := 22, ground := Ground.data }, { on := 24, ground := Ground.gcOnly Departure.lateStores }], guard := none } : Oper)) (v := .bool (((q && LD) && CS) && I0)) rfl (by kernel_rfl) (by kernel_rfl) (by kernel_rfl) (fun _ _ _ h => h) (yieldsIf_and (g := ((q && LD) && CS)) (h := I0) rfl rfl rfl rfl rfl) (by assumption) ?_
        try simp only [Act.put, List.setIfInBounds_toArray, List.set_cons_zero, List.set_cons_succ]
        refine wpAnyH_ready (rs := [7]) (by kernel_rfl) (by simp) ?_
        refine (AllReadyH.cons (o := ({ dst := some 40, op := Op.buildSlice 24 3 #[(0, Operand.const (Value.int IntKind.u8 15)), (1, Operand.tmp 36), (2, Operand.tmp 39)], type := 24, pos := "ref.go:152", after := #[{ on := 3, ground := Ground.data }, { on := 6, ground := Ground.data }], guard := none } : Oper)) rfl (fun K hK => ?_) AllReadyH.nil)
        go_simp
        generalize hA49 : World.alloc _ _ = wn49
        have hb49 := below_new hA49 hb0
        have ho49 := own_new3 hA49 hb0
        clear hA49
        refine hK.out _ _ (HS5.out _ hb49) (fun hS49 => ?_)
        refine wpAnyH_take (i := 24) (oi := ({ dst := some 2, op := Op.assign (Operand.tmp 40), type := 24, pos := "ref.go:152", after := #[{ on := 7, ground := Ground.data }, { on := 19, ground := Ground.chain }, { on := 0, ground := Ground.phase }, { on := 1, ground := Ground.phase }, { on := 2, ground := Ground.phase }, { on := 3, ground := Ground.phase }, { on := 4, ground := Ground.phase }, { on := 5, ground := Ground.phase }, { on := 6, ground := Ground.phase }, { on := 7, ground := Ground.phase }, { on := 8, ground := Ground.textOnly Departure.lateStores }, { on := 9, ground := Ground.textOnly Departure.lateStores }, { on := 10, ground := Ground.textOnly Departure.lateStores }, { on := 11, ground := Ground.textOnly Departure.lateStores }, { on := 12, ground := Ground.textOnly Departure.lateStoresUnsure }, { on := 13, ground := Ground.textOnly Departure.lateStores }, { on := 14, ground := Ground.textOnly Departure.lateStores }, { on := 15, ground := Ground.textOnly Departure.lateStores }, { on := 16, ground := Ground.textOnly Departure.lateStores }, { on := 17, ground := Ground.textOnly Departure.lateStoresUnsure }, { on := 18, ground := Ground.textOnly Departure.lateStores }, { on := 19, ground := Ground.textOnly Departure.lateStores }, { on := 20, ground := Ground.textOnly Departure.lateStores }, { on := 21, ground := Ground.textOnly Departure.lateStores }, { on := 22, ground := Ground.textOnly Departure.lateStores }, { on := 23, ground := Ground.textOnly Departure.lateStores }], guard := none } : Oper)) (v := ?_) rfl (by kernel_rfl) (by kernel_rfl) (by kernel_rfl) (fun _ _ _ h => h) (Or.inl ⟨by rfl, ?_⟩) (by assumption) ?_
        rotate_left 1
        · intro w hSw
          (try dsimp only at hSw)
          go_simp
          (try with_reducible rfl)
        try simp only [Act.put, List.setIfInBounds_toArray, List.set_cons_zero, List.set_cons_succ]
        refine wpAnyH_take (i := 25) (oi := ({ dst := some 3, op := Op.assign (Operand.tmp 56), type := 4, pos := "ref.go:152", after := #[{ on := 23, ground := Ground.data }, { on := 24, ground := Ground.chain }, { on := 0, ground := Ground.phase }, { on := 1, ground := Ground.phase }, { on := 2, ground := Ground.phase }, { on := 3, ground := Ground.phase }, { on := 4, ground := Ground.phase }, { on := 5, ground := Ground.phase }, { on := 6, ground := Ground.phase }, { on := 7, ground := Ground.phase }, { on := 8, ground := Ground.phase }, { on := 9, ground := Ground.phase }, { on := 10, ground := Ground.phase }, { on := 11, ground := Ground.phase }, { on := 12, ground := Ground.phase }, { on := 13, ground := Ground.phase }, { on := 14, ground := Ground.phase }, { on := 15, ground := Ground.phase }, { on := 16, ground := Ground.phase }, { on := 17, ground := Ground.phase }, { on := 18, ground := Ground.phase }, { on := 19, ground := Ground.phase }, { on := 20, ground := Ground.phase }, { on := 21, ground := Ground.phase }, { on := 22, ground := Ground.phase }, { on := 23, ground := Ground.phase }, { on := 24, ground := Ground.phase }], guard := none } : Oper)) (v := ?_) rfl (by kernel_rfl) (by kernel_rfl) (by kernel_rfl) (fun _ _ _ h => h) (Or.inl ⟨by rfl, ?_⟩) (by assumption) ?_
        rotate_left 1
        · intro w hSw
          (try dsimp only at hSw)
          go_simp
          (try with_reducible rfl)
        try simp only [Act.put, List.setIfInBounds_toArray, List.set_cons_zero, List.set_cons_succ]
        refine wpAnyH_done (by kernel_rfl) ?_ _
        go_wp2
        refine bodyPost_ret (res2 rfl _ _) rfl ?_
        refine ⟨_, rfl, fun hB => ?_, hb.trans (hb49.mono (by have := HX.out; omega))⟩
        have tLD := HLD.out.trans (show LD = true by revert hB; cases LD <;> simp)
        have tCS := HCS.out.trans (show CS = true by revert hB; cases CS <;> simp)
        have rs := isC_of tCS
        have rd : isR d = true := decide_eq_true (by have := isL_of tLD; omega)
        try rw [← byV_append] at ho49
        have e := own_lower (b2 := w.heap.size) ho49 (by have := HX.out; omega)
        rw [hv8.out (by decide) rd] at e
        rw [show IntKind.u8.wrap (IntKind.i64.wrap (144 + s)) = 144 + s by rw [IntWalk.i64_in _ (by omega), u8_in (by omega) (by omega)]] at e
        exact e
set_option maxRecDepth 100000 in
set_option maxHeartbeats 8000000 in
theorem oth_30 (d s sz imm : Int) (w : World) (_ : -9223372036854775808 ≤ imm) (_ : imm ≤ 9223372036854775807) : Calls Try.prog 42 #[aggI ⟨30, d, s, sz, imm⟩] w (REnd w (((((sz == 32) && isR d) && isL s) && (imm == 0))) ([15, 182, 192 + 8 * d + s])) := by
  obtain ⟨i0, hi, hz0, hz1, hz2⟩ := info_parts infoBy
  obtain ⟨q, hq⟩ : ∃ b, (sz == 32) = b := ⟨_, rfl⟩
  try rw [hq]
  have Hq := Lib.hid hq
  obtain ⟨D0, hD0⟩ : ∃ b, (d == 0) = b := ⟨_, rfl⟩
  try rw [hD0]
  have HD0 := Lib.hid hD0
  obtain ⟨S0, hS0⟩ : ∃ b, (s == 0) = b := ⟨_, rfl⟩
  try rw [hS0]
  have HS0 := Lib.hid hS0
  obtain ⟨I0, hI0⟩ : ∃ b, (imm == 0) = b := ⟨_, rfl⟩
  try rw [hI0]
  have HI0 := Lib.hid hI0
  obtain ⟨RD, hRD⟩ : ∃ b, isR d = b := ⟨_, rfl⟩
  try rw [hRD]
  have HRD := Lib.hid hRD
  clear hRD
  obtain ⟨LS, hLS⟩ : ∃ b, isL s = b := ⟨_, rfl⟩
  try rw [hLS]
  have HLS := Lib.hid hLS
  clear hLS
  obtain ⟨N, hN⟩ : ∃ b, (((D0 && S0) && I0) && q) = b := ⟨_, rfl⟩
  try rw [hN]
  have HN := Lib.hid hN
  clear hN
  go_enter Try.func42, Try.ntmps42
  go_upto_region 2 with fail
  have hx := heap_alloc_new w (.cells #[.int .i64 30, .int .i64 d, .int .i64 s, .int .i64 sz, .int .i64 imm] 23)
  have hb : Below w.heap.size w (w.alloc (.cells #[.int .i64 30, .int .i64 d, .int .i64 s, .int .i64 sz, .int .i64 imm] 23)) := (Below.refl _ _).alloc (Nat.le_refl _) _
  generalize World.alloc w _ = W at hx hb ⊢
  obtain ⟨X, hX⟩ : ∃ X, X = w.heap.size := ⟨_, rfl⟩
  rw [← hX] at hx ⊢
  have HX := Lib.hid hX
  have lX := lt_of_block hx
  obtain ⟨x0, x1, x2, x3, x4⟩ := cells5 hx
  have HXX := Lib.hid hx
  clear hX hx
  go_cut [5] from 6 (fun s5 wx => s5 = .bool N ∧ W = wx)
  case first =>
    cases D0
    · go_wp2_with fail
      go_meet
      exact ⟨by rw [← HN.out]; rfl, rfl⟩
    · cases S0
      · go_wp2_with fail
        go_meet
        exact ⟨by rw [← HN.out]; rfl, rfl⟩
      · cases I0
        all_goals
          go_wp2_with fail
          go_meet
          exact ⟨by rw [← HN.out]; rfl, rfl⟩
  case rest =>
    obtain ⟨rfl, rfl⟩ := hcut
    have HS5 := Lib.hid (show ∀ W', Below W.heap.size W W' → (fun W' => W'.cell? ⟨X, 0, none⟩ = some (.int .i64 30) ∧ W'.cell? ⟨X, 1, none⟩ = some (.int .i64 d) ∧ W'.cell? ⟨X, 2, none⟩ = some (.int .i64 s) ∧ W'.cell? ⟨X, 3, none⟩ = some (.int .i64 sz) ∧ W'.cell? ⟨X, 4, none⟩ = some (.int .i64 imm)) W' from fun W' h => ⟨(h.cell (p := ⟨X, 0, none⟩) lX).trans x0, (h.cell (p := ⟨X, 1, none⟩) lX).trans x1, (h.cell (p := ⟨X, 2, none⟩) lX).trans x2, (h.cell (p := ⟨X, 3, none⟩) lX).trans x3, (h.cell (p := ⟨X, 4, none⟩) lX).trans x4⟩)
    go_wp2_with fail
    refine wp_region_held_drew (S := (fun W' => W'.cell? ⟨X, 0, none⟩ = some (.int .i64 30) ∧ W'.cell? ⟨X, 1, none⟩ = some (.int .i64 d) ∧ W'.cell? ⟨X, 2, none⟩ = some (.int .i64 s) ∧ W'.cell? ⟨X, 3, none⟩ = some (.int .i64 sz) ∧ W'.cell? ⟨X, 4, none⟩ = some (.int .i64 imm))) (by kernel_rfl) ?_ (fun hHeld => ?_)
    · exact HS5.out _ (drewR (Below.refl _ _))
    have hb0 : Below W.heap.size W W.drew := drewR (Below.refl _ _)
    generalize W.drew = wn0 at hb0 hHeld ⊢
    refine wpAnyH_take (i := 0) (oi := ({ dst := some 59, op := Op.fieldAddr 23 (Operand.tmp 1) 1, type := 0, pos := "ref.go:154", after := #[], guard := none } : Oper)) (v := ?_) rfl (by kernel_rfl) (by kernel_rfl) (by kernel_rfl) (fun _ _ _ h => h) (Or.inl ⟨by rfl, ?_⟩) (by assumption) ?_
    rotate_left 1
    · intro w hSw
      (try dsimp only at hSw)
      go_simp
      (try with_reducible rfl)
    try simp only [Act.put, List.setIfInBounds_toArray, List.set_cons_zero, List.set_cons_succ]
    refine wpAnyH_take (i := 1) (oi := ({ dst := some 60, op := Op.load 3 (Operand.tmp 59), type := 3, pos := "ref.go:154", after := #[{ on := 0, ground := Ground.data }], guard := none } : Oper)) (v := ?_) rfl (by kernel_rfl) (by kernel_rfl) (by kernel_rfl) (fun _ _ _ h => h) (Or.inl ⟨by rfl, ?_⟩) (by assumption) ?_
    rotate_left 1
    · intro w hSw
      (try dsimp only at hSw)
      go_simp
      (try with_reducible rfl)
    try simp only [Act.put, List.setIfInBounds_toArray, List.set_cons_zero, List.set_cons_succ]
    refine wpAnyH_take (i := 2) (oi := ({ dst := some 61, op := Op.fieldAddr 23 (Operand.tmp 1) 2, type := 0, pos := "ref.go:154", after := #[], guard := none } : Oper)) (v := ?_) rfl (by kernel_rfl) (by kernel_rfl) (by kernel_rfl) (fun _ _ _ h => h) (Or.inl ⟨by rfl, ?_⟩) (by assumption) ?_
    rotate_left 1
    · intro w hSw
      (try dsimp only at hSw)
      go_simp
      (try with_reducible rfl)
    try simp only [Act.put, List.setIfInBounds_toArray, List.set_cons_zero, List.set_cons_succ]
    refine wpAnyH_take (i := 3) (oi := ({ dst := some 62, op := Op.load 3 (Operand.tmp 61), type := 3, pos := "ref.go:154", after := #[{ on := 2, ground := Ground.data }], guard := none } : Oper)) (v := ?_) rfl (by kernel_rfl) (by kernel_rfl) (by kernel_rfl) (fun _ _ _ h => h) (Or.inl ⟨by rfl, ?_⟩) (by assumption) ?_
    rotate_left 1
    · intro w hSw
      (try dsimp only at hSw)
      go_simp
      (try with_reducible rfl)
    try simp only [Act.put, List.setIfInBounds_toArray, List.set_cons_zero, List.set_cons_succ]
    refine wpAnyH_take (i := 6) (oi := ({ dst := some 65, op := Op.move (Operand.tmp 4), type := 4, pos := "ref.go:154", after := #[], guard := none } : Oper)) (v := ?_) rfl (by kernel_rfl) (by kernel_rfl) (by kernel_rfl) (fun _ _ _ h => h) (Or.inl ⟨by rfl, ?_⟩) (by assumption) ?_
    rotate_left 1
    · intro w hSw
      (try dsimp only at hSw)
      go_simp
      (try with_reducible rfl)
    try simp only [Act.put, List.setIfInBounds_toArray, List.set_cons_zero, List.set_cons_succ]
    refine wpAnyH_ready (rs := [4]) (by kernel_rfl) (by simp) ?_
    refine (AllReadyH.cons (o := ({ dst := some 63, op := Op.call { callee := Callee.value (Operand.func 80), args := #[Operand.tmp 60, Operand.tmp 62], argTypes := #[3, 3] }, type := 5, pos := "ref.go:154", after := #[{ on := 1, ground := Ground.data }, { on := 3, ground := Ground.data }], guard := none } : Oper)) rfl (fun K hK => ?_) AllReadyH.nil)
    go_simp
    refine (rMr_sym _ _ _).mono ?_
    rintro e w' ⟨v6, rfl, hv6, rfl⟩
    refine hK.out _ _ (HS5.out _ hb0) (fun hS6 => ?_)
    refine wpAnyH_take (i := 7) (oi := ({ dst := some 66, op := Op.move (Operand.tmp 65), type := 4, pos := "ref.go:154", after := #[{ on := 6, ground := Ground.data }, { on := 4, ground := Ground.chain }], guard := none } : Oper)) (v := ?_) rfl (by kernel_rfl) (by kernel_rfl) (by kernel_rfl) (fun _ _ _ h => h) (Or.inl ⟨by rfl, ?_⟩) (by assumption) ?_
    rotate_left 1
    · intro w hSw
      (try dsimp only at hSw)
      go_simp
      (try with_reducible rfl)
    try simp only [Act.put, List.setIfInBounds_toArray, List.set_cons_zero, List.set_cons_succ]
    refine wpAnyH_take (i := 8) (oi := ({ dst := some 67, op := Op.fieldAddr 23 (Operand.tmp 1) 1, type := 0, pos := "ref.go:154", after := #[{ on := 7, ground := Ground.guard }], guard := some (7, true) } : Oper)) (v := gv (q) ?_) rfl (by kernel_rfl) (by kernel_rfl) (by kernel_rfl) (fun _ _ _ h => h) (yieldsIf_guard (g := q) (wanted_open rfl (by rfl)) ?_) (by assumption) ?_
    rotate_left 1
    · intro hg w hSw
      (try dsimp only at hSw)
      (try simp only [hg])
      clear hg
      go_simp
      (try with_reducible rfl)
    try simp only [Act.put, List.setIfInBounds_toArray, List.set_cons_zero, List.set_cons_succ]
    refine wpAnyH_take (i := 9) (oi := ({ dst := some 68, op := Op.load 3 (Operand.tmp 67), type := 3, pos := "ref.go:154", after := #[{ on := 8, ground := Ground.data }, { on := 7, ground := Ground.guard }], guard := some (7, true) } : Oper)) (v := gv (q) ?_) rfl (by kernel_rfl) (by kernel_rfl) (by kernel_rfl) (fun _ _ _ h => h) (yieldsIf_guard (g := q) (wanted_open rfl (by rfl)) ?_) (by assumption) ?_
    rotate_left 1
    · intro hg w hSw
      (try dsimp only at hSw)
      (try simp only [hg, gv_true])
      clear hg
      go_simp
      (try with_reducible rfl)
    try simp only [Act.put, List.setIfInBounds_toArray, List.set_cons_zero, List.set_cons_succ]
    refine wpAnyH_ready (rs := [5, 10]) (by kernel_rfl) (by simp) ?_
    refine (AllReadyH.cons (o := ({ dst := some 64, op := Op.buildSlice 24 3 #[(0, Operand.const (Value.int IntKind.u8 15)), (1, Operand.const (Value.int IntKind.u8 182)), (2, Operand.tmp 63)], type := 24, pos := "ref.go:154", after := #[{ on := 4, ground := Ground.data }], guard := none } : Oper)) rfl (fun K hK => ?_) (AllReadyH.cons (o := ({ dst := some 69, op := Op.call { callee := Callee.value (Operand.func 78), args := #[Operand.tmp 68], argTypes := #[3] }, type := 4, pos := "ref.go:154", after := #[{ on := 9, ground := Ground.data }, { on := 7, ground := Ground.chain }, { on := 7, ground := Ground.guard }], guard := some (7, true) } : Oper)) rfl (fun K hK => ?_) AllReadyH.nil))
    · go_simp
      generalize hA10 : World.alloc _ _ = wn10
      have hb10 := below_new hA10 hb0
      have ho10 := own_new3 hA10 hb0
      clear hA10
      refine hK.out _ _ (HS5.out _ hb10) (fun hS10 => ?_)
      refine wpAnyH_ready (rs := [10]) (by kernel_rfl) (by simp) ?_
      refine (AllReadyH.cons (o := ({ dst := some 69, op := Op.call { callee := Callee.value (Operand.func 78), args := #[Operand.tmp 68], argTypes := #[3] }, type := 4, pos := "ref.go:154", after := #[{ on := 9, ground := Ground.data }, { on := 7, ground := Ground.chain }, { on := 7, ground := Ground.guard }], guard := some (7, true) } : Oper)) rfl (fun K hK => ?_) AllReadyH.nil)
      refine guard_event (g := q) (v := .bool (RD)) (wanted_open rfl (by rfl)) (fun hg K0 hK0 => ?_) ?_
      · (try simp only [hg, gv_true] at hK0 ⊢)
        clear hg
        have HK0 := Lib.hid hK0
        clear hK0
        go_simp
        refine (rIsReg_at _ RD _ HRD.out).mono ?_
        rintro e w' ⟨rfl, rfl⟩
        exact HK0.out
      try simp only [Act.put, List.setIfInBounds_toArray, List.set_cons_zero, List.set_cons_succ]
      refine hK.out _ _ (HS5.out _ hb10) (fun hS11 => ?_)
      refine wpAnyH_take (i := 11) (oi := ({ dst := some 70, op := Op.pick (Operand.tmp 66) (Operand.tmp 69) (Operand.const (Value.bool false)), type := 4, pos := "ref.go:154", after := #[{ on := 7, ground := Ground.data }, { on := 10, ground := Ground.data }], guard := none } : Oper)) (v := .bool (q && RD)) rfl (by kernel_rfl) (by kernel_rfl) (by kernel_rfl) (fun _ _ _ h => h) (yieldsIf_and (g := q) (h := RD) rfl rfl rfl rfl rfl) (by assumption) ?_
      try simp only [Act.put, List.setIfInBounds_toArray, List.set_cons_zero, List.set_cons_succ]
      refine wpAnyH_take (i := 12) (oi := ({ dst := some 71, op := Op.move (Operand.tmp 70), type := 4, pos := "ref.go:154", after := #[{ on := 11, ground := Ground.data }, { on := 10, ground := Ground.chain }], guard := none } : Oper)) (v := ?_) rfl (by kernel_rfl) (by kernel_rfl) (by kernel_rfl) (fun _ _ _ h => h) (Or.inl ⟨by rfl, ?_⟩) (by assumption) ?_
      rotate_left 1
      · intro w hSw
        (try dsimp only at hSw)
        go_simp
        (try with_reducible rfl)
      try simp only [Act.put, List.setIfInBounds_toArray, List.set_cons_zero, List.set_cons_succ]
      refine wpAnyH_take (i := 13) (oi := ({ dst := some 72, op := Op.fieldAddr 23 (Operand.tmp 1) 2, type := 0, pos := "ref.go:154", after := #[{ on := 12, ground := Ground.guard }], guard := some (12, true) } : Oper)) (v := gv ((q && RD)) ?_) rfl (by kernel_rfl) (by kernel_rfl) (by kernel_rfl) (fun _ _ _ h => h) (yieldsIf_guard (g := (q && RD)) (wanted_open rfl (by rfl)) ?_) (by assumption) ?_
      rotate_left 1
      · intro hg w hSw
        (try dsimp only at hSw)
        (try simp only [hg])
        clear hg
        go_simp
        (try with_reducible rfl)
      try simp only [Act.put, List.setIfInBounds_toArray, List.set_cons_zero, List.set_cons_succ]
      refine wpAnyH_take (i := 14) (oi := ({ dst := some 73, op := Op.load 3 (Operand.tmp 72), type := 3, pos := "ref.go:154", after := #[{ on := 13, ground := Ground.data }, { on := 12, ground := Ground.guard }], guard := some (12, true) } : Oper)) (v := gv ((q && RD)) ?_) rfl (by kernel_rfl) (by kernel_rfl) (by kernel_rfl) (fun _ _ _ h => h) (yieldsIf_guard (g := (q && RD)) (wanted_open rfl (by rfl)) ?_) (by assumption) ?_
      rotate_left 1
      · intro hg w hSw
        (try dsimp only at hSw)
        (try simp only [hg, gv_true])
        clear hg
        go_simp
        (try with_reducible rfl)
      try simp only [Act.put, List.setIfInBounds_toArray, List.set_cons_zero, List.set_cons_succ]
      refine wpAnyH_ready (rs := [15]) (by kernel_rfl) (by simp) ?_
      refine (AllReadyH.cons (o := ({ dst := some 74, op := Op.call { callee := Callee.value (Operand.func 84), args := #[Operand.tmp 73], argTypes := #[3] }, type := 4, pos := "ref.go:154", after := #[{ on := 14, ground := Ground.data }, { on := 12, ground := Ground.chain }, { on := 12, ground := Ground.guard }], guard := some (12, true) } : Oper)) rfl (fun K hK => ?_) AllReadyH.nil)
      refine guard_event (g := (q && RD)) (v := .bool (LS)) (wanted_open rfl (by rfl)) (fun hg K0 hK0 => ?_) ?_
      · (try simp only [hg, gv_true] at hK0 ⊢)
        clear hg
        have HK0 := Lib.hid hK0
        clear hK0
        go_simp
        refine (rLow_at _ LS _ HLS.out).mono ?_
        rintro e w' ⟨rfl, rfl⟩
        exact HK0.out
      try simp only [Act.put, List.setIfInBounds_toArray, List.set_cons_zero, List.set_cons_succ]
      refine hK.out _ _ (HS5.out _ hb10) (fun hS16 => ?_)
      refine wpAnyH_take (i := 16) (oi := ({ dst := some 75, op := Op.pick (Operand.tmp 71) (Operand.tmp 74) (Operand.const (Value.bool false)), type := 4, pos := "ref.go:154", after := #[{ on := 12, ground := Ground.data }, { on := 15, ground := Ground.data }], guard := none } : Oper)) (v := .bool ((q && RD) && LS)) rfl (by kernel_rfl) (by kernel_rfl) (by kernel_rfl) (fun _ _ _ h => h) (yieldsIf_and (g := (q && RD)) (h := LS) rfl rfl rfl rfl rfl) (by assumption) ?_
      try simp only [Act.put, List.setIfInBounds_toArray, List.set_cons_zero, List.set_cons_succ]
      refine wpAnyH_take (i := 17) (oi := ({ dst := some 76, op := Op.move (Operand.tmp 75), type := 4, pos := "ref.go:154", after := #[{ on := 16, ground := Ground.data }, { on := 15, ground := Ground.chain }], guard := none } : Oper)) (v := ?_) rfl (by kernel_rfl) (by kernel_rfl) (by kernel_rfl) (fun _ _ _ h => h) (Or.inl ⟨by rfl, ?_⟩) (by assumption) ?_
      rotate_left 1
      · intro w hSw
        (try dsimp only at hSw)
        go_simp
        (try with_reducible rfl)
      try simp only [Act.put, List.setIfInBounds_toArray, List.set_cons_zero, List.set_cons_succ]
      refine wpAnyH_take (i := 18) (oi := ({ dst := some 77, op := Op.fieldAddr 23 (Operand.tmp 1) 4, type := 0, pos := "ref.go:154", after := #[{ on := 17, ground := Ground.guard }, { on := 22, ground := Ground.gcOnly Departure.lateStores }], guard := some (17, true) } : Oper)) (v := gv (((q && RD) && LS)) ?_) rfl (by kernel_rfl) (by kernel_rfl) (by kernel_rfl) (fun _ _ _ h => h) (yieldsIf_guard (g := ((q && RD) && LS)) (wanted_open rfl (by rfl)) ?_) (by assumption) ?_
      rotate_left 1
      · intro hg w hSw
        (try dsimp only at hSw)
        (try simp only [hg])
        clear hg
        go_simp
        (try with_reducible rfl)
      try simp only [Act.put, List.setIfInBounds_toArray, List.set_cons_zero, List.set_cons_succ]
      refine wpAnyH_take (i := 19) (oi := ({ dst := some 78, op := Op.load 3 (Operand.tmp 77), type := 3, pos := "ref.go:154", after := #[{ on := 18, ground := Ground.data }, { on := 17, ground := Ground.guard }, { on := 22, ground := Ground.gcOnly Departure.lateStores }], guard := some (17, true) } : Oper)) (v := gv (((q && RD) && LS)) ?_) rfl (by kernel_rfl) (by kernel_rfl) (by kernel_rfl) (fun _ _ _ h => h) (yieldsIf_guard (g := ((q && RD) && LS)) (wanted_open rfl (by rfl)) ?_) (by assumption) ?_
      rotate_left 1
      · intro hg w hSw
        (try dsimp only at hSw)
        (try simp only [hg, gv_true])
        clear hg
        go_simp
        (try with_reducible rfl)
      try simp only [Act.put, List.setIfInBounds_toArray, List.set_cons_zero, List.set_cons_succ]
      refine wpAnyH_take (i := 20) (oi := ({ dst := some 79, op := Op.binOp BinOp.eql 3 (Operand.tmp 78) (Operand.const (Value.int IntKind.i64 0)) 3, type := 4, pos := "ref.go:154", after := #[{ on := 19, ground := Ground.data }, { on := 17, ground := Ground.guard }, { on := 22, ground := Ground.gcOnly Departure.lateStores }], guard := some (17, true) } : Oper)) (v := gv (((q && RD) && LS)) ?_) rfl (by kernel_rfl) (by kernel_rfl) (by kernel_rfl) (fun _ _ _ h => h) (yieldsIf_guard (g := ((q && RD) && LS)) (wanted_open rfl (by rfl)) ?_) (by assumption) ?_
      rotate_left 1
      · intro hg w hSw
        (try dsimp only at hSw)
        (try simp only [hg, gv_true])
        clear hg
        go_simp
        (try with_reducible rfl)
      try simp only [Act.put, List.setIfInBounds_toArray, List.set_cons_zero, List.set_cons_succ]
      refine wpAnyH_take (i := 21) (oi := ({ dst := some 80, op := Op.pick (Operand.tmp 76) (Operand.tmp 79) (Operand.const (Value.bool false)), type := 4, pos := "ref.go:154", after := #[{ on := 17, ground := Ground.data }, { on := 20, ground := Ground.data }, { on := 22, ground := Ground.gcOnly Departure.lateStores }], guard := none } : Oper)) (v := .bool (((q && RD) && LS) && I0)) rfl (by kernel_rfl) (by kernel_rfl) (by kernel_rfl) (fun _ _ _ h => h) (yieldsIf_and (g := ((q && RD) && LS)) (h := I0) rfl rfl rfl rfl rfl) (by assumption) ?_
      try simp only [Act.put, List.setIfInBounds_toArray, List.set_cons_zero, List.set_cons_succ]
      refine wpAnyH_take (i := 22) (oi := ({ dst := some 2, op := Op.assign (Operand.tmp 64), type := 24, pos := "ref.go:154", after := #[{ on := 5, ground := Ground.data }, { on := 17, ground := Ground.chain }, { on := 0, ground := Ground.phase }, { on := 1, ground := Ground.phase }, { on := 2, ground := Ground.phase }, { on := 3, ground := Ground.phase }, { on := 4, ground := Ground.phase }, { on := 5, ground := Ground.phase }, { on := 6, ground := Ground.textOnly Departure.lateStores }, { on := 7, ground := Ground.textOnly Departure.lateStores }, { on := 8, ground := Ground.textOnly Departure.lateStores }, { on := 9, ground := Ground.textOnly Departure.lateStores }, { on := 10, ground := Ground.textOnly Departure.lateStoresUnsure }, { on := 11, ground := Ground.textOnly Departure.lateStores }, { on := 12, ground := Ground.textOnly Departure.lateStores }, { on := 13, ground := Ground.textOnly Departure.lateStores }, { on := 14, ground := Ground.textOnly Departure.lateStores }, { on := 15, ground := Ground.textOnly Departure.lateStoresUnsure }, { on := 16, ground := Ground.textOnly Departure.lateStores }, { on := 17, ground := Ground.textOnly Departure.lateStores }, { on := 18, ground := Ground.textOnly Departure.lateStores }, { on := 19, ground := Ground.textOnly Departure.lateStores }, { on := 20, ground := Ground.textOnly Departure.lateStores }, { on := 21, ground := Ground.textOnly Departure.lateStores }], guard := none } : Oper)) (v := ?_) rfl (by kernel_rfl) (by kernel_rfl) (by kernel_rfl) (fun _ _ _ h => h) (Or.inl ⟨by rfl, ?_⟩) (by assumption) ?_
      rotate_left 1
      · intro w hSw
        (try dsimp only at hSw)
        go_simp
        (try with_reducible rfl)
      try simp only [Act.put, List.setIfInBounds_toArray, List.set_cons_zero, List.set_cons_succ]
      refine wpAnyH_take (i := 23) (oi := ({ dst := some 3, op := Op.assign (Operand.tmp 80), type := 4, pos := "ref.go:154", after := #[{ on := 21, ground := Ground.data }, { on := 22, ground := Ground.chain }, { on := 0, ground := Ground.phase }, { on := 1, ground := Ground.phase }, { on := 2, ground := Ground.phase }, { on := 3, ground := Ground.phase }, { on := 4, ground := Ground.phase }, { on := 5, ground := Ground.phase }, { on := 6, ground := Ground.phase }, { on := 7, ground := Ground.phase }, { on := 8, ground := Ground.phase }, { on := 9, ground := Ground.phase }, { on := 10, ground := Ground.phase }, { on := 11, ground := Ground.phase }, { on := 12, ground := Ground.phase }, { on := 13, ground := Ground.phase }, { on := 14, ground := Ground.phase }, { on := 15, ground := Ground.phase }, { on := 16, ground := Ground.phase }, { on := 17, ground := Ground.phase }, { on := 18, ground := Ground.phase }, { on := 19, ground := Ground.phase }, { on := 20, ground := Ground.phase }, { on := 21, ground := Ground.phase }, { on := 22, ground := Ground.phase }], guard := none } : Oper)) (v := ?_) rfl (by kernel_rfl) (by kernel_rfl) (by kernel_rfl) (fun _ _ _ h => h) (Or.inl ⟨by rfl, ?_⟩) (by assumption) ?_
      rotate_left 1
      · intro w hSw
        (try dsimp only at hSw)
        go_simp
        (try with_reducible rfl)
      try simp only [Act.put, List.setIfInBounds_toArray, List.set_cons_zero, List.set_cons_succ]
      refine wpAnyH_done (by kernel_rfl) ?_ _
      go_wp2
      refine bodyPost_ret (res2 rfl _ _) rfl ?_
      refine ⟨_, rfl, fun hB => ?_, hb.trans (hb10.mono (by have := HX.out; omega))⟩
      have tRD := HRD.out.trans (show RD = true by revert hB; cases RD <;> simp)
      have tLS := HLS.out.trans (show LS = true by revert hB; cases LS <;> simp)
      have rs : isR s = true := decide_eq_true (by have := isL_of tLS; omega)
      try rw [← byV_append] at ho10
      have e := own_lower (b2 := w.heap.size) ho10 (by have := HX.out; omega)
      rw [hv6.out tRD rs] at e
      exact e
    · refine guard_event (g := q) (v := .bool (RD)) (wanted_open rfl (by rfl)) (fun hg K0 hK0 => ?_) ?_
      · (try simp only [hg, gv_true] at hK0 ⊢)
        clear hg
        have HK0 := Lib.hid hK0
        clear hK0
        go_simp
        refine (rIsReg_at _ RD _ HRD.out).mono ?_
        rintro e w' ⟨rfl, rfl⟩
        exact HK0.out
      try simp only [Act.put, List.setIfInBounds_toArray, List.set_cons_zero, List.set_cons_succ]
      refine hK.out _ _ (HS5.out _ hb0) (fun hS25 => ?_)
      refine wpAnyH_take (i := 11) (oi := ({ dst := some 70, op := Op.pick (Operand.tmp 66) (Operand.tmp 69) (Operand.const (Value.bool false)), type := 4, pos := "ref.go:154", after := #[{ on := 7, ground := Ground.data }, { on := 10, ground := Ground.data }], guard := none } : Oper)) (v := .bool (q && RD)) rfl (by kernel_rfl) (by kernel_rfl) (by kernel_rfl) (fun _ _ _ h => h) (yieldsIf_and (g := q) (h := RD) rfl rfl rfl rfl rfl) (by assumption) ?_
      try simp only [Act.put, List.setIfInBounds_toArray, List.set_cons_zero, List.set_cons_succ]
      refine wpAnyH_take (i := 12) (oi := ({ dst := some 71, op := Op.move (Operand.tmp 70), type := 4, pos := "ref.go:154", after := #[{ on := 11, ground := Ground.data }, { on := 10, ground := Ground.chain }], guard := none } : Oper)) (v := ?_) rfl (by kernel_rfl) (by kernel_rfl) (by kernel_rfl) (fun _ _ _ h => h) (Or.inl ⟨by rfl, ?_⟩) (by assumption) ?_
      rotate_left 1
      · intro w hSw
        (try dsimp only at hSw)
        go_simp
        (try with_reducible rfl)
      try simp only [Act.put, List.setIfInBounds_toArray, List.set_cons_zero, List.set_cons_succ]
      refine wpAnyH_take (i := 13) (oi := ({ dst := some 72, op := Op.fieldAddr 23 (Operand.tmp 1) 2, type := 0, pos := "ref.go:154", after := #[{ on := 12, ground := Ground.guard }], guard := some (12, true) } : Oper)) (v := gv ((q && RD)) ?_) rfl (by kernel_rfl) (by kernel_rfl) (by kernel_rfl) (fun _ _ _ h => h) (yieldsIf_guard (g := (q && RD)) (wanted_open rfl (by rfl)) ?_) (by assumption) ?_
      rotate_left 1
      · intro hg w hSw
        (try dsimp only at hSw)
        (try simp only [hg])
        clear hg
        go_simp
        (try with_reducible rfl)
      try simp only [Act.put, List.setIfInBounds_toArray, List.set_cons_zero, List.set_cons_succ]
      refine wpAnyH_take (i := 14) (oi := ({ dst := some 73, op := Op.load 3 (Operand.tmp 72), type := 3, pos := "ref.go:154", after := #[{ on := 13, ground := Ground.data }, { on := 12, ground := Ground.guard }], guard := some (12, true) } : Oper)) (v := gv ((q && RD)) ?_) rfl (by kernel_rfl) (by kernel_rfl) (by kernel_rfl) (fun _ _ _ h => h) (yieldsIf_guard (g := (q && RD)) (wanted_open rfl (by rfl)) ?_) (by assumption) ?_
      rotate_left 1
      · intro hg w hSw
        (try dsimp only at hSw)
        (try simp only [hg, gv_true])
        clear hg
        go_simp
        (try with_reducible rfl)
      try simp only [Act.put, List.setIfInBounds_toArray, List.set_cons_zero, List.set_cons_succ]
      refine wpAnyH_ready (rs := [5, 15]) (by kernel_rfl) (by simp) ?_
      refine (AllReadyH.cons (o := ({ dst := some 64, op := Op.buildSlice 24 3 #[(0, Operand.const (Value.int IntKind.u8 15)), (1, Operand.const (Value.int IntKind.u8 182)), (2, Operand.tmp 63)], type := 24, pos := "ref.go:154", after := #[{ on := 4, ground := Ground.data }], guard := none } : Oper)) rfl (fun K hK => ?_) (AllReadyH.cons (o := ({ dst := some 74, op := Op.call { callee := Callee.value (Operand.func 84), args := #[Operand.tmp 73], argTypes := #[3] }, type := 4, pos := "ref.go:154", after := #[{ on := 14, ground := Ground.data }, { on := 12, ground := Ground.chain }, { on := 12, ground := Ground.guard }], guard := some (12, true) } : Oper)) rfl (fun K hK => ?_) AllReadyH.nil))
      · go_simp
        generalize hA30 : World.alloc _ _ = wn30
        have hb30 := below_new hA30 hb0
        have ho30 := own_new3 hA30 hb0
        clear hA30
        refine hK.out _ _ (HS5.out _ hb30) (fun hS30 => ?_)
        refine wpAnyH_ready (rs := [15]) (by kernel_rfl) (by simp) ?_
        refine (AllReadyH.cons (o := ({ dst := some 74, op := Op.call { callee := Callee.value (Operand.func 84), args := #[Operand.tmp 73], argTypes := #[3] }, type := 4, pos := "ref.go:154", after := #[{ on := 14, ground := Ground.data }, { on := 12, ground := Ground.chain }, { on := 12, ground := Ground.guard }], guard := some (12, true) } : Oper)) rfl (fun K hK => ?_) AllReadyH.nil)
        refine guard_event (g := (q && RD)) (v := .bool (LS)) (wanted_open rfl (by rfl)) (fun hg K0 hK0 => ?_) ?_
        · (try simp only [hg, gv_true] at hK0 ⊢)
          clear hg
          have HK0 := Lib.hid hK0
          clear hK0
          go_simp
          refine (rLow_at _ LS _ HLS.out).mono ?_
          rintro e w' ⟨rfl, rfl⟩
          exact HK0.out
        try simp only [Act.put, List.setIfInBounds_toArray, List.set_cons_zero, List.set_cons_succ]
        refine hK.out _ _ (HS5.out _ hb30) (fun hS31 => ?_)
        refine wpAnyH_take (i := 16) (oi := ({ dst := some 75, op := Op.pick (Operand.tmp 71) (Operand.tmp 74) (Operand.const (Value.bool false)), type := 4, pos := "ref.go:154", after := #[{ on := 12, ground := Ground.data }, { on := 15, ground := Ground.data }], guard := none } : Oper)) (v := .bool ((q && RD) && LS)) rfl (by kernel_rfl) (by kernel_rfl) (by kernel_rfl) (fun _ _ _ h => h) (yieldsIf_and (g := (q && RD)) (h := LS) rfl rfl rfl rfl rfl) (by assumption) ?_
        try simp only [Act.put, List.setIfInBounds_toArray, List.set_cons_zero, List.set_cons_succ]
        refine wpAnyH_take (i := 17) (oi := ({ dst := some 76, op := Op.move (Operand.tmp 75), type := 4, pos := "ref.go:154", after := #[{ on := 16, ground := Ground.data }, { on := 15, ground := Ground.chain }], guard := none } : Oper)) (v := ?_) rfl (by kernel_rfl) (by kernel_rfl) (by kernel_rfl) (fun _ _ _ h => h) (Or.inl ⟨by rfl, ?_⟩) (by assumption) ?_
        rotate_left 1
        · intro w hSw
          (try dsimp only at hSw)
          go_simp
          (try with_reducible rfl)
        try simp only [Act.put, List.setIfInBounds_toArray, List.set_cons_zero, List.set_cons_succ]
        refine wpAnyH_take (i := 18) (oi := ({ dst := some 77, op := Op.fieldAddr 23 (Operand.tmp 1) 4, type := 0, pos := "ref.go:154", after := #[{ on := 17, ground := Ground.guard }, { on := 22, ground := Ground.gcOnly Departure.lateStores }], guard := some (17, true) } : Oper)) (v := gv (((q && RD) && LS)) ?_) rfl (by kernel_rfl) (by kernel_rfl) (by kernel_rfl) (fun _ _ _ h => h) (yieldsIf_guard (g := ((q && RD) && LS)) (wanted_open rfl (by rfl)) ?_) (by assumption) ?_
        rotate_left 1
        · intro hg w hSw
          (try dsimp only at hSw)
          (try simp only [hg])
          clear hg
          go_simp
          (try with_reducible rfl)
        try simp only [Act.put, List.setIfInBounds_toArray, List.set_cons_zero, List.set_cons_succ]
        refine wpAnyH_take (i := 19) (oi := ({ dst := some 78, op := Op.load 3 (Operand.tmp 77), type := 3, pos := "ref.go:154", after := #[{ on := 18, ground := Ground.data }, { on := 17, ground := Ground.guard }, { on := 22, ground := Ground.gcOnly Departure.lateStores }], guard := some (17, true) } : Oper)) (v := gv (((q && RD) && LS)) ?_) rfl (by kernel_rfl) (by kernel_rfl) (by kernel_rfl) (fun _ _ _ h => h) (yieldsIf_guard (g := ((q && RD) && LS)) (wanted_open rfl (by rfl)) ?_) (by assumption) ?_
        rotate_left 1
        · intro hg w hSw
          (try dsimp only at hSw)
          (try simp only [hg, gv_true])
          clear hg
          go_simp
          (try with_reducible rfl)
        try simp only [Act.put, List.setIfInBounds_toArray, List.set_cons_zero, List.set_cons_succ]
        refine wpAnyH_take (i := 20) (oi := ({ dst := some 79, op := Op.binOp BinOp.eql 3 (Operand.tmp 78) (Operand.const (Value.int IntKind.i64 0)) 3, type := 4, pos := "ref.go:154", after := #[{ on := 19, ground := Ground.data }, { on := 17, ground := Ground.guard }, { on := 22, ground := Ground.gcOnly Departure.lateStores }], guard := some (17, true) } : Oper)) (v := gv (((q && RD) && LS)) ?_) rfl (by kernel_rfl) (by kernel_rfl) (by kernel_rfl) (fun _ _ _ h => h) (yieldsIf_guard (g := ((q && RD) && LS)) (wanted_open rfl (by rfl)) ?_) (by assumption) ?_
        rotate_left 1
        · intro hg w hSw
          (try dsimp only at hSw)
          (try simp only [hg, gv_true])
          clear hg
          go_simp
          (try with_reducible rfl)
        try simp only [Act.put, List.setIfInBounds_toArray, List.set_cons_zero, List.set_cons_succ]
        refine wpAnyH_take (i := 21) (oi := ({ dst := some 80, op := Op.pick (Operand.tmp 76) (Operand.tmp 79) (Operand.const (Value.bool false)), type := 4, pos := "ref.go:154", after := #[{ on := 17, ground := Ground.data }, { on := 20, ground := Ground.data }, { on := 22, ground := Ground.gcOnly Departure.lateStores }], guard := none } : Oper)) (v := .bool (((q && RD) && LS) && I0)) rfl (by kernel_rfl) (by kernel_rfl) (by kernel_rfl) (fun _ _ _ h => h) (yieldsIf_and (g := ((q && RD) && LS)) (h := I0) rfl rfl rfl rfl rfl) (by assumption) ?_
        try simp only [Act.put, List.setIfInBounds_toArray, List.set_cons_zero, List.set_cons_succ]
        refine wpAnyH_take (i := 22) (oi := ({ dst := some 2, op := Op.assign (Operand.tmp 64), type := 24, pos := "ref.go:154", after := #[{ on := 5, ground := Ground.data }, { on := 17, ground := Ground.chain }, { on := 0, ground := Ground.phase }, { on := 1, ground := Ground.phase }, { on := 2, ground := Ground.phase }, { on := 3, ground := Ground.phase }, { on := 4, ground := Ground.phase }, { on := 5, ground := Ground.phase }, { on := 6, ground := Ground.textOnly Departure.lateStores }, { on := 7, ground := Ground.textOnly Departure.lateStores }, { on := 8, ground := Ground.textOnly Departure.lateStores }, { on := 9, ground := Ground.textOnly Departure.lateStores }, { on := 10, ground := Ground.textOnly Departure.lateStoresUnsure }, { on := 11, ground := Ground.textOnly Departure.lateStores }, { on := 12, ground := Ground.textOnly Departure.lateStores }, { on := 13, ground := Ground.textOnly Departure.lateStores }, { on := 14, ground := Ground.textOnly Departure.lateStores }, { on := 15, ground := Ground.textOnly Departure.lateStoresUnsure }, { on := 16, ground := Ground.textOnly Departure.lateStores }, { on := 17, ground := Ground.textOnly Departure.lateStores }, { on := 18, ground := Ground.textOnly Departure.lateStores }, { on := 19, ground := Ground.textOnly Departure.lateStores }, { on := 20, ground := Ground.textOnly Departure.lateStores }, { on := 21, ground := Ground.textOnly Departure.lateStores }], guard := none } : Oper)) (v := ?_) rfl (by kernel_rfl) (by kernel_rfl) (by kernel_rfl) (fun _ _ _ h => h) (Or.inl ⟨by rfl, ?_⟩) (by assumption) ?_
        rotate_left 1
        · intro w hSw
          (try dsimp only at hSw)
          go_simp
          (try with_reducible rfl)
        try simp only [Act.put, List.setIfInBounds_toArray, List.set_cons_zero, List.set_cons_succ]
        refine wpAnyH_take (i := 23) (oi := ({ dst := some 3, op := Op.assign (Operand.tmp 80), type := 4, pos := "ref.go:154", after := #[{ on := 21, ground := Ground.data }, { on := 22, ground := Ground.chain }, { on := 0, ground := Ground.phase }, { on := 1, ground := Ground.phase }, { on := 2, ground := Ground.phase }, { on := 3, ground := Ground.phase }, { on := 4, ground := Ground.phase }, { on := 5, ground := Ground.phase }, { on := 6, ground := Ground.phase }, { on := 7, ground := Ground.phase }, { on := 8, ground := Ground.phase }, { on := 9, ground := Ground.phase }, { on := 10, ground := Ground.phase }, { on := 11, ground := Ground.phase }, { on := 12, ground := Ground.phase }, { on := 13, ground := Ground.phase }, { on := 14, ground := Ground.phase }, { on := 15, ground := Ground.phase }, { on := 16, ground := Ground.phase }, { on := 17, ground := Ground.phase }, { on := 18, ground := Ground.phase }, { on := 19, ground := Ground.phase }, { on := 20, ground := Ground.phase }, { on := 21, ground := Ground.phase }, { on := 22, ground := Ground.phase }], guard := none } : Oper)) (v := ?_) rfl (by kernel_rfl) (by kernel_rfl) (by kernel_rfl) (fun _ _ _ h => h) (Or.inl ⟨by rfl, ?_⟩) (by assumption) ?_
        rotate_left 1
        · intro w hSw
          (try dsimp only at hSw)
          go_simp
          (try with_reducible rfl)
        try simp only [Act.put, List.setIfInBounds_toArray, List.set_cons_zero, List.set_cons_succ]
        refine wpAnyH_done (by kernel_rfl) ?_ _
        go_wp2
        refine bodyPost_ret (res2 rfl _ _) rfl ?_
        refine ⟨_, rfl, fun hB => ?_, hb.trans (hb30.mono (by have := HX.out; omega))⟩
        have tRD := HRD.out.trans (show RD = true by revert hB; cases RD <;> simp)
        have tLS := HLS.out.trans (show LS = true by revert hB; cases LS <;> simp)
        have rs : isR s = true := decide_eq_true (by have := isL_of tLS; omega)
        try rw [← byV_append] at ho30
        have e := own_lower (b2 := w.heap.size) ho30 (by have := HX.out; omega)
        rw [hv6.out tRD rs] at e
        exact e
      · refine guard_event (g := (q && RD)) (v := .bool (LS)) (wanted_open rfl (by rfl)) (fun hg K0 hK0 => ?_) ?_
        · (try simp only [hg, gv_true] at hK0 ⊢)
          clear hg
          have HK0 := Lib.hid hK0
          clear hK0
          go_simp
          refine (rLow_at _ LS _ HLS.out).mono ?_
          rintro e w' ⟨rfl, rfl⟩
          exact HK0.out
        try simp only [Act.put, List.setIfInBounds_toArray, List.set_cons_zero, List.set_cons_succ]
        refine hK.out _ _ (HS5.out _ hb0) (fun hS40 => ?_)
        refine wpAnyH_take (i := 16) (oi := ({ dst := some 75, op := Op.pick (Operand.tmp 71) (Operand.tmp 74) (Operand.const (Value.bool false)), type := 4, pos := "ref.go:154", after := #[{ on := 12, ground := Ground.data }, { on := 15, ground := Ground.data }], guard := none } : Oper)) (v := .bool ((q && RD) && LS)) rfl (by kernel_rfl) (by kernel_rfl) (by kernel_rfl) (fun _ _ _ h => h) (yieldsIf_and (g := (q && RD)) (h := LS) rfl rfl rfl rfl rfl) (by assumption) ?_
        try simp only [Act.put, List.setIfInBounds_toArray, List.set_cons_zero, List.set_cons_succ]
        refine wpAnyH_take (i := 17) (oi := ({ dst := some 76, op := Op.move (Operand.tmp 75), type := 4, pos := "ref.go:154", after := #[{ on := 16, ground := Ground.data }, { on := 15, ground := Ground.chain }], guard := none } : Oper)) (v := ?_) rfl (by kernel_rfl) (by kernel_rfl) (by kernel_rfl) (fun _ _ _ h => h) (Or.inl ⟨by rfl, ?_⟩) (by assumption) ?_
        rotate_left 1
        · intro w hSw
          (try dsimp only at hSw)
          go_simp
          (try with_reducible rfl)
        try simp only [Act.put, List.setIfInBounds_toArray, List.set_cons_zero, List.set_cons_succ]
        refine wpAnyH_take (i := 18) (oi := ({ dst := some 77, op := Op.fieldAddr 23 (Operand.tmp 1) 4, type := 0, pos := "ref.go:154", after := #[{ on := 17, ground := Ground.guard }, { on := 22, ground := Ground.gcOnly Departure.lateStores }], guard := some (17, true) } : Oper)) (v := gv (((q && RD) && LS)) ?_) rfl (by kernel_rfl) (by kernel_rfl) (by kernel_rfl) (fun _ _ _ h => h) (yieldsIf_guard (g := ((q && RD) && LS)) (wanted_open rfl (by rfl)) ?_) (by assumption) ?_
        rotate_left 1
        · intro hg w hSw
          (try dsimp only at hSw)
          (try simp only [hg])
          clear hg
          go_simp
          (try with_reducible rfl)
        try simp only [Act.put, List.setIfInBounds_toArray, List.set_cons_zero, List.set_cons_succ]
        refine wpAnyH_take (i := 19) (oi := ({ dst := some 78, op := Op.load 3 (Operand.tmp 77), type := 3, pos := "ref.go:154", after := #[{ on := 18, ground := Ground.data }, { on := 17, ground := Ground.guard }, { on := 22, ground := Ground.gcOnly Departure.lateStores }], guard := some (17, true) } : Oper)) (v := gv (((q && RD) && LS)) ?_) rfl (by kernel_rfl) (by kernel_rfl) (by kernel_rfl) (fun _ _ _ h => h) (yieldsIf_guard (g := ((q && RD) && LS)) (wanted_open rfl (by rfl)) ?_) (by assumption) ?_
        rotate_left 1
        · intro hg w hSw
          (try dsimp only at hSw)
          (try simp only [hg, gv_true])
          clear hg
          go_simp
          (try with_reducible rfl)
        try simp only [Act.put, List.setIfInBounds_toArray, List.set_cons_zero, List.set_cons_succ]
        refine wpAnyH_take (i := 20) (oi := ({ dst := some 79, op := Op.binOp BinOp.eql 3 (Operand.tmp 78) (Operand.const (Value.int IntKind.i64 0)) 3, type := 4, pos := "ref.go:154", after := #[{ on := 19, ground := Ground.data }, { on := 17, ground := Ground.guard }, { on := 22, ground := Ground.gcOnly Departure.lateStores }], guard := some (17, true) } : Oper)) (v := gv (((q && RD) && LS)) ?_) rfl (by kernel_rfl) (by kernel_rfl) (by kernel_rfl) (fun _ _ _ h => h) (yieldsIf_guard (g := ((q && RD) && LS)) (wanted_open rfl (by rfl)) ?_) (by assumption) ?_
        rotate_left 1
        · intro hg w hSw
          (try dsimp only at hSw)
          (try simp only [hg, gv_true])
          clear hg
          go_simp
          (try with_reducible rfl)
        try simp only [Act.put, List.setIfInBounds_toArray, List.set_cons_zero, List.set_cons_succ]
        refine wpAnyH_take (i := 21) (oi := ({ dst := some 80, op := Op.pick (Operand.tmp 76) (Operand.tmp 79) (Operand.const (Value.bool false)), type := 4, pos := "ref.go:154", after := #[{ on := 17, ground := Ground.data }, { on := 20, ground := Ground.data }, { on := 22, ground := Ground.gcOnly Departure.lateStores }], guard := none } : Oper)) (v := .bool (((q && RD) && LS) && I0)) rfl (by kernel_rfl) (by kernel_rfl) (by kernel_rfl) (fun _ _ _ h => h) (yieldsIf_and (g := ((q && RD) && LS)) (h := I0) rfl rfl rfl rfl rfl) (by assumption) ?_
        try simp only [Act.put, List.setIfInBounds_toArray, List.set_cons_zero, List.set_cons_succ]
        refine wpAnyH_ready (rs := [5]) (by kernel_rfl) (by simp) ?_
        refine (AllReadyH.cons (o := ({ dst := some 64, op := Op.buildSlice 24 3 #[(0, Operand.const (Value.int IntKind.u8 15)), (1, Operand.const (Value.int IntKind.u8 182)), (2, Operand.tmp 63)], type := 24, pos := "ref.go:154", after := #[{ on := 4, ground := Ground.data }], guard := none } : Oper)) rfl (fun K hK => ?_) AllReadyH.nil)
        go_simp
        generalize hA47 : World.alloc _ _ = wn47
        have hb47 := below_new hA47 hb0
        have ho47 := own_new3 hA47 hb0
        clear hA47
        refine hK.out _ _ (HS5.out _ hb47) (fun hS47 => ?_)
        refine wpAnyH_take (i := 22) (oi := ({ dst := some 2, op := Op.assign (Operand.tmp 64), type := 24, pos := "ref.go:154", after := #[{ on := 5, ground := Ground.data }, { on := 17, ground := Ground.chain }, { on := 0, ground := Ground.phase }, { on := 1, ground := Ground.phase }, { on := 2, ground := Ground.phase }, { on := 3, ground := Ground.phase }, { on := 4, ground := Ground.phase }, { on := 5, ground := Ground.phase }, { on := 6, ground := Ground.textOnly Departure.lateStores }, { on := 7, ground := Ground.textOnly Departure.lateStores }, { on := 8, ground := Ground.textOnly Departure.lateStores }, { on := 9, ground := Ground.textOnly Departure.lateStores }, { on := 10, ground := Ground.textOnly Departure.lateStoresUnsure }, { on := 11, ground := Ground.textOnly Departure.lateStores }, { on := 12, ground := Ground.textOnly Departure.lateStores }, { on := 13, ground := Ground.textOnly Departure.lateStores }, { on := 14, ground := Ground.textOnly Departure.lateStores }, { on := 15, ground := Ground.textOnly Departure.lateStoresUnsure }, { on := 16, ground := Ground.textOnly Departure.lateStores }, { on := 17, ground := Ground.textOnly Departure.lateStores }, { on := 18, ground := Ground.textOnly Departure.lateStores }, { on := 19, ground := Ground.textOnly Departure.lateStores }, { on := 20, ground := Ground.textOnly Departure.lateStores }, { on := 21, ground := Ground.textOnly Departure.lateStores }], guard := none } : Oper)) (v := ?_) rfl (by kernel_rfl) (by kernel_rfl) (by kernel_rfl) (fun _ _ _ h => h) (Or.inl ⟨by rfl, ?_⟩) (by assumption) ?_
        rotate_left 1
        · intro w hSw
          (try dsimp only at hSw)
          go_simp
          (try with_reducible rfl)
        try simp only [Act.put, List.setIfInBounds_toArray, List.set_cons_zero, List.set_cons_succ]
        refine wpAnyH_take (i := 23) (oi := ({ dst := some 3, op := Op.assign (Operand.tmp 80), type := 4, pos := "ref.go:154", after := #[{ on := 21, ground := Ground.data }, { on := 22, ground := Ground.chain }, { on := 0, ground := Ground.phase }, { on := 1, ground := Ground.phase }, { on := 2, ground := Ground.phase }, { on := 3, ground := Ground.phase }, { on := 4, ground := Ground.phase }, { on := 5, ground := Ground.phase }, { on := 6, ground := Ground.phase }, { on := 7, ground := Ground.phase }, { on := 8, ground := Ground.phase }, { on := 9, ground := Ground.phase }, { on := 10, ground := Ground.phase }, { on := 11, ground := Ground.phase }, { on := 12, ground := Ground.phase }, { on := 13, ground := Ground.phase }, { on := 14, ground := Ground.phase }, { on := 15, ground := Ground.phase }, { on := 16, ground := Ground.phase }, { on := 17, ground := Ground.phase }, { on := 18, ground := Ground.phase }, { on := 19, ground := Ground.phase }, { on := 20, ground := Ground.phase }, { on := 21, ground := Ground.phase }, { on := 22, ground := Ground.phase }], guard := none } : Oper)) (v := ?_) rfl (by kernel_rfl) (by kernel_rfl) (by kernel_rfl) (fun _ _ _ h => h) (Or.inl ⟨by rfl, ?_⟩) (by assumption) ?_
        rotate_left 1
        · intro w hSw
          (try dsimp only at hSw)
          go_simp
          (try with_reducible rfl)
        try simp only [Act.put, List.setIfInBounds_toArray, List.set_cons_zero, List.set_cons_succ]
        refine wpAnyH_done (by kernel_rfl) ?_ _
        go_wp2
        refine bodyPost_ret (res2 rfl _ _) rfl ?_
        refine ⟨_, rfl, fun hB => ?_, hb.trans (hb47.mono (by have := HX.out; omega))⟩
        have tRD := HRD.out.trans (show RD = true by revert hB; cases RD <;> simp)
        have tLS := HLS.out.trans (show LS = true by revert hB; cases LS <;> simp)
        have rs : isR s = true := decide_eq_true (by have := isL_of tLS; omega)
        try rw [← byV_append] at ho47
        have e := own_lower (b2 := w.heap.size) ho47 (by have := HX.out; omega)
        rw [hv6.out tRD rs] at e
        exact e
end Go.Proofs.Ytpekegeohcnhcaa
