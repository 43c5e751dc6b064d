/-
  The reference: counts.
-/
import Derived.Test.YtpekegeohcnhcaaIaSw
namespace Go.Proofs.Ytpekegeohcnhcaa
open Go.RowKit

set_option maxRecDepth 100000 in
set_option maxHeartbeats 8000000 in
theorem cnt_A (op n d s sz imm : Int) (w : World) (_ : -9223372036854775808 ≤ imm) (_ : imm ≤ 9223372036854775807) (hop : 7 ≤ op ∧ op ≤ 13) (hg : ∀ w1, Calls Try.prog 85 #[.int .i64 op] w1 fun e w' => e = .returned (.int .i64 n) ∧ w1 = w') (a : Int) (ha : ∀ w1, Calls Try.prog 86 #[.int .i64 op] w1 fun e w' => e = .returned (.int .u8 a) ∧ w1 = w') : Calls Try.prog 41 #[aggI ⟨op, d, s, sz, imm⟩] w (REnd w (((decide (sz = 32) || decide (sz = 16)) && ((isR d && isR s) && (imm == 0)))) ([a, 192 + 8 * s + d])) := by
  obtain ⟨i0, hi, hz0, hz1, hz2⟩ := info_parts infoBy
  have HG := Lib.hid hg
  clear hg
  have HA := Lib.hid ha
  clear ha
  have HSW := Lib.hid (sw_7_13 op hop)
  clear hop
  obtain ⟨q, hq⟩ : ∃ b, (sz == 32) = b := ⟨_, rfl⟩
  try rw [hq]
  have Hq := Lib.hid hq
  obtain ⟨Z, hZ⟩ : ∃ b, (decide (sz = 32) || decide (sz = 16)) = b := ⟨_, rfl⟩
  try rw [hZ]
  have HZ := Lib.hid hZ
  clear hZ
  obtain ⟨RD, hRD⟩ : ∃ b, isR d = b := ⟨_, rfl⟩
  try rw [hRD]
  have HRD := Lib.hid hRD
  clear hRD
  obtain ⟨RS, hRS⟩ : ∃ b, isR s = b := ⟨_, rfl⟩
  try rw [hRS]
  have HRS := Lib.hid hRS
  clear hRS
  obtain ⟨S0, hS0⟩ : ∃ b, (s == 0) = b := ⟨_, rfl⟩
  try rw [hS0]
  have HS0 := Lib.hid hS0
  obtain ⟨I0, hI0⟩ : ∃ b, (imm == 0) = b := ⟨_, rfl⟩
  try rw [hI0]
  have HI0 := Lib.hid hI0
  obtain ⟨R, hR⟩ : ∃ b, ((RD && RS) && I0) = b := ⟨_, rfl⟩
  try rw [hR]
  have HR := Lib.hid hR
  clear hR
  obtain ⟨O, hO⟩ : ∃ b, ((RD && S0) && I0) = b := ⟨_, rfl⟩
  try rw [hO]
  have HO := Lib.hid hO
  clear hO
  have HD := Lib.hid (fun w1 => rIsReg_at d RD w1 HRD.out)
  have HE := Lib.hid (fun w1 => rIsReg_at s RS w1 HRS.out)
  go_enter Try.func41, Try.ntmps41
  go_upto_region 2 with fail
  have hx := heap_alloc_new w (.cells #[.int .i64 op, .int .i64 d, .int .i64 s, .int .i64 sz, .int .i64 imm] 23)
  have hb : Below w.heap.size w (w.alloc (.cells #[.int .i64 op, .int .i64 d, .int .i64 s, .int .i64 sz, .int .i64 imm] 23)) := (Below.refl _ _).alloc (Nat.le_refl _) _
  generalize World.alloc w _ = W at hx hb ⊢
  obtain ⟨X, hX⟩ : ∃ X, X = w.heap.size := ⟨_, rfl⟩
  rw [← hX] at hx ⊢
  have HX := Lib.hid hX
  have lX := lt_of_block hx
  obtain ⟨x0, x1, x2, x3, x4⟩ := cells5 hx
  have HXX := Lib.hid hx
  clear hX hx
  go_cut [5] from 10 (fun s5 wx => s5 = .bool Z ∧ W = wx)
  case first =>
    cases q
    · have a1 : sz ≠ 32 := ne_of_beq_false Hq.out
      by_cases a3 : sz = 16
      · subst a3
        go_wp2_with fail
        go_meet
        exact ⟨by rw [← HZ.out]; rfl, rfl⟩
      · have a4 : (sz == 16) = false := beq_false_of_ne a3
        go_wp2_with fail
        go_meet
        exact ⟨by rw [← HZ.out, decide_eq_false a1, decide_eq_false a3]; rfl, rfl⟩
    · obtain rfl : sz = 32 := eq_of_beq Hq.out
      go_wp2_with fail
      go_meet
      exact ⟨by rw [← HZ.out]; rfl, rfl⟩
  case rest =>
    obtain ⟨rfl, rfl⟩ := hcut
    go_upto_region 3 with fail
    go_cut [6] from 10 (fun s6 wx => s6 = .bool R ∧ W = wx)
    case first =>
      go_wp2_with fail
      refine (HD.out _).mono ?_
      rintro e w2 ⟨rfl, rfl⟩
      cases RD
      · go_wp2_with fail
        go_meet
        exact ⟨by rw [← HR.out]; rfl, rfl⟩
      · go_wp2_with fail
        refine (HE.out _).mono ?_
        rintro e w2 ⟨rfl, rfl⟩
        cases RS
        all_goals
          go_wp2_with fail
          go_meet
          exact ⟨by rw [← HR.out]; rfl, rfl⟩
    case rest =>
      obtain ⟨rfl, rfl⟩ := hcut
      go_upto_region 4 with fail
      go_cut [7] from 10 (fun s7 wx => s7 = .bool O ∧ W = wx)
      case first =>
        go_wp2_with fail
        refine (HD.out _).mono ?_
        rintro e w2 ⟨rfl, rfl⟩
        cases RD
        · go_wp2_with fail
          go_meet
          exact ⟨by rw [← HO.out]; rfl, rfl⟩
        · cases S0
          all_goals
            go_wp2_with fail
            go_meet
            exact ⟨by rw [← HO.out]; rfl, rfl⟩
      case rest =>
        obtain ⟨rfl, rfl⟩ := hcut
        go_wp2_with fail
        refine (HG.out _).mono ?_
        rintro e w2 ⟨rfl, rfl⟩
        have HS5 := Lib.hid (show ∀ W', Below W.heap.size W W' → (fun W' => W'.cell? ⟨X, 0, none⟩ = some (.int .i64 op) ∧ W'.cell? ⟨X, 1, none⟩ = some (.int .i64 d) ∧ W'.cell? ⟨X, 2, none⟩ = some (.int .i64 s) ∧ W'.cell? ⟨X, 3, none⟩ = some (.int .i64 sz) ∧ W'.cell? ⟨X, 4, none⟩ = some (.int .i64 imm)) W' from fun W' h => ⟨(h.cell (p := ⟨X, 0, none⟩) lX).trans x0, (h.cell (p := ⟨X, 1, none⟩) lX).trans x1, (h.cell (p := ⟨X, 2, none⟩) lX).trans x2, (h.cell (p := ⟨X, 3, none⟩) lX).trans x3, (h.cell (p := ⟨X, 4, none⟩) lX).trans x4⟩)
        rcases HSW.out with f7 | ⟨f7, f8⟩ | ⟨f7, f8, f9⟩ | ⟨f7, f8, f9, f10⟩ | ⟨f7, f8, f9, f10, f11⟩ | ⟨f7, f8, f9, f10, f11, f12⟩ | ⟨f7, f8, f9, f10, f11, f12, f13⟩
        all_goals
          go_wp2_with fail
          refine wp_region_held_drew (S := (fun W' => W'.cell? ⟨X, 0, none⟩ = some (.int .i64 op) ∧ W'.cell? ⟨X, 1, none⟩ = some (.int .i64 d) ∧ W'.cell? ⟨X, 2, none⟩ = some (.int .i64 s) ∧ W'.cell? ⟨X, 3, none⟩ = some (.int .i64 sz) ∧ W'.cell? ⟨X, 4, none⟩ = some (.int .i64 imm))) (by kernel_rfl) ?_ (fun hHeld => ?_)
          · exact HS5.out _ (drewR (Below.refl _ _))
          have hb0 : Below W.heap.size W W.drew := drewR (Below.refl _ _)
          generalize W.drew = wn0 at hb0 hHeld ⊢
          refine wpAnyH_take (i := 0) (oi := ({ dst := some 58, op := Op.fieldAddr 23 (Operand.tmp 1) 0, type := 0, pos := "ref.go:123", after := #[], guard := none } : Oper)) (v := ?_) rfl (by kernel_rfl) (by kernel_rfl) (by kernel_rfl) (fun _ _ _ h => h) (Or.inl ⟨by rfl, ?_⟩) (by assumption) ?_
          rotate_left 1
          · intro w hSw
            (try dsimp only at hSw)
            go_simp
            (try with_reducible rfl)
          try simp only [Act.put, List.setIfInBounds_toArray, List.set_cons_zero, List.set_cons_succ]
          refine wpAnyH_take (i := 1) (oi := ({ dst := some 59, op := Op.load 3 (Operand.tmp 58), type := 3, pos := "ref.go:123", after := #[{ on := 0, ground := Ground.data }], guard := none } : Oper)) (v := ?_) rfl (by kernel_rfl) (by kernel_rfl) (by kernel_rfl) (fun _ _ _ h => h) (Or.inl ⟨by rfl, ?_⟩) (by assumption) ?_
          rotate_left 1
          · intro w hSw
            (try dsimp only at hSw)
            go_simp
            (try with_reducible rfl)
          try simp only [Act.put, List.setIfInBounds_toArray, List.set_cons_zero, List.set_cons_succ]
          refine wpAnyH_take (i := 3) (oi := ({ dst := some 61, op := Op.fieldAddr 23 (Operand.tmp 1) 2, type := 0, pos := "ref.go:123", after := #[], guard := none } : Oper)) (v := ?_) rfl (by kernel_rfl) (by kernel_rfl) (by kernel_rfl) (fun _ _ _ h => h) (Or.inl ⟨by rfl, ?_⟩) (by assumption) ?_
          rotate_left 1
          · intro w hSw
            (try dsimp only at hSw)
            go_simp
            (try with_reducible rfl)
          try simp only [Act.put, List.setIfInBounds_toArray, List.set_cons_zero, List.set_cons_succ]
          refine wpAnyH_take (i := 4) (oi := ({ dst := some 62, op := Op.load 3 (Operand.tmp 61), type := 3, pos := "ref.go:123", after := #[{ on := 3, ground := Ground.data }], guard := none } : Oper)) (v := ?_) rfl (by kernel_rfl) (by kernel_rfl) (by kernel_rfl) (fun _ _ _ h => h) (Or.inl ⟨by rfl, ?_⟩) (by assumption) ?_
          rotate_left 1
          · intro w hSw
            (try dsimp only at hSw)
            go_simp
            (try with_reducible rfl)
          try simp only [Act.put, List.setIfInBounds_toArray, List.set_cons_zero, List.set_cons_succ]
          refine wpAnyH_take (i := 5) (oi := ({ dst := some 63, op := Op.fieldAddr 23 (Operand.tmp 1) 1, type := 0, pos := "ref.go:123", after := #[], guard := none } : Oper)) (v := ?_) rfl (by kernel_rfl) (by kernel_rfl) (by kernel_rfl) (fun _ _ _ h => h) (Or.inl ⟨by rfl, ?_⟩) (by assumption) ?_
          rotate_left 1
          · intro w hSw
            (try dsimp only at hSw)
            go_simp
            (try with_reducible rfl)
          try simp only [Act.put, List.setIfInBounds_toArray, List.set_cons_zero, List.set_cons_succ]
          refine wpAnyH_take (i := 6) (oi := ({ dst := some 64, op := Op.load 3 (Operand.tmp 63), type := 3, pos := "ref.go:123", after := #[{ on := 5, ground := Ground.data }], guard := none } : Oper)) (v := ?_) rfl (by kernel_rfl) (by kernel_rfl) (by kernel_rfl) (fun _ _ _ h => h) (Or.inl ⟨by rfl, ?_⟩) (by assumption) ?_
          rotate_left 1
          · intro w hSw
            (try dsimp only at hSw)
            go_simp
            (try with_reducible rfl)
          try simp only [Act.put, List.setIfInBounds_toArray, List.set_cons_zero, List.set_cons_succ]
          refine wpAnyH_take (i := 9) (oi := ({ dst := some 67, op := Op.move (Operand.tmp 5), type := 4, pos := "ref.go:123", after := #[], guard := none } : Oper)) (v := ?_) rfl (by kernel_rfl) (by kernel_rfl) (by kernel_rfl) (fun _ _ _ h => h) (Or.inl ⟨by rfl, ?_⟩) (by assumption) ?_
          rotate_left 1
          · intro w hSw
            (try dsimp only at hSw)
            go_simp
            (try with_reducible rfl)
          try simp only [Act.put, List.setIfInBounds_toArray, List.set_cons_zero, List.set_cons_succ]
          refine wpAnyH_ready (rs := [2]) (by kernel_rfl) (by simp) ?_
          refine (AllReadyH.cons (o := ({ dst := some 60, op := Op.call { callee := Callee.value (Operand.func 86), args := #[Operand.tmp 59], argTypes := #[3] }, type := 5, pos := "ref.go:123", after := #[{ on := 1, ground := Ground.data }], guard := none } : Oper)) rfl (fun K hK => ?_) AllReadyH.nil)
          go_simp
          refine (HA.out _).mono ?_
          rintro e w' ⟨rfl, rfl⟩
          refine hK.out _ _ (HS5.out _ hb0) (fun hS8 => ?_)
          refine wpAnyH_ready (rs := [7]) (by kernel_rfl) (by simp) ?_
          refine (AllReadyH.cons (o := ({ dst := some 65, op := Op.call { callee := Callee.value (Operand.func 80), args := #[Operand.tmp 62, Operand.tmp 64], argTypes := #[3, 3] }, type := 5, pos := "ref.go:123", after := #[{ on := 4, ground := Ground.data }, { on := 6, ground := Ground.data }, { on := 2, ground := Ground.chain }], guard := none } : Oper)) rfl (fun K hK => ?_) AllReadyH.nil)
          go_simp
          refine (rMr_sym _ _ _).mono ?_
          rintro e w' ⟨v9, rfl, hv9, rfl⟩
          refine hK.out _ _ (HS5.out _ hb0) (fun hS9 => ?_)
          refine wpAnyH_take (i := 10) (oi := ({ dst := some 68, op := Op.move (Operand.tmp 67), type := 4, pos := "ref.go:123", after := #[{ on := 9, ground := Ground.data }, { on := 7, ground := Ground.chain }], guard := none } : Oper)) (v := ?_) rfl (by kernel_rfl) (by kernel_rfl) (by kernel_rfl) (fun _ _ _ h => h) (Or.inl ⟨by rfl, ?_⟩) (by assumption) ?_
          rotate_left 1
          · intro w hSw
            (try dsimp only at hSw)
            go_simp
            (try with_reducible rfl)
          try simp only [Act.put, List.setIfInBounds_toArray, List.set_cons_zero, List.set_cons_succ]
          refine wpAnyH_take (i := 11) (oi := ({ dst := some 69, op := Op.move (Operand.tmp 6), type := 4, pos := "ref.go:123", after := #[{ on := 10, ground := Ground.guard }, { on := 13, ground := Ground.gcOnly Departure.lateStores }], guard := some (10, true) } : Oper)) (v := gv (Z) ?_) rfl (by kernel_rfl) (by kernel_rfl) (by kernel_rfl) (fun _ _ _ h => h) (yieldsIf_guard (g := Z) (wanted_open rfl (by rfl)) ?_) (by assumption) ?_
          rotate_left 1
          · intro hg w hSw
            (try dsimp only at hSw)
            (try simp only [hg])
            clear hg
            go_simp
            (try with_reducible rfl)
          try simp only [Act.put, List.setIfInBounds_toArray, List.set_cons_zero, List.set_cons_succ]
          refine wpAnyH_take (i := 12) (oi := ({ dst := some 70, op := Op.pick (Operand.tmp 68) (Operand.tmp 69) (Operand.const (Value.bool false)), type := 4, pos := "ref.go:123", after := #[{ on := 10, ground := Ground.data }, { on := 11, ground := Ground.data }, { on := 13, ground := Ground.gcOnly Departure.lateStores }], guard := none } : Oper)) (v := .bool (Z && R)) rfl (by kernel_rfl) (by kernel_rfl) (by kernel_rfl) (fun _ _ _ h => h) (yieldsIf_and (g := Z) (h := R) rfl rfl rfl rfl rfl) (by assumption) ?_
          try simp only [Act.put, List.setIfInBounds_toArray, List.set_cons_zero, List.set_cons_succ]
          refine wpAnyH_ready (rs := [8]) (by kernel_rfl) (by simp) ?_
          refine (AllReadyH.cons (o := ({ dst := some 66, op := Op.buildSlice 24 2 #[(0, Operand.tmp 60), (1, Operand.tmp 65)], type := 24, pos := "ref.go:123", after := #[{ on := 2, ground := Ground.data }, { on := 7, ground := Ground.data }], guard := none } : Oper)) rfl (fun K hK => ?_) AllReadyH.nil)
          go_simp
          generalize hA13 : World.alloc _ _ = wn13
          have hb13 := below_new hA13 hb0
          have ho13 := own_new2 hA13 hb0
          clear hA13
          refine hK.out _ _ (HS5.out _ hb13) (fun hS13 => ?_)
          refine wpAnyH_take (i := 13) (oi := ({ dst := some 2, op := Op.assign (Operand.tmp 66), type := 24, pos := "ref.go:123", after := #[{ on := 8, ground := Ground.data }, { on := 10, ground := Ground.chain }, { on := 0, ground := Ground.phase }, { on := 1, ground := Ground.phase }, { on := 2, ground := Ground.phase }, { on := 3, ground := Ground.phase }, { on := 4, ground := Ground.phase }, { on := 5, ground := Ground.phase }, { on := 6, ground := Ground.phase }, { on := 7, ground := Ground.phase }, { on := 8, ground := Ground.phase }, { on := 9, ground := Ground.textOnly Departure.lateStores }, { on := 10, ground := Ground.textOnly Departure.lateStores }, { on := 11, ground := Ground.textOnly Departure.lateStores }, { on := 12, ground := Ground.textOnly Departure.lateStores }], guard := none } : Oper)) (v := ?_) rfl (by kernel_rfl) (by kernel_rfl) (by kernel_rfl) (fun _ _ _ h => h) (Or.inl ⟨by rfl, ?_⟩) (by assumption) ?_
          rotate_left 1
          · intro w hSw
            (try dsimp only at hSw)
            go_simp
            (try with_reducible rfl)
          try simp only [Act.put, List.setIfInBounds_toArray, List.set_cons_zero, List.set_cons_succ]
          refine wpAnyH_take (i := 14) (oi := ({ dst := some 3, op := Op.assign (Operand.tmp 70), type := 4, pos := "ref.go:123", after := #[{ on := 12, ground := Ground.data }, { on := 13, ground := Ground.chain }, { on := 0, ground := Ground.phase }, { on := 1, ground := Ground.phase }, { on := 2, ground := Ground.phase }, { on := 3, ground := Ground.phase }, { on := 4, ground := Ground.phase }, { on := 5, ground := Ground.phase }, { on := 6, ground := Ground.phase }, { on := 7, ground := Ground.phase }, { on := 8, ground := Ground.phase }, { on := 9, ground := Ground.phase }, { on := 10, ground := Ground.phase }, { on := 11, ground := Ground.phase }, { on := 12, ground := Ground.phase }, { on := 13, ground := Ground.phase }], guard := none } : Oper)) (v := ?_) rfl (by kernel_rfl) (by kernel_rfl) (by kernel_rfl) (fun _ _ _ h => h) (Or.inl ⟨by rfl, ?_⟩) (by assumption) ?_
          rotate_left 1
          · intro w hSw
            (try dsimp only at hSw)
            go_simp
            (try with_reducible rfl)
          try simp only [Act.put, List.setIfInBounds_toArray, List.set_cons_zero, List.set_cons_succ]
          refine wpAnyH_done (by kernel_rfl) ?_ _
          go_wp2
          refine bodyPost_ret (res2 rfl _ _) rfl ?_
          refine ⟨_, rfl, fun hB => ?_, hb.trans (hb13.mono (by have := HX.out; omega))⟩
          have hR2 := HR.out.trans (show R = true by revert hB; cases R <;> simp)
          simp only [Bool.and_eq_true] at hR2
          obtain ⟨⟨hd, hs⟩, -⟩ := hR2
          replace hd := HRD.out.trans hd
          replace hs := HRS.out.trans hs
          try rw [← byV_append] at ho13
          have e := own_lower (b2 := w.heap.size) ho13 (by have := HX.out; omega)
          rw [hv9.out hs hd] at e
          exact e
end Go.Proofs.Ytpekegeohcnhcaa
