/-
  Environments, of both packages.
-/
import Derived.Test.YtbohigjfdnnomaaGreatDoorTeL
namespace Go.Proofs.YtbohigjfdnnomaaGreatDoor
open Go.RowKit

theorem widF_range {T : List Nd} (h : valF T = 0) (v : Nat) : ∀ k, k ≤ T.length → widF T k v = 0 ∨ 1 ≤ widF T k v ∧ widF T k v ≤ 32
  | 0, _ => .inl rfl
  | k + 1, hk => by
    rw [widF]
    split
    · exact .inr (nod_iff.1 ((val_zero.1 h).2.1 k (by omega))).2.2.1
    · exact widF_range h v k (by omega)
theorem env_len {T : List Nd} {env : List Nat} (h : env.length ≠ 4) : envB T env = false := Bool.eq_false_iff.2 fun hh => h (env_iff.1 hh).1
theorem env_no {T : List Nd} {env : List Nat} {v : Nat} (hv : v < 4) (h0 : widF T T.length v ≠ 0) (h : ¬ env[v]! < pw (widF T T.length v).toNat) : envB T env = false := Bool.eq_false_iff.2 fun hh => by
  rcases (env_iff.1 hh).2 v hv with h2 | h2
  · exact h0 h2
  · exact h h2
theorem u64_wrap (n : Int) : IntKind.u64.wrap n = n % 18446744073709551616 := rfl
theorem idx4 (f : Nat → Int) {i : Nat} (h : i < 4) (W : World) : (Instr.index 88 (.agg #[.int .i64 (f 0), .int .i64 (f 1), .int .i64 (f 2), .int .i64 (f 3)]) (.int .i64 (i : Int))).run Tryz.prog W = .ok (.int .i64 (f i)) W := by
  obtain rfl | rfl | rfl | rfl : i = 0 ∨ i = 1 ∨ i = 2 ∨ i = 3 := by omega
  · kernel_rfl
  · kernel_rfl
  · kernel_rfl
  · kernel_rfl
section
variable {w : World} {A E : Option Addr} {n c m cE : Nat} {T : List Nd} {env : List Nat} (h : Term w A n c T) (hv : valF T = 0) (hE : Ws w E m cE env) (hu : ∀ j, j < m → env[j]! < 4294967296)
include h hv hE hu
set_option maxRecDepth 100000 in
set_option maxHeartbeats 8000000 in
theorem isEnv_any : Calls Tryz.prog 49 #[.slice A n c, .slice E m cE] w fun e w' => e = .returned (.bool (envB T env)) ∧ Below w.heap.size w w' := by
  have hcap := hE.2.1
  have hmax := hE.2.2.1
  by_cases hm : m = 4
  · subst hm
    have HW := Lib.hid (fun w1 (hb : Below w.heap.size w w1) => widths_any (h.below hb) (vars_ok hv h.imm))
    have HRG := Lib.hid (fun v => widF_range hv v n (by rw [h.1]; exact Nat.le_refl _))
    have HNO := Lib.hid (show ∀ v, v < 4 → widF T n v ≠ 0 → ¬ env[v]! < pw (widF T n v).toNat → envB T env = false by rw [h.1]; exact fun v hv => env_no hv)
    have HYES := Lib.hid (show (∀ v, v < 4 → widF T n v = 0 ∨ env[v]! < pw (widF T n v).toNat) → envB T env = true by rw [h.1]; exact fun hh => env_iff.2 ⟨hE.1.symm, hh⟩)
    have HEE := Lib.hid hE
    have HU := Lib.hid hu
    generalize widF T n = f at HW HRG HNO HYES
    generalize envB T env = B at HNO HYES ⊢
    clear h hv hE hu
    go_enter Tryz.func49, Tryz.ntmps49
    go_wp2_with fail
    refine (HW.out _ (Below.refl _ _)).mono ?_
    rintro e w1 ⟨rfl, hb⟩
    go_wp2
    have HB := Lib.hid hb
    clear hb HW
    go_loopw [12] (fun zi wr => ∃ i : Nat, i ≤ 4 ∧ zi = .int .i64 (i : Int) ∧ Below w1.heap.size w1 wr ∧ Hid (∀ v, v < i → f v = 0 ∨ env[v]! < pw (f v).toNat)) (fun zi _ => 4 - (intOf zi).toNat)
    case atStart => exact ⟨0, by omega, rfl, Below.refl _ _, Lib.hid fun j hj => absurd hj (by omega)⟩
    case round =>
      obtain ⟨i, hi, rfl, hb, HJ⟩ := hrel
      by_cases hlt : i < 4
      · have hb1 := HB.out.trans (hb.mono HB.out.size)
        obtain ⟨bE, oE, rfl, hbE, hcE⟩ := (HEE.out.below hb1).at_ hlt
        have hidx := idx4 f hlt
        have HI := Lib.hid (HNO.out i hlt)
        have HJ2 := Lib.hid (show (f i = 0 ∨ env[i]! < pw (f i).toNat) → ∀ v, v < i + 1 → f v = 0 ∨ env[v]! < pw (f v).toNat from fun hh v hv => by
          by_cases e : v = i
          · rw [e]; exact hh
          · exact HJ.out v (by omega))
        have hr := HRG.out i
        have hui := HU.out i hlt
        have HBW := Lib.hid hb
        have HB1 := Lib.hid hb1
        have HS := Lib.hid (show ∀ U, Below wr.heap.size wr U → U.cell? ⟨bE, oE + i, none⟩ = some (.int .u32 ((env[i]! : Nat) : Int)) from fun U hU => (hU.cell (p := ⟨bE, oE + i, none⟩) hbE).trans hcE)
        have HWU := Lib.hid (fun (x : Nat) (hx : x < 4294967296) => show IntKind.u64.wrap (x : Int) = (x : Int) by rw [u64_wrap]; omega)
        obtain ⟨F, hF⟩ : ∃ F, f i = F := ⟨_, rfl⟩
        rw [hF] at HI HJ2 hr hidx
        generalize env[i]! = x at hcE HI HJ2 hui HS
        clear hF hb hb1
        by_cases z : F = 0
        · subst z
          have HJ3 := Lib.hid (HJ2.out (.inl rfl))
          clear HI HJ2 hr
          go_upto_region 6 with fail
          refine wp_region_held_drew (S := (fun U => U.cell? ⟨bE, oE + i, none⟩ = some (.int .u32 ((x : Nat) : Int)))) (by kernel_rfl) ?_ (fun hHeld => ?_)
          · exact HS.out _ (by first | exact Below.refl _ _ | exact drewD (Below.refl _ _) | exact drewR (Below.refl _ _))
          refine wpAnyH_take (i := 0) (oi := ({ dst := some 16, op := Op.move (Operand.tmp 6), type := 3, pos := "term.go:36", after := #[], guard := none } : Oper)) (v := ?a1_v0) rfl (by kernel_rfl) (by kernel_rfl) (by kernel_rfl) (fun _ _ _ h => h) (Or.inl ⟨by rfl, ?a1_y0⟩) (by assumption) ?a1_r0
          case a1_y0 =>
            intro w hSw
            (try dsimp only at hSw)
            go_simp
            (try with_reducible rfl)
          try simp only [Act.put, List.setIfInBounds_toArray, List.set_cons_zero, List.set_cons_succ]
          refine wpAnyH_take (i := 1) (oi := ({ dst := some 17, op := Op.binOp BinOp.gtr 3 (Operand.tmp 16) (Operand.const (Value.int IntKind.i64 0)) 3, type := 4, pos := "term.go:36", after := #[{ on := 0, ground := Ground.data }], guard := none } : Oper)) (v := ?a2_v1) rfl (by kernel_rfl) (by kernel_rfl) (by kernel_rfl) (fun _ _ _ h => h) (Or.inl ⟨by rfl, ?a2_y1⟩) (by assumption) ?a2_r1
          case a2_y1 =>
            intro w hSw
            (try dsimp only at hSw)
            go_simp
            (try with_reducible rfl)
          try simp only [Act.put, List.setIfInBounds_toArray, List.set_cons_zero, List.set_cons_succ]
          refine wpAnyH_take (i := 2) (oi := ({ dst := some 18, op := Op.move (Operand.tmp 17), type := 4, pos := "term.go:36", after := #[{ on := 1, ground := Ground.data }], guard := none } : Oper)) (v := ?a3_v2) rfl (by kernel_rfl) (by kernel_rfl) (by kernel_rfl) (fun _ _ _ h => h) (Or.inl ⟨by rfl, ?a3_y2⟩) (by assumption) ?a3_r2
          case a3_y2 =>
            intro w hSw
            (try dsimp only at hSw)
            go_simp
            (try with_reducible rfl)
          try simp only [Act.put, List.setIfInBounds_toArray, List.set_cons_zero, List.set_cons_succ]
          refine wpAnyH_take (i := 3) (oi := ({ dst := some 19, op := Op.move (Operand.tmp 1), type := 31, pos := "term.go:36", after := #[{ on := 2, ground := Ground.guard }], guard := some (2, true) } : Oper)) rfl (by kernel_rfl) (by kernel_rfl) (by kernel_rfl) (fun _ _ _ h => h) (Or.inr ⟨by rfl, rfl⟩) (by assumption) ?a4_r3
          try simp only [Act.put, List.setIfInBounds_toArray, List.set_cons_zero, List.set_cons_succ]
          refine wpAnyH_take (i := 4) (oi := ({ dst := some 20, op := Op.move (Operand.tmp 5), type := 3, pos := "term.go:36", after := #[{ on := 2, ground := Ground.guard }], guard := some (2, true) } : Oper)) rfl (by kernel_rfl) (by kernel_rfl) (by kernel_rfl) (fun _ _ _ h => h) (Or.inr ⟨by rfl, rfl⟩) (by assumption) ?a5_r4
          try simp only [Act.put, List.setIfInBounds_toArray, List.set_cons_zero, List.set_cons_succ]
          refine wpAnyH_take (i := 5) (oi := ({ dst := some 21, op := Op.indexAddr 31 (Operand.tmp 19) (Operand.tmp 20), type := 0, pos := "term.go:36", after := #[{ on := 3, ground := Ground.data }, { on := 4, ground := Ground.data }, { on := 2, ground := Ground.guard }], guard := some (2, true) } : Oper)) rfl (by kernel_rfl) (by kernel_rfl) (by kernel_rfl) (fun _ _ _ h => h) (Or.inr ⟨by rfl, rfl⟩) (by assumption) ?a6_r5
          try simp only [Act.put, List.setIfInBounds_toArray, List.set_cons_zero, List.set_cons_succ]
          refine wpAnyH_take (i := 6) (oi := ({ dst := some 22, op := Op.load 36 (Operand.tmp 21), type := 36, pos := "term.go:36", after := #[{ on := 5, ground := Ground.data }, { on := 2, ground := Ground.guard }], guard := some (2, true) } : Oper)) rfl (by kernel_rfl) (by kernel_rfl) (by kernel_rfl) (fun _ _ _ h => h) (Or.inr ⟨by rfl, rfl⟩) (by assumption) ?a7_r6
          try simp only [Act.put, List.setIfInBounds_toArray, List.set_cons_zero, List.set_cons_succ]
          refine wpAnyH_take (i := 7) (oi := ({ dst := some 23, op := Op.convert 36 48 (Operand.tmp 22), type := 48, pos := "term.go:36", after := #[{ on := 6, ground := Ground.data }, { on := 2, ground := Ground.guard }], guard := some (2, true) } : Oper)) rfl (by kernel_rfl) (by kernel_rfl) (by kernel_rfl) (fun _ _ _ h => h) (Or.inr ⟨by rfl, rfl⟩) (by assumption) ?a8_r7
          try simp only [Act.put, List.setIfInBounds_toArray, List.set_cons_zero, List.set_cons_succ]
          refine wpAnyH_take (i := 8) (oi := ({ dst := some 24, op := Op.move (Operand.tmp 6), type := 3, pos := "term.go:36", after := #[{ on := 2, ground := Ground.guard }], guard := some (2, true) } : Oper)) rfl (by kernel_rfl) (by kernel_rfl) (by kernel_rfl) (fun _ _ _ h => h) (Or.inr ⟨by rfl, rfl⟩) (by assumption) ?a9_r8
          try simp only [Act.put, List.setIfInBounds_toArray, List.set_cons_zero, List.set_cons_succ]
          refine wpAnyH_take (i := 9) (oi := ({ dst := some 25, op := Op.binOp BinOp.shl 48 (Operand.const (Value.int IntKind.u64 1)) (Operand.tmp 24) 3, type := 48, pos := "term.go:36", after := #[{ on := 8, ground := Ground.data }, { on := 2, ground := Ground.guard }], guard := some (2, true) } : Oper)) rfl (by kernel_rfl) (by kernel_rfl) (by kernel_rfl) (fun _ _ _ h => h) (Or.inr ⟨by rfl, rfl⟩) (by assumption) ?a10_r9
          try simp only [Act.put, List.setIfInBounds_toArray, List.set_cons_zero, List.set_cons_succ]
          refine wpAnyH_take (i := 10) (oi := ({ dst := some 26, op := Op.binOp BinOp.geq 48 (Operand.tmp 23) (Operand.tmp 25) 48, type := 4, pos := "term.go:36", after := #[{ on := 7, ground := Ground.data }, { on := 9, ground := Ground.data }, { on := 2, ground := Ground.guard }], guard := some (2, true) } : Oper)) rfl (by kernel_rfl) (by kernel_rfl) (by kernel_rfl) (fun _ _ _ h => h) (Or.inr ⟨by rfl, rfl⟩) (by assumption) ?a11_r10
          try simp only [Act.put, List.setIfInBounds_toArray, List.set_cons_zero, List.set_cons_succ]
          refine wpAnyH_take (i := 11) (oi := ({ dst := some 27, op := Op.pick (Operand.tmp 18) (Operand.tmp 26) (Operand.const (Value.bool false)), type := 4, pos := "term.go:36", after := #[{ on := 2, ground := Ground.data }, { on := 10, ground := Ground.data }], guard := none } : Oper)) (v := ?a12_v11) rfl (by kernel_rfl) (by kernel_rfl) (by kernel_rfl) (fun _ _ _ h => h) (Or.inl ⟨by rfl, ?a12_y11⟩) (by assumption) ?a12_r11
          case a12_y11 =>
            intro w hSw
            (try dsimp only at hSw)
            go_simp
            (try with_reducible rfl)
          try simp only [Act.put, List.setIfInBounds_toArray, List.set_cons_zero, List.set_cons_succ]
          refine wpAnyH_done (by kernel_rfl) ?_ _
          go_wp2
          exact ⟨⟨i + 1, by omega, by go_num, drewD HBW.out, HJ3⟩, by simp [intOf]; omega⟩
        · obtain ⟨u, rfl⟩ : ∃ u : Nat, F = u := ⟨F.toNat, by omega⟩
          have e0 : decide (0 < u) = true := decide_eq_true (by omega)
          have HSH := Lib.hid (wrap_u64 u (by omega))
          rw [Int.toNat_natCast] at HI HJ2
          have hp := pw_le (n := u) (by omega)
          generalize pw u = P at HI HJ2 HSH hp
          by_cases hx : x < P
          · have e1 : decide (IntKind.u64.wrap ((2 : Int) ^ min u 64) ≤ IntKind.u64.wrap (x : Int)) = false := by rw [Nat.min_eq_left (by omega), HSH.out, HWU.out x hui]; simp; omega
            have HJ3 := Lib.hid (HJ2.out (.inr hx))
            clear HI HJ2 hr
            go_upto_region 6 with fail
            refine wp_region_held_drew (S := (fun U => U.cell? ⟨bE, oE + i, none⟩ = some (.int .u32 ((x : Nat) : Int)))) (by kernel_rfl) ?_ (fun hHeld => ?_)
            · exact HS.out _ (by first | exact Below.refl _ _ | exact drewD (Below.refl _ _) | exact drewR (Below.refl _ _))
            refine wpAnyH_take (i := 0) (oi := ({ dst := some 16, op := Op.move (Operand.tmp 6), type := 3, pos := "term.go:36", after := #[], guard := none } : Oper)) (v := ?b1_v0) rfl (by kernel_rfl) (by kernel_rfl) (by kernel_rfl) (fun _ _ _ h => h) (Or.inl ⟨by rfl, ?b1_y0⟩) (by assumption) ?b1_r0
            case b1_y0 =>
              intro w hSw
              (try dsimp only at hSw)
              go_simp
              (try with_reducible rfl)
            try simp only [Act.put, List.setIfInBounds_toArray, List.set_cons_zero, List.set_cons_succ]
            refine wpAnyH_take (i := 1) (oi := ({ dst := some 17, op := Op.binOp BinOp.gtr 3 (Operand.tmp 16) (Operand.const (Value.int IntKind.i64 0)) 3, type := 4, pos := "term.go:36", after := #[{ on := 0, ground := Ground.data }], guard := none } : Oper)) (v := ?b2_v1) rfl (by kernel_rfl) (by kernel_rfl) (by kernel_rfl) (fun _ _ _ h => h) (Or.inl ⟨by rfl, ?b2_y1⟩) (by assumption) ?b2_r1
            case b2_y1 =>
              intro w hSw
              (try dsimp only at hSw)
              go_simp
              (try with_reducible rfl)
            try simp only [Act.put, List.setIfInBounds_toArray, List.set_cons_zero, List.set_cons_succ]
            refine wpAnyH_take (i := 2) (oi := ({ dst := some 18, op := Op.move (Operand.tmp 17), type := 4, pos := "term.go:36", after := #[{ on := 1, ground := Ground.data }], guard := none } : Oper)) (v := ?b3_v2) rfl (by kernel_rfl) (by kernel_rfl) (by kernel_rfl) (fun _ _ _ h => h) (Or.inl ⟨by rfl, ?b3_y2⟩) (by assumption) ?b3_r2
            case b3_y2 =>
              intro w hSw
              (try dsimp only at hSw)
              go_simp
              (try with_reducible rfl)
            try simp only [Act.put, List.setIfInBounds_toArray, List.set_cons_zero, List.set_cons_succ]
            refine wpAnyH_take (i := 3) (oi := ({ dst := some 19, op := Op.move (Operand.tmp 1), type := 31, pos := "term.go:36", after := #[{ on := 2, ground := Ground.guard }], guard := some (2, true) } : Oper)) (v := ?b4_v3) rfl (by kernel_rfl) (by kernel_rfl) (by kernel_rfl) (fun _ _ _ h => h) (Or.inl ⟨by rfl, ?b4_y3⟩) (by assumption) ?b4_r3
            case b4_y3 =>
              intro w hSw
              (try dsimp only at hSw)
              go_simp
              (try with_reducible rfl)
            try simp only [Act.put, List.setIfInBounds_toArray, List.set_cons_zero, List.set_cons_succ]
            refine wpAnyH_take (i := 4) (oi := ({ dst := some 20, op := Op.move (Operand.tmp 5), type := 3, pos := "term.go:36", after := #[{ on := 2, ground := Ground.guard }], guard := some (2, true) } : Oper)) (v := ?b5_v4) rfl (by kernel_rfl) (by kernel_rfl) (by kernel_rfl) (fun _ _ _ h => h) (Or.inl ⟨by rfl, ?b5_y4⟩) (by assumption) ?b5_r4
            case b5_y4 =>
              intro w hSw
              (try dsimp only at hSw)
              go_simp
              (try with_reducible rfl)
            try simp only [Act.put, List.setIfInBounds_toArray, List.set_cons_zero, List.set_cons_succ]
            refine wpAnyH_take (i := 5) (oi := ({ dst := some 21, op := Op.indexAddr 31 (Operand.tmp 19) (Operand.tmp 20), type := 0, pos := "term.go:36", after := #[{ on := 3, ground := Ground.data }, { on := 4, ground := Ground.data }, { on := 2, ground := Ground.guard }], guard := some (2, true) } : Oper)) (v := ?b6_v5) rfl (by kernel_rfl) (by kernel_rfl) (by kernel_rfl) (fun _ _ _ h => h) (Or.inl ⟨by rfl, ?b6_y5⟩) (by assumption) ?b6_r5
            case b6_y5 =>
              intro w hSw
              (try dsimp only at hSw)
              go_simp
              (try with_reducible rfl)
            try simp only [Act.put, List.setIfInBounds_toArray, List.set_cons_zero, List.set_cons_succ]
            refine wpAnyH_take (i := 6) (oi := ({ dst := some 22, op := Op.load 36 (Operand.tmp 21), type := 36, pos := "term.go:36", after := #[{ on := 5, ground := Ground.data }, { on := 2, ground := Ground.guard }], guard := some (2, true) } : Oper)) (v := ?b7_v6) rfl (by kernel_rfl) (by kernel_rfl) (by kernel_rfl) (fun _ _ _ h => h) (Or.inl ⟨by rfl, ?b7_y6⟩) (by assumption) ?b7_r6
            case b7_y6 =>
              intro w hSw
              (try dsimp only at hSw)
              go_simp
              (try with_reducible rfl)
            try simp only [Act.put, List.setIfInBounds_toArray, List.set_cons_zero, List.set_cons_succ]
            refine wpAnyH_take (i := 7) (oi := ({ dst := some 23, op := Op.convert 36 48 (Operand.tmp 22), type := 48, pos := "term.go:36", after := #[{ on := 6, ground := Ground.data }, { on := 2, ground := Ground.guard }], guard := some (2, true) } : Oper)) (v := ?b8_v7) rfl (by kernel_rfl) (by kernel_rfl) (by kernel_rfl) (fun _ _ _ h => h) (Or.inl ⟨by rfl, ?b8_y7⟩) (by assumption) ?b8_r7
            case b8_y7 =>
              intro w hSw
              (try dsimp only at hSw)
              go_simp
              (try with_reducible rfl)
            try simp only [Act.put, List.setIfInBounds_toArray, List.set_cons_zero, List.set_cons_succ]
            refine wpAnyH_take (i := 8) (oi := ({ dst := some 24, op := Op.move (Operand.tmp 6), type := 3, pos := "term.go:36", after := #[{ on := 2, ground := Ground.guard }], guard := some (2, true) } : Oper)) (v := ?b9_v8) rfl (by kernel_rfl) (by kernel_rfl) (by kernel_rfl) (fun _ _ _ h => h) (Or.inl ⟨by rfl, ?b9_y8⟩) (by assumption) ?b9_r8
            case b9_y8 =>
              intro w hSw
              (try dsimp only at hSw)
              go_simp
              (try with_reducible rfl)
            try simp only [Act.put, List.setIfInBounds_toArray, List.set_cons_zero, List.set_cons_succ]
            refine wpAnyH_take (i := 9) (oi := ({ dst := some 25, op := Op.binOp BinOp.shl 48 (Operand.const (Value.int IntKind.u64 1)) (Operand.tmp 24) 3, type := 48, pos := "term.go:36", after := #[{ on := 8, ground := Ground.data }, { on := 2, ground := Ground.guard }], guard := some (2, true) } : Oper)) (v := ?b10_v9) rfl (by kernel_rfl) (by kernel_rfl) (by kernel_rfl) (fun _ _ _ h => h) (Or.inl ⟨by rfl, ?b10_y9⟩) (by assumption) ?b10_r9
            case b10_y9 =>
              intro w hSw
              (try dsimp only at hSw)
              go_simp
              (try with_reducible rfl)
            try simp only [Act.put, List.setIfInBounds_toArray, List.set_cons_zero, List.set_cons_succ]
            refine wpAnyH_take (i := 10) (oi := ({ dst := some 26, op := Op.binOp BinOp.geq 48 (Operand.tmp 23) (Operand.tmp 25) 48, type := 4, pos := "term.go:36", after := #[{ on := 7, ground := Ground.data }, { on := 9, ground := Ground.data }, { on := 2, ground := Ground.guard }], guard := some (2, true) } : Oper)) (v := ?b11_v10) rfl (by kernel_rfl) (by kernel_rfl) (by kernel_rfl) (fun _ _ _ h => h) (Or.inl ⟨by rfl, ?b11_y10⟩) (by assumption) ?b11_r10
            case b11_y10 =>
              intro w hSw
              (try dsimp only at hSw)
              go_simp
              (try with_reducible rfl)
            try simp only [Act.put, List.setIfInBounds_toArray, List.set_cons_zero, List.set_cons_succ]
            refine wpAnyH_take (i := 11) (oi := ({ dst := some 27, op := Op.pick (Operand.tmp 18) (Operand.tmp 26) (Operand.const (Value.bool false)), type := 4, pos := "term.go:36", after := #[{ on := 2, ground := Ground.data }, { on := 10, ground := Ground.data }], guard := none } : Oper)) (v := ?b12_v11) rfl (by kernel_rfl) (by kernel_rfl) (by kernel_rfl) (fun _ _ _ h => h) (Or.inl ⟨by rfl, ?b12_y11⟩) (by assumption) ?b12_r11
            case b12_y11 =>
              intro w hSw
              (try dsimp only at hSw)
              go_simp
              (try with_reducible rfl)
            try simp only [Act.put, List.setIfInBounds_toArray, List.set_cons_zero, List.set_cons_succ]
            refine wpAnyH_done (by kernel_rfl) ?_ _
            go_wp2
            exact ⟨⟨i + 1, by omega, by go_num, drewD HBW.out, HJ3⟩, by simp [intOf]; omega⟩
          · have e1 : decide (IntKind.u64.wrap ((2 : Int) ^ min u 64) ≤ IntKind.u64.wrap (x : Int)) = true := by rw [Nat.min_eq_left (by omega), HSH.out, HWU.out x hui]; simp; omega
            have HE := Lib.hid (HI.out (by omega) hx)
            clear HI HJ2 hr
            go_upto_region 6 with fail
            refine wp_region_held_drew (S := (fun U => U.cell? ⟨bE, oE + i, none⟩ = some (.int .u32 ((x : Nat) : Int)))) (by kernel_rfl) ?_ (fun hHeld => ?_)
            · exact HS.out _ (by first | exact Below.refl _ _ | exact drewD (Below.refl _ _) | exact drewR (Below.refl _ _))
            refine wpAnyH_take (i := 0) (oi := ({ dst := some 16, op := Op.move (Operand.tmp 6), type := 3, pos := "term.go:36", after := #[], guard := none } : Oper)) (v := ?c1_v0) rfl (by kernel_rfl) (by kernel_rfl) (by kernel_rfl) (fun _ _ _ h => h) (Or.inl ⟨by rfl, ?c1_y0⟩) (by assumption) ?c1_r0
            case c1_y0 =>
              intro w hSw
              (try dsimp only at hSw)
              go_simp
              (try with_reducible rfl)
            try simp only [Act.put, List.setIfInBounds_toArray, List.set_cons_zero, List.set_cons_succ]
            refine wpAnyH_take (i := 1) (oi := ({ dst := some 17, op := Op.binOp BinOp.gtr 3 (Operand.tmp 16) (Operand.const (Value.int IntKind.i64 0)) 3, type := 4, pos := "term.go:36", after := #[{ on := 0, ground := Ground.data }], guard := none } : Oper)) (v := ?c2_v1) rfl (by kernel_rfl) (by kernel_rfl) (by kernel_rfl) (fun _ _ _ h => h) (Or.inl ⟨by rfl, ?c2_y1⟩) (by assumption) ?c2_r1
            case c2_y1 =>
              intro w hSw
              (try dsimp only at hSw)
              go_simp
              (try with_reducible rfl)
            try simp only [Act.put, List.setIfInBounds_toArray, List.set_cons_zero, List.set_cons_succ]
            refine wpAnyH_take (i := 2) (oi := ({ dst := some 18, op := Op.move (Operand.tmp 17), type := 4, pos := "term.go:36", after := #[{ on := 1, ground := Ground.data }], guard := none } : Oper)) (v := ?c3_v2) rfl (by kernel_rfl) (by kernel_rfl) (by kernel_rfl) (fun _ _ _ h => h) (Or.inl ⟨by rfl, ?c3_y2⟩) (by assumption) ?c3_r2
            case c3_y2 =>
              intro w hSw
              (try dsimp only at hSw)
              go_simp
              (try with_reducible rfl)
            try simp only [Act.put, List.setIfInBounds_toArray, List.set_cons_zero, List.set_cons_succ]
            refine wpAnyH_take (i := 3) (oi := ({ dst := some 19, op := Op.move (Operand.tmp 1), type := 31, pos := "term.go:36", after := #[{ on := 2, ground := Ground.guard }], guard := some (2, true) } : Oper)) (v := ?c4_v3) rfl (by kernel_rfl) (by kernel_rfl) (by kernel_rfl) (fun _ _ _ h => h) (Or.inl ⟨by rfl, ?c4_y3⟩) (by assumption) ?c4_r3
            case c4_y3 =>
              intro w hSw
              (try dsimp only at hSw)
              go_simp
              (try with_reducible rfl)
            try simp only [Act.put, List.setIfInBounds_toArray, List.set_cons_zero, List.set_cons_succ]
            refine wpAnyH_take (i := 4) (oi := ({ dst := some 20, op := Op.move (Operand.tmp 5), type := 3, pos := "term.go:36", after := #[{ on := 2, ground := Ground.guard }], guard := some (2, true) } : Oper)) (v := ?c5_v4) rfl (by kernel_rfl) (by kernel_rfl) (by kernel_rfl) (fun _ _ _ h => h) (Or.inl ⟨by rfl, ?c5_y4⟩) (by assumption) ?c5_r4
            case c5_y4 =>
              intro w hSw
              (try dsimp only at hSw)
              go_simp
              (try with_reducible rfl)
            try simp only [Act.put, List.setIfInBounds_toArray, List.set_cons_zero, List.set_cons_succ]
            refine wpAnyH_take (i := 5) (oi := ({ dst := some 21, op := Op.indexAddr 31 (Operand.tmp 19) (Operand.tmp 20), type := 0, pos := "term.go:36", after := #[{ on := 3, ground := Ground.data }, { on := 4, ground := Ground.data }, { on := 2, ground := Ground.guard }], guard := some (2, true) } : Oper)) (v := ?c6_v5) rfl (by kernel_rfl) (by kernel_rfl) (by kernel_rfl) (fun _ _ _ h => h) (Or.inl ⟨by rfl, ?c6_y5⟩) (by assumption) ?c6_r5
            case c6_y5 =>
              intro w hSw
              (try dsimp only at hSw)
              go_simp
              (try with_reducible rfl)
            try simp only [Act.put, List.setIfInBounds_toArray, List.set_cons_zero, List.set_cons_succ]
            refine wpAnyH_take (i := 6) (oi := ({ dst := some 22, op := Op.load 36 (Operand.tmp 21), type := 36, pos := "term.go:36", after := #[{ on := 5, ground := Ground.data }, { on := 2, ground := Ground.guard }], guard := some (2, true) } : Oper)) (v := ?c7_v6) rfl (by kernel_rfl) (by kernel_rfl) (by kernel_rfl) (fun _ _ _ h => h) (Or.inl ⟨by rfl, ?c7_y6⟩) (by assumption) ?c7_r6
            case c7_y6 =>
              intro w hSw
              (try dsimp only at hSw)
              go_simp
              (try with_reducible rfl)
            try simp only [Act.put, List.setIfInBounds_toArray, List.set_cons_zero, List.set_cons_succ]
            refine wpAnyH_take (i := 7) (oi := ({ dst := some 23, op := Op.convert 36 48 (Operand.tmp 22), type := 48, pos := "term.go:36", after := #[{ on := 6, ground := Ground.data }, { on := 2, ground := Ground.guard }], guard := some (2, true) } : Oper)) (v := ?c8_v7) rfl (by kernel_rfl) (by kernel_rfl) (by kernel_rfl) (fun _ _ _ h => h) (Or.inl ⟨by rfl, ?c8_y7⟩) (by assumption) ?c8_r7
            case c8_y7 =>
              intro w hSw
              (try dsimp only at hSw)
              go_simp
              (try with_reducible rfl)
            try simp only [Act.put, List.setIfInBounds_toArray, List.set_cons_zero, List.set_cons_succ]
            refine wpAnyH_take (i := 8) (oi := ({ dst := some 24, op := Op.move (Operand.tmp 6), type := 3, pos := "term.go:36", after := #[{ on := 2, ground := Ground.guard }], guard := some (2, true) } : Oper)) (v := ?c9_v8) rfl (by kernel_rfl) (by kernel_rfl) (by kernel_rfl) (fun _ _ _ h => h) (Or.inl ⟨by rfl, ?c9_y8⟩) (by assumption) ?c9_r8
            case c9_y8 =>
              intro w hSw
              (try dsimp only at hSw)
              go_simp
              (try with_reducible rfl)
            try simp only [Act.put, List.setIfInBounds_toArray, List.set_cons_zero, List.set_cons_succ]
            refine wpAnyH_take (i := 9) (oi := ({ dst := some 25, op := Op.binOp BinOp.shl 48 (Operand.const (Value.int IntKind.u64 1)) (Operand.tmp 24) 3, type := 48, pos := "term.go:36", after := #[{ on := 8, ground := Ground.data }, { on := 2, ground := Ground.guard }], guard := some (2, true) } : Oper)) (v := ?c10_v9) rfl (by kernel_rfl) (by kernel_rfl) (by kernel_rfl) (fun _ _ _ h => h) (Or.inl ⟨by rfl, ?c10_y9⟩) (by assumption) ?c10_r9
            case c10_y9 =>
              intro w hSw
              (try dsimp only at hSw)
              go_simp
              (try with_reducible rfl)
            try simp only [Act.put, List.setIfInBounds_toArray, List.set_cons_zero, List.set_cons_succ]
            refine wpAnyH_take (i := 10) (oi := ({ dst := some 26, op := Op.binOp BinOp.geq 48 (Operand.tmp 23) (Operand.tmp 25) 48, type := 4, pos := "term.go:36", after := #[{ on := 7, ground := Ground.data }, { on := 9, ground := Ground.data }, { on := 2, ground := Ground.guard }], guard := some (2, true) } : Oper)) (v := ?c11_v10) rfl (by kernel_rfl) (by kernel_rfl) (by kernel_rfl) (fun _ _ _ h => h) (Or.inl ⟨by rfl, ?c11_y10⟩) (by assumption) ?c11_r10
            case c11_y10 =>
              intro w hSw
              (try dsimp only at hSw)
              go_simp
              (try with_reducible rfl)
            try simp only [Act.put, List.setIfInBounds_toArray, List.set_cons_zero, List.set_cons_succ]
            refine wpAnyH_take (i := 11) (oi := ({ dst := some 27, op := Op.pick (Operand.tmp 18) (Operand.tmp 26) (Operand.const (Value.bool false)), type := 4, pos := "term.go:36", after := #[{ on := 2, ground := Ground.data }, { on := 10, ground := Ground.data }], guard := none } : Oper)) (v := ?c12_v11) rfl (by kernel_rfl) (by kernel_rfl) (by kernel_rfl) (fun _ _ _ h => h) (Or.inl ⟨by rfl, ?c12_y11⟩) (by assumption) ?c12_r11
            case c12_y11 =>
              intro w hSw
              (try dsimp only at hSw)
              go_simp
              (try with_reducible rfl)
            try simp only [Act.put, List.setIfInBounds_toArray, List.set_cons_zero, List.set_cons_succ]
            refine wpAnyH_done (by kernel_rfl) ?_ _
            go_wp2
            exact bodyPost_ret (results_tmp rfl _ _ _) rfl ⟨by exact ret_b HE.out.symm, drewD HB1.out⟩
      · obtain rfl : i = 4 := by omega
        have HE := Lib.hid (HYES.out HJ.out)
        have hb1 := HB.out.trans (hb.mono HB.out.size)
        go_wp2
        go_ret
        exact ⟨ret_b HE.out.symm, hb1⟩
  · have HE := Lib.hid (show envB T env = false from env_len (by rw [← hE.1]; exact hm))
    have e1 : ((m : Int) != 4) = true := by simp; omega
    generalize envB T env = B at HE ⊢
    clear h hv hE hu hm
    go_enter Tryz.func49, Tryz.ntmps49
    go_wp2
    go_ret
    exact ⟨ret_b HE.out.symm, Below.refl _ _⟩
set_option maxRecDepth 100000 in
set_option maxHeartbeats 8000000 in
theorem refIsEnv_any : Calls Tryz.prog 47 #[.slice A n c, .slice E m cE] w fun e w' => e = .returned (.bool (envB T env)) ∧ Below w.heap.size w w' := by
  have hcap := hE.2.1
  have hmax := hE.2.2.1
  by_cases hm : m = 4
  · subst hm
    have HW := Lib.hid (fun w1 (hb : Below w.heap.size w w1) => refwidths_any (h.below hb) (vars_ok hv h.imm))
    have HRG := Lib.hid (fun v => widF_range hv v n (by rw [h.1]; exact Nat.le_refl _))
    have HNO := Lib.hid (show ∀ v, v < 4 → widF T n v ≠ 0 → ¬ env[v]! < pw (widF T n v).toNat → envB T env = false by rw [h.1]; exact fun v hv => env_no hv)
    have HYES := Lib.hid (show (∀ v, v < 4 → widF T n v = 0 ∨ env[v]! < pw (widF T n v).toNat) → envB T env = true by rw [h.1]; exact fun hh => env_iff.2 ⟨hE.1.symm, hh⟩)
    have HEE := Lib.hid hE
    have HU := Lib.hid hu
    generalize widF T n = f at HW HRG HNO HYES
    generalize envB T env = B at HNO HYES ⊢
    clear h hv hE hu
    go_enter Tryz.func47, Tryz.ntmps47
    go_wp2_with fail
    refine (HW.out _ (Below.refl _ _)).mono ?_
    rintro e w1 ⟨⟨R, rfl, hR, -⟩, hb⟩
    go_wp2
    have HB := Lib.hid hb
    have HR := Lib.hid hR
    clear hb HW hR
    go_loopw [6] (fun zi wr => ∃ i : Nat, i ≤ 4 ∧ zi = .int .i64 (i : Int) ∧ Below w1.heap.size w1 wr ∧ Hid (∀ v, v < i → f v = 0 ∨ env[v]! < pw (f v).toNat)) (fun zi _ => 4 - (intOf zi).toNat)
    case atStart => exact ⟨0, by omega, rfl, Below.refl _ _, Lib.hid fun j hj => absurd hj (by omega)⟩
    case round =>
      obtain ⟨i, hi, rfl, hb, HJ⟩ := hrel
      by_cases hlt : i < 4
      · have hb1 := HB.out.trans (hb.mono HB.out.size)
        obtain ⟨bE, oE, rfl, hbE, hcE⟩ := (HEE.out.below hb1).at_ hlt
        have hcR := ((HR.out.below hb).cell hlt).1
        have hlR := lt_of_block (HR.out.below hb)
        have HI := Lib.hid (HNO.out i hlt)
        have HJ2 := Lib.hid (show (f i = 0 ∨ env[i]! < pw (f i).toNat) → ∀ v, v < i + 1 → f v = 0 ∨ env[v]! < pw (f v).toNat from fun hh v hv => by
          by_cases e : v = i
          · rw [e]; exact hh
          · exact HJ.out v (by omega))
        have hr := HRG.out i
        have hui := HU.out i hlt
        have HBW := Lib.hid hb
        have HB1 := Lib.hid hb1
        have HS := Lib.hid (show ∀ U, Below wr.heap.size wr U → U.cell? ⟨bE, oE + i, none⟩ = some (.int .u32 ((env[i]! : Nat) : Int)) ∧ U.cell? ⟨R, i, none⟩ = some (.int .i64 (f i)) from fun U hU => ⟨(hU.cell (p := ⟨bE, oE + i, none⟩) hbE).trans hcE, (hU.cell (p := ⟨R, i, none⟩) hlR).trans hcR⟩)
        obtain ⟨F, hF⟩ : ∃ F, f i = F := ⟨_, rfl⟩
        rw [hF] at HI HJ2 hr HS
        generalize env[i]! = x at HI HJ2 hui HS
        clear hF hb hb1 hcE hcR
        by_cases z : F = 0
        · subst z
          have HJ3 := Lib.hid (HJ2.out (.inl rfl))
          clear HI HJ2 hr
          go_upto_region 7 with fail
          refine wp_region_held_drew (S := (fun U => U.cell? ⟨bE, oE + i, none⟩ = some (.int .u32 ((x : Nat) : Int)) ∧ U.cell? ⟨R, i, none⟩ = some (.int .i64 0))) (by kernel_rfl) ?_ (fun hHeld => ?_)
          · exact HS.out _ (by first | exact Below.refl _ _ | exact drewD (Below.refl _ _) | exact drewR (Below.refl _ _))
          refine wpAnyH_take (i := 0) (oi := ({ dst := some 18, op := Op.move (Operand.tmp 5), type := 35, pos := "ref.go:125", after := #[], guard := none } : Oper)) (v := ?d1_v0) rfl (by kernel_rfl) (by kernel_rfl) (by kernel_rfl) (fun _ _ _ h => h) (Or.inl ⟨by rfl, ?d1_y0⟩) (by assumption) ?d1_r0
          case d1_y0 =>
            intro w hSw
            (try dsimp only at hSw)
            go_simp
            (try with_reducible rfl)
          try simp only [Act.put, List.setIfInBounds_toArray, List.set_cons_zero, List.set_cons_succ]
          refine wpAnyH_take (i := 1) (oi := ({ dst := some 19, op := Op.move (Operand.tmp 6), type := 3, pos := "ref.go:125", after := #[], guard := none } : Oper)) (v := ?d2_v1) rfl (by kernel_rfl) (by kernel_rfl) (by kernel_rfl) (fun _ _ _ h => h) (Or.inl ⟨by rfl, ?d2_y1⟩) (by assumption) ?d2_r1
          case d2_y1 =>
            intro w hSw
            (try dsimp only at hSw)
            go_simp
            (try with_reducible rfl)
          try simp only [Act.put, List.setIfInBounds_toArray, List.set_cons_zero, List.set_cons_succ]
          refine wpAnyH_take (i := 2) (oi := ({ dst := some 20, op := Op.indexAddr 35 (Operand.tmp 18) (Operand.tmp 19), type := 0, pos := "ref.go:125", after := #[{ on := 0, ground := Ground.data }, { on := 1, ground := Ground.data }], guard := none } : Oper)) (v := ?d3_v2) rfl (by kernel_rfl) (by kernel_rfl) (by kernel_rfl) (fun _ _ _ h => h) (Or.inl ⟨by rfl, ?d3_y2⟩) (by assumption) ?d3_r2
          case d3_y2 =>
            intro w hSw
            (try dsimp only at hSw)
            go_simp
            (try with_reducible rfl)
          try simp only [Act.put, List.setIfInBounds_toArray, List.set_cons_zero, List.set_cons_succ]
          refine wpAnyH_take (i := 3) (oi := ({ dst := some 21, op := Op.load 3 (Operand.tmp 20), type := 3, pos := "ref.go:125", after := #[{ on := 2, ground := Ground.data }], guard := none } : Oper)) (v := ?d4_v3) rfl (by kernel_rfl) (by kernel_rfl) (by kernel_rfl) (fun _ _ _ h => h) (Or.inl ⟨by rfl, ?d4_y3⟩) (by assumption) ?d4_r3
          case d4_y3 =>
            intro w hSw
            (try dsimp only at hSw)
            go_simp
            (try with_reducible rfl)
          try simp only [Act.put, List.setIfInBounds_toArray, List.set_cons_zero, List.set_cons_succ]
          refine wpAnyH_take (i := 4) (oi := ({ dst := some 22, op := Op.binOp BinOp.gtr 3 (Operand.tmp 21) (Operand.const (Value.int IntKind.i64 0)) 3, type := 4, pos := "ref.go:125", after := #[{ on := 3, ground := Ground.data }], guard := none } : Oper)) (v := ?d5_v4) rfl (by kernel_rfl) (by kernel_rfl) (by kernel_rfl) (fun _ _ _ h => h) (Or.inl ⟨by rfl, ?d5_y4⟩) (by assumption) ?d5_r4
          case d5_y4 =>
            intro w hSw
            (try dsimp only at hSw)
            go_simp
            (try with_reducible rfl)
          try simp only [Act.put, List.setIfInBounds_toArray, List.set_cons_zero, List.set_cons_succ]
          refine wpAnyH_take (i := 5) (oi := ({ dst := some 23, op := Op.move (Operand.tmp 22), type := 4, pos := "ref.go:125", after := #[{ on := 4, ground := Ground.data }], guard := none } : Oper)) (v := ?d6_v5) rfl (by kernel_rfl) (by kernel_rfl) (by kernel_rfl) (fun _ _ _ h => h) (Or.inl ⟨by rfl, ?d6_y5⟩) (by assumption) ?d6_r5
          case d6_y5 =>
            intro w hSw
            (try dsimp only at hSw)
            go_simp
            (try with_reducible rfl)
          try simp only [Act.put, List.setIfInBounds_toArray, List.set_cons_zero, List.set_cons_succ]
          refine wpAnyH_take (i := 6) (oi := ({ dst := some 24, op := Op.move (Operand.tmp 5), type := 35, pos := "ref.go:125", after := #[{ on := 5, ground := Ground.guard }], guard := some (5, true) } : Oper)) rfl (by kernel_rfl) (by kernel_rfl) (by kernel_rfl) (fun _ _ _ h => h) (Or.inr ⟨by rfl, rfl⟩) (by assumption) ?d7_r6
          try simp only [Act.put, List.setIfInBounds_toArray, List.set_cons_zero, List.set_cons_succ]
          refine wpAnyH_take (i := 7) (oi := ({ dst := some 25, op := Op.move (Operand.tmp 6), type := 3, pos := "ref.go:125", after := #[{ on := 5, ground := Ground.guard }], guard := some (5, true) } : Oper)) rfl (by kernel_rfl) (by kernel_rfl) (by kernel_rfl) (fun _ _ _ h => h) (Or.inr ⟨by rfl, rfl⟩) (by assumption) ?d8_r7
          try simp only [Act.put, List.setIfInBounds_toArray, List.set_cons_zero, List.set_cons_succ]
          refine wpAnyH_take (i := 8) (oi := ({ dst := some 26, op := Op.indexAddr 35 (Operand.tmp 24) (Operand.tmp 25), type := 0, pos := "ref.go:125", after := #[{ on := 6, ground := Ground.data }, { on := 7, ground := Ground.data }, { on := 5, ground := Ground.guard }], guard := some (5, true) } : Oper)) rfl (by kernel_rfl) (by kernel_rfl) (by kernel_rfl) (fun _ _ _ h => h) (Or.inr ⟨by rfl, rfl⟩) (by assumption) ?d9_r8
          try simp only [Act.put, List.setIfInBounds_toArray, List.set_cons_zero, List.set_cons_succ]
          refine wpAnyH_take (i := 9) (oi := ({ dst := some 27, op := Op.load 3 (Operand.tmp 26), type := 3, pos := "ref.go:125", after := #[{ on := 8, ground := Ground.data }, { on := 5, ground := Ground.guard }], guard := some (5, true) } : Oper)) rfl (by kernel_rfl) (by kernel_rfl) (by kernel_rfl) (fun _ _ _ h => h) (Or.inr ⟨by rfl, rfl⟩) (by assumption) ?d10_r9
          try simp only [Act.put, List.setIfInBounds_toArray, List.set_cons_zero, List.set_cons_succ]
          refine wpAnyH_take (i := 10) (oi := ({ dst := some 28, op := Op.move (Operand.tmp 1), type := 31, pos := "ref.go:125", after := #[{ on := 5, ground := Ground.guard }], guard := some (5, true) } : Oper)) rfl (by kernel_rfl) (by kernel_rfl) (by kernel_rfl) (fun _ _ _ h => h) (Or.inr ⟨by rfl, rfl⟩) (by assumption) ?d11_r10
          try simp only [Act.put, List.setIfInBounds_toArray, List.set_cons_zero, List.set_cons_succ]
          refine wpAnyH_take (i := 11) (oi := ({ dst := some 29, op := Op.move (Operand.tmp 6), type := 3, pos := "ref.go:125", after := #[{ on := 5, ground := Ground.guard }], guard := some (5, true) } : Oper)) rfl (by kernel_rfl) (by kernel_rfl) (by kernel_rfl) (fun _ _ _ h => h) (Or.inr ⟨by rfl, rfl⟩) (by assumption) ?d12_r11
          try simp only [Act.put, List.setIfInBounds_toArray, List.set_cons_zero, List.set_cons_succ]
          refine wpAnyH_take (i := 12) (oi := ({ dst := some 30, op := Op.indexAddr 31 (Operand.tmp 28) (Operand.tmp 29), type := 0, pos := "ref.go:125", after := #[{ on := 10, ground := Ground.data }, { on := 11, ground := Ground.data }, { on := 5, ground := Ground.guard }], guard := some (5, true) } : Oper)) rfl (by kernel_rfl) (by kernel_rfl) (by kernel_rfl) (fun _ _ _ h => h) (Or.inr ⟨by rfl, rfl⟩) (by assumption) ?d13_r12
          try simp only [Act.put, List.setIfInBounds_toArray, List.set_cons_zero, List.set_cons_succ]
          refine wpAnyH_take (i := 13) (oi := ({ dst := some 31, op := Op.load 36 (Operand.tmp 30), type := 36, pos := "ref.go:125", after := #[{ on := 12, ground := Ground.data }, { on := 5, ground := Ground.guard }], guard := some (5, true) } : Oper)) rfl (by kernel_rfl) (by kernel_rfl) (by kernel_rfl) (fun _ _ _ h => h) (Or.inr ⟨by rfl, rfl⟩) (by assumption) ?d14_r13
          try simp only [Act.put, List.setIfInBounds_toArray, List.set_cons_zero, List.set_cons_succ]
          refine wpAnyH_take (i := 14) (oi := ({ dst := some 32, op := Op.call { callee := Callee.value (Operand.func 67), args := #[Operand.tmp 27, Operand.tmp 31], argTypes := #[3, 36] }, type := 4, pos := "ref.go:125", after := #[{ on := 9, ground := Ground.data }, { on := 13, ground := Ground.data }, { on := 5, ground := Ground.chain }, { on := 5, ground := Ground.guard }], guard := some (5, true) } : Oper)) rfl (by kernel_rfl) (by kernel_rfl) (by kernel_rfl) (fun _ _ _ h => h) (Or.inr ⟨by rfl, rfl⟩) (by assumption) ?d15_r14
          try simp only [Act.put, List.setIfInBounds_toArray, List.set_cons_zero, List.set_cons_succ]
          refine wpAnyH_take (i := 15) (oi := ({ dst := some 33, op := Op.unOp UnOp.not 4 (Operand.tmp 32), type := 4, pos := "ref.go:125", after := #[{ on := 14, ground := Ground.data }, { on := 5, ground := Ground.guard }], guard := some (5, true) } : Oper)) rfl (by kernel_rfl) (by kernel_rfl) (by kernel_rfl) (fun _ _ _ h => h) (Or.inr ⟨by rfl, rfl⟩) (by assumption) ?d16_r15
          try simp only [Act.put, List.setIfInBounds_toArray, List.set_cons_zero, List.set_cons_succ]
          refine wpAnyH_take (i := 16) (oi := ({ dst := some 34, op := Op.pick (Operand.tmp 23) (Operand.tmp 33) (Operand.const (Value.bool false)), type := 4, pos := "ref.go:125", after := #[{ on := 5, ground := Ground.data }, { on := 15, ground := Ground.data }], guard := none } : Oper)) (v := ?d17_v16) rfl (by kernel_rfl) (by kernel_rfl) (by kernel_rfl) (fun _ _ _ h => h) (Or.inl ⟨by rfl, ?d17_y16⟩) (by assumption) ?d17_r16
          case d17_y16 =>
            intro w hSw
            (try dsimp only at hSw)
            go_simp
            (try with_reducible rfl)
          try simp only [Act.put, List.setIfInBounds_toArray, List.set_cons_zero, List.set_cons_succ]
          refine wpAnyH_done (by kernel_rfl) ?_ _
          go_wp2
          exact ⟨⟨i + 1, by omega, by go_num, drewD HBW.out, HJ3⟩, by simp [intOf]; omega⟩
        · obtain ⟨u, rfl⟩ : ∃ u : Nat, F = u := ⟨F.toNat, by omega⟩
          have e0 : decide (0 < u) = true := decide_eq_true (by omega)
          rw [Int.toNat_natCast] at HI HJ2
          have HC := Lib.hid (fun w1 => isWord_in u (by omega) (by omega) (x : Int) (by omega) (by omega) w1)
          generalize pw u = P at HI HJ2 HC
          by_cases hx : x < P
          · rw [decide_eq_true (show (x : Int) < (P : Int) by omega)] at HC
            have HJ3 := Lib.hid (HJ2.out (.inr hx))
            clear HI HJ2 hr
            go_upto_region 7 with fail
            refine wp_region_held_drew (S := (fun U => U.cell? ⟨bE, oE + i, none⟩ = some (.int .u32 ((x : Nat) : Int)) ∧ U.cell? ⟨R, i, none⟩ = some (.int .i64 (u : Int)))) (by kernel_rfl) ?_ (fun hHeld => ?_)
            · exact HS.out _ (by first | exact Below.refl _ _ | exact drewD (Below.refl _ _) | exact drewR (Below.refl _ _))
            refine wpAnyH_take (i := 0) (oi := ({ dst := some 18, op := Op.move (Operand.tmp 5), type := 35, pos := "ref.go:125", after := #[], guard := none } : Oper)) (v := ?e1_v0) rfl (by kernel_rfl) (by kernel_rfl) (by kernel_rfl) (fun _ _ _ h => h) (Or.inl ⟨by rfl, ?e1_y0⟩) (by assumption) ?e1_r0
            case e1_y0 =>
              intro w hSw
              (try dsimp only at hSw)
              go_simp
              (try with_reducible rfl)
            try simp only [Act.put, List.setIfInBounds_toArray, List.set_cons_zero, List.set_cons_succ]
            refine wpAnyH_take (i := 1) (oi := ({ dst := some 19, op := Op.move (Operand.tmp 6), type := 3, pos := "ref.go:125", after := #[], guard := none } : Oper)) (v := ?e2_v1) rfl (by kernel_rfl) (by kernel_rfl) (by kernel_rfl) (fun _ _ _ h => h) (Or.inl ⟨by rfl, ?e2_y1⟩) (by assumption) ?e2_r1
            case e2_y1 =>
              intro w hSw
              (try dsimp only at hSw)
              go_simp
              (try with_reducible rfl)
            try simp only [Act.put, List.setIfInBounds_toArray, List.set_cons_zero, List.set_cons_succ]
            refine wpAnyH_take (i := 2) (oi := ({ dst := some 20, op := Op.indexAddr 35 (Operand.tmp 18) (Operand.tmp 19), type := 0, pos := "ref.go:125", after := #[{ on := 0, ground := Ground.data }, { on := 1, ground := Ground.data }], guard := none } : Oper)) (v := ?e3_v2) rfl (by kernel_rfl) (by kernel_rfl) (by kernel_rfl) (fun _ _ _ h => h) (Or.inl ⟨by rfl, ?e3_y2⟩) (by assumption) ?e3_r2
            case e3_y2 =>
              intro w hSw
              (try dsimp only at hSw)
              go_simp
              (try with_reducible rfl)
            try simp only [Act.put, List.setIfInBounds_toArray, List.set_cons_zero, List.set_cons_succ]
            refine wpAnyH_take (i := 3) (oi := ({ dst := some 21, op := Op.load 3 (Operand.tmp 20), type := 3, pos := "ref.go:125", after := #[{ on := 2, ground := Ground.data }], guard := none } : Oper)) (v := ?e4_v3) rfl (by kernel_rfl) (by kernel_rfl) (by kernel_rfl) (fun _ _ _ h => h) (Or.inl ⟨by rfl, ?e4_y3⟩) (by assumption) ?e4_r3
            case e4_y3 =>
              intro w hSw
              (try dsimp only at hSw)
              go_simp
              (try with_reducible rfl)
            try simp only [Act.put, List.setIfInBounds_toArray, List.set_cons_zero, List.set_cons_succ]
            refine wpAnyH_take (i := 4) (oi := ({ dst := some 22, op := Op.binOp BinOp.gtr 3 (Operand.tmp 21) (Operand.const (Value.int IntKind.i64 0)) 3, type := 4, pos := "ref.go:125", after := #[{ on := 3, ground := Ground.data }], guard := none } : Oper)) (v := ?e5_v4) rfl (by kernel_rfl) (by kernel_rfl) (by kernel_rfl) (fun _ _ _ h => h) (Or.inl ⟨by rfl, ?e5_y4⟩) (by assumption) ?e5_r4
            case e5_y4 =>
              intro w hSw
              (try dsimp only at hSw)
              go_simp
              (try with_reducible rfl)
            try simp only [Act.put, List.setIfInBounds_toArray, List.set_cons_zero, List.set_cons_succ]
            refine wpAnyH_take (i := 5) (oi := ({ dst := some 23, op := Op.move (Operand.tmp 22), type := 4, pos := "ref.go:125", after := #[{ on := 4, ground := Ground.data }], guard := none } : Oper)) (v := ?e6_v5) rfl (by kernel_rfl) (by kernel_rfl) (by kernel_rfl) (fun _ _ _ h => h) (Or.inl ⟨by rfl, ?e6_y5⟩) (by assumption) ?e6_r5
            case e6_y5 =>
              intro w hSw
              (try dsimp only at hSw)
              go_simp
              (try with_reducible rfl)
            try simp only [Act.put, List.setIfInBounds_toArray, List.set_cons_zero, List.set_cons_succ]
            refine wpAnyH_take (i := 6) (oi := ({ dst := some 24, op := Op.move (Operand.tmp 5), type := 35, pos := "ref.go:125", after := #[{ on := 5, ground := Ground.guard }], guard := some (5, true) } : Oper)) (v := ?e7_v6) rfl (by kernel_rfl) (by kernel_rfl) (by kernel_rfl) (fun _ _ _ h => h) (Or.inl ⟨by rfl, ?e7_y6⟩) (by assumption) ?e7_r6
            case e7_y6 =>
              intro w hSw
              (try dsimp only at hSw)
              go_simp
              (try with_reducible rfl)
            try simp only [Act.put, List.setIfInBounds_toArray, List.set_cons_zero, List.set_cons_succ]
            refine wpAnyH_take (i := 7) (oi := ({ dst := some 25, op := Op.move (Operand.tmp 6), type := 3, pos := "ref.go:125", after := #[{ on := 5, ground := Ground.guard }], guard := some (5, true) } : Oper)) (v := ?e8_v7) rfl (by kernel_rfl) (by kernel_rfl) (by kernel_rfl) (fun _ _ _ h => h) (Or.inl ⟨by rfl, ?e8_y7⟩) (by assumption) ?e8_r7
            case e8_y7 =>
              intro w hSw
              (try dsimp only at hSw)
              go_simp
              (try with_reducible rfl)
            try simp only [Act.put, List.setIfInBounds_toArray, List.set_cons_zero, List.set_cons_succ]
            refine wpAnyH_take (i := 8) (oi := ({ dst := some 26, op := Op.indexAddr 35 (Operand.tmp 24) (Operand.tmp 25), type := 0, pos := "ref.go:125", after := #[{ on := 6, ground := Ground.data }, { on := 7, ground := Ground.data }, { on := 5, ground := Ground.guard }], guard := some (5, true) } : Oper)) (v := ?e9_v8) rfl (by kernel_rfl) (by kernel_rfl) (by kernel_rfl) (fun _ _ _ h => h) (Or.inl ⟨by rfl, ?e9_y8⟩) (by assumption) ?e9_r8
            case e9_y8 =>
              intro w hSw
              (try dsimp only at hSw)
              go_simp
              (try with_reducible rfl)
            try simp only [Act.put, List.setIfInBounds_toArray, List.set_cons_zero, List.set_cons_succ]
            refine wpAnyH_take (i := 9) (oi := ({ dst := some 27, op := Op.load 3 (Operand.tmp 26), type := 3, pos := "ref.go:125", after := #[{ on := 8, ground := Ground.data }, { on := 5, ground := Ground.guard }], guard := some (5, true) } : Oper)) (v := ?e10_v9) rfl (by kernel_rfl) (by kernel_rfl) (by kernel_rfl) (fun _ _ _ h => h) (Or.inl ⟨by rfl, ?e10_y9⟩) (by assumption) ?e10_r9
            case e10_y9 =>
              intro w hSw
              (try dsimp only at hSw)
              go_simp
              (try with_reducible rfl)
            try simp only [Act.put, List.setIfInBounds_toArray, List.set_cons_zero, List.set_cons_succ]
            refine wpAnyH_take (i := 10) (oi := ({ dst := some 28, op := Op.move (Operand.tmp 1), type := 31, pos := "ref.go:125", after := #[{ on := 5, ground := Ground.guard }], guard := some (5, true) } : Oper)) (v := ?e11_v10) rfl (by kernel_rfl) (by kernel_rfl) (by kernel_rfl) (fun _ _ _ h => h) (Or.inl ⟨by rfl, ?e11_y10⟩) (by assumption) ?e11_r10
            case e11_y10 =>
              intro w hSw
              (try dsimp only at hSw)
              go_simp
              (try with_reducible rfl)
            try simp only [Act.put, List.setIfInBounds_toArray, List.set_cons_zero, List.set_cons_succ]
            refine wpAnyH_take (i := 11) (oi := ({ dst := some 29, op := Op.move (Operand.tmp 6), type := 3, pos := "ref.go:125", after := #[{ on := 5, ground := Ground.guard }], guard := some (5, true) } : Oper)) (v := ?e12_v11) rfl (by kernel_rfl) (by kernel_rfl) (by kernel_rfl) (fun _ _ _ h => h) (Or.inl ⟨by rfl, ?e12_y11⟩) (by assumption) ?e12_r11
            case e12_y11 =>
              intro w hSw
              (try dsimp only at hSw)
              go_simp
              (try with_reducible rfl)
            try simp only [Act.put, List.setIfInBounds_toArray, List.set_cons_zero, List.set_cons_succ]
            refine wpAnyH_take (i := 12) (oi := ({ dst := some 30, op := Op.indexAddr 31 (Operand.tmp 28) (Operand.tmp 29), type := 0, pos := "ref.go:125", after := #[{ on := 10, ground := Ground.data }, { on := 11, ground := Ground.data }, { on := 5, ground := Ground.guard }], guard := some (5, true) } : Oper)) (v := ?e13_v12) rfl (by kernel_rfl) (by kernel_rfl) (by kernel_rfl) (fun _ _ _ h => h) (Or.inl ⟨by rfl, ?e13_y12⟩) (by assumption) ?e13_r12
            case e13_y12 =>
              intro w hSw
              (try dsimp only at hSw)
              go_simp
              (try with_reducible rfl)
            try simp only [Act.put, List.setIfInBounds_toArray, List.set_cons_zero, List.set_cons_succ]
            refine wpAnyH_take (i := 13) (oi := ({ dst := some 31, op := Op.load 36 (Operand.tmp 30), type := 36, pos := "ref.go:125", after := #[{ on := 12, ground := Ground.data }, { on := 5, ground := Ground.guard }], guard := some (5, true) } : Oper)) (v := ?e14_v13) rfl (by kernel_rfl) (by kernel_rfl) (by kernel_rfl) (fun _ _ _ h => h) (Or.inl ⟨by rfl, ?e14_y13⟩) (by assumption) ?e14_r13
            case e14_y13 =>
              intro w hSw
              (try dsimp only at hSw)
              go_simp
              (try with_reducible rfl)
            try simp only [Act.put, List.setIfInBounds_toArray, List.set_cons_zero, List.set_cons_succ]
            refine wpAnyH_ready (rs := [14]) (by kernel_rfl) (by simp) ?_
            refine AllReadyH.cons (o := ({ dst := some 32, op := Op.call { callee := Callee.value (Operand.func 67), args := #[Operand.tmp 27, Operand.tmp 31], argTypes := #[3, 36] }, type := 4, pos := "ref.go:125", after := #[{ on := 9, ground := Ground.data }, { on := 13, ground := Ground.data }, { on := 5, ground := Ground.chain }, { on := 5, ground := Ground.guard }], guard := some (5, true) } : Oper)) rfl (fun K hKK => ?_) AllReadyH.nil
            go_simp
            refine (HC.out _).mono ?_
            rintro e w3 ⟨rfl, rfl⟩
            refine hKK.out _ _ (HS.out _ (by first | exact Below.refl _ _ | exact drewD (Below.refl _ _) | exact drewR (Below.refl _ _))) (fun hS14_14 => ?_)
            try simp only [Act.put, List.setIfInBounds_toArray, List.set_cons_zero, List.set_cons_succ]
            refine wpAnyH_take (i := 15) (oi := ({ dst := some 33, op := Op.unOp UnOp.not 4 (Operand.tmp 32), type := 4, pos := "ref.go:125", after := #[{ on := 14, ground := Ground.data }, { on := 5, ground := Ground.guard }], guard := some (5, true) } : Oper)) (v := ?e15_v15) rfl (by kernel_rfl) (by kernel_rfl) (by kernel_rfl) (fun _ _ _ h => h) (Or.inl ⟨by rfl, ?e15_y15⟩) (by assumption) ?e15_r15
            case e15_y15 =>
              intro w hSw
              (try dsimp only at hSw)
              go_simp
              (try with_reducible rfl)
            try simp only [Act.put, List.setIfInBounds_toArray, List.set_cons_zero, List.set_cons_succ]
            refine wpAnyH_take (i := 16) (oi := ({ dst := some 34, op := Op.pick (Operand.tmp 23) (Operand.tmp 33) (Operand.const (Value.bool false)), type := 4, pos := "ref.go:125", after := #[{ on := 5, ground := Ground.data }, { on := 15, ground := Ground.data }], guard := none } : Oper)) (v := ?e16_v16) rfl (by kernel_rfl) (by kernel_rfl) (by kernel_rfl) (fun _ _ _ h => h) (Or.inl ⟨by rfl, ?e16_y16⟩) (by assumption) ?e16_r16
            case e16_y16 =>
              intro w hSw
              (try dsimp only at hSw)
              go_simp
              (try with_reducible rfl)
            try simp only [Act.put, List.setIfInBounds_toArray, List.set_cons_zero, List.set_cons_succ]
            refine wpAnyH_done (by kernel_rfl) ?_ _
            go_wp2
            exact ⟨⟨i + 1, by omega, by go_num, drewD HBW.out, HJ3⟩, by simp [intOf]; omega⟩
          · rw [decide_eq_false (show ¬ (x : Int) < (P : Int) by omega)] at HC
            have HE := Lib.hid (HI.out (by omega) hx)
            clear HI HJ2 hr
            go_upto_region 7 with fail
            refine wp_region_held_drew (S := (fun U => U.cell? ⟨bE, oE + i, none⟩ = some (.int .u32 ((x : Nat) : Int)) ∧ U.cell? ⟨R, i, none⟩ = some (.int .i64 (u : Int)))) (by kernel_rfl) ?_ (fun hHeld => ?_)
            · exact HS.out _ (by first | exact Below.refl _ _ | exact drewD (Below.refl _ _) | exact drewR (Below.refl _ _))
            refine wpAnyH_take (i := 0) (oi := ({ dst := some 18, op := Op.move (Operand.tmp 5), type := 35, pos := "ref.go:125", after := #[], guard := none } : Oper)) (v := ?f1_v0) rfl (by kernel_rfl) (by kernel_rfl) (by kernel_rfl) (fun _ _ _ h => h) (Or.inl ⟨by rfl, ?f1_y0⟩) (by assumption) ?f1_r0
            case f1_y0 =>
              intro w hSw
              (try dsimp only at hSw)
              go_simp
              (try with_reducible rfl)
            try simp only [Act.put, List.setIfInBounds_toArray, List.set_cons_zero, List.set_cons_succ]
            refine wpAnyH_take (i := 1) (oi := ({ dst := some 19, op := Op.move (Operand.tmp 6), type := 3, pos := "ref.go:125", after := #[], guard := none } : Oper)) (v := ?f2_v1) rfl (by kernel_rfl) (by kernel_rfl) (by kernel_rfl) (fun _ _ _ h => h) (Or.inl ⟨by rfl, ?f2_y1⟩) (by assumption) ?f2_r1
            case f2_y1 =>
              intro w hSw
              (try dsimp only at hSw)
              go_simp
              (try with_reducible rfl)
            try simp only [Act.put, List.setIfInBounds_toArray, List.set_cons_zero, List.set_cons_succ]
            refine wpAnyH_take (i := 2) (oi := ({ dst := some 20, op := Op.indexAddr 35 (Operand.tmp 18) (Operand.tmp 19), type := 0, pos := "ref.go:125", after := #[{ on := 0, ground := Ground.data }, { on := 1, ground := Ground.data }], guard := none } : Oper)) (v := ?f3_v2) rfl (by kernel_rfl) (by kernel_rfl) (by kernel_rfl) (fun _ _ _ h => h) (Or.inl ⟨by rfl, ?f3_y2⟩) (by assumption) ?f3_r2
            case f3_y2 =>
              intro w hSw
              (try dsimp only at hSw)
              go_simp
              (try with_reducible rfl)
            try simp only [Act.put, List.setIfInBounds_toArray, List.set_cons_zero, List.set_cons_succ]
            refine wpAnyH_take (i := 3) (oi := ({ dst := some 21, op := Op.load 3 (Operand.tmp 20), type := 3, pos := "ref.go:125", after := #[{ on := 2, ground := Ground.data }], guard := none } : Oper)) (v := ?f4_v3) rfl (by kernel_rfl) (by kernel_rfl) (by kernel_rfl) (fun _ _ _ h => h) (Or.inl ⟨by rfl, ?f4_y3⟩) (by assumption) ?f4_r3
            case f4_y3 =>
              intro w hSw
              (try dsimp only at hSw)
              go_simp
              (try with_reducible rfl)
            try simp only [Act.put, List.setIfInBounds_toArray, List.set_cons_zero, List.set_cons_succ]
            refine wpAnyH_take (i := 4) (oi := ({ dst := some 22, op := Op.binOp BinOp.gtr 3 (Operand.tmp 21) (Operand.const (Value.int IntKind.i64 0)) 3, type := 4, pos := "ref.go:125", after := #[{ on := 3, ground := Ground.data }], guard := none } : Oper)) (v := ?f5_v4) rfl (by kernel_rfl) (by kernel_rfl) (by kernel_rfl) (fun _ _ _ h => h) (Or.inl ⟨by rfl, ?f5_y4⟩) (by assumption) ?f5_r4
            case f5_y4 =>
              intro w hSw
              (try dsimp only at hSw)
              go_simp
              (try with_reducible rfl)
            try simp only [Act.put, List.setIfInBounds_toArray, List.set_cons_zero, List.set_cons_succ]
            refine wpAnyH_take (i := 5) (oi := ({ dst := some 23, op := Op.move (Operand.tmp 22), type := 4, pos := "ref.go:125", after := #[{ on := 4, ground := Ground.data }], guard := none } : Oper)) (v := ?f6_v5) rfl (by kernel_rfl) (by kernel_rfl) (by kernel_rfl) (fun _ _ _ h => h) (Or.inl ⟨by rfl, ?f6_y5⟩) (by assumption) ?f6_r5
            case f6_y5 =>
              intro w hSw
              (try dsimp only at hSw)
              go_simp
              (try with_reducible rfl)
            try simp only [Act.put, List.setIfInBounds_toArray, List.set_cons_zero, List.set_cons_succ]
            refine wpAnyH_take (i := 6) (oi := ({ dst := some 24, op := Op.move (Operand.tmp 5), type := 35, pos := "ref.go:125", after := #[{ on := 5, ground := Ground.guard }], guard := some (5, true) } : Oper)) (v := ?f7_v6) rfl (by kernel_rfl) (by kernel_rfl) (by kernel_rfl) (fun _ _ _ h => h) (Or.inl ⟨by rfl, ?f7_y6⟩) (by assumption) ?f7_r6
            case f7_y6 =>
              intro w hSw
              (try dsimp only at hSw)
              go_simp
              (try with_reducible rfl)
            try simp only [Act.put, List.setIfInBounds_toArray, List.set_cons_zero, List.set_cons_succ]
            refine wpAnyH_take (i := 7) (oi := ({ dst := some 25, op := Op.move (Operand.tmp 6), type := 3, pos := "ref.go:125", after := #[{ on := 5, ground := Ground.guard }], guard := some (5, true) } : Oper)) (v := ?f8_v7) rfl (by kernel_rfl) (by kernel_rfl) (by kernel_rfl) (fun _ _ _ h => h) (Or.inl ⟨by rfl, ?f8_y7⟩) (by assumption) ?f8_r7
            case f8_y7 =>
              intro w hSw
              (try dsimp only at hSw)
              go_simp
              (try with_reducible rfl)
            try simp only [Act.put, List.setIfInBounds_toArray, List.set_cons_zero, List.set_cons_succ]
            refine wpAnyH_take (i := 8) (oi := ({ dst := some 26, op := Op.indexAddr 35 (Operand.tmp 24) (Operand.tmp 25), type := 0, pos := "ref.go:125", after := #[{ on := 6, ground := Ground.data }, { on := 7, ground := Ground.data }, { on := 5, ground := Ground.guard }], guard := some (5, true) } : Oper)) (v := ?f9_v8) rfl (by kernel_rfl) (by kernel_rfl) (by kernel_rfl) (fun _ _ _ h => h) (Or.inl ⟨by rfl, ?f9_y8⟩) (by assumption) ?f9_r8
            case f9_y8 =>
              intro w hSw
              (try dsimp only at hSw)
              go_simp
              (try with_reducible rfl)
            try simp only [Act.put, List.setIfInBounds_toArray, List.set_cons_zero, List.set_cons_succ]
            refine wpAnyH_take (i := 9) (oi := ({ dst := some 27, op := Op.load 3 (Operand.tmp 26), type := 3, pos := "ref.go:125", after := #[{ on := 8, ground := Ground.data }, { on := 5, ground := Ground.guard }], guard := some (5, true) } : Oper)) (v := ?f10_v9) rfl (by kernel_rfl) (by kernel_rfl) (by kernel_rfl) (fun _ _ _ h => h) (Or.inl ⟨by rfl, ?f10_y9⟩) (by assumption) ?f10_r9
            case f10_y9 =>
              intro w hSw
              (try dsimp only at hSw)
              go_simp
              (try with_reducible rfl)
            try simp only [Act.put, List.setIfInBounds_toArray, List.set_cons_zero, List.set_cons_succ]
            refine wpAnyH_take (i := 10) (oi := ({ dst := some 28, op := Op.move (Operand.tmp 1), type := 31, pos := "ref.go:125", after := #[{ on := 5, ground := Ground.guard }], guard := some (5, true) } : Oper)) (v := ?f11_v10) rfl (by kernel_rfl) (by kernel_rfl) (by kernel_rfl) (fun _ _ _ h => h) (Or.inl ⟨by rfl, ?f11_y10⟩) (by assumption) ?f11_r10
            case f11_y10 =>
              intro w hSw
              (try dsimp only at hSw)
              go_simp
              (try with_reducible rfl)
            try simp only [Act.put, List.setIfInBounds_toArray, List.set_cons_zero, List.set_cons_succ]
            refine wpAnyH_take (i := 11) (oi := ({ dst := some 29, op := Op.move (Operand.tmp 6), type := 3, pos := "ref.go:125", after := #[{ on := 5, ground := Ground.guard }], guard := some (5, true) } : Oper)) (v := ?f12_v11) rfl (by kernel_rfl) (by kernel_rfl) (by kernel_rfl) (fun _ _ _ h => h) (Or.inl ⟨by rfl, ?f12_y11⟩) (by assumption) ?f12_r11
            case f12_y11 =>
              intro w hSw
              (try dsimp only at hSw)
              go_simp
              (try with_reducible rfl)
            try simp only [Act.put, List.setIfInBounds_toArray, List.set_cons_zero, List.set_cons_succ]
            refine wpAnyH_take (i := 12) (oi := ({ dst := some 30, op := Op.indexAddr 31 (Operand.tmp 28) (Operand.tmp 29), type := 0, pos := "ref.go:125", after := #[{ on := 10, ground := Ground.data }, { on := 11, ground := Ground.data }, { on := 5, ground := Ground.guard }], guard := some (5, true) } : Oper)) (v := ?f13_v12) rfl (by kernel_rfl) (by kernel_rfl) (by kernel_rfl) (fun _ _ _ h => h) (Or.inl ⟨by rfl, ?f13_y12⟩) (by assumption) ?f13_r12
            case f13_y12 =>
              intro w hSw
              (try dsimp only at hSw)
              go_simp
              (try with_reducible rfl)
            try simp only [Act.put, List.setIfInBounds_toArray, List.set_cons_zero, List.set_cons_succ]
            refine wpAnyH_take (i := 13) (oi := ({ dst := some 31, op := Op.load 36 (Operand.tmp 30), type := 36, pos := "ref.go:125", after := #[{ on := 12, ground := Ground.data }, { on := 5, ground := Ground.guard }], guard := some (5, true) } : Oper)) (v := ?f14_v13) rfl (by kernel_rfl) (by kernel_rfl) (by kernel_rfl) (fun _ _ _ h => h) (Or.inl ⟨by rfl, ?f14_y13⟩) (by assumption) ?f14_r13
            case f14_y13 =>
              intro w hSw
              (try dsimp only at hSw)
              go_simp
              (try with_reducible rfl)
            try simp only [Act.put, List.setIfInBounds_toArray, List.set_cons_zero, List.set_cons_succ]
            refine wpAnyH_ready (rs := [14]) (by kernel_rfl) (by simp) ?_
            refine AllReadyH.cons (o := ({ dst := some 32, op := Op.call { callee := Callee.value (Operand.func 67), args := #[Operand.tmp 27, Operand.tmp 31], argTypes := #[3, 36] }, type := 4, pos := "ref.go:125", after := #[{ on := 9, ground := Ground.data }, { on := 13, ground := Ground.data }, { on := 5, ground := Ground.chain }, { on := 5, ground := Ground.guard }], guard := some (5, true) } : Oper)) rfl (fun K hKK => ?_) AllReadyH.nil
            go_simp
            refine (HC.out _).mono ?_
            rintro e w3 ⟨rfl, rfl⟩
            refine hKK.out _ _ (HS.out _ (by first | exact Below.refl _ _ | exact drewD (Below.refl _ _) | exact drewR (Below.refl _ _))) (fun hS14_14 => ?_)
            try simp only [Act.put, List.setIfInBounds_toArray, List.set_cons_zero, List.set_cons_succ]
            refine wpAnyH_take (i := 15) (oi := ({ dst := some 33, op := Op.unOp UnOp.not 4 (Operand.tmp 32), type := 4, pos := "ref.go:125", after := #[{ on := 14, ground := Ground.data }, { on := 5, ground := Ground.guard }], guard := some (5, true) } : Oper)) (v := ?f15_v15) rfl (by kernel_rfl) (by kernel_rfl) (by kernel_rfl) (fun _ _ _ h => h) (Or.inl ⟨by rfl, ?f15_y15⟩) (by assumption) ?f15_r15
            case f15_y15 =>
              intro w hSw
              (try dsimp only at hSw)
              go_simp
              (try with_reducible rfl)
            try simp only [Act.put, List.setIfInBounds_toArray, List.set_cons_zero, List.set_cons_succ]
            refine wpAnyH_take (i := 16) (oi := ({ dst := some 34, op := Op.pick (Operand.tmp 23) (Operand.tmp 33) (Operand.const (Value.bool false)), type := 4, pos := "ref.go:125", after := #[{ on := 5, ground := Ground.data }, { on := 15, ground := Ground.data }], guard := none } : Oper)) (v := ?f16_v16) rfl (by kernel_rfl) (by kernel_rfl) (by kernel_rfl) (fun _ _ _ h => h) (Or.inl ⟨by rfl, ?f16_y16⟩) (by assumption) ?f16_r16
            case f16_y16 =>
              intro w hSw
              (try dsimp only at hSw)
              go_simp
              (try with_reducible rfl)
            try simp only [Act.put, List.setIfInBounds_toArray, List.set_cons_zero, List.set_cons_succ]
            refine wpAnyH_done (by kernel_rfl) ?_ _
            go_wp2
            exact bodyPost_ret (results_tmp rfl _ _ _) rfl ⟨by exact ret_b HE.out.symm, drewD HB1.out⟩
      · obtain rfl : i = 4 := by omega
        have HE := Lib.hid (HYES.out HJ.out)
        have hb1 := HB.out.trans (hb.mono HB.out.size)
        go_wp2
        go_ret
        exact ⟨ret_b HE.out.symm, hb1⟩
  · have HE := Lib.hid (show envB T env = false from env_len (by rw [← hE.1]; exact hm))
    have e1 : ((m : Int) != 4) = true := by simp; omega
    generalize envB T env = B at HE ⊢
    clear h hv hE hu hm
    go_enter Tryz.func47, Tryz.ntmps47
    go_wp2
    go_ret
    exact ⟨ret_b HE.out.symm, Below.refl _ _⟩
end
end Go.Proofs.YtbohigjfdnnomaaGreatDoor
