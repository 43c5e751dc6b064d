/-
  Typed of the reference.
-/
import Derived.Test.YtbohigjfdnnomaaGreatDoorTeM
namespace Go.Proofs.YtbohigjfdnnomaaGreatDoor
open Go.RowKit

theorem infoI : (Tryz.prog.info? 3).map (fun i => (i.zero, i.size, i.bytes)) = some (some (.int .i64 0), 1, 8) := by kernel_rfl
theorem infoW : (Tryz.prog.info? 36).map (fun i => (i.zero, i.size, i.bytes)) = some (some (.int .u32 0), 1, 4) := by kernel_rfl
theorem own_base {w : World} {base e size k : Nat} {v : Value} {xs : List Value} (h : w.ownsRow base e size v k xs) : ∀ g, v.ownBlock = some g → base ≤ g := by
  intro g hg
  rcases h.2 with ⟨rfl, _⟩ | ⟨g', cap, cur, rfl, hb, _⟩
  · simp [Value.ownBlock] at hg
  · have : g' = g := by simpa [Value.ownBlock] using hg
    omega
theorem add_lit0 (g j : Nat) : (⟨g, 0, none⟩ : Addr).add j = ⟨g, j, none⟩ := by
  unfold Addr.add
  split
  · rename_i h0
    simp
  · simp
theorem own_cell {w : World} {base e size g cap n i : Nat} {xs : List Value} {x : Value} (h : w.ownsRow base e size (.slice (some ⟨g, 0, none⟩) n cap) n xs) (hx : xs[i]? = some x) :
    w.cell? ⟨g, i, none⟩ = some x ∧ w.frozen? ⟨g, i, none⟩ = false := by
  have hc := h.cells (g := g) rfl i x hx
  rw [add_lit0] at hc
  refine ⟨hc, ?_⟩
  rcases h.2 with ⟨h2, _⟩ | ⟨g', cap', cur, h2, h3, h4, _⟩
  · cases h2
  · injection h2 with h2 _ _
    injection h2 with h2
    injection h2 with h2 _
    subst h2
    simp [World.frozen?, h4]
theorem one_new (w : World) (v : Value) (t : TypeId) : ∀ j u, [v][j]? = some u → (w.alloc (.cells #[v] t)).cell? ((⟨w.heap.size, 0, none⟩ : Addr).add j) = some u := by
  intro j u hj
  match j, hj with
  | 0, hj =>
    simp at hj
    subst hj
    exact cell_of_one (heap_alloc_new w _)
  | j + 1, hj => simp at hj
def iV (l : List Int) : List Value := l.map fun (x : Int) => Value.int .i64 x
theorem iV_app (a b : List Int) : iV (a ++ b) = iV a ++ iV b := by simp [iV]
/-- An own row of numbers of any sign is a slice of them. -/
theorem own_ints {w : World} {base n : Nat} {v : Value} {l : List Int} (h : w.ownsRow base 3 1 v n (iV l)) : ∃ A c, v = .slice A n c ∧ Ints w A n c l := by
  have hl : n = l.length := by have := h.1; simp [iV] at this; omega
  have h0 := h
  rcases h.2 with ⟨rfl, h1⟩ | ⟨g, cap, cur, rfl, hg, hh, h2, h3, _⟩
  · subst h1
    exact ⟨none, 0, rfl, hl, Nat.le_refl _, by omega, .inl rfl⟩
  · refine ⟨_, cap, rfl, hl, h2, by unfold maxLen at h3; omega, .inr ⟨g, 0, rfl, lt_of_block hh, fun j hj => ?_⟩⟩
    rw [Nat.zero_add]
    exact (own_cell h0 (x := .int .i64 l[j]!) (by simp [iV, show j < l.length by omega])).1
/-- Where an own row of numbers lies. -/
theorem own_at {w : World} {base n : Nat} {v : Value} {l : List Int} (h : w.ownsRow base 3 1 v n (iV l)) (h0 : 0 < n) : ∃ g cap, v = .slice (some ⟨g, 0, none⟩) n cap ∧ n ≤ cap ∧ cap ≤ 9223372036854775807 ∧ g < w.heap.size ∧ ∀ j, j < n → w.cell? ⟨g, j, none⟩ = some (.int .i64 l[j]!) := by
  have hl : n = l.length := by have := h.1; simp [iV] at this; omega
  have h1 := h
  rcases h.2 with ⟨rfl, h1⟩ | ⟨g, cap, cur, rfl, hg, hh, h2, h3, _⟩
  · omega
  · exact ⟨g, cap, rfl, h2, by unfold maxLen at h3; omega, lt_of_block hh, fun j hj => (own_cell h1 (x := .int .i64 l[j]!) (by simp [iV, show j < l.length by omega])).1⟩
def wsL (f : Nat → Int) (i : Nat) : List Int := (List.range i).map f
theorem wsL_succ (f : Nat → Int) (i : Nat) : wsL f (i + 1) = wsL f i ++ [f i] := by simp [wsL, List.range_succ]
theorem wsL_at (f : Nat → Int) {i j : Nat} (h : j < i) : (wsL f i)[j]! = f j := by simp [wsL, h]
set_option maxRecDepth 100000 in
set_option maxHeartbeats 8000000 in
theorem typed_any {w : World} {A : Option Addr} {n c : Nat} {T : List Nd} (h : Term w A n c T) (x : Nd) (A' : Option Addr) (n' c' : Nat) (hI : Ints w A' n' c' x.args) (ho : isOpB x.op = true) (hn : (n' : Int) = argN x.op) (ha : ∀ i, i < n' → 0 ≤ x.args[i]! ∧ x.args[i]! < (n : Int)) :
    Calls Tryz.prog 46 #[.slice A n c, .agg #[.int .i64 x.op, .int .i64 x.width, .int .i64 x.flags, .slice A' n' c', .int .u32 x.imm]] w fun e w' => e = .returned (.bool (fitB T x)) ∧ Below w.heap.size w w' := by
  obtain ⟨i0, hi, hz0, hz1, hz2⟩ := info_parts infoI
  have H := Lib.hid h
  have HII := Lib.hid hI
  have hcap := hI.2.1
  have hmax := hI.2.2.1
  have hcapT := h.2.1
  have hmaxT := h.2.2.1
  have hn3 : n' ≤ 3 := by have := argN_le (op := x.op); omega
  have HA := Lib.hid ha
  have HW := Lib.hid (fun i => show wOf T x i = (T[(x.args[i]!).toNat]!).width from rfl)
  have HF := Lib.hid (fit_def T x)
  have HO := Lib.hid (of_decide_eq_true ho)
  have HAN := Lib.hid hn
  generalize fitB T x = F at HF ⊢
  generalize wOf T x = f at HW HF
  clear h hI ha ho hn
  obtain ⟨op, wid, fl, args, imm⟩ := x
  simp only at HII HA HW HF HO HAN ⊢
  go_enter Tryz.func46, Tryz.ntmps46
  go_upto_region 1 with fail
  have hx := heap_alloc_new w (.cells #[.int .i64 op, .int .i64 wid, .int .i64 fl, .slice A' n' c', .int .u32 imm] 38)
  have hb : Below w.heap.size w (w.alloc (.cells #[.int .i64 op, .int .i64 wid, .int .i64 fl, .slice A' n' c', .int .u32 imm] 38)) := (Below.refl _ _).alloc (Nat.le_refl _) _
  generalize World.alloc w _ = W1 at hx hb ⊢
  obtain ⟨B, hBE⟩ : ∃ B, w.heap.size = B := ⟨_, rfl⟩
  rw [hBE] at hx
  have HB := Lib.hid hb
  have HBB := Lib.hid (show B < W1.heap.size from lt_of_block hx)
  have HX := Lib.hid hx
  replace HII := Lib.hid (HII.out.below hb)
  replace H := Lib.hid (H.out.below hb)
  clear hb hx
  rw [hBE]
  go_wp2
  go_loopw [5, 6] (fun zl zi wr => ∃ i : Nat, i ≤ n' ∧ zi = .int .i64 (i : Int) ∧ wr.ownsRow W1.heap.size 3 1 zl i (iV (wsL f i)) ∧ Below W1.heap.size W1 wr) (fun _ zi _ => n' - (intOf zi).toNat)
  case atStart => exact ⟨0, by omega, rfl, World.ownsRow_nil _ _ _ _, Below.refl _ _⟩
  case round =>
    obtain ⟨i, hi', rfl, hown, hb⟩ := hrel
    obtain ⟨a0, a1, -, a3, -⟩ := cells5 (x := ⟨op, wid, fl, args, imm⟩) ((hb.block _ HBB.out).trans HX.out)
    simp only at a0 a1 a3
    by_cases hlt : i < n'
    · obtain ⟨b', off', rfl, hbs', hc'⟩ := (HII.out.below hb).at_ hlt
      have hai := HA.out i hlt
      have HWI := Lib.hid (HW.out i)
      obtain ⟨p, hp⟩ : ∃ p : Nat, args[i]! = (p : Int) := ⟨(args[i]!).toNat, by omega⟩
      rw [hp] at hc' hai HWI
      rw [Int.toNat_natCast] at HWI
      obtain ⟨bT, oT, A3, n3, c3, rfl, hbT, ⟨-, t1, -, -, -⟩, -⟩ := (H.out.below hb).at_ (show p < n by omega)
      rw [← HWI.out] at t1
      have HS := Lib.hid (wsL_succ f i)
      generalize f i = fi at t1 HS
      clear hp a0 a1
      go_wp2_with (at_builtin; refine wpList_append_own _ rfl _ _ 35 rfl W1.heap.size 3 i0 (.int .i64 0) 1 8 Tryz.underlying35 hi hz0 hz1 hz2 rfl (by decide) _ _ _ rfl (hown.alloc _) ⟨wr.heap.size, 0, none⟩ 1 1 [.int .i64 fi] rfl rfl (one_new wr _ _) ?k2 ?k3 ?k4 ?k5 ?_)
      case k2 => simp [Value.oneCell']
      case k3 => unfold maxLen; omega
      case k4 => omega
      case k5 => have := hb.size; simp; omega
      intro v2 w7 hown7 hgrow _
      have hb5 : Below W1.heap.size W1 w7 := (hb.alloc hb.size _).grown hgrow (by have := hb.size; simp; omega) (own_base (hown.alloc (.cells #[.int .i64 fi] 3)))
      have HO8 := Lib.hid (show w7.ownsRow W1.heap.size 3 1 v2 (i + 1) (iV (wsL f (i + 1))) by
        rw [HS.out, iV_app]
        exact hown7)
      clear hown hown7 hgrow hb hc' hbs' t1 hbT a3
      go_wp2
      go_roundw
      case rel => exact ⟨i + 1, by omega, by go_num, HO8.out, hb5⟩
      case measure => simp [intOf]; omega
    · obtain rfl : i = n' := by omega
      have HB2 := Lib.hid (HB.out.trans (hb.mono HB.out.size))
      have hBl := Nat.lt_of_lt_of_le HBB.out hb.size
      have HOWN := Lib.hid (show 0 < i → _ from fun h0 => own_at hown h0)
      have HWA := Lib.hid (fun j (hj : j < i) => wsL_at f hj)
      clear hown hcap hmax hcapT hmaxT HII H hi' hlt
      by_cases o0 : op = 0
      · have HF1 := Lib.hid (HF.out.trans (by rw [if_neg (by omega), if_neg (by omega), if_neg (by omega), if_neg (by omega), if_neg (by omega)]))
        have e1 : (op == 0) = true := by simp [o0]
        clear o0
        go_wp2
        go_ret
        exact ⟨ret_b HF1.out.symm, HB2.out⟩
      have e0 : (op == 0) = false := beq_false_of_ne o0
      by_cases o33 : op = 33
      · have HF1 := Lib.hid (HF.out.trans (by rw [if_neg (by omega), if_neg (by omega), if_neg (by omega), if_neg (by omega), if_neg (by omega)]))
        have e1 : (op == 33) = true := by simp [o33]
        clear o0 o33
        go_wp2
        go_ret
        exact ⟨ret_b HF1.out.symm, HB2.out⟩
      have e33 : (op == 33) = false := beq_false_of_ne o33
      have hi1 : 0 < i := by
        have h1 := HO.out
        have h2 := HAN.out
        unfold argN at h2
        by_cases q1 : 1 ≤ op ∧ op ≤ 14
        · rw [if_pos q1] at h2; omega
        · rw [if_neg q1] at h2
          by_cases q2 : op = 15
          · rw [if_pos q2] at h2; omega
          · rw [if_neg q2, if_neg (by omega)] at h2; omega
      obtain ⟨g, cR, rfl, hRc, hRm, hg, hk⟩ := HOWN.out hi1
      have k0 := hk 0 hi1
      rw [HWA.out 0 hi1] at k0
      by_cases o14 : op = 14
      · obtain rfl : i = 2 := by have := HAN.out; rw [o14] at this; have e : argN 14 = 2 := rfl; omega
        have k1 := hk 1 (by omega)
        rw [HWA.out 1 (by omega)] at k1
        have HF2 := Lib.hid (HF.out.trans (by rw [if_neg (by omega), if_pos o14]))
        have e14 : (op == 14) = true := by simp [o14]
        clear hk HWA HOWN HW
        generalize f 0 = f0 at k0 HF2
        generalize f 1 = f1 at k1 HF2
        have HF3 := Lib.hid (show F = (f0 == f1) by rw [HF2.out, Bool.eq_iff_iff, decide_eq_true_iff, beq_iff_eq])
        clear o0 o33 o14 hi1
        go_upto_region 11 with fail
        have HS := Lib.hid (show ∀ W, Below wr.heap.size wr W → W.cell? ⟨B, 1, none⟩ = some (.int .i64 wid) ∧ W.cell? ⟨g, 0, none⟩ = some (.int .i64 f0) ∧ W.cell? ⟨g, 1, none⟩ = some (.int .i64 f1) from fun W hW => ⟨(hW.cell (p := ⟨B, 1, none⟩) hBl).trans a1, (hW.cell (p := ⟨g, 0, none⟩) hg).trans k0, (hW.cell (p := ⟨g, 1, none⟩) hg).trans k1⟩)
        clear a0 a1 a3 hBl hg hb k0 k1
        refine wp_region_held_drew (S := (fun W => W.cell? ⟨B, 1, none⟩ = some (.int .i64 wid) ∧ W.cell? ⟨g, 0, none⟩ = some (.int .i64 f0) ∧ W.cell? ⟨g, 1, none⟩ = some (.int .i64 f1))) (by kernel_rfl) ?_ (fun hHeld => ?_)
        · exact HS.out _ (by first | exact Below.refl _ _ | exact drewD (Below.refl _ _) | exact drewR (Below.refl _ _))
        refine wpAnyH_take (i := 0) (oi := ({ dst := some 33, op := Op.move (Operand.tmp 5), type := 35, pos := "ref.go:60", after := #[], guard := none } : Oper)) (v := ?a1_v0) rfl (by kernel_rfl) (by kernel_rfl) (by kernel_rfl) (fun _ _ _ h => h) (Or.inl ⟨by rfl, ?a1_y0⟩) (by assumption) ?a1_r0
        case a1_y0 =>
          intro w hSw
          (try dsimp only at hSw)
          go_simp
          (try with_reducible rfl)
        try simp only [Act.put, List.setIfInBounds_toArray, List.set_cons_zero, List.set_cons_succ]
        refine wpAnyH_take (i := 1) (oi := ({ dst := some 34, op := Op.indexAddr 35 (Operand.tmp 33) (Operand.const (Value.int IntKind.i64 0)), type := 0, pos := "ref.go:60", after := #[{ on := 0, ground := Ground.data }], guard := none } : Oper)) (v := ?a2_v1) rfl (by kernel_rfl) (by kernel_rfl) (by kernel_rfl) (fun _ _ _ h => h) (Or.inl ⟨by rfl, ?a2_y1⟩) (by assumption) ?a2_r1
        case a2_y1 =>
          intro w hSw
          (try dsimp only at hSw)
          go_simp
          (try with_reducible rfl)
        try simp only [Act.put, List.setIfInBounds_toArray, List.set_cons_zero, List.set_cons_succ]
        refine wpAnyH_take (i := 2) (oi := ({ dst := some 35, op := Op.load 3 (Operand.tmp 34), type := 3, pos := "ref.go:60", after := #[{ on := 1, ground := Ground.data }], guard := none } : Oper)) (v := ?a3_v2) rfl (by kernel_rfl) (by kernel_rfl) (by kernel_rfl) (fun _ _ _ h => h) (Or.inl ⟨by rfl, ?a3_y2⟩) (by assumption) ?a3_r2
        case a3_y2 =>
          intro w hSw
          (try dsimp only at hSw)
          go_simp
          (try with_reducible rfl)
        try simp only [Act.put, List.setIfInBounds_toArray, List.set_cons_zero, List.set_cons_succ]
        refine wpAnyH_take (i := 3) (oi := ({ dst := some 36, op := Op.move (Operand.tmp 5), type := 35, pos := "ref.go:60", after := #[], guard := none } : Oper)) (v := ?a4_v3) rfl (by kernel_rfl) (by kernel_rfl) (by kernel_rfl) (fun _ _ _ h => h) (Or.inl ⟨by rfl, ?a4_y3⟩) (by assumption) ?a4_r3
        case a4_y3 =>
          intro w hSw
          (try dsimp only at hSw)
          go_simp
          (try with_reducible rfl)
        try simp only [Act.put, List.setIfInBounds_toArray, List.set_cons_zero, List.set_cons_succ]
        refine wpAnyH_take (i := 4) (oi := ({ dst := some 37, op := Op.indexAddr 35 (Operand.tmp 36) (Operand.const (Value.int IntKind.i64 1)), type := 0, pos := "ref.go:60", after := #[{ on := 3, ground := Ground.data }], guard := none } : Oper)) (v := ?a5_v4) rfl (by kernel_rfl) (by kernel_rfl) (by kernel_rfl) (fun _ _ _ h => h) (Or.inl ⟨by rfl, ?a5_y4⟩) (by assumption) ?a5_r4
        case a5_y4 =>
          intro w hSw
          (try dsimp only at hSw)
          go_simp
          (try with_reducible rfl)
        try simp only [Act.put, List.setIfInBounds_toArray, List.set_cons_zero, List.set_cons_succ]
        refine wpAnyH_take (i := 5) (oi := ({ dst := some 38, op := Op.load 3 (Operand.tmp 37), type := 3, pos := "ref.go:60", after := #[{ on := 4, ground := Ground.data }], guard := none } : Oper)) (v := ?a6_v5) rfl (by kernel_rfl) (by kernel_rfl) (by kernel_rfl) (fun _ _ _ h => h) (Or.inl ⟨by rfl, ?a6_y5⟩) (by assumption) ?a6_r5
        case a6_y5 =>
          intro w hSw
          (try dsimp only at hSw)
          go_simp
          (try with_reducible rfl)
        try simp only [Act.put, List.setIfInBounds_toArray, List.set_cons_zero, List.set_cons_succ]
        refine wpAnyH_take (i := 6) (oi := ({ dst := some 39, op := Op.binOp BinOp.eql 3 (Operand.tmp 35) (Operand.tmp 38) 3, type := 4, pos := "ref.go:60", after := #[{ on := 2, ground := Ground.data }, { on := 5, ground := Ground.data }], guard := none } : Oper)) (v := ?a7_v6) rfl (by kernel_rfl) (by kernel_rfl) (by kernel_rfl) (fun _ _ _ h => h) (Or.inl ⟨by rfl, ?a7_y6⟩) (by assumption) ?a7_r6
        case a7_y6 =>
          intro w hSw
          (try dsimp only at hSw)
          go_simp
          (try with_reducible rfl)
        try simp only [Act.put, List.setIfInBounds_toArray, List.set_cons_zero, List.set_cons_succ]
        refine wpAnyH_take (i := 7) (oi := ({ dst := some 4, op := Op.assign (Operand.tmp 39), type := 4, pos := "ref.go:60", after := #[{ on := 6, ground := Ground.data }, { on := 0, ground := Ground.phase }, { on := 1, ground := Ground.phase }, { on := 2, ground := Ground.phase }, { on := 3, ground := Ground.phase }, { on := 4, ground := Ground.phase }, { on := 5, ground := Ground.phase }, { on := 6, ground := Ground.phase }], guard := none } : Oper)) (v := ?a8_v7) rfl (by kernel_rfl) (by kernel_rfl) (by kernel_rfl) (fun _ _ _ h => h) (Or.inl ⟨by rfl, ?a8_y7⟩) (by assumption) ?a8_r7
        case a8_y7 =>
          intro w hSw
          (try dsimp only at hSw)
          go_simp
          (try with_reducible rfl)
        try simp only [Act.put, List.setIfInBounds_toArray, List.set_cons_zero, List.set_cons_succ]
        refine wpAnyH_done (by kernel_rfl) ?_ _
        go_wp2
        go_ret
        exact ⟨ret_b (by rw [HF3.out]), by first | exact drewR HB2.out | exact drewD HB2.out | exact HB2.out⟩
      have e14 : (op == 14) = false := beq_false_of_ne o14
      by_cases o15 : op = 15
      · obtain rfl : i = 3 := by have := HAN.out; rw [o15] at this; have e : argN 15 = 3 := rfl; omega
        have k1 := hk 1 (by omega)
        rw [HWA.out 1 (by omega)] at k1
        have k2 := hk 2 (by omega)
        rw [HWA.out 2 (by omega)] at k2
        have HF3 := Lib.hid (HF.out.trans (by rw [if_neg (by omega), if_neg o14, if_pos o15]))
        have e15 : (op == 15) = true := by simp [o15]
        clear hk HWA HOWN HW
        generalize f 0 = f0 at k0 HF3
        generalize f 1 = f1 at k1 HF3
        generalize f 2 = f2 at k2 HF3
        clear o0 o33 o14 o15 hi1
        by_cases q0 : f0 = 1
        · have e3 : (f0 == 1) = true := by simp [q0]
          by_cases q1 : f1 = wid
          · have e4 : (f1 == wid) = true := by simp [q1]
            have HF4 := Lib.hid (show F = (f2 == wid) by rw [HF3.out, decide_eq_true q0, decide_eq_true q1, Bool.true_and, Bool.true_and, Bool.eq_iff_iff, decide_eq_true_iff, beq_iff_eq])
            clear q0 q1
            go_upto_region 13 with fail
            have HS := Lib.hid (show ∀ W, Below wr.heap.size wr W → W.cell? ⟨B, 1, none⟩ = some (.int .i64 wid) ∧ W.cell? ⟨g, 0, none⟩ = some (.int .i64 f0) ∧ W.cell? ⟨g, 1, none⟩ = some (.int .i64 f1) ∧ W.cell? ⟨g, 2, none⟩ = some (.int .i64 f2) from fun W hW => ⟨(hW.cell (p := ⟨B, 1, none⟩) hBl).trans a1, (hW.cell (p := ⟨g, 0, none⟩) hg).trans k0, (hW.cell (p := ⟨g, 1, none⟩) hg).trans k1, (hW.cell (p := ⟨g, 2, none⟩) hg).trans k2⟩)
            clear a0 a1 a3 hBl hg hb k0 k1 k2
            refine wp_region_held_drew (S := (fun W => W.cell? ⟨B, 1, none⟩ = some (.int .i64 wid) ∧ W.cell? ⟨g, 0, none⟩ = some (.int .i64 f0) ∧ W.cell? ⟨g, 1, none⟩ = some (.int .i64 f1) ∧ W.cell? ⟨g, 2, none⟩ = some (.int .i64 f2))) (by kernel_rfl) ?_ (fun hHeld => ?_)
            · exact HS.out _ (by first | exact Below.refl _ _ | exact drewD (Below.refl _ _) | exact drewR (Below.refl _ _))
            refine wpAnyH_take (i := 0) (oi := ({ dst := some 42, op := Op.move (Operand.tmp 5), type := 35, pos := "ref.go:62", after := #[], guard := none } : Oper)) (v := ?b1_v0) rfl (by kernel_rfl) (by kernel_rfl) (by kernel_rfl) (fun _ _ _ h => h) (Or.inl ⟨by rfl, ?b1_y0⟩) (by assumption) ?b1_r0
            case b1_y0 =>
              intro w hSw
              (try dsimp only at hSw)
              go_simp
              (try with_reducible rfl)
            try simp only [Act.put, List.setIfInBounds_toArray, List.set_cons_zero, List.set_cons_succ]
            refine wpAnyH_take (i := 1) (oi := ({ dst := some 43, op := Op.indexAddr 35 (Operand.tmp 42) (Operand.const (Value.int IntKind.i64 0)), type := 0, pos := "ref.go:62", after := #[{ on := 0, ground := Ground.data }], guard := none } : Oper)) (v := ?b2_v1) rfl (by kernel_rfl) (by kernel_rfl) (by kernel_rfl) (fun _ _ _ h => h) (Or.inl ⟨by rfl, ?b2_y1⟩) (by assumption) ?b2_r1
            case b2_y1 =>
              intro w hSw
              (try dsimp only at hSw)
              go_simp
              (try with_reducible rfl)
            try simp only [Act.put, List.setIfInBounds_toArray, List.set_cons_zero, List.set_cons_succ]
            refine wpAnyH_take (i := 2) (oi := ({ dst := some 44, op := Op.load 3 (Operand.tmp 43), type := 3, pos := "ref.go:62", after := #[{ on := 1, ground := Ground.data }], guard := none } : Oper)) (v := ?b3_v2) rfl (by kernel_rfl) (by kernel_rfl) (by kernel_rfl) (fun _ _ _ h => h) (Or.inl ⟨by rfl, ?b3_y2⟩) (by assumption) ?b3_r2
            case b3_y2 =>
              intro w hSw
              (try dsimp only at hSw)
              go_simp
              (try with_reducible rfl)
            try simp only [Act.put, List.setIfInBounds_toArray, List.set_cons_zero, List.set_cons_succ]
            refine wpAnyH_take (i := 3) (oi := ({ dst := some 45, op := Op.binOp BinOp.eql 3 (Operand.tmp 44) (Operand.const (Value.int IntKind.i64 1)) 3, type := 4, pos := "ref.go:62", after := #[{ on := 2, ground := Ground.data }], guard := none } : Oper)) (v := ?b4_v3) rfl (by kernel_rfl) (by kernel_rfl) (by kernel_rfl) (fun _ _ _ h => h) (Or.inl ⟨by rfl, ?b4_y3⟩) (by assumption) ?b4_r3
            case b4_y3 =>
              intro w hSw
              (try dsimp only at hSw)
              go_simp
              (try with_reducible rfl)
            try simp only [Act.put, List.setIfInBounds_toArray, List.set_cons_zero, List.set_cons_succ]
            refine wpAnyH_take (i := 4) (oi := ({ dst := some 46, op := Op.move (Operand.tmp 45), type := 4, pos := "ref.go:62", after := #[{ on := 3, ground := Ground.data }], guard := none } : Oper)) (v := ?b5_v4) rfl (by kernel_rfl) (by kernel_rfl) (by kernel_rfl) (fun _ _ _ h => h) (Or.inl ⟨by rfl, ?b5_y4⟩) (by assumption) ?b5_r4
            case b5_y4 =>
              intro w hSw
              (try dsimp only at hSw)
              go_simp
              (try with_reducible rfl)
            try simp only [Act.put, List.setIfInBounds_toArray, List.set_cons_zero, List.set_cons_succ]
            refine wpAnyH_take (i := 5) (oi := ({ dst := some 47, op := Op.move (Operand.tmp 5), type := 35, pos := "ref.go:62", after := #[{ on := 4, ground := Ground.guard }], guard := some (4, true) } : Oper)) (v := ?b6_v5) rfl (by kernel_rfl) (by kernel_rfl) (by kernel_rfl) (fun _ _ _ h => h) (Or.inl ⟨by rfl, ?b6_y5⟩) (by assumption) ?b6_r5
            case b6_y5 =>
              intro w hSw
              (try dsimp only at hSw)
              go_simp
              (try with_reducible rfl)
            try simp only [Act.put, List.setIfInBounds_toArray, List.set_cons_zero, List.set_cons_succ]
            refine wpAnyH_take (i := 6) (oi := ({ dst := some 48, op := Op.indexAddr 35 (Operand.tmp 47) (Operand.const (Value.int IntKind.i64 1)), type := 0, pos := "ref.go:62", after := #[{ on := 5, ground := Ground.data }, { on := 4, ground := Ground.guard }], guard := some (4, true) } : Oper)) (v := ?b7_v6) rfl (by kernel_rfl) (by kernel_rfl) (by kernel_rfl) (fun _ _ _ h => h) (Or.inl ⟨by rfl, ?b7_y6⟩) (by assumption) ?b7_r6
            case b7_y6 =>
              intro w hSw
              (try dsimp only at hSw)
              go_simp
              (try with_reducible rfl)
            try simp only [Act.put, List.setIfInBounds_toArray, List.set_cons_zero, List.set_cons_succ]
            refine wpAnyH_take (i := 7) (oi := ({ dst := some 49, op := Op.load 3 (Operand.tmp 48), type := 3, pos := "ref.go:62", after := #[{ on := 6, ground := Ground.data }, { on := 4, ground := Ground.guard }], guard := some (4, true) } : Oper)) (v := ?b8_v7) rfl (by kernel_rfl) (by kernel_rfl) (by kernel_rfl) (fun _ _ _ h => h) (Or.inl ⟨by rfl, ?b8_y7⟩) (by assumption) ?b8_r7
            case b8_y7 =>
              intro w hSw
              (try dsimp only at hSw)
              go_simp
              (try with_reducible rfl)
            try simp only [Act.put, List.setIfInBounds_toArray, List.set_cons_zero, List.set_cons_succ]
            refine wpAnyH_take (i := 8) (oi := ({ dst := some 50, op := Op.fieldAddr 38 (Operand.tmp 3) 1, type := 0, pos := "ref.go:62", after := #[{ on := 4, ground := Ground.guard }], guard := some (4, true) } : Oper)) (v := ?b9_v8) rfl (by kernel_rfl) (by kernel_rfl) (by kernel_rfl) (fun _ _ _ h => h) (Or.inl ⟨by rfl, ?b9_y8⟩) (by assumption) ?b9_r8
            case b9_y8 =>
              intro w hSw
              (try dsimp only at hSw)
              go_simp
              (try with_reducible rfl)
            try simp only [Act.put, List.setIfInBounds_toArray, List.set_cons_zero, List.set_cons_succ]
            refine wpAnyH_take (i := 9) (oi := ({ dst := some 51, op := Op.load 3 (Operand.tmp 50), type := 3, pos := "ref.go:62", after := #[{ on := 8, ground := Ground.data }, { on := 4, ground := Ground.guard }], guard := some (4, true) } : Oper)) (v := ?b10_v9) rfl (by kernel_rfl) (by kernel_rfl) (by kernel_rfl) (fun _ _ _ h => h) (Or.inl ⟨by rfl, ?b10_y9⟩) (by assumption) ?b10_r9
            case b10_y9 =>
              intro w hSw
              (try dsimp only at hSw)
              go_simp
              (try with_reducible rfl)
            try simp only [Act.put, List.setIfInBounds_toArray, List.set_cons_zero, List.set_cons_succ]
            refine wpAnyH_take (i := 10) (oi := ({ dst := some 52, op := Op.binOp BinOp.eql 3 (Operand.tmp 49) (Operand.tmp 51) 3, type := 4, pos := "ref.go:62", after := #[{ on := 7, ground := Ground.data }, { on := 9, ground := Ground.data }, { on := 4, ground := Ground.guard }], guard := some (4, true) } : Oper)) (v := ?b11_v10) rfl (by kernel_rfl) (by kernel_rfl) (by kernel_rfl) (fun _ _ _ h => h) (Or.inl ⟨by rfl, ?b11_y10⟩) (by assumption) ?b11_r10
            case b11_y10 =>
              intro w hSw
              (try dsimp only at hSw)
              go_simp
              (try with_reducible rfl)
            try simp only [Act.put, List.setIfInBounds_toArray, List.set_cons_zero, List.set_cons_succ]
            refine wpAnyH_take (i := 11) (oi := ({ dst := some 53, op := Op.pick (Operand.tmp 46) (Operand.tmp 52) (Operand.const (Value.bool false)), type := 4, pos := "ref.go:62", after := #[{ on := 4, ground := Ground.data }, { on := 10, ground := Ground.data }], guard := none } : Oper)) (v := ?b12_v11) rfl (by kernel_rfl) (by kernel_rfl) (by kernel_rfl) (fun _ _ _ h => h) (Or.inl ⟨by rfl, ?b12_y11⟩) (by assumption) ?b12_r11
            case b12_y11 =>
              intro w hSw
              (try dsimp only at hSw)
              go_simp
              (try with_reducible rfl)
            try simp only [Act.put, List.setIfInBounds_toArray, List.set_cons_zero, List.set_cons_succ]
            refine wpAnyH_take (i := 12) (oi := ({ dst := some 54, op := Op.move (Operand.tmp 53), type := 4, pos := "ref.go:62", after := #[{ on := 11, ground := Ground.data }, { on := 4, ground := Ground.chain }], guard := none } : Oper)) (v := ?b13_v12) rfl (by kernel_rfl) (by kernel_rfl) (by kernel_rfl) (fun _ _ _ h => h) (Or.inl ⟨by rfl, ?b13_y12⟩) (by assumption) ?b13_r12
            case b13_y12 =>
              intro w hSw
              (try dsimp only at hSw)
              go_simp
              (try with_reducible rfl)
            try simp only [Act.put, List.setIfInBounds_toArray, List.set_cons_zero, List.set_cons_succ]
            refine wpAnyH_take (i := 13) (oi := ({ dst := some 55, op := Op.move (Operand.tmp 5), type := 35, pos := "ref.go:62", after := #[{ on := 12, ground := Ground.guard }], guard := some (12, true) } : Oper)) (v := ?b14_v13) rfl (by kernel_rfl) (by kernel_rfl) (by kernel_rfl) (fun _ _ _ h => h) (Or.inl ⟨by rfl, ?b14_y13⟩) (by assumption) ?b14_r13
            case b14_y13 =>
              intro w hSw
              (try dsimp only at hSw)
              go_simp
              (try with_reducible rfl)
            try simp only [Act.put, List.setIfInBounds_toArray, List.set_cons_zero, List.set_cons_succ]
            refine wpAnyH_take (i := 14) (oi := ({ dst := some 56, op := Op.indexAddr 35 (Operand.tmp 55) (Operand.const (Value.int IntKind.i64 2)), type := 0, pos := "ref.go:62", after := #[{ on := 13, ground := Ground.data }, { on := 12, ground := Ground.guard }], guard := some (12, true) } : Oper)) (v := ?b15_v14) rfl (by kernel_rfl) (by kernel_rfl) (by kernel_rfl) (fun _ _ _ h => h) (Or.inl ⟨by rfl, ?b15_y14⟩) (by assumption) ?b15_r14
            case b15_y14 =>
              intro w hSw
              (try dsimp only at hSw)
              go_simp
              (try with_reducible rfl)
            try simp only [Act.put, List.setIfInBounds_toArray, List.set_cons_zero, List.set_cons_succ]
            refine wpAnyH_take (i := 15) (oi := ({ dst := some 57, op := Op.load 3 (Operand.tmp 56), type := 3, pos := "ref.go:62", after := #[{ on := 14, ground := Ground.data }, { on := 12, ground := Ground.guard }], guard := some (12, true) } : Oper)) (v := ?b16_v15) rfl (by kernel_rfl) (by kernel_rfl) (by kernel_rfl) (fun _ _ _ h => h) (Or.inl ⟨by rfl, ?b16_y15⟩) (by assumption) ?b16_r15
            case b16_y15 =>
              intro w hSw
              (try dsimp only at hSw)
              go_simp
              (try with_reducible rfl)
            try simp only [Act.put, List.setIfInBounds_toArray, List.set_cons_zero, List.set_cons_succ]
            refine wpAnyH_take (i := 16) (oi := ({ dst := some 58, op := Op.fieldAddr 38 (Operand.tmp 3) 1, type := 0, pos := "ref.go:62", after := #[{ on := 12, ground := Ground.guard }], guard := some (12, true) } : Oper)) (v := ?b17_v16) rfl (by kernel_rfl) (by kernel_rfl) (by kernel_rfl) (fun _ _ _ h => h) (Or.inl ⟨by rfl, ?b17_y16⟩) (by assumption) ?b17_r16
            case b17_y16 =>
              intro w hSw
              (try dsimp only at hSw)
              go_simp
              (try with_reducible rfl)
            try simp only [Act.put, List.setIfInBounds_toArray, List.set_cons_zero, List.set_cons_succ]
            refine wpAnyH_take (i := 17) (oi := ({ dst := some 59, op := Op.load 3 (Operand.tmp 58), type := 3, pos := "ref.go:62", after := #[{ on := 16, ground := Ground.data }, { on := 12, ground := Ground.guard }], guard := some (12, true) } : Oper)) (v := ?b18_v17) rfl (by kernel_rfl) (by kernel_rfl) (by kernel_rfl) (fun _ _ _ h => h) (Or.inl ⟨by rfl, ?b18_y17⟩) (by assumption) ?b18_r17
            case b18_y17 =>
              intro w hSw
              (try dsimp only at hSw)
              go_simp
              (try with_reducible rfl)
            try simp only [Act.put, List.setIfInBounds_toArray, List.set_cons_zero, List.set_cons_succ]
            refine wpAnyH_take (i := 18) (oi := ({ dst := some 60, op := Op.binOp BinOp.eql 3 (Operand.tmp 57) (Operand.tmp 59) 3, type := 4, pos := "ref.go:62", after := #[{ on := 15, ground := Ground.data }, { on := 17, ground := Ground.data }, { on := 12, ground := Ground.guard }], guard := some (12, true) } : Oper)) (v := ?b19_v18) rfl (by kernel_rfl) (by kernel_rfl) (by kernel_rfl) (fun _ _ _ h => h) (Or.inl ⟨by rfl, ?b19_y18⟩) (by assumption) ?b19_r18
            case b19_y18 =>
              intro w hSw
              (try dsimp only at hSw)
              go_simp
              (try with_reducible rfl)
            try simp only [Act.put, List.setIfInBounds_toArray, List.set_cons_zero, List.set_cons_succ]
            refine wpAnyH_take (i := 19) (oi := ({ dst := some 61, op := Op.pick (Operand.tmp 54) (Operand.tmp 60) (Operand.const (Value.bool false)), type := 4, pos := "ref.go:62", after := #[{ on := 12, ground := Ground.data }, { on := 18, ground := Ground.data }], guard := none } : Oper)) (v := ?b20_v19) rfl (by kernel_rfl) (by kernel_rfl) (by kernel_rfl) (fun _ _ _ h => h) (Or.inl ⟨by rfl, ?b20_y19⟩) (by assumption) ?b20_r19
            case b20_y19 =>
              intro w hSw
              (try dsimp only at hSw)
              go_simp
              (try with_reducible rfl)
            try simp only [Act.put, List.setIfInBounds_toArray, List.set_cons_zero, List.set_cons_succ]
            refine wpAnyH_take (i := 20) (oi := ({ dst := some 4, op := Op.assign (Operand.tmp 61), type := 4, pos := "ref.go:62", after := #[{ on := 19, ground := Ground.data }, { on := 12, ground := Ground.chain }, { on := 0, ground := Ground.phase }, { on := 1, ground := Ground.phase }, { on := 2, ground := Ground.phase }, { on := 3, ground := Ground.phase }, { on := 4, ground := Ground.phase }, { on := 5, ground := Ground.phase }, { on := 6, ground := Ground.phase }, { on := 7, ground := Ground.phase }, { on := 8, ground := Ground.phase }, { on := 9, ground := Ground.phase }, { on := 10, ground := Ground.phase }, { on := 11, ground := Ground.phase }, { on := 12, ground := Ground.phase }, { on := 13, ground := Ground.phase }, { on := 14, ground := Ground.phase }, { on := 15, ground := Ground.phase }, { on := 16, ground := Ground.phase }, { on := 17, ground := Ground.phase }, { on := 18, ground := Ground.phase }, { on := 19, ground := Ground.phase }], guard := none } : Oper)) (v := ?b21_v20) rfl (by kernel_rfl) (by kernel_rfl) (by kernel_rfl) (fun _ _ _ h => h) (Or.inl ⟨by rfl, ?b21_y20⟩) (by assumption) ?b21_r20
            case b21_y20 =>
              intro w hSw
              (try dsimp only at hSw)
              go_simp
              (try with_reducible rfl)
            try simp only [Act.put, List.setIfInBounds_toArray, List.set_cons_zero, List.set_cons_succ]
            refine wpAnyH_done (by kernel_rfl) ?_ _
            go_wp2
            go_ret
            exact ⟨ret_b (by rw [HF4.out]), by first | exact drewR HB2.out | exact drewD HB2.out | exact HB2.out⟩
          · have e4 : (f1 == wid) = false := beq_false_of_ne q1
            have HF4 := Lib.hid (show F = false by rw [HF3.out, decide_eq_false q1, Bool.false_and, Bool.and_false])
            clear q0 q1
            go_upto_region 13 with fail
            have HS := Lib.hid (show ∀ W, Below wr.heap.size wr W → W.cell? ⟨B, 1, none⟩ = some (.int .i64 wid) ∧ W.cell? ⟨g, 0, none⟩ = some (.int .i64 f0) ∧ W.cell? ⟨g, 1, none⟩ = some (.int .i64 f1) ∧ W.cell? ⟨g, 2, none⟩ = some (.int .i64 f2) from fun W hW => ⟨(hW.cell (p := ⟨B, 1, none⟩) hBl).trans a1, (hW.cell (p := ⟨g, 0, none⟩) hg).trans k0, (hW.cell (p := ⟨g, 1, none⟩) hg).trans k1, (hW.cell (p := ⟨g, 2, none⟩) hg).trans k2⟩)
            clear a0 a1 a3 hBl hg hb k0 k1 k2
            refine wp_region_held_drew (S := (fun W => W.cell? ⟨B, 1, none⟩ = some (.int .i64 wid) ∧ W.cell? ⟨g, 0, none⟩ = some (.int .i64 f0) ∧ W.cell? ⟨g, 1, none⟩ = some (.int .i64 f1) ∧ W.cell? ⟨g, 2, none⟩ = some (.int .i64 f2))) (by kernel_rfl) ?_ (fun hHeld => ?_)
            · exact HS.out _ (by first | exact Below.refl _ _ | exact drewD (Below.refl _ _) | exact drewR (Below.refl _ _))
            refine wpAnyH_take (i := 0) (oi := ({ dst := some 42, op := Op.move (Operand.tmp 5), type := 35, pos := "ref.go:62", after := #[], guard := none } : Oper)) (v := ?c1_v0) rfl (by kernel_rfl) (by kernel_rfl) (by kernel_rfl) (fun _ _ _ h => h) (Or.inl ⟨by rfl, ?c1_y0⟩) (by assumption) ?c1_r0
            case c1_y0 =>
              intro w hSw
              (try dsimp only at hSw)
              go_simp
              (try with_reducible rfl)
            try simp only [Act.put, List.setIfInBounds_toArray, List.set_cons_zero, List.set_cons_succ]
            refine wpAnyH_take (i := 1) (oi := ({ dst := some 43, op := Op.indexAddr 35 (Operand.tmp 42) (Operand.const (Value.int IntKind.i64 0)), type := 0, pos := "ref.go:62", after := #[{ on := 0, ground := Ground.data }], guard := none } : Oper)) (v := ?c2_v1) rfl (by kernel_rfl) (by kernel_rfl) (by kernel_rfl) (fun _ _ _ h => h) (Or.inl ⟨by rfl, ?c2_y1⟩) (by assumption) ?c2_r1
            case c2_y1 =>
              intro w hSw
              (try dsimp only at hSw)
              go_simp
              (try with_reducible rfl)
            try simp only [Act.put, List.setIfInBounds_toArray, List.set_cons_zero, List.set_cons_succ]
            refine wpAnyH_take (i := 2) (oi := ({ dst := some 44, op := Op.load 3 (Operand.tmp 43), type := 3, pos := "ref.go:62", after := #[{ on := 1, ground := Ground.data }], guard := none } : Oper)) (v := ?c3_v2) rfl (by kernel_rfl) (by kernel_rfl) (by kernel_rfl) (fun _ _ _ h => h) (Or.inl ⟨by rfl, ?c3_y2⟩) (by assumption) ?c3_r2
            case c3_y2 =>
              intro w hSw
              (try dsimp only at hSw)
              go_simp
              (try with_reducible rfl)
            try simp only [Act.put, List.setIfInBounds_toArray, List.set_cons_zero, List.set_cons_succ]
            refine wpAnyH_take (i := 3) (oi := ({ dst := some 45, op := Op.binOp BinOp.eql 3 (Operand.tmp 44) (Operand.const (Value.int IntKind.i64 1)) 3, type := 4, pos := "ref.go:62", after := #[{ on := 2, ground := Ground.data }], guard := none } : Oper)) (v := ?c4_v3) rfl (by kernel_rfl) (by kernel_rfl) (by kernel_rfl) (fun _ _ _ h => h) (Or.inl ⟨by rfl, ?c4_y3⟩) (by assumption) ?c4_r3
            case c4_y3 =>
              intro w hSw
              (try dsimp only at hSw)
              go_simp
              (try with_reducible rfl)
            try simp only [Act.put, List.setIfInBounds_toArray, List.set_cons_zero, List.set_cons_succ]
            refine wpAnyH_take (i := 4) (oi := ({ dst := some 46, op := Op.move (Operand.tmp 45), type := 4, pos := "ref.go:62", after := #[{ on := 3, ground := Ground.data }], guard := none } : Oper)) (v := ?c5_v4) rfl (by kernel_rfl) (by kernel_rfl) (by kernel_rfl) (fun _ _ _ h => h) (Or.inl ⟨by rfl, ?c5_y4⟩) (by assumption) ?c5_r4
            case c5_y4 =>
              intro w hSw
              (try dsimp only at hSw)
              go_simp
              (try with_reducible rfl)
            try simp only [Act.put, List.setIfInBounds_toArray, List.set_cons_zero, List.set_cons_succ]
            refine wpAnyH_take (i := 5) (oi := ({ dst := some 47, op := Op.move (Operand.tmp 5), type := 35, pos := "ref.go:62", after := #[{ on := 4, ground := Ground.guard }], guard := some (4, true) } : Oper)) (v := ?c6_v5) rfl (by kernel_rfl) (by kernel_rfl) (by kernel_rfl) (fun _ _ _ h => h) (Or.inl ⟨by rfl, ?c6_y5⟩) (by assumption) ?c6_r5
            case c6_y5 =>
              intro w hSw
              (try dsimp only at hSw)
              go_simp
              (try with_reducible rfl)
            try simp only [Act.put, List.setIfInBounds_toArray, List.set_cons_zero, List.set_cons_succ]
            refine wpAnyH_take (i := 6) (oi := ({ dst := some 48, op := Op.indexAddr 35 (Operand.tmp 47) (Operand.const (Value.int IntKind.i64 1)), type := 0, pos := "ref.go:62", after := #[{ on := 5, ground := Ground.data }, { on := 4, ground := Ground.guard }], guard := some (4, true) } : Oper)) (v := ?c7_v6) rfl (by kernel_rfl) (by kernel_rfl) (by kernel_rfl) (fun _ _ _ h => h) (Or.inl ⟨by rfl, ?c7_y6⟩) (by assumption) ?c7_r6
            case c7_y6 =>
              intro w hSw
              (try dsimp only at hSw)
              go_simp
              (try with_reducible rfl)
            try simp only [Act.put, List.setIfInBounds_toArray, List.set_cons_zero, List.set_cons_succ]
            refine wpAnyH_take (i := 7) (oi := ({ dst := some 49, op := Op.load 3 (Operand.tmp 48), type := 3, pos := "ref.go:62", after := #[{ on := 6, ground := Ground.data }, { on := 4, ground := Ground.guard }], guard := some (4, true) } : Oper)) (v := ?c8_v7) rfl (by kernel_rfl) (by kernel_rfl) (by kernel_rfl) (fun _ _ _ h => h) (Or.inl ⟨by rfl, ?c8_y7⟩) (by assumption) ?c8_r7
            case c8_y7 =>
              intro w hSw
              (try dsimp only at hSw)
              go_simp
              (try with_reducible rfl)
            try simp only [Act.put, List.setIfInBounds_toArray, List.set_cons_zero, List.set_cons_succ]
            refine wpAnyH_take (i := 8) (oi := ({ dst := some 50, op := Op.fieldAddr 38 (Operand.tmp 3) 1, type := 0, pos := "ref.go:62", after := #[{ on := 4, ground := Ground.guard }], guard := some (4, true) } : Oper)) (v := ?c9_v8) rfl (by kernel_rfl) (by kernel_rfl) (by kernel_rfl) (fun _ _ _ h => h) (Or.inl ⟨by rfl, ?c9_y8⟩) (by assumption) ?c9_r8
            case c9_y8 =>
              intro w hSw
              (try dsimp only at hSw)
              go_simp
              (try with_reducible rfl)
            try simp only [Act.put, List.setIfInBounds_toArray, List.set_cons_zero, List.set_cons_succ]
            refine wpAnyH_take (i := 9) (oi := ({ dst := some 51, op := Op.load 3 (Operand.tmp 50), type := 3, pos := "ref.go:62", after := #[{ on := 8, ground := Ground.data }, { on := 4, ground := Ground.guard }], guard := some (4, true) } : Oper)) (v := ?c10_v9) rfl (by kernel_rfl) (by kernel_rfl) (by kernel_rfl) (fun _ _ _ h => h) (Or.inl ⟨by rfl, ?c10_y9⟩) (by assumption) ?c10_r9
            case c10_y9 =>
              intro w hSw
              (try dsimp only at hSw)
              go_simp
              (try with_reducible rfl)
            try simp only [Act.put, List.setIfInBounds_toArray, List.set_cons_zero, List.set_cons_succ]
            refine wpAnyH_take (i := 10) (oi := ({ dst := some 52, op := Op.binOp BinOp.eql 3 (Operand.tmp 49) (Operand.tmp 51) 3, type := 4, pos := "ref.go:62", after := #[{ on := 7, ground := Ground.data }, { on := 9, ground := Ground.data }, { on := 4, ground := Ground.guard }], guard := some (4, true) } : Oper)) (v := ?c11_v10) rfl (by kernel_rfl) (by kernel_rfl) (by kernel_rfl) (fun _ _ _ h => h) (Or.inl ⟨by rfl, ?c11_y10⟩) (by assumption) ?c11_r10
            case c11_y10 =>
              intro w hSw
              (try dsimp only at hSw)
              go_simp
              (try with_reducible rfl)
            try simp only [Act.put, List.setIfInBounds_toArray, List.set_cons_zero, List.set_cons_succ]
            refine wpAnyH_take (i := 11) (oi := ({ dst := some 53, op := Op.pick (Operand.tmp 46) (Operand.tmp 52) (Operand.const (Value.bool false)), type := 4, pos := "ref.go:62", after := #[{ on := 4, ground := Ground.data }, { on := 10, ground := Ground.data }], guard := none } : Oper)) (v := ?c12_v11) rfl (by kernel_rfl) (by kernel_rfl) (by kernel_rfl) (fun _ _ _ h => h) (Or.inl ⟨by rfl, ?c12_y11⟩) (by assumption) ?c12_r11
            case c12_y11 =>
              intro w hSw
              (try dsimp only at hSw)
              go_simp
              (try with_reducible rfl)
            try simp only [Act.put, List.setIfInBounds_toArray, List.set_cons_zero, List.set_cons_succ]
            refine wpAnyH_take (i := 12) (oi := ({ dst := some 54, op := Op.move (Operand.tmp 53), type := 4, pos := "ref.go:62", after := #[{ on := 11, ground := Ground.data }, { on := 4, ground := Ground.chain }], guard := none } : Oper)) (v := ?c13_v12) rfl (by kernel_rfl) (by kernel_rfl) (by kernel_rfl) (fun _ _ _ h => h) (Or.inl ⟨by rfl, ?c13_y12⟩) (by assumption) ?c13_r12
            case c13_y12 =>
              intro w hSw
              (try dsimp only at hSw)
              go_simp
              (try with_reducible rfl)
            try simp only [Act.put, List.setIfInBounds_toArray, List.set_cons_zero, List.set_cons_succ]
            refine wpAnyH_take (i := 13) (oi := ({ dst := some 55, op := Op.move (Operand.tmp 5), type := 35, pos := "ref.go:62", after := #[{ on := 12, ground := Ground.guard }], guard := some (12, true) } : Oper)) rfl (by kernel_rfl) (by kernel_rfl) (by kernel_rfl) (fun _ _ _ h => h) (Or.inr ⟨by rfl, rfl⟩) (by assumption) ?c14_r13
            try simp only [Act.put, List.setIfInBounds_toArray, List.set_cons_zero, List.set_cons_succ]
            refine wpAnyH_take (i := 14) (oi := ({ dst := some 56, op := Op.indexAddr 35 (Operand.tmp 55) (Operand.const (Value.int IntKind.i64 2)), type := 0, pos := "ref.go:62", after := #[{ on := 13, ground := Ground.data }, { on := 12, ground := Ground.guard }], guard := some (12, true) } : Oper)) rfl (by kernel_rfl) (by kernel_rfl) (by kernel_rfl) (fun _ _ _ h => h) (Or.inr ⟨by rfl, rfl⟩) (by assumption) ?c15_r14
            try simp only [Act.put, List.setIfInBounds_toArray, List.set_cons_zero, List.set_cons_succ]
            refine wpAnyH_take (i := 15) (oi := ({ dst := some 57, op := Op.load 3 (Operand.tmp 56), type := 3, pos := "ref.go:62", after := #[{ on := 14, ground := Ground.data }, { on := 12, ground := Ground.guard }], guard := some (12, true) } : Oper)) rfl (by kernel_rfl) (by kernel_rfl) (by kernel_rfl) (fun _ _ _ h => h) (Or.inr ⟨by rfl, rfl⟩) (by assumption) ?c16_r15
            try simp only [Act.put, List.setIfInBounds_toArray, List.set_cons_zero, List.set_cons_succ]
            refine wpAnyH_take (i := 16) (oi := ({ dst := some 58, op := Op.fieldAddr 38 (Operand.tmp 3) 1, type := 0, pos := "ref.go:62", after := #[{ on := 12, ground := Ground.guard }], guard := some (12, true) } : Oper)) rfl (by kernel_rfl) (by kernel_rfl) (by kernel_rfl) (fun _ _ _ h => h) (Or.inr ⟨by rfl, rfl⟩) (by assumption) ?c17_r16
            try simp only [Act.put, List.setIfInBounds_toArray, List.set_cons_zero, List.set_cons_succ]
            refine wpAnyH_take (i := 17) (oi := ({ dst := some 59, op := Op.load 3 (Operand.tmp 58), type := 3, pos := "ref.go:62", after := #[{ on := 16, ground := Ground.data }, { on := 12, ground := Ground.guard }], guard := some (12, true) } : Oper)) rfl (by kernel_rfl) (by kernel_rfl) (by kernel_rfl) (fun _ _ _ h => h) (Or.inr ⟨by rfl, rfl⟩) (by assumption) ?c18_r17
            try simp only [Act.put, List.setIfInBounds_toArray, List.set_cons_zero, List.set_cons_succ]
            refine wpAnyH_take (i := 18) (oi := ({ dst := some 60, op := Op.binOp BinOp.eql 3 (Operand.tmp 57) (Operand.tmp 59) 3, type := 4, pos := "ref.go:62", after := #[{ on := 15, ground := Ground.data }, { on := 17, ground := Ground.data }, { on := 12, ground := Ground.guard }], guard := some (12, true) } : Oper)) rfl (by kernel_rfl) (by kernel_rfl) (by kernel_rfl) (fun _ _ _ h => h) (Or.inr ⟨by rfl, rfl⟩) (by assumption) ?c19_r18
            try simp only [Act.put, List.setIfInBounds_toArray, List.set_cons_zero, List.set_cons_succ]
            refine wpAnyH_take (i := 19) (oi := ({ dst := some 61, op := Op.pick (Operand.tmp 54) (Operand.tmp 60) (Operand.const (Value.bool false)), type := 4, pos := "ref.go:62", after := #[{ on := 12, ground := Ground.data }, { on := 18, ground := Ground.data }], guard := none } : Oper)) (v := ?c20_v19) rfl (by kernel_rfl) (by kernel_rfl) (by kernel_rfl) (fun _ _ _ h => h) (Or.inl ⟨by rfl, ?c20_y19⟩) (by assumption) ?c20_r19
            case c20_y19 =>
              intro w hSw
              (try dsimp only at hSw)
              go_simp
              (try with_reducible rfl)
            try simp only [Act.put, List.setIfInBounds_toArray, List.set_cons_zero, List.set_cons_succ]
            refine wpAnyH_take (i := 20) (oi := ({ dst := some 4, op := Op.assign (Operand.tmp 61), type := 4, pos := "ref.go:62", after := #[{ on := 19, ground := Ground.data }, { on := 12, ground := Ground.chain }, { on := 0, ground := Ground.phase }, { on := 1, ground := Ground.phase }, { on := 2, ground := Ground.phase }, { on := 3, ground := Ground.phase }, { on := 4, ground := Ground.phase }, { on := 5, ground := Ground.phase }, { on := 6, ground := Ground.phase }, { on := 7, ground := Ground.phase }, { on := 8, ground := Ground.phase }, { on := 9, ground := Ground.phase }, { on := 10, ground := Ground.phase }, { on := 11, ground := Ground.phase }, { on := 12, ground := Ground.phase }, { on := 13, ground := Ground.phase }, { on := 14, ground := Ground.phase }, { on := 15, ground := Ground.phase }, { on := 16, ground := Ground.phase }, { on := 17, ground := Ground.phase }, { on := 18, ground := Ground.phase }, { on := 19, ground := Ground.phase }], guard := none } : Oper)) (v := ?c21_v20) rfl (by kernel_rfl) (by kernel_rfl) (by kernel_rfl) (fun _ _ _ h => h) (Or.inl ⟨by rfl, ?c21_y20⟩) (by assumption) ?c21_r20
            case c21_y20 =>
              intro w hSw
              (try dsimp only at hSw)
              go_simp
              (try with_reducible rfl)
            try simp only [Act.put, List.setIfInBounds_toArray, List.set_cons_zero, List.set_cons_succ]
            refine wpAnyH_done (by kernel_rfl) ?_ _
            go_wp2
            go_ret
            exact ⟨ret_b (by rw [HF4.out]), by first | exact drewR HB2.out | exact drewD HB2.out | exact HB2.out⟩
        · have e3 : (f0 == 1) = false := beq_false_of_ne q0
          have HF4 := Lib.hid (show F = false by rw [HF3.out, decide_eq_false q0, Bool.false_and])
          clear q0
          go_upto_region 13 with fail
          have HS := Lib.hid (show ∀ W, Below wr.heap.size wr W → W.cell? ⟨B, 1, none⟩ = some (.int .i64 wid) ∧ W.cell? ⟨g, 0, none⟩ = some (.int .i64 f0) ∧ W.cell? ⟨g, 1, none⟩ = some (.int .i64 f1) ∧ W.cell? ⟨g, 2, none⟩ = some (.int .i64 f2) from fun W hW => ⟨(hW.cell (p := ⟨B, 1, none⟩) hBl).trans a1, (hW.cell (p := ⟨g, 0, none⟩) hg).trans k0, (hW.cell (p := ⟨g, 1, none⟩) hg).trans k1, (hW.cell (p := ⟨g, 2, none⟩) hg).trans k2⟩)
          clear a0 a1 a3 hBl hg hb k0 k1 k2
          refine wp_region_held_drew (S := (fun W => W.cell? ⟨B, 1, none⟩ = some (.int .i64 wid) ∧ W.cell? ⟨g, 0, none⟩ = some (.int .i64 f0) ∧ W.cell? ⟨g, 1, none⟩ = some (.int .i64 f1) ∧ W.cell? ⟨g, 2, none⟩ = some (.int .i64 f2))) (by kernel_rfl) ?_ (fun hHeld => ?_)
          · exact HS.out _ (by first | exact Below.refl _ _ | exact drewD (Below.refl _ _) | exact drewR (Below.refl _ _))
          refine wpAnyH_take (i := 0) (oi := ({ dst := some 42, op := Op.move (Operand.tmp 5), type := 35, pos := "ref.go:62", after := #[], guard := none } : Oper)) (v := ?d1_v0) rfl (by kernel_rfl) (by kernel_rfl) (by kernel_rfl) (fun _ _ _ h => h) (Or.inl ⟨by rfl, ?d1_y0⟩) (by assumption) ?d1_r0
          case d1_y0 =>
            intro w hSw
            (try dsimp only at hSw)
            go_simp
            (try with_reducible rfl)
          try simp only [Act.put, List.setIfInBounds_toArray, List.set_cons_zero, List.set_cons_succ]
          refine wpAnyH_take (i := 1) (oi := ({ dst := some 43, op := Op.indexAddr 35 (Operand.tmp 42) (Operand.const (Value.int IntKind.i64 0)), type := 0, pos := "ref.go:62", after := #[{ on := 0, ground := Ground.data }], guard := none } : Oper)) (v := ?d2_v1) rfl (by kernel_rfl) (by kernel_rfl) (by kernel_rfl) (fun _ _ _ h => h) (Or.inl ⟨by rfl, ?d2_y1⟩) (by assumption) ?d2_r1
          case d2_y1 =>
            intro w hSw
            (try dsimp only at hSw)
            go_simp
            (try with_reducible rfl)
          try simp only [Act.put, List.setIfInBounds_toArray, List.set_cons_zero, List.set_cons_succ]
          refine wpAnyH_take (i := 2) (oi := ({ dst := some 44, op := Op.load 3 (Operand.tmp 43), type := 3, pos := "ref.go:62", after := #[{ on := 1, ground := Ground.data }], guard := none } : Oper)) (v := ?d3_v2) rfl (by kernel_rfl) (by kernel_rfl) (by kernel_rfl) (fun _ _ _ h => h) (Or.inl ⟨by rfl, ?d3_y2⟩) (by assumption) ?d3_r2
          case d3_y2 =>
            intro w hSw
            (try dsimp only at hSw)
            go_simp
            (try with_reducible rfl)
          try simp only [Act.put, List.setIfInBounds_toArray, List.set_cons_zero, List.set_cons_succ]
          refine wpAnyH_take (i := 3) (oi := ({ dst := some 45, op := Op.binOp BinOp.eql 3 (Operand.tmp 44) (Operand.const (Value.int IntKind.i64 1)) 3, type := 4, pos := "ref.go:62", after := #[{ on := 2, ground := Ground.data }], guard := none } : Oper)) (v := ?d4_v3) rfl (by kernel_rfl) (by kernel_rfl) (by kernel_rfl) (fun _ _ _ h => h) (Or.inl ⟨by rfl, ?d4_y3⟩) (by assumption) ?d4_r3
          case d4_y3 =>
            intro w hSw
            (try dsimp only at hSw)
            go_simp
            (try with_reducible rfl)
          try simp only [Act.put, List.setIfInBounds_toArray, List.set_cons_zero, List.set_cons_succ]
          refine wpAnyH_take (i := 4) (oi := ({ dst := some 46, op := Op.move (Operand.tmp 45), type := 4, pos := "ref.go:62", after := #[{ on := 3, ground := Ground.data }], guard := none } : Oper)) (v := ?d5_v4) rfl (by kernel_rfl) (by kernel_rfl) (by kernel_rfl) (fun _ _ _ h => h) (Or.inl ⟨by rfl, ?d5_y4⟩) (by assumption) ?d5_r4
          case d5_y4 =>
            intro w hSw
            (try dsimp only at hSw)
            go_simp
            (try with_reducible rfl)
          try simp only [Act.put, List.setIfInBounds_toArray, List.set_cons_zero, List.set_cons_succ]
          refine wpAnyH_take (i := 5) (oi := ({ dst := some 47, op := Op.move (Operand.tmp 5), type := 35, pos := "ref.go:62", after := #[{ on := 4, ground := Ground.guard }], guard := some (4, true) } : Oper)) rfl (by kernel_rfl) (by kernel_rfl) (by kernel_rfl) (fun _ _ _ h => h) (Or.inr ⟨by rfl, rfl⟩) (by assumption) ?d6_r5
          try simp only [Act.put, List.setIfInBounds_toArray, List.set_cons_zero, List.set_cons_succ]
          refine wpAnyH_take (i := 6) (oi := ({ dst := some 48, op := Op.indexAddr 35 (Operand.tmp 47) (Operand.const (Value.int IntKind.i64 1)), type := 0, pos := "ref.go:62", after := #[{ on := 5, ground := Ground.data }, { on := 4, ground := Ground.guard }], guard := some (4, true) } : Oper)) rfl (by kernel_rfl) (by kernel_rfl) (by kernel_rfl) (fun _ _ _ h => h) (Or.inr ⟨by rfl, rfl⟩) (by assumption) ?d7_r6
          try simp only [Act.put, List.setIfInBounds_toArray, List.set_cons_zero, List.set_cons_succ]
          refine wpAnyH_take (i := 7) (oi := ({ dst := some 49, op := Op.load 3 (Operand.tmp 48), type := 3, pos := "ref.go:62", after := #[{ on := 6, ground := Ground.data }, { on := 4, ground := Ground.guard }], guard := some (4, true) } : Oper)) rfl (by kernel_rfl) (by kernel_rfl) (by kernel_rfl) (fun _ _ _ h => h) (Or.inr ⟨by rfl, rfl⟩) (by assumption) ?d8_r7
          try simp only [Act.put, List.setIfInBounds_toArray, List.set_cons_zero, List.set_cons_succ]
          refine wpAnyH_take (i := 8) (oi := ({ dst := some 50, op := Op.fieldAddr 38 (Operand.tmp 3) 1, type := 0, pos := "ref.go:62", after := #[{ on := 4, ground := Ground.guard }], guard := some (4, true) } : Oper)) rfl (by kernel_rfl) (by kernel_rfl) (by kernel_rfl) (fun _ _ _ h => h) (Or.inr ⟨by rfl, rfl⟩) (by assumption) ?d9_r8
          try simp only [Act.put, List.setIfInBounds_toArray, List.set_cons_zero, List.set_cons_succ]
          refine wpAnyH_take (i := 9) (oi := ({ dst := some 51, op := Op.load 3 (Operand.tmp 50), type := 3, pos := "ref.go:62", after := #[{ on := 8, ground := Ground.data }, { on := 4, ground := Ground.guard }], guard := some (4, true) } : Oper)) rfl (by kernel_rfl) (by kernel_rfl) (by kernel_rfl) (fun _ _ _ h => h) (Or.inr ⟨by rfl, rfl⟩) (by assumption) ?d10_r9
          try simp only [Act.put, List.setIfInBounds_toArray, List.set_cons_zero, List.set_cons_succ]
          refine wpAnyH_take (i := 10) (oi := ({ dst := some 52, op := Op.binOp BinOp.eql 3 (Operand.tmp 49) (Operand.tmp 51) 3, type := 4, pos := "ref.go:62", after := #[{ on := 7, ground := Ground.data }, { on := 9, ground := Ground.data }, { on := 4, ground := Ground.guard }], guard := some (4, true) } : Oper)) rfl (by kernel_rfl) (by kernel_rfl) (by kernel_rfl) (fun _ _ _ h => h) (Or.inr ⟨by rfl, rfl⟩) (by assumption) ?d11_r10
          try simp only [Act.put, List.setIfInBounds_toArray, List.set_cons_zero, List.set_cons_succ]
          refine wpAnyH_take (i := 11) (oi := ({ dst := some 53, op := Op.pick (Operand.tmp 46) (Operand.tmp 52) (Operand.const (Value.bool false)), type := 4, pos := "ref.go:62", after := #[{ on := 4, ground := Ground.data }, { on := 10, ground := Ground.data }], guard := none } : Oper)) (v := ?d12_v11) rfl (by kernel_rfl) (by kernel_rfl) (by kernel_rfl) (fun _ _ _ h => h) (Or.inl ⟨by rfl, ?d12_y11⟩) (by assumption) ?d12_r11
          case d12_y11 =>
            intro w hSw
            (try dsimp only at hSw)
            go_simp
            (try with_reducible rfl)
          try simp only [Act.put, List.setIfInBounds_toArray, List.set_cons_zero, List.set_cons_succ]
          refine wpAnyH_take (i := 12) (oi := ({ dst := some 54, op := Op.move (Operand.tmp 53), type := 4, pos := "ref.go:62", after := #[{ on := 11, ground := Ground.data }, { on := 4, ground := Ground.chain }], guard := none } : Oper)) (v := ?d13_v12) rfl (by kernel_rfl) (by kernel_rfl) (by kernel_rfl) (fun _ _ _ h => h) (Or.inl ⟨by rfl, ?d13_y12⟩) (by assumption) ?d13_r12
          case d13_y12 =>
            intro w hSw
            (try dsimp only at hSw)
            go_simp
            (try with_reducible rfl)
          try simp only [Act.put, List.setIfInBounds_toArray, List.set_cons_zero, List.set_cons_succ]
          refine wpAnyH_take (i := 13) (oi := ({ dst := some 55, op := Op.move (Operand.tmp 5), type := 35, pos := "ref.go:62", after := #[{ on := 12, ground := Ground.guard }], guard := some (12, true) } : Oper)) rfl (by kernel_rfl) (by kernel_rfl) (by kernel_rfl) (fun _ _ _ h => h) (Or.inr ⟨by rfl, rfl⟩) (by assumption) ?d14_r13
          try simp only [Act.put, List.setIfInBounds_toArray, List.set_cons_zero, List.set_cons_succ]
          refine wpAnyH_take (i := 14) (oi := ({ dst := some 56, op := Op.indexAddr 35 (Operand.tmp 55) (Operand.const (Value.int IntKind.i64 2)), type := 0, pos := "ref.go:62", after := #[{ on := 13, ground := Ground.data }, { on := 12, ground := Ground.guard }], guard := some (12, true) } : Oper)) rfl (by kernel_rfl) (by kernel_rfl) (by kernel_rfl) (fun _ _ _ h => h) (Or.inr ⟨by rfl, rfl⟩) (by assumption) ?d15_r14
          try simp only [Act.put, List.setIfInBounds_toArray, List.set_cons_zero, List.set_cons_succ]
          refine wpAnyH_take (i := 15) (oi := ({ dst := some 57, op := Op.load 3 (Operand.tmp 56), type := 3, pos := "ref.go:62", after := #[{ on := 14, ground := Ground.data }, { on := 12, ground := Ground.guard }], guard := some (12, true) } : Oper)) rfl (by kernel_rfl) (by kernel_rfl) (by kernel_rfl) (fun _ _ _ h => h) (Or.inr ⟨by rfl, rfl⟩) (by assumption) ?d16_r15
          try simp only [Act.put, List.setIfInBounds_toArray, List.set_cons_zero, List.set_cons_succ]
          refine wpAnyH_take (i := 16) (oi := ({ dst := some 58, op := Op.fieldAddr 38 (Operand.tmp 3) 1, type := 0, pos := "ref.go:62", after := #[{ on := 12, ground := Ground.guard }], guard := some (12, true) } : Oper)) rfl (by kernel_rfl) (by kernel_rfl) (by kernel_rfl) (fun _ _ _ h => h) (Or.inr ⟨by rfl, rfl⟩) (by assumption) ?d17_r16
          try simp only [Act.put, List.setIfInBounds_toArray, List.set_cons_zero, List.set_cons_succ]
          refine wpAnyH_take (i := 17) (oi := ({ dst := some 59, op := Op.load 3 (Operand.tmp 58), type := 3, pos := "ref.go:62", after := #[{ on := 16, ground := Ground.data }, { on := 12, ground := Ground.guard }], guard := some (12, true) } : Oper)) rfl (by kernel_rfl) (by kernel_rfl) (by kernel_rfl) (fun _ _ _ h => h) (Or.inr ⟨by rfl, rfl⟩) (by assumption) ?d18_r17
          try simp only [Act.put, List.setIfInBounds_toArray, List.set_cons_zero, List.set_cons_succ]
          refine wpAnyH_take (i := 18) (oi := ({ dst := some 60, op := Op.binOp BinOp.eql 3 (Operand.tmp 57) (Operand.tmp 59) 3, type := 4, pos := "ref.go:62", after := #[{ on := 15, ground := Ground.data }, { on := 17, ground := Ground.data }, { on := 12, ground := Ground.guard }], guard := some (12, true) } : Oper)) rfl (by kernel_rfl) (by kernel_rfl) (by kernel_rfl) (fun _ _ _ h => h) (Or.inr ⟨by rfl, rfl⟩) (by assumption) ?d19_r18
          try simp only [Act.put, List.setIfInBounds_toArray, List.set_cons_zero, List.set_cons_succ]
          refine wpAnyH_take (i := 19) (oi := ({ dst := some 61, op := Op.pick (Operand.tmp 54) (Operand.tmp 60) (Operand.const (Value.bool false)), type := 4, pos := "ref.go:62", after := #[{ on := 12, ground := Ground.data }, { on := 18, ground := Ground.data }], guard := none } : Oper)) (v := ?d20_v19) rfl (by kernel_rfl) (by kernel_rfl) (by kernel_rfl) (fun _ _ _ h => h) (Or.inl ⟨by rfl, ?d20_y19⟩) (by assumption) ?d20_r19
          case d20_y19 =>
            intro w hSw
            (try dsimp only at hSw)
            go_simp
            (try with_reducible rfl)
          try simp only [Act.put, List.setIfInBounds_toArray, List.set_cons_zero, List.set_cons_succ]
          refine wpAnyH_take (i := 20) (oi := ({ dst := some 4, op := Op.assign (Operand.tmp 61), type := 4, pos := "ref.go:62", after := #[{ on := 19, ground := Ground.data }, { on := 12, ground := Ground.chain }, { on := 0, ground := Ground.phase }, { on := 1, ground := Ground.phase }, { on := 2, ground := Ground.phase }, { on := 3, ground := Ground.phase }, { on := 4, ground := Ground.phase }, { on := 5, ground := Ground.phase }, { on := 6, ground := Ground.phase }, { on := 7, ground := Ground.phase }, { on := 8, ground := Ground.phase }, { on := 9, ground := Ground.phase }, { on := 10, ground := Ground.phase }, { on := 11, ground := Ground.phase }, { on := 12, ground := Ground.phase }, { on := 13, ground := Ground.phase }, { on := 14, ground := Ground.phase }, { on := 15, ground := Ground.phase }, { on := 16, ground := Ground.phase }, { on := 17, ground := Ground.phase }, { on := 18, ground := Ground.phase }, { on := 19, ground := Ground.phase }], guard := none } : Oper)) (v := ?d21_v20) rfl (by kernel_rfl) (by kernel_rfl) (by kernel_rfl) (fun _ _ _ h => h) (Or.inl ⟨by rfl, ?d21_y20⟩) (by assumption) ?d21_r20
          case d21_y20 =>
            intro w hSw
            (try dsimp only at hSw)
            go_simp
            (try with_reducible rfl)
          try simp only [Act.put, List.setIfInBounds_toArray, List.set_cons_zero, List.set_cons_succ]
          refine wpAnyH_done (by kernel_rfl) ?_ _
          go_wp2
          go_ret
          exact ⟨ret_b (by rw [HF4.out]), by first | exact drewR HB2.out | exact drewD HB2.out | exact HB2.out⟩
      have e15 : (op == 15) = false := beq_false_of_ne o15
      by_cases o16 : op = 16 ∨ op = 17
      · obtain rfl : i = 1 := by have := HAN.out; unfold argN at this; rw [if_neg (by omega), if_neg o15, if_neg (by omega)] at this; omega
        have HF4 := Lib.hid (HF.out.trans (by rw [if_neg (by omega), if_neg o14, if_neg o15, if_pos o16]))
        clear hk HWA HOWN HW
        generalize f 0 = f0 at k0 HF4
        rcases o16 with o16 | o16
        · have e16 : (op == 16) = true := by simp [o16]
          clear o0 o33 o14 o15 o16 hi1
          go_upto_region 16 with fail
          have HS := Lib.hid (show ∀ W, Below wr.heap.size wr W → W.cell? ⟨B, 1, none⟩ = some (.int .i64 wid) ∧ W.cell? ⟨g, 0, none⟩ = some (.int .i64 f0) from fun W hW => ⟨(hW.cell (p := ⟨B, 1, none⟩) hBl).trans a1, (hW.cell (p := ⟨g, 0, none⟩) hg).trans k0⟩)
          clear a0 a1 a3 hBl hg hb k0
          refine wp_region_held_drew (S := (fun W => W.cell? ⟨B, 1, none⟩ = some (.int .i64 wid) ∧ W.cell? ⟨g, 0, none⟩ = some (.int .i64 f0))) (by kernel_rfl) ?_ (fun hHeld => ?_)
          · exact HS.out _ (by first | exact Below.refl _ _ | exact drewD (Below.refl _ _) | exact drewR (Below.refl _ _))
          refine wpAnyH_take (i := 0) (oi := ({ dst := some 65, op := Op.move (Operand.tmp 5), type := 35, pos := "ref.go:64", after := #[], guard := none } : Oper)) (v := ?e1_v0) rfl (by kernel_rfl) (by kernel_rfl) (by kernel_rfl) (fun _ _ _ h => h) (Or.inl ⟨by rfl, ?e1_y0⟩) (by assumption) ?e1_r0
          case e1_y0 =>
            intro w hSw
            (try dsimp only at hSw)
            go_simp
            (try with_reducible rfl)
          try simp only [Act.put, List.setIfInBounds_toArray, List.set_cons_zero, List.set_cons_succ]
          refine wpAnyH_take (i := 1) (oi := ({ dst := some 66, op := Op.indexAddr 35 (Operand.tmp 65) (Operand.const (Value.int IntKind.i64 0)), type := 0, pos := "ref.go:64", after := #[{ on := 0, ground := Ground.data }], guard := none } : Oper)) (v := ?e2_v1) rfl (by kernel_rfl) (by kernel_rfl) (by kernel_rfl) (fun _ _ _ h => h) (Or.inl ⟨by rfl, ?e2_y1⟩) (by assumption) ?e2_r1
          case e2_y1 =>
            intro w hSw
            (try dsimp only at hSw)
            go_simp
            (try with_reducible rfl)
          try simp only [Act.put, List.setIfInBounds_toArray, List.set_cons_zero, List.set_cons_succ]
          refine wpAnyH_take (i := 2) (oi := ({ dst := some 67, op := Op.load 3 (Operand.tmp 66), type := 3, pos := "ref.go:64", after := #[{ on := 1, ground := Ground.data }], guard := none } : Oper)) (v := ?e3_v2) rfl (by kernel_rfl) (by kernel_rfl) (by kernel_rfl) (fun _ _ _ h => h) (Or.inl ⟨by rfl, ?e3_y2⟩) (by assumption) ?e3_r2
          case e3_y2 =>
            intro w hSw
            (try dsimp only at hSw)
            go_simp
            (try with_reducible rfl)
          try simp only [Act.put, List.setIfInBounds_toArray, List.set_cons_zero, List.set_cons_succ]
          refine wpAnyH_take (i := 3) (oi := ({ dst := some 68, op := Op.fieldAddr 38 (Operand.tmp 3) 1, type := 0, pos := "ref.go:64", after := #[], guard := none } : Oper)) (v := ?e4_v3) rfl (by kernel_rfl) (by kernel_rfl) (by kernel_rfl) (fun _ _ _ h => h) (Or.inl ⟨by rfl, ?e4_y3⟩) (by assumption) ?e4_r3
          case e4_y3 =>
            intro w hSw
            (try dsimp only at hSw)
            go_simp
            (try with_reducible rfl)
          try simp only [Act.put, List.setIfInBounds_toArray, List.set_cons_zero, List.set_cons_succ]
          refine wpAnyH_take (i := 4) (oi := ({ dst := some 69, op := Op.load 3 (Operand.tmp 68), type := 3, pos := "ref.go:64", after := #[{ on := 3, ground := Ground.data }], guard := none } : Oper)) (v := ?e5_v4) rfl (by kernel_rfl) (by kernel_rfl) (by kernel_rfl) (fun _ _ _ h => h) (Or.inl ⟨by rfl, ?e5_y4⟩) (by assumption) ?e5_r4
          case e5_y4 =>
            intro w hSw
            (try dsimp only at hSw)
            go_simp
            (try with_reducible rfl)
          try simp only [Act.put, List.setIfInBounds_toArray, List.set_cons_zero, List.set_cons_succ]
          refine wpAnyH_take (i := 5) (oi := ({ dst := some 70, op := Op.binOp BinOp.lss 3 (Operand.tmp 67) (Operand.tmp 69) 3, type := 4, pos := "ref.go:64", after := #[{ on := 2, ground := Ground.data }, { on := 4, ground := Ground.data }], guard := none } : Oper)) (v := ?e6_v5) rfl (by kernel_rfl) (by kernel_rfl) (by kernel_rfl) (fun _ _ _ h => h) (Or.inl ⟨by rfl, ?e6_y5⟩) (by assumption) ?e6_r5
          case e6_y5 =>
            intro w hSw
            (try dsimp only at hSw)
            go_simp
            (try with_reducible rfl)
          try simp only [Act.put, List.setIfInBounds_toArray, List.set_cons_zero, List.set_cons_succ]
          refine wpAnyH_take (i := 6) (oi := ({ dst := some 4, op := Op.assign (Operand.tmp 70), type := 4, pos := "ref.go:64", after := #[{ on := 5, ground := Ground.data }, { on := 0, ground := Ground.phase }, { on := 1, ground := Ground.phase }, { on := 2, ground := Ground.phase }, { on := 3, ground := Ground.phase }, { on := 4, ground := Ground.phase }, { on := 5, ground := Ground.phase }], guard := none } : Oper)) (v := ?e7_v6) rfl (by kernel_rfl) (by kernel_rfl) (by kernel_rfl) (fun _ _ _ h => h) (Or.inl ⟨by rfl, ?e7_y6⟩) (by assumption) ?e7_r6
          case e7_y6 =>
            intro w hSw
            (try dsimp only at hSw)
            go_simp
            (try with_reducible rfl)
          try simp only [Act.put, List.setIfInBounds_toArray, List.set_cons_zero, List.set_cons_succ]
          refine wpAnyH_done (by kernel_rfl) ?_ _
          go_wp2
          go_ret
          exact ⟨ret_b (by rw [HF4.out]), by first | exact drewR HB2.out | exact drewD HB2.out | exact HB2.out⟩
        · have e16 : (op == 16) = false := by simp [o16]
          have e17 : (op == 17) = true := by simp [o16]
          clear o0 o33 o14 o15 o16 hi1
          go_upto_region 16 with fail
          have HS := Lib.hid (show ∀ W, Below wr.heap.size wr W → W.cell? ⟨B, 1, none⟩ = some (.int .i64 wid) ∧ W.cell? ⟨g, 0, none⟩ = some (.int .i64 f0) from fun W hW => ⟨(hW.cell (p := ⟨B, 1, none⟩) hBl).trans a1, (hW.cell (p := ⟨g, 0, none⟩) hg).trans k0⟩)
          clear a0 a1 a3 hBl hg hb k0
          refine wp_region_held_drew (S := (fun W => W.cell? ⟨B, 1, none⟩ = some (.int .i64 wid) ∧ W.cell? ⟨g, 0, none⟩ = some (.int .i64 f0))) (by kernel_rfl) ?_ (fun hHeld => ?_)
          · exact HS.out _ (by first | exact Below.refl _ _ | exact drewD (Below.refl _ _) | exact drewR (Below.refl _ _))
          refine wpAnyH_take (i := 0) (oi := ({ dst := some 65, op := Op.move (Operand.tmp 5), type := 35, pos := "ref.go:64", after := #[], guard := none } : Oper)) (v := ?h1_v0) rfl (by kernel_rfl) (by kernel_rfl) (by kernel_rfl) (fun _ _ _ h => h) (Or.inl ⟨by rfl, ?h1_y0⟩) (by assumption) ?h1_r0
          case h1_y0 =>
            intro w hSw
            (try dsimp only at hSw)
            go_simp
            (try with_reducible rfl)
          try simp only [Act.put, List.setIfInBounds_toArray, List.set_cons_zero, List.set_cons_succ]
          refine wpAnyH_take (i := 1) (oi := ({ dst := some 66, op := Op.indexAddr 35 (Operand.tmp 65) (Operand.const (Value.int IntKind.i64 0)), type := 0, pos := "ref.go:64", after := #[{ on := 0, ground := Ground.data }], guard := none } : Oper)) (v := ?h2_v1) rfl (by kernel_rfl) (by kernel_rfl) (by kernel_rfl) (fun _ _ _ h => h) (Or.inl ⟨by rfl, ?h2_y1⟩) (by assumption) ?h2_r1
          case h2_y1 =>
            intro w hSw
            (try dsimp only at hSw)
            go_simp
            (try with_reducible rfl)
          try simp only [Act.put, List.setIfInBounds_toArray, List.set_cons_zero, List.set_cons_succ]
          refine wpAnyH_take (i := 2) (oi := ({ dst := some 67, op := Op.load 3 (Operand.tmp 66), type := 3, pos := "ref.go:64", after := #[{ on := 1, ground := Ground.data }], guard := none } : Oper)) (v := ?h3_v2) rfl (by kernel_rfl) (by kernel_rfl) (by kernel_rfl) (fun _ _ _ h => h) (Or.inl ⟨by rfl, ?h3_y2⟩) (by assumption) ?h3_r2
          case h3_y2 =>
            intro w hSw
            (try dsimp only at hSw)
            go_simp
            (try with_reducible rfl)
          try simp only [Act.put, List.setIfInBounds_toArray, List.set_cons_zero, List.set_cons_succ]
          refine wpAnyH_take (i := 3) (oi := ({ dst := some 68, op := Op.fieldAddr 38 (Operand.tmp 3) 1, type := 0, pos := "ref.go:64", after := #[], guard := none } : Oper)) (v := ?h4_v3) rfl (by kernel_rfl) (by kernel_rfl) (by kernel_rfl) (fun _ _ _ h => h) (Or.inl ⟨by rfl, ?h4_y3⟩) (by assumption) ?h4_r3
          case h4_y3 =>
            intro w hSw
            (try dsimp only at hSw)
            go_simp
            (try with_reducible rfl)
          try simp only [Act.put, List.setIfInBounds_toArray, List.set_cons_zero, List.set_cons_succ]
          refine wpAnyH_take (i := 4) (oi := ({ dst := some 69, op := Op.load 3 (Operand.tmp 68), type := 3, pos := "ref.go:64", after := #[{ on := 3, ground := Ground.data }], guard := none } : Oper)) (v := ?h5_v4) rfl (by kernel_rfl) (by kernel_rfl) (by kernel_rfl) (fun _ _ _ h => h) (Or.inl ⟨by rfl, ?h5_y4⟩) (by assumption) ?h5_r4
          case h5_y4 =>
            intro w hSw
            (try dsimp only at hSw)
            go_simp
            (try with_reducible rfl)
          try simp only [Act.put, List.setIfInBounds_toArray, List.set_cons_zero, List.set_cons_succ]
          refine wpAnyH_take (i := 5) (oi := ({ dst := some 70, op := Op.binOp BinOp.lss 3 (Operand.tmp 67) (Operand.tmp 69) 3, type := 4, pos := "ref.go:64", after := #[{ on := 2, ground := Ground.data }, { on := 4, ground := Ground.data }], guard := none } : Oper)) (v := ?h6_v5) rfl (by kernel_rfl) (by kernel_rfl) (by kernel_rfl) (fun _ _ _ h => h) (Or.inl ⟨by rfl, ?h6_y5⟩) (by assumption) ?h6_r5
          case h6_y5 =>
            intro w hSw
            (try dsimp only at hSw)
            go_simp
            (try with_reducible rfl)
          try simp only [Act.put, List.setIfInBounds_toArray, List.set_cons_zero, List.set_cons_succ]
          refine wpAnyH_take (i := 6) (oi := ({ dst := some 4, op := Op.assign (Operand.tmp 70), type := 4, pos := "ref.go:64", after := #[{ on := 5, ground := Ground.data }, { on := 0, ground := Ground.phase }, { on := 1, ground := Ground.phase }, { on := 2, ground := Ground.phase }, { on := 3, ground := Ground.phase }, { on := 4, ground := Ground.phase }, { on := 5, ground := Ground.phase }], guard := none } : Oper)) (v := ?h7_v6) rfl (by kernel_rfl) (by kernel_rfl) (by kernel_rfl) (fun _ _ _ h => h) (Or.inl ⟨by rfl, ?h7_y6⟩) (by assumption) ?h7_r6
          case h7_y6 =>
            intro w hSw
            (try dsimp only at hSw)
            go_simp
            (try with_reducible rfl)
          try simp only [Act.put, List.setIfInBounds_toArray, List.set_cons_zero, List.set_cons_succ]
          refine wpAnyH_done (by kernel_rfl) ?_ _
          go_wp2
          go_ret
          exact ⟨ret_b (by rw [HF4.out]), by first | exact drewR HB2.out | exact drewD HB2.out | exact HB2.out⟩
      have e16 : (op == 16) = false := beq_false_of_ne (by omega)
      have e17 : (op == 17) = false := beq_false_of_ne (by omega)
      by_cases o18 : op = 18
      · obtain rfl : i = 1 := by have := HAN.out; unfold argN at this; rw [if_neg (by omega), if_neg o15, if_neg (by omega)] at this; omega
        have HF5 := Lib.hid (HF.out.trans (by rw [if_neg (by omega), if_neg o14, if_neg o15, if_neg o16, if_pos o18]))
        have e18 : (op == 18) = true := by simp [o18]
        clear hk HWA HOWN HW
        generalize f 0 = f0 at k0 HF5
        clear o0 o33 o14 o15 o16 o18 hi1
        go_upto_region 18 with fail
        have HS := Lib.hid (show ∀ W, Below wr.heap.size wr W → W.cell? ⟨B, 1, none⟩ = some (.int .i64 wid) ∧ W.cell? ⟨g, 0, none⟩ = some (.int .i64 f0) from fun W hW => ⟨(hW.cell (p := ⟨B, 1, none⟩) hBl).trans a1, (hW.cell (p := ⟨g, 0, none⟩) hg).trans k0⟩)
        clear a0 a1 a3 hBl hg hb k0
        refine wp_region_held_drew (S := (fun W => W.cell? ⟨B, 1, none⟩ = some (.int .i64 wid) ∧ W.cell? ⟨g, 0, none⟩ = some (.int .i64 f0))) (by kernel_rfl) ?_ (fun hHeld => ?_)
        · exact HS.out _ (by first | exact Below.refl _ _ | exact drewD (Below.refl _ _) | exact drewR (Below.refl _ _))
        refine wpAnyH_take (i := 0) (oi := ({ dst := some 73, op := Op.move (Operand.tmp 5), type := 35, pos := "ref.go:66", after := #[], guard := none } : Oper)) (v := ?k1_v0) rfl (by kernel_rfl) (by kernel_rfl) (by kernel_rfl) (fun _ _ _ h => h) (Or.inl ⟨by rfl, ?k1_y0⟩) (by assumption) ?k1_r0
        case k1_y0 =>
          intro w hSw
          (try dsimp only at hSw)
          go_simp
          (try with_reducible rfl)
        try simp only [Act.put, List.setIfInBounds_toArray, List.set_cons_zero, List.set_cons_succ]
        refine wpAnyH_take (i := 1) (oi := ({ dst := some 74, op := Op.indexAddr 35 (Operand.tmp 73) (Operand.const (Value.int IntKind.i64 0)), type := 0, pos := "ref.go:66", after := #[{ on := 0, ground := Ground.data }], guard := none } : Oper)) (v := ?k2_v1) rfl (by kernel_rfl) (by kernel_rfl) (by kernel_rfl) (fun _ _ _ h => h) (Or.inl ⟨by rfl, ?k2_y1⟩) (by assumption) ?k2_r1
        case k2_y1 =>
          intro w hSw
          (try dsimp only at hSw)
          go_simp
          (try with_reducible rfl)
        try simp only [Act.put, List.setIfInBounds_toArray, List.set_cons_zero, List.set_cons_succ]
        refine wpAnyH_take (i := 2) (oi := ({ dst := some 75, op := Op.load 3 (Operand.tmp 74), type := 3, pos := "ref.go:66", after := #[{ on := 1, ground := Ground.data }], guard := none } : Oper)) (v := ?k3_v2) rfl (by kernel_rfl) (by kernel_rfl) (by kernel_rfl) (fun _ _ _ h => h) (Or.inl ⟨by rfl, ?k3_y2⟩) (by assumption) ?k3_r2
        case k3_y2 =>
          intro w hSw
          (try dsimp only at hSw)
          go_simp
          (try with_reducible rfl)
        try simp only [Act.put, List.setIfInBounds_toArray, List.set_cons_zero, List.set_cons_succ]
        refine wpAnyH_take (i := 3) (oi := ({ dst := some 76, op := Op.fieldAddr 38 (Operand.tmp 3) 1, type := 0, pos := "ref.go:66", after := #[], guard := none } : Oper)) (v := ?k4_v3) rfl (by kernel_rfl) (by kernel_rfl) (by kernel_rfl) (fun _ _ _ h => h) (Or.inl ⟨by rfl, ?k4_y3⟩) (by assumption) ?k4_r3
        case k4_y3 =>
          intro w hSw
          (try dsimp only at hSw)
          go_simp
          (try with_reducible rfl)
        try simp only [Act.put, List.setIfInBounds_toArray, List.set_cons_zero, List.set_cons_succ]
        refine wpAnyH_take (i := 4) (oi := ({ dst := some 77, op := Op.load 3 (Operand.tmp 76), type := 3, pos := "ref.go:66", after := #[{ on := 3, ground := Ground.data }], guard := none } : Oper)) (v := ?k5_v4) rfl (by kernel_rfl) (by kernel_rfl) (by kernel_rfl) (fun _ _ _ h => h) (Or.inl ⟨by rfl, ?k5_y4⟩) (by assumption) ?k5_r4
        case k5_y4 =>
          intro w hSw
          (try dsimp only at hSw)
          go_simp
          (try with_reducible rfl)
        try simp only [Act.put, List.setIfInBounds_toArray, List.set_cons_zero, List.set_cons_succ]
        refine wpAnyH_take (i := 5) (oi := ({ dst := some 78, op := Op.binOp BinOp.gtr 3 (Operand.tmp 75) (Operand.tmp 77) 3, type := 4, pos := "ref.go:66", after := #[{ on := 2, ground := Ground.data }, { on := 4, ground := Ground.data }], guard := none } : Oper)) (v := ?k6_v5) rfl (by kernel_rfl) (by kernel_rfl) (by kernel_rfl) (fun _ _ _ h => h) (Or.inl ⟨by rfl, ?k6_y5⟩) (by assumption) ?k6_r5
        case k6_y5 =>
          intro w hSw
          (try dsimp only at hSw)
          go_simp
          (try with_reducible rfl)
        try simp only [Act.put, List.setIfInBounds_toArray, List.set_cons_zero, List.set_cons_succ]
        refine wpAnyH_take (i := 6) (oi := ({ dst := some 4, op := Op.assign (Operand.tmp 78), type := 4, pos := "ref.go:66", after := #[{ on := 5, ground := Ground.data }, { on := 0, ground := Ground.phase }, { on := 1, ground := Ground.phase }, { on := 2, ground := Ground.phase }, { on := 3, ground := Ground.phase }, { on := 4, ground := Ground.phase }, { on := 5, ground := Ground.phase }], guard := none } : Oper)) (v := ?k7_v6) rfl (by kernel_rfl) (by kernel_rfl) (by kernel_rfl) (fun _ _ _ h => h) (Or.inl ⟨by rfl, ?k7_y6⟩) (by assumption) ?k7_r6
        case k7_y6 =>
          intro w hSw
          (try dsimp only at hSw)
          go_simp
          (try with_reducible rfl)
        try simp only [Act.put, List.setIfInBounds_toArray, List.set_cons_zero, List.set_cons_succ]
        refine wpAnyH_done (by kernel_rfl) ?_ _
        go_wp2
        go_ret
        exact ⟨ret_b (by rw [HF5.out]), by first | exact drewR HB2.out | exact drewD HB2.out | exact HB2.out⟩
      have e18 : (op == 18) = false := beq_false_of_ne o18
      have ho : 1 ≤ op ∧ op ≤ 13 := by have := HO.out; omega
      obtain rfl : i = 2 := by have := HAN.out; rw [show argN op = 2 from if_pos (by omega)] at this; omega
      have k1 := hk 1 (by omega)
      rw [HWA.out 1 (by omega)] at k1
      have HF1 := Lib.hid (HF.out.trans (if_pos ho))
      clear hk HWA HOWN HW
      generalize f 0 = f0 at k0 HF1
      generalize f 1 = f1 at k1 HF1
      clear o0 o33 o14 o15 o16 o18 hi1 ho
      by_cases q0 : f0 = wid
      · have e3 : (f0 == wid) = true := by simp [q0]
        have HF4 := Lib.hid (show F = (f1 == wid) by rw [HF1.out, decide_eq_true q0, Bool.true_and, Bool.eq_iff_iff, decide_eq_true_iff, beq_iff_eq])
        clear q0
        go_upto_region 19 with fail
        have HS := Lib.hid (show ∀ W, Below wr.heap.size wr W → W.cell? ⟨B, 1, none⟩ = some (.int .i64 wid) ∧ W.cell? ⟨g, 0, none⟩ = some (.int .i64 f0) ∧ W.cell? ⟨g, 1, none⟩ = some (.int .i64 f1) from fun W hW => ⟨(hW.cell (p := ⟨B, 1, none⟩) hBl).trans a1, (hW.cell (p := ⟨g, 0, none⟩) hg).trans k0, (hW.cell (p := ⟨g, 1, none⟩) hg).trans k1⟩)
        clear a0 a1 a3 hBl hg hb k0 k1
        refine wp_region_held_drew (S := (fun W => W.cell? ⟨B, 1, none⟩ = some (.int .i64 wid) ∧ W.cell? ⟨g, 0, none⟩ = some (.int .i64 f0) ∧ W.cell? ⟨g, 1, none⟩ = some (.int .i64 f1))) (by kernel_rfl) ?_ (fun hHeld => ?_)
        · exact HS.out _ (by first | exact Below.refl _ _ | exact drewD (Below.refl _ _) | exact drewR (Below.refl _ _))
        refine wpAnyH_take (i := 0) (oi := ({ dst := some 79, op := Op.move (Operand.tmp 5), type := 35, pos := "ref.go:68", after := #[], guard := none } : Oper)) (v := ?l1_v0) rfl (by kernel_rfl) (by kernel_rfl) (by kernel_rfl) (fun _ _ _ h => h) (Or.inl ⟨by rfl, ?l1_y0⟩) (by assumption) ?l1_r0
        case l1_y0 =>
          intro w hSw
          (try dsimp only at hSw)
          go_simp
          (try with_reducible rfl)
        try simp only [Act.put, List.setIfInBounds_toArray, List.set_cons_zero, List.set_cons_succ]
        refine wpAnyH_take (i := 1) (oi := ({ dst := some 80, op := Op.indexAddr 35 (Operand.tmp 79) (Operand.const (Value.int IntKind.i64 0)), type := 0, pos := "ref.go:68", after := #[{ on := 0, ground := Ground.data }], guard := none } : Oper)) (v := ?l2_v1) rfl (by kernel_rfl) (by kernel_rfl) (by kernel_rfl) (fun _ _ _ h => h) (Or.inl ⟨by rfl, ?l2_y1⟩) (by assumption) ?l2_r1
        case l2_y1 =>
          intro w hSw
          (try dsimp only at hSw)
          go_simp
          (try with_reducible rfl)
        try simp only [Act.put, List.setIfInBounds_toArray, List.set_cons_zero, List.set_cons_succ]
        refine wpAnyH_take (i := 2) (oi := ({ dst := some 81, op := Op.load 3 (Operand.tmp 80), type := 3, pos := "ref.go:68", after := #[{ on := 1, ground := Ground.data }], guard := none } : Oper)) (v := ?l3_v2) rfl (by kernel_rfl) (by kernel_rfl) (by kernel_rfl) (fun _ _ _ h => h) (Or.inl ⟨by rfl, ?l3_y2⟩) (by assumption) ?l3_r2
        case l3_y2 =>
          intro w hSw
          (try dsimp only at hSw)
          go_simp
          (try with_reducible rfl)
        try simp only [Act.put, List.setIfInBounds_toArray, List.set_cons_zero, List.set_cons_succ]
        refine wpAnyH_take (i := 3) (oi := ({ dst := some 82, op := Op.fieldAddr 38 (Operand.tmp 3) 1, type := 0, pos := "ref.go:68", after := #[], guard := none } : Oper)) (v := ?l4_v3) rfl (by kernel_rfl) (by kernel_rfl) (by kernel_rfl) (fun _ _ _ h => h) (Or.inl ⟨by rfl, ?l4_y3⟩) (by assumption) ?l4_r3
        case l4_y3 =>
          intro w hSw
          (try dsimp only at hSw)
          go_simp
          (try with_reducible rfl)
        try simp only [Act.put, List.setIfInBounds_toArray, List.set_cons_zero, List.set_cons_succ]
        refine wpAnyH_take (i := 4) (oi := ({ dst := some 83, op := Op.load 3 (Operand.tmp 82), type := 3, pos := "ref.go:68", after := #[{ on := 3, ground := Ground.data }], guard := none } : Oper)) (v := ?l5_v4) rfl (by kernel_rfl) (by kernel_rfl) (by kernel_rfl) (fun _ _ _ h => h) (Or.inl ⟨by rfl, ?l5_y4⟩) (by assumption) ?l5_r4
        case l5_y4 =>
          intro w hSw
          (try dsimp only at hSw)
          go_simp
          (try with_reducible rfl)
        try simp only [Act.put, List.setIfInBounds_toArray, List.set_cons_zero, List.set_cons_succ]
        refine wpAnyH_take (i := 5) (oi := ({ dst := some 84, op := Op.binOp BinOp.eql 3 (Operand.tmp 81) (Operand.tmp 83) 3, type := 4, pos := "ref.go:68", after := #[{ on := 2, ground := Ground.data }, { on := 4, ground := Ground.data }], guard := none } : Oper)) (v := ?l6_v5) rfl (by kernel_rfl) (by kernel_rfl) (by kernel_rfl) (fun _ _ _ h => h) (Or.inl ⟨by rfl, ?l6_y5⟩) (by assumption) ?l6_r5
        case l6_y5 =>
          intro w hSw
          (try dsimp only at hSw)
          go_simp
          (try with_reducible rfl)
        try simp only [Act.put, List.setIfInBounds_toArray, List.set_cons_zero, List.set_cons_succ]
        refine wpAnyH_take (i := 6) (oi := ({ dst := some 85, op := Op.move (Operand.tmp 84), type := 4, pos := "ref.go:68", after := #[{ on := 5, ground := Ground.data }], guard := none } : Oper)) (v := ?l7_v6) rfl (by kernel_rfl) (by kernel_rfl) (by kernel_rfl) (fun _ _ _ h => h) (Or.inl ⟨by rfl, ?l7_y6⟩) (by assumption) ?l7_r6
        case l7_y6 =>
          intro w hSw
          (try dsimp only at hSw)
          go_simp
          (try with_reducible rfl)
        try simp only [Act.put, List.setIfInBounds_toArray, List.set_cons_zero, List.set_cons_succ]
        refine wpAnyH_take (i := 7) (oi := ({ dst := some 86, op := Op.move (Operand.tmp 5), type := 35, pos := "ref.go:68", after := #[{ on := 6, ground := Ground.guard }], guard := some (6, true) } : Oper)) (v := ?l8_v7) rfl (by kernel_rfl) (by kernel_rfl) (by kernel_rfl) (fun _ _ _ h => h) (Or.inl ⟨by rfl, ?l8_y7⟩) (by assumption) ?l8_r7
        case l8_y7 =>
          intro w hSw
          (try dsimp only at hSw)
          go_simp
          (try with_reducible rfl)
        try simp only [Act.put, List.setIfInBounds_toArray, List.set_cons_zero, List.set_cons_succ]
        refine wpAnyH_take (i := 8) (oi := ({ dst := some 87, op := Op.indexAddr 35 (Operand.tmp 86) (Operand.const (Value.int IntKind.i64 1)), type := 0, pos := "ref.go:68", after := #[{ on := 7, ground := Ground.data }, { on := 6, ground := Ground.guard }], guard := some (6, true) } : Oper)) (v := ?l9_v8) rfl (by kernel_rfl) (by kernel_rfl) (by kernel_rfl) (fun _ _ _ h => h) (Or.inl ⟨by rfl, ?l9_y8⟩) (by assumption) ?l9_r8
        case l9_y8 =>
          intro w hSw
          (try dsimp only at hSw)
          go_simp
          (try with_reducible rfl)
        try simp only [Act.put, List.setIfInBounds_toArray, List.set_cons_zero, List.set_cons_succ]
        refine wpAnyH_take (i := 9) (oi := ({ dst := some 88, op := Op.load 3 (Operand.tmp 87), type := 3, pos := "ref.go:68", after := #[{ on := 8, ground := Ground.data }, { on := 6, ground := Ground.guard }], guard := some (6, true) } : Oper)) (v := ?l10_v9) rfl (by kernel_rfl) (by kernel_rfl) (by kernel_rfl) (fun _ _ _ h => h) (Or.inl ⟨by rfl, ?l10_y9⟩) (by assumption) ?l10_r9
        case l10_y9 =>
          intro w hSw
          (try dsimp only at hSw)
          go_simp
          (try with_reducible rfl)
        try simp only [Act.put, List.setIfInBounds_toArray, List.set_cons_zero, List.set_cons_succ]
        refine wpAnyH_take (i := 10) (oi := ({ dst := some 89, op := Op.fieldAddr 38 (Operand.tmp 3) 1, type := 0, pos := "ref.go:68", after := #[{ on := 6, ground := Ground.guard }], guard := some (6, true) } : Oper)) (v := ?l11_v10) rfl (by kernel_rfl) (by kernel_rfl) (by kernel_rfl) (fun _ _ _ h => h) (Or.inl ⟨by rfl, ?l11_y10⟩) (by assumption) ?l11_r10
        case l11_y10 =>
          intro w hSw
          (try dsimp only at hSw)
          go_simp
          (try with_reducible rfl)
        try simp only [Act.put, List.setIfInBounds_toArray, List.set_cons_zero, List.set_cons_succ]
        refine wpAnyH_take (i := 11) (oi := ({ dst := some 90, op := Op.load 3 (Operand.tmp 89), type := 3, pos := "ref.go:68", after := #[{ on := 10, ground := Ground.data }, { on := 6, ground := Ground.guard }], guard := some (6, true) } : Oper)) (v := ?l12_v11) rfl (by kernel_rfl) (by kernel_rfl) (by kernel_rfl) (fun _ _ _ h => h) (Or.inl ⟨by rfl, ?l12_y11⟩) (by assumption) ?l12_r11
        case l12_y11 =>
          intro w hSw
          (try dsimp only at hSw)
          go_simp
          (try with_reducible rfl)
        try simp only [Act.put, List.setIfInBounds_toArray, List.set_cons_zero, List.set_cons_succ]
        refine wpAnyH_take (i := 12) (oi := ({ dst := some 91, op := Op.binOp BinOp.eql 3 (Operand.tmp 88) (Operand.tmp 90) 3, type := 4, pos := "ref.go:68", after := #[{ on := 9, ground := Ground.data }, { on := 11, ground := Ground.data }, { on := 6, ground := Ground.guard }], guard := some (6, true) } : Oper)) (v := ?l13_v12) rfl (by kernel_rfl) (by kernel_rfl) (by kernel_rfl) (fun _ _ _ h => h) (Or.inl ⟨by rfl, ?l13_y12⟩) (by assumption) ?l13_r12
        case l13_y12 =>
          intro w hSw
          (try dsimp only at hSw)
          go_simp
          (try with_reducible rfl)
        try simp only [Act.put, List.setIfInBounds_toArray, List.set_cons_zero, List.set_cons_succ]
        refine wpAnyH_take (i := 13) (oi := ({ dst := some 92, op := Op.pick (Operand.tmp 85) (Operand.tmp 91) (Operand.const (Value.bool false)), type := 4, pos := "ref.go:68", after := #[{ on := 6, ground := Ground.data }, { on := 12, ground := Ground.data }], guard := none } : Oper)) (v := ?l14_v13) rfl (by kernel_rfl) (by kernel_rfl) (by kernel_rfl) (fun _ _ _ h => h) (Or.inl ⟨by rfl, ?l14_y13⟩) (by assumption) ?l14_r13
        case l14_y13 =>
          intro w hSw
          (try dsimp only at hSw)
          go_simp
          (try with_reducible rfl)
        try simp only [Act.put, List.setIfInBounds_toArray, List.set_cons_zero, List.set_cons_succ]
        refine wpAnyH_take (i := 14) (oi := ({ dst := some 4, op := Op.assign (Operand.tmp 92), type := 4, pos := "ref.go:68", after := #[{ on := 13, ground := Ground.data }, { on := 6, ground := Ground.chain }, { on := 0, ground := Ground.phase }, { on := 1, ground := Ground.phase }, { on := 2, ground := Ground.phase }, { on := 3, ground := Ground.phase }, { on := 4, ground := Ground.phase }, { on := 5, ground := Ground.phase }, { on := 6, ground := Ground.phase }, { on := 7, ground := Ground.phase }, { on := 8, ground := Ground.phase }, { on := 9, ground := Ground.phase }, { on := 10, ground := Ground.phase }, { on := 11, ground := Ground.phase }, { on := 12, ground := Ground.phase }, { on := 13, ground := Ground.phase }], guard := none } : Oper)) (v := ?l15_v14) rfl (by kernel_rfl) (by kernel_rfl) (by kernel_rfl) (fun _ _ _ h => h) (Or.inl ⟨by rfl, ?l15_y14⟩) (by assumption) ?l15_r14
        case l15_y14 =>
          intro w hSw
          (try dsimp only at hSw)
          go_simp
          (try with_reducible rfl)
        try simp only [Act.put, List.setIfInBounds_toArray, List.set_cons_zero, List.set_cons_succ]
        refine wpAnyH_done (by kernel_rfl) ?_ _
        go_wp2
        go_ret
        exact ⟨ret_b (by rw [HF4.out]), by first | exact drewR HB2.out | exact drewD HB2.out | exact HB2.out⟩
      · have e3 : (f0 == wid) = false := beq_false_of_ne q0
        have HF4 := Lib.hid (show F = false by rw [HF1.out, decide_eq_false q0, Bool.false_and])
        clear q0
        go_upto_region 19 with fail
        have HS := Lib.hid (show ∀ W, Below wr.heap.size wr W → W.cell? ⟨B, 1, none⟩ = some (.int .i64 wid) ∧ W.cell? ⟨g, 0, none⟩ = some (.int .i64 f0) ∧ W.cell? ⟨g, 1, none⟩ = some (.int .i64 f1) from fun W hW => ⟨(hW.cell (p := ⟨B, 1, none⟩) hBl).trans a1, (hW.cell (p := ⟨g, 0, none⟩) hg).trans k0, (hW.cell (p := ⟨g, 1, none⟩) hg).trans k1⟩)
        clear a0 a1 a3 hBl hg hb k0 k1
        refine wp_region_held_drew (S := (fun W => W.cell? ⟨B, 1, none⟩ = some (.int .i64 wid) ∧ W.cell? ⟨g, 0, none⟩ = some (.int .i64 f0) ∧ W.cell? ⟨g, 1, none⟩ = some (.int .i64 f1))) (by kernel_rfl) ?_ (fun hHeld => ?_)
        · exact HS.out _ (by first | exact Below.refl _ _ | exact drewD (Below.refl _ _) | exact drewR (Below.refl _ _))
        refine wpAnyH_take (i := 0) (oi := ({ dst := some 79, op := Op.move (Operand.tmp 5), type := 35, pos := "ref.go:68", after := #[], guard := none } : Oper)) (v := ?m1_v0) rfl (by kernel_rfl) (by kernel_rfl) (by kernel_rfl) (fun _ _ _ h => h) (Or.inl ⟨by rfl, ?m1_y0⟩) (by assumption) ?m1_r0
        case m1_y0 =>
          intro w hSw
          (try dsimp only at hSw)
          go_simp
          (try with_reducible rfl)
        try simp only [Act.put, List.setIfInBounds_toArray, List.set_cons_zero, List.set_cons_succ]
        refine wpAnyH_take (i := 1) (oi := ({ dst := some 80, op := Op.indexAddr 35 (Operand.tmp 79) (Operand.const (Value.int IntKind.i64 0)), type := 0, pos := "ref.go:68", after := #[{ on := 0, ground := Ground.data }], guard := none } : Oper)) (v := ?m2_v1) rfl (by kernel_rfl) (by kernel_rfl) (by kernel_rfl) (fun _ _ _ h => h) (Or.inl ⟨by rfl, ?m2_y1⟩) (by assumption) ?m2_r1
        case m2_y1 =>
          intro w hSw
          (try dsimp only at hSw)
          go_simp
          (try with_reducible rfl)
        try simp only [Act.put, List.setIfInBounds_toArray, List.set_cons_zero, List.set_cons_succ]
        refine wpAnyH_take (i := 2) (oi := ({ dst := some 81, op := Op.load 3 (Operand.tmp 80), type := 3, pos := "ref.go:68", after := #[{ on := 1, ground := Ground.data }], guard := none } : Oper)) (v := ?m3_v2) rfl (by kernel_rfl) (by kernel_rfl) (by kernel_rfl) (fun _ _ _ h => h) (Or.inl ⟨by rfl, ?m3_y2⟩) (by assumption) ?m3_r2
        case m3_y2 =>
          intro w hSw
          (try dsimp only at hSw)
          go_simp
          (try with_reducible rfl)
        try simp only [Act.put, List.setIfInBounds_toArray, List.set_cons_zero, List.set_cons_succ]
        refine wpAnyH_take (i := 3) (oi := ({ dst := some 82, op := Op.fieldAddr 38 (Operand.tmp 3) 1, type := 0, pos := "ref.go:68", after := #[], guard := none } : Oper)) (v := ?m4_v3) rfl (by kernel_rfl) (by kernel_rfl) (by kernel_rfl) (fun _ _ _ h => h) (Or.inl ⟨by rfl, ?m4_y3⟩) (by assumption) ?m4_r3
        case m4_y3 =>
          intro w hSw
          (try dsimp only at hSw)
          go_simp
          (try with_reducible rfl)
        try simp only [Act.put, List.setIfInBounds_toArray, List.set_cons_zero, List.set_cons_succ]
        refine wpAnyH_take (i := 4) (oi := ({ dst := some 83, op := Op.load 3 (Operand.tmp 82), type := 3, pos := "ref.go:68", after := #[{ on := 3, ground := Ground.data }], guard := none } : Oper)) (v := ?m5_v4) rfl (by kernel_rfl) (by kernel_rfl) (by kernel_rfl) (fun _ _ _ h => h) (Or.inl ⟨by rfl, ?m5_y4⟩) (by assumption) ?m5_r4
        case m5_y4 =>
          intro w hSw
          (try dsimp only at hSw)
          go_simp
          (try with_reducible rfl)
        try simp only [Act.put, List.setIfInBounds_toArray, List.set_cons_zero, List.set_cons_succ]
        refine wpAnyH_take (i := 5) (oi := ({ dst := some 84, op := Op.binOp BinOp.eql 3 (Operand.tmp 81) (Operand.tmp 83) 3, type := 4, pos := "ref.go:68", after := #[{ on := 2, ground := Ground.data }, { on := 4, ground := Ground.data }], guard := none } : Oper)) (v := ?m6_v5) rfl (by kernel_rfl) (by kernel_rfl) (by kernel_rfl) (fun _ _ _ h => h) (Or.inl ⟨by rfl, ?m6_y5⟩) (by assumption) ?m6_r5
        case m6_y5 =>
          intro w hSw
          (try dsimp only at hSw)
          go_simp
          (try with_reducible rfl)
        try simp only [Act.put, List.setIfInBounds_toArray, List.set_cons_zero, List.set_cons_succ]
        refine wpAnyH_take (i := 6) (oi := ({ dst := some 85, op := Op.move (Operand.tmp 84), type := 4, pos := "ref.go:68", after := #[{ on := 5, ground := Ground.data }], guard := none } : Oper)) (v := ?m7_v6) rfl (by kernel_rfl) (by kernel_rfl) (by kernel_rfl) (fun _ _ _ h => h) (Or.inl ⟨by rfl, ?m7_y6⟩) (by assumption) ?m7_r6
        case m7_y6 =>
          intro w hSw
          (try dsimp only at hSw)
          go_simp
          (try with_reducible rfl)
        try simp only [Act.put, List.setIfInBounds_toArray, List.set_cons_zero, List.set_cons_succ]
        refine wpAnyH_take (i := 7) (oi := ({ dst := some 86, op := Op.move (Operand.tmp 5), type := 35, pos := "ref.go:68", after := #[{ on := 6, ground := Ground.guard }], guard := some (6, true) } : Oper)) rfl (by kernel_rfl) (by kernel_rfl) (by kernel_rfl) (fun _ _ _ h => h) (Or.inr ⟨by rfl, rfl⟩) (by assumption) ?m8_r7
        try simp only [Act.put, List.setIfInBounds_toArray, List.set_cons_zero, List.set_cons_succ]
        refine wpAnyH_take (i := 8) (oi := ({ dst := some 87, op := Op.indexAddr 35 (Operand.tmp 86) (Operand.const (Value.int IntKind.i64 1)), type := 0, pos := "ref.go:68", after := #[{ on := 7, ground := Ground.data }, { on := 6, ground := Ground.guard }], guard := some (6, true) } : Oper)) rfl (by kernel_rfl) (by kernel_rfl) (by kernel_rfl) (fun _ _ _ h => h) (Or.inr ⟨by rfl, rfl⟩) (by assumption) ?m9_r8
        try simp only [Act.put, List.setIfInBounds_toArray, List.set_cons_zero, List.set_cons_succ]
        refine wpAnyH_take (i := 9) (oi := ({ dst := some 88, op := Op.load 3 (Operand.tmp 87), type := 3, pos := "ref.go:68", after := #[{ on := 8, ground := Ground.data }, { on := 6, ground := Ground.guard }], guard := some (6, true) } : Oper)) rfl (by kernel_rfl) (by kernel_rfl) (by kernel_rfl) (fun _ _ _ h => h) (Or.inr ⟨by rfl, rfl⟩) (by assumption) ?m10_r9
        try simp only [Act.put, List.setIfInBounds_toArray, List.set_cons_zero, List.set_cons_succ]
        refine wpAnyH_take (i := 10) (oi := ({ dst := some 89, op := Op.fieldAddr 38 (Operand.tmp 3) 1, type := 0, pos := "ref.go:68", after := #[{ on := 6, ground := Ground.guard }], guard := some (6, true) } : Oper)) rfl (by kernel_rfl) (by kernel_rfl) (by kernel_rfl) (fun _ _ _ h => h) (Or.inr ⟨by rfl, rfl⟩) (by assumption) ?m11_r10
        try simp only [Act.put, List.setIfInBounds_toArray, List.set_cons_zero, List.set_cons_succ]
        refine wpAnyH_take (i := 11) (oi := ({ dst := some 90, op := Op.load 3 (Operand.tmp 89), type := 3, pos := "ref.go:68", after := #[{ on := 10, ground := Ground.data }, { on := 6, ground := Ground.guard }], guard := some (6, true) } : Oper)) rfl (by kernel_rfl) (by kernel_rfl) (by kernel_rfl) (fun _ _ _ h => h) (Or.inr ⟨by rfl, rfl⟩) (by assumption) ?m12_r11
        try simp only [Act.put, List.setIfInBounds_toArray, List.set_cons_zero, List.set_cons_succ]
        refine wpAnyH_take (i := 12) (oi := ({ dst := some 91, op := Op.binOp BinOp.eql 3 (Operand.tmp 88) (Operand.tmp 90) 3, type := 4, pos := "ref.go:68", after := #[{ on := 9, ground := Ground.data }, { on := 11, ground := Ground.data }, { on := 6, ground := Ground.guard }], guard := some (6, true) } : Oper)) rfl (by kernel_rfl) (by kernel_rfl) (by kernel_rfl) (fun _ _ _ h => h) (Or.inr ⟨by rfl, rfl⟩) (by assumption) ?m13_r12
        try simp only [Act.put, List.setIfInBounds_toArray, List.set_cons_zero, List.set_cons_succ]
        refine wpAnyH_take (i := 13) (oi := ({ dst := some 92, op := Op.pick (Operand.tmp 85) (Operand.tmp 91) (Operand.const (Value.bool false)), type := 4, pos := "ref.go:68", after := #[{ on := 6, ground := Ground.data }, { on := 12, ground := Ground.data }], guard := none } : Oper)) (v := ?m14_v13) rfl (by kernel_rfl) (by kernel_rfl) (by kernel_rfl) (fun _ _ _ h => h) (Or.inl ⟨by rfl, ?m14_y13⟩) (by assumption) ?m14_r13
        case m14_y13 =>
          intro w hSw
          (try dsimp only at hSw)
          go_simp
          (try with_reducible rfl)
        try simp only [Act.put, List.setIfInBounds_toArray, List.set_cons_zero, List.set_cons_succ]
        refine wpAnyH_take (i := 14) (oi := ({ dst := some 4, op := Op.assign (Operand.tmp 92), type := 4, pos := "ref.go:68", after := #[{ on := 13, ground := Ground.data }, { on := 6, ground := Ground.chain }, { on := 0, ground := Ground.phase }, { on := 1, ground := Ground.phase }, { on := 2, ground := Ground.phase }, { on := 3, ground := Ground.phase }, { on := 4, ground := Ground.phase }, { on := 5, ground := Ground.phase }, { on := 6, ground := Ground.phase }, { on := 7, ground := Ground.phase }, { on := 8, ground := Ground.phase }, { on := 9, ground := Ground.phase }, { on := 10, ground := Ground.phase }, { on := 11, ground := Ground.phase }, { on := 12, ground := Ground.phase }, { on := 13, ground := Ground.phase }], guard := none } : Oper)) (v := ?m15_v14) rfl (by kernel_rfl) (by kernel_rfl) (by kernel_rfl) (fun _ _ _ h => h) (Or.inl ⟨by rfl, ?m15_y14⟩) (by assumption) ?m15_r14
        case m15_y14 =>
          intro w hSw
          (try dsimp only at hSw)
          go_simp
          (try with_reducible rfl)
        try simp only [Act.put, List.setIfInBounds_toArray, List.set_cons_zero, List.set_cons_succ]
        refine wpAnyH_done (by kernel_rfl) ?_ _
        go_wp2
        go_ret
        exact ⟨ret_b (by rw [HF4.out]), by first | exact drewR HB2.out | exact drewD HB2.out | exact HB2.out⟩
end Go.Proofs.YtbohigjfdnnomaaGreatDoor
