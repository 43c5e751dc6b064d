/-
  constant, is and drop of Simplify.
  fold and node of Simplify.
  node of Simplify.
-/
import Derived.Test.YtbohigjfdnnomaaGreatDoorTeSa
namespace Go.Proofs.YtbohigjfdnnomaaGreatDoor
section
open Go.RowKit

theorem drewNS {B k : Nat} {a w : World} (h : Below B a w) : Below B a (w.drewN k) := ⟨h.os, h.tape, h.output, h.size, h.block⟩
/-- The pool of a smaller. -/
structure Sml (w : World) (S base P M : Nat) (F : Nat → Prop) (out : List Nd) : Prop where
  blk : w.heap[S]? = some (.cells #[ptr P] 54 (0, 0))
  pool : Pool w base P M F out
theorem Sml.below {w w' : World} {S base P M : Nat} {F : Nat → Prop} {out : List Nd} (h : Sml w S base P M F out) (hb : Below w.heap.size w w') : Sml w' S base P M F out :=
  ⟨(hb.block _ (lt_of_block h.blk)).trans h.blk, h.pool.keep hb.size fun b e => hb.block b (h.pool.lt b e).1⟩
set_option maxRecDepth 100000 in
set_option maxHeartbeats 4000000 in
theorem nodes_at {w : World} {P M n c : Nat} {A : Option Addr} (hB : w.heap[P]? = some (.cells #[.slice A n c, .map (some M)] 75 (0, 0))) :
    Calls Tryz.prog 26 #[ptr P] w fun e w' => e = .returned (.slice A n c) ∧ w' = w := by
  obtain ⟨⟨c0, -⟩, -⟩ := cells2 hB
  have hl := lt_of_block hB
  clear hB
  go_enter Tryz.func26, Tryz.ntmps26
  go_wp2
  go_ret
  exact ⟨rfl, rfl⟩
section
variable {w : World} {S base P M : Nat} {F : Nat → Prop} {out : List Nd}
set_option maxRecDepth 100000 in
set_option maxHeartbeats 4000000 in
theorem constant_any (h : Sml w S base P M F out) {p : Nat} (hp : p < out.length) :
    Calls Tryz.prog 61 #[ptr S, .int .i64 (p : Int)] w fun e w' => e = .returned (.tuple #[.int .u32 (out[p]!).imm, .bool (decide ((out[p]!).op = 0))]) ∧ Below w.heap.size w w' := by
  have hc := cell_of_one h.blk
  have hl := lt_of_block h.blk
  obtain ⟨nv, av, hO, hB, -⟩ := pool_own h.pool
  obtain ⟨A, c, rfl, hT⟩ := own_term hO
  have HN := Lib.hid (nodes_at hB)
  have hcap := hT.2.1
  have hmax := hT.2.2.1
  obtain ⟨b, off, A', n', c', rfl, hbs, ⟨a0, a1, a2, a3, a4⟩, -, -⟩ := hT.at_ hp
  have e1 : ((out[p]!).op == 0) = decide ((out[p]!).op = 0) := by rw [Bool.eq_iff_iff, beq_iff_eq, decide_eq_true_iff]
  clear hO hT hB h
  generalize out.length = n at *
  generalize (out[p]!).width = wid at *
  generalize (out[p]!).flags = fl at *
  generalize (out[p]!).imm = imm at *
  generalize (out[p]!).op = op at *
  generalize decide (op = 0) = Z at *
  go_enter Tryz.func61, Tryz.ntmps61
  go_wp2_with fail
  refine HN.out.mono ?_
  rintro e w1 ⟨rfl, rfl⟩
  go_upto_region 2 with fail
  have hx := heap_alloc_new w1 (.cells #[.int .i64 op, .int .i64 wid, .int .i64 fl, .slice A' n' c', .int .u32 imm] 38)
  have hbn : Below w1.heap.size w1 (w1.alloc (.cells #[.int .i64 op, .int .i64 wid, .int .i64 fl, .slice A' n' c', .int .u32 imm] 38)) := (Below.refl _ _).alloc (Nat.le_refl _) _
  generalize World.alloc w1 _ = W1 at hx hbn ⊢
  obtain ⟨d0, d1, d2, d3, d4⟩ := cells5 (x := ⟨op, wid, fl, [], imm⟩) hx
  simp only at d0 d1 d2 d3 d4
  have hDl := lt_of_block hx
  have HBN := Lib.hid hbn
  obtain ⟨D, hDE⟩ : ∃ D, w1.heap.size = D := ⟨_, rfl⟩
  rw [hDE] at d0 d1 d2 d3 d4 hDl ⊢
  clear hDE hbn hx hc hl a0 a1 a2 a3 a4
  go_quiet (fail)
  go_wp2
  go_ret2
  exact ⟨rfl, drewNS HBN.out⟩
set_option maxRecDepth 100000 in
set_option maxHeartbeats 4000000 in
theorem is_any (h : Sml w S base P M F out) {p : Nat} (hp : p < out.length) (m : Int) :
    Calls Tryz.prog 63 #[ptr S, .int .i64 (p : Int), .int .u32 m] w fun e w' => e = .returned (.bool (isB out p m)) ∧ Below w.heap.size w w' := by
  have HC := Lib.hid (constant_any h hp)
  unfold isB
  have e2 : ((out[p]!).imm == m) = decide ((out[p]!).imm = m) := by rw [Bool.eq_iff_iff, beq_iff_eq, decide_eq_true_iff]
  clear h
  generalize (out[p]!).imm = imm at HC e2 ⊢
  cases hZ : decide ((out[p]!).op = 0)
  · rw [hZ] at HC
    rw [Bool.false_and]
    clear hZ e2
    go_enter Tryz.func63, Tryz.ntmps63
    go_wp2_with fail
    refine HC.out.mono ?_
    rintro e w1 ⟨rfl, hb⟩
    go_wp2
    go_ret
    exact ⟨rfl, hb⟩
  · rw [hZ] at HC
    rw [Bool.true_and]
    generalize decide (imm = m) = Y at e2 ⊢
    clear hZ
    go_enter Tryz.func63, Tryz.ntmps63
    go_wp2_with fail
    refine HC.out.mono ?_
    rintro e w1 ⟨rfl, hb⟩
    go_wp2
    go_ret
    exact ⟨rfl, hb⟩
end
-- DROP
section
variable {w : World} {S base P M : Nat} {F : Nat → Prop} {out : List Nd}
/-- What is asked of an Arg, at any later world. -/
def IsAt (w : World) (S p : Nat) (m : Int) (b : Bool) : Prop := ∀ U, Below w.heap.size w U → Calls Tryz.prog 63 #[ptr S, .int .i64 (p : Int), .int .u32 m] U fun e w' => e = .returned (.bool b) ∧ Below U.heap.size U w'
theorem isAt_of (h : Sml w S base P M F out) {p : Nat} (hp : p < out.length) (m : Int) : IsAt w S p m (isB out p m) := fun _ hU => is_any (h.below hU) hp m
theorem IsAt.below {w w' : World} {S p : Nat} {m : Int} {b : Bool} (h : IsAt w S p m b) (hb : Below w.heap.size w w') : IsAt w' S p m b := fun U hU => h U (hb.trans (hU.mono hb.size))
section
variable {A A' : Option Addr} {n' c' g off n c : Nat} {wid fl imm : Int} {p0 p1 p2 : Nat}
set_option maxRecDepth 100000 in
set_option maxHeartbeats 8000000 in
theorem drop_b2 {w : World} (hgl : g < w.heap.size) (c0 : w.cell? ⟨g, off, none⟩ = some (.int .i64 (p0 : Int))) (c1 : w.cell? ⟨g, off + 1, none⟩ = some (.int .i64 (p1 : Int))) (h1n : 1 < n) (_ : n ≤ c) (_ : c ≤ 9223372036854775807) {b1 : Bool} (h1 : IsAt w S p1 0 b1) :
    Calls Tryz.prog 42 #[ptr S, .agg #[.int .i64 2, .int .i64 wid, .int .i64 fl, .slice A' n' c', .int .u32 imm], .slice (some ⟨g, off, none⟩) n c] w fun e w' => e = .returned (.tuple #[.int .i64 (p0 : Int), .bool b1]) ∧ Below w.heap.size w w' := by
  go_enter Tryz.func42, Tryz.ntmps42
  go_upto_region 1 with fail
  have hx := heap_alloc_new w (.cells #[.int .i64 2, .int .i64 wid, .int .i64 fl, .slice A' n' c', .int .u32 imm] 38)
  have hbn : Below w.heap.size w (w.alloc (.cells #[.int .i64 2, .int .i64 wid, .int .i64 fl, .slice A' n' c', .int .u32 imm] 38)) := (Below.refl _ _).alloc (Nat.le_refl _) _
  generalize World.alloc w _ = W1 at hx hbn ⊢
  obtain ⟨d0, d1, d2, d3, d4⟩ := cells5 (x := ⟨2, wid, fl, [], imm⟩) hx
  simp only at d0 d1 d2 d3 d4
  have hDl := lt_of_block hx
  have HBN := Lib.hid hbn
  have HI1 := Lib.hid (h1.below hbn)
  obtain ⟨D, hDE⟩ : ∃ D, w.heap.size = D := ⟨_, rfl⟩
  rw [hDE] at d0 d1 d2 d3 d4 hDl ⊢
  have hgl1 := Nat.lt_of_lt_of_le hgl hbn.size
  have x0 := (hbn.cell (p := ⟨g, off, none⟩) hgl).trans c0
  have x1 := (hbn.cell (p := ⟨g, off + 1, none⟩) hgl).trans c1
  clear hDE hx hbn d2 d3 d4
  go_upto_region 12 with fail
  refine wp_region_quiet_below (by kernel_rfl) (by kernel_rfl) ?_
  have Tx0 := cell_regrown x0
  have Tx1 := cell_regrown x1
  have HQ := Lib.hid (show ∀ (d : Nat) (os : Array Obj), Calls Tryz.prog 63 #[ptr S, .int .i64 (p1 : Int), .int .u32 0] (Sort.grow (redrawn W1 d) os) fun e w'' => e = .returned (.bool b1) ∧ ∃ p : Regrown, w'' = Sort.grow (redrawn W1 p.d) p.os from fun d os => Calls.regrown_of (HI1.out _ (below_regrown W1 d os)))
  iterate 10 (go_big_quiet_step ((go_at_call 63; with_reducible exact HQ.out _ _)))
  refine wpQuiet_nil ?_
  intro _ hw'
  obtain ⟨⟨dq, osq⟩, hw''⟩ := hw'
  subst hw''
  have HB9 := Lib.hid (HBN.out.trans ((below_regrown W1 dq osq).mono HBN.out.size))
  generalize Sort.grow (redrawn W1 dq) osq = W9 at HB9 ⊢
  clear Tx0 Tx1 HQ
  go_wp2
  go_ret2
  exact ⟨rfl, HB9.out⟩
set_option maxRecDepth 100000 in
set_option maxHeartbeats 8000000 in
theorem drop_b11 {w : World} (hgl : g < w.heap.size) (c0 : w.cell? ⟨g, off, none⟩ = some (.int .i64 (p0 : Int))) (c1 : w.cell? ⟨g, off + 1, none⟩ = some (.int .i64 (p1 : Int))) (h1n : 1 < n) (_ : n ≤ c) (_ : c ≤ 9223372036854775807) {b1 : Bool} (h1 : IsAt w S p1 0 b1) :
    Calls Tryz.prog 42 #[ptr S, .agg #[.int .i64 11, .int .i64 wid, .int .i64 fl, .slice A' n' c', .int .u32 imm], .slice (some ⟨g, off, none⟩) n c] w fun e w' => e = .returned (.tuple #[.int .i64 (p0 : Int), .bool b1]) ∧ Below w.heap.size w w' := by
  go_enter Tryz.func42, Tryz.ntmps42
  go_upto_region 1 with fail
  have hx := heap_alloc_new w (.cells #[.int .i64 11, .int .i64 wid, .int .i64 fl, .slice A' n' c', .int .u32 imm] 38)
  have hbn : Below w.heap.size w (w.alloc (.cells #[.int .i64 11, .int .i64 wid, .int .i64 fl, .slice A' n' c', .int .u32 imm] 38)) := (Below.refl _ _).alloc (Nat.le_refl _) _
  generalize World.alloc w _ = W1 at hx hbn ⊢
  obtain ⟨d0, d1, d2, d3, d4⟩ := cells5 (x := ⟨11, wid, fl, [], imm⟩) hx
  simp only at d0 d1 d2 d3 d4
  have hDl := lt_of_block hx
  have HBN := Lib.hid hbn
  have HI1 := Lib.hid (h1.below hbn)
  obtain ⟨D, hDE⟩ : ∃ D, w.heap.size = D := ⟨_, rfl⟩
  rw [hDE] at d0 d1 d2 d3 d4 hDl ⊢
  have hgl1 := Nat.lt_of_lt_of_le hgl hbn.size
  have x0 := (hbn.cell (p := ⟨g, off, none⟩) hgl).trans c0
  have x1 := (hbn.cell (p := ⟨g, off + 1, none⟩) hgl).trans c1
  clear hDE hx hbn d2 d3 d4
  go_upto_region 12 with fail
  refine wp_region_quiet_below (by kernel_rfl) (by kernel_rfl) ?_
  have Tx0 := cell_regrown x0
  have Tx1 := cell_regrown x1
  have HQ := Lib.hid (show ∀ (d : Nat) (os : Array Obj), Calls Tryz.prog 63 #[ptr S, .int .i64 (p1 : Int), .int .u32 0] (Sort.grow (redrawn W1 d) os) fun e w'' => e = .returned (.bool b1) ∧ ∃ p : Regrown, w'' = Sort.grow (redrawn W1 p.d) p.os from fun d os => Calls.regrown_of (HI1.out _ (below_regrown W1 d os)))
  iterate 10 (go_big_quiet_step ((go_at_call 63; with_reducible exact HQ.out _ _)))
  refine wpQuiet_nil ?_
  intro _ hw'
  obtain ⟨⟨dq, osq⟩, hw''⟩ := hw'
  subst hw''
  have HB9 := Lib.hid (HBN.out.trans ((below_regrown W1 dq osq).mono HBN.out.size))
  generalize Sort.grow (redrawn W1 dq) osq = W9 at HB9 ⊢
  clear Tx0 Tx1 HQ
  go_wp2
  go_ret2
  exact ⟨rfl, HB9.out⟩
set_option maxRecDepth 100000 in
set_option maxHeartbeats 8000000 in
theorem drop_b12 {w : World} (hgl : g < w.heap.size) (c0 : w.cell? ⟨g, off, none⟩ = some (.int .i64 (p0 : Int))) (c1 : w.cell? ⟨g, off + 1, none⟩ = some (.int .i64 (p1 : Int))) (h1n : 1 < n) (_ : n ≤ c) (_ : c ≤ 9223372036854775807) {b1 : Bool} (h1 : IsAt w S p1 0 b1) :
    Calls Tryz.prog 42 #[ptr S, .agg #[.int .i64 12, .int .i64 wid, .int .i64 fl, .slice A' n' c', .int .u32 imm], .slice (some ⟨g, off, none⟩) n c] w fun e w' => e = .returned (.tuple #[.int .i64 (p0 : Int), .bool b1]) ∧ Below w.heap.size w w' := by
  go_enter Tryz.func42, Tryz.ntmps42
  go_upto_region 1 with fail
  have hx := heap_alloc_new w (.cells #[.int .i64 12, .int .i64 wid, .int .i64 fl, .slice A' n' c', .int .u32 imm] 38)
  have hbn : Below w.heap.size w (w.alloc (.cells #[.int .i64 12, .int .i64 wid, .int .i64 fl, .slice A' n' c', .int .u32 imm] 38)) := (Below.refl _ _).alloc (Nat.le_refl _) _
  generalize World.alloc w _ = W1 at hx hbn ⊢
  obtain ⟨d0, d1, d2, d3, d4⟩ := cells5 (x := ⟨12, wid, fl, [], imm⟩) hx
  simp only at d0 d1 d2 d3 d4
  have hDl := lt_of_block hx
  have HBN := Lib.hid hbn
  have HI1 := Lib.hid (h1.below hbn)
  obtain ⟨D, hDE⟩ : ∃ D, w.heap.size = D := ⟨_, rfl⟩
  rw [hDE] at d0 d1 d2 d3 d4 hDl ⊢
  have hgl1 := Nat.lt_of_lt_of_le hgl hbn.size
  have x0 := (hbn.cell (p := ⟨g, off, none⟩) hgl).trans c0
  have x1 := (hbn.cell (p := ⟨g, off + 1, none⟩) hgl).trans c1
  clear hDE hx hbn d2 d3 d4
  go_upto_region 12 with fail
  refine wp_region_quiet_below (by kernel_rfl) (by kernel_rfl) ?_
  have Tx0 := cell_regrown x0
  have Tx1 := cell_regrown x1
  have HQ := Lib.hid (show ∀ (d : Nat) (os : Array Obj), Calls Tryz.prog 63 #[ptr S, .int .i64 (p1 : Int), .int .u32 0] (Sort.grow (redrawn W1 d) os) fun e w'' => e = .returned (.bool b1) ∧ ∃ p : Regrown, w'' = Sort.grow (redrawn W1 p.d) p.os from fun d os => Calls.regrown_of (HI1.out _ (below_regrown W1 d os)))
  iterate 10 (go_big_quiet_step ((go_at_call 63; with_reducible exact HQ.out _ _)))
  refine wpQuiet_nil ?_
  intro _ hw'
  obtain ⟨⟨dq, osq⟩, hw''⟩ := hw'
  subst hw''
  have HB9 := Lib.hid (HBN.out.trans ((below_regrown W1 dq osq).mono HBN.out.size))
  generalize Sort.grow (redrawn W1 dq) osq = W9 at HB9 ⊢
  clear Tx0 Tx1 HQ
  go_wp2
  go_ret2
  exact ⟨rfl, HB9.out⟩
set_option maxRecDepth 100000 in
set_option maxHeartbeats 8000000 in
theorem drop_b13 {w : World} (hgl : g < w.heap.size) (c0 : w.cell? ⟨g, off, none⟩ = some (.int .i64 (p0 : Int))) (c1 : w.cell? ⟨g, off + 1, none⟩ = some (.int .i64 (p1 : Int))) (h1n : 1 < n) (_ : n ≤ c) (_ : c ≤ 9223372036854775807) {b1 : Bool} (h1 : IsAt w S p1 0 b1) :
    Calls Tryz.prog 42 #[ptr S, .agg #[.int .i64 13, .int .i64 wid, .int .i64 fl, .slice A' n' c', .int .u32 imm], .slice (some ⟨g, off, none⟩) n c] w fun e w' => e = .returned (.tuple #[.int .i64 (p0 : Int), .bool b1]) ∧ Below w.heap.size w w' := by
  go_enter Tryz.func42, Tryz.ntmps42
  go_upto_region 1 with fail
  have hx := heap_alloc_new w (.cells #[.int .i64 13, .int .i64 wid, .int .i64 fl, .slice A' n' c', .int .u32 imm] 38)
  have hbn : Below w.heap.size w (w.alloc (.cells #[.int .i64 13, .int .i64 wid, .int .i64 fl, .slice A' n' c', .int .u32 imm] 38)) := (Below.refl _ _).alloc (Nat.le_refl _) _
  generalize World.alloc w _ = W1 at hx hbn ⊢
  obtain ⟨d0, d1, d2, d3, d4⟩ := cells5 (x := ⟨13, wid, fl, [], imm⟩) hx
  simp only at d0 d1 d2 d3 d4
  have hDl := lt_of_block hx
  have HBN := Lib.hid hbn
  have HI1 := Lib.hid (h1.below hbn)
  obtain ⟨D, hDE⟩ : ∃ D, w.heap.size = D := ⟨_, rfl⟩
  rw [hDE] at d0 d1 d2 d3 d4 hDl ⊢
  have hgl1 := Nat.lt_of_lt_of_le hgl hbn.size
  have x0 := (hbn.cell (p := ⟨g, off, none⟩) hgl).trans c0
  have x1 := (hbn.cell (p := ⟨g, off + 1, none⟩) hgl).trans c1
  clear hDE hx hbn d2 d3 d4
  go_upto_region 12 with fail
  refine wp_region_quiet_below (by kernel_rfl) (by kernel_rfl) ?_
  have Tx0 := cell_regrown x0
  have Tx1 := cell_regrown x1
  have HQ := Lib.hid (show ∀ (d : Nat) (os : Array Obj), Calls Tryz.prog 63 #[ptr S, .int .i64 (p1 : Int), .int .u32 0] (Sort.grow (redrawn W1 d) os) fun e w'' => e = .returned (.bool b1) ∧ ∃ p : Regrown, w'' = Sort.grow (redrawn W1 p.d) p.os from fun d os => Calls.regrown_of (HI1.out _ (below_regrown W1 d os)))
  iterate 10 (go_big_quiet_step ((go_at_call 63; with_reducible exact HQ.out _ _)))
  refine wpQuiet_nil ?_
  intro _ hw'
  obtain ⟨⟨dq, osq⟩, hw''⟩ := hw'
  subst hw''
  have HB9 := Lib.hid (HBN.out.trans ((below_regrown W1 dq osq).mono HBN.out.size))
  generalize Sort.grow (redrawn W1 dq) osq = W9 at HB9 ⊢
  clear Tx0 Tx1 HQ
  go_wp2
  go_ret2
  exact ⟨rfl, HB9.out⟩
set_option maxRecDepth 100000 in
set_option maxHeartbeats 8000000 in
theorem drop_a1y {w : World} (hgl : g < w.heap.size) (c0 : w.cell? ⟨g, off, none⟩ = some (.int .i64 (p0 : Int))) (c1 : w.cell? ⟨g, off + 1, none⟩ = some (.int .i64 (p1 : Int))) (h1n : 1 < n) (_ : n ≤ c) (_ : c ≤ 9223372036854775807) (h0 : IsAt w S p0 0 true) :
    Calls Tryz.prog 42 #[ptr S, .agg #[.int .i64 1, .int .i64 wid, .int .i64 fl, .slice A' n' c', .int .u32 imm], .slice (some ⟨g, off, none⟩) n c] w fun e w' => e = .returned (.tuple #[.int .i64 (p1 : Int), .bool true]) ∧ Below w.heap.size w w' := by
  go_enter Tryz.func42, Tryz.ntmps42
  go_upto_region 1 with fail
  have hx := heap_alloc_new w (.cells #[.int .i64 1, .int .i64 wid, .int .i64 fl, .slice A' n' c', .int .u32 imm] 38)
  have hbn : Below w.heap.size w (w.alloc (.cells #[.int .i64 1, .int .i64 wid, .int .i64 fl, .slice A' n' c', .int .u32 imm] 38)) := (Below.refl _ _).alloc (Nat.le_refl _) _
  generalize World.alloc w _ = W1 at hx hbn ⊢
  obtain ⟨d0, d1, d2, d3, d4⟩ := cells5 (x := ⟨1, wid, fl, [], imm⟩) hx
  simp only at d0 d1 d2 d3 d4
  have hDl := lt_of_block hx
  have HBN := Lib.hid hbn
  have HI0 := Lib.hid (h0.below hbn)
  obtain ⟨D, hDE⟩ : ∃ D, w.heap.size = D := ⟨_, rfl⟩
  rw [hDE] at d0 d1 d2 d3 d4 hDl ⊢
  have hgl1 := Nat.lt_of_lt_of_le hgl hbn.size
  have x0 := (hbn.cell (p := ⟨g, off, none⟩) hgl).trans c0
  have x1 := (hbn.cell (p := ⟨g, off + 1, none⟩) hgl).trans c1
  clear hDE hx hbn d2 d3 d4
  go_wp2_with fail
  refine (HI0.out _ (Below.refl _ _)).mono ?_
  rintro e w2 ⟨rfl, hb2⟩
  have hB2 := HBN.out.trans (hb2.mono HBN.out.size)
  have HB2 := Lib.hid hB2
  have gl2 := Nat.lt_of_lt_of_le hgl1 hb2.size
  have Dl2 := Nat.lt_of_lt_of_le hDl hb2.size
  have y0 := (hb2.cell (p := ⟨g, off, none⟩) hgl1).trans x0
  have y1 := (hb2.cell (p := ⟨g, off + 1, none⟩) hgl1).trans x1
  have e0 := (hb2.cell (p := ⟨D, 0, none⟩) hDl).trans d0
  have e1' := (hb2.cell (p := ⟨D, 1, none⟩) hDl).trans d1
  clear hb2 hB2 x0 x1 d0 d1 hgl1 hDl
  go_wp2
  go_ret2
  exact ⟨rfl, HB2.out⟩
set_option maxRecDepth 100000 in
set_option maxHeartbeats 8000000 in
theorem drop_a1n {w : World} (hgl : g < w.heap.size) (c0 : w.cell? ⟨g, off, none⟩ = some (.int .i64 (p0 : Int))) (c1 : w.cell? ⟨g, off + 1, none⟩ = some (.int .i64 (p1 : Int))) (h1n : 1 < n) (_ : n ≤ c) (_ : c ≤ 9223372036854775807) {b1 : Bool} (h0 : IsAt w S p0 0 false) (h1 : IsAt w S p1 0 b1) :
    Calls Tryz.prog 42 #[ptr S, .agg #[.int .i64 1, .int .i64 wid, .int .i64 fl, .slice A' n' c', .int .u32 imm], .slice (some ⟨g, off, none⟩) n c] w fun e w' => e = .returned (.tuple #[.int .i64 (p0 : Int), .bool b1]) ∧ Below w.heap.size w w' := by
  cases b1
  · go_enter Tryz.func42, Tryz.ntmps42
    go_upto_region 1 with fail
    have hx := heap_alloc_new w (.cells #[.int .i64 1, .int .i64 wid, .int .i64 fl, .slice A' n' c', .int .u32 imm] 38)
    have hbn : Below w.heap.size w (w.alloc (.cells #[.int .i64 1, .int .i64 wid, .int .i64 fl, .slice A' n' c', .int .u32 imm] 38)) := (Below.refl _ _).alloc (Nat.le_refl _) _
    generalize World.alloc w _ = W1 at hx hbn ⊢
    obtain ⟨d0, d1, d2, d3, d4⟩ := cells5 (x := ⟨1, wid, fl, [], imm⟩) hx
    simp only at d0 d1 d2 d3 d4
    have hDl := lt_of_block hx
    have HBN := Lib.hid hbn
    have HI0 := Lib.hid (h0.below hbn)
    have HI1 := Lib.hid (h1.below hbn)
    obtain ⟨D, hDE⟩ : ∃ D, w.heap.size = D := ⟨_, rfl⟩
    rw [hDE] at d0 d1 d2 d3 d4 hDl ⊢
    have hgl1 := Nat.lt_of_lt_of_le hgl hbn.size
    have x0 := (hbn.cell (p := ⟨g, off, none⟩) hgl).trans c0
    have x1 := (hbn.cell (p := ⟨g, off + 1, none⟩) hgl).trans c1
    clear hDE hx hbn d2 d3 d4
    go_wp2_with fail
    refine (HI0.out _ (Below.refl _ _)).mono ?_
    rintro e w2 ⟨rfl, hb2⟩
    have hB2 := HBN.out.trans (hb2.mono HBN.out.size)
    have HB2 := Lib.hid hB2
    have gl2 := Nat.lt_of_lt_of_le hgl1 hb2.size
    have Dl2 := Nat.lt_of_lt_of_le hDl hb2.size
    have y0 := (hb2.cell (p := ⟨g, off, none⟩) hgl1).trans x0
    have y1 := (hb2.cell (p := ⟨g, off + 1, none⟩) hgl1).trans x1
    have e0 := (hb2.cell (p := ⟨D, 0, none⟩) hDl).trans d0
    have e1' := (hb2.cell (p := ⟨D, 1, none⟩) hDl).trans d1
    have HI12 := Lib.hid (HI1.out.below hb2)
    clear hb2 hB2 x0 x1 d0 d1 hgl1 hDl
    go_upto_region 7 with fail
    refine wp_region_quiet_below (by kernel_rfl) (by kernel_rfl) ?_
    have Ty0 := cell_regrown y0
    have Ty1 := cell_regrown y1
    have Te0 := cell_regrown e0
    have HQ := Lib.hid (show ∀ (d : Nat) (os : Array Obj), Calls Tryz.prog 63 #[ptr S, .int .i64 (p1 : Int), .int .u32 0] (Sort.grow (redrawn w2 d) os) fun e w'' => e = .returned (.bool false) ∧ ∃ p : Regrown, w'' = Sort.grow (redrawn w2 p.d) p.os from fun d os => Calls.regrown_of (HI12.out _ (below_regrown w2 d os)))
    iterate 24 (go_big_quiet_step ((go_at_call 63; with_reducible exact HQ.out _ _)))
    refine wpQuiet_nil ?_
    intro _ hw'
    obtain ⟨⟨dq, osq⟩, hw''⟩ := hw'
    subst hw''
    have HB9 := Lib.hid (HB2.out.trans ((below_regrown w2 dq osq).mono HB2.out.size))
    generalize Sort.grow (redrawn w2 dq) osq = W9 at HB9 ⊢
    clear Ty0 Ty1 Te0 HQ
    go_wp2
    go_ret2
    exact ⟨rfl, HB9.out⟩
  · go_enter Tryz.func42, Tryz.ntmps42
    go_upto_region 1 with fail
    have hx := heap_alloc_new w (.cells #[.int .i64 1, .int .i64 wid, .int .i64 fl, .slice A' n' c', .int .u32 imm] 38)
    have hbn : Below w.heap.size w (w.alloc (.cells #[.int .i64 1, .int .i64 wid, .int .i64 fl, .slice A' n' c', .int .u32 imm] 38)) := (Below.refl _ _).alloc (Nat.le_refl _) _
    generalize World.alloc w _ = W1 at hx hbn ⊢
    obtain ⟨d0, d1, d2, d3, d4⟩ := cells5 (x := ⟨1, wid, fl, [], imm⟩) hx
    simp only at d0 d1 d2 d3 d4
    have hDl := lt_of_block hx
    have HBN := Lib.hid hbn
    have HI0 := Lib.hid (h0.below hbn)
    have HI1 := Lib.hid (h1.below hbn)
    obtain ⟨D, hDE⟩ : ∃ D, w.heap.size = D := ⟨_, rfl⟩
    rw [hDE] at d0 d1 d2 d3 d4 hDl ⊢
    have hgl1 := Nat.lt_of_lt_of_le hgl hbn.size
    have x0 := (hbn.cell (p := ⟨g, off, none⟩) hgl).trans c0
    have x1 := (hbn.cell (p := ⟨g, off + 1, none⟩) hgl).trans c1
    clear hDE hx hbn d2 d3 d4
    go_wp2_with fail
    refine (HI0.out _ (Below.refl _ _)).mono ?_
    rintro e w2 ⟨rfl, hb2⟩
    have hB2 := HBN.out.trans (hb2.mono HBN.out.size)
    have HB2 := Lib.hid hB2
    have gl2 := Nat.lt_of_lt_of_le hgl1 hb2.size
    have Dl2 := Nat.lt_of_lt_of_le hDl hb2.size
    have y0 := (hb2.cell (p := ⟨g, off, none⟩) hgl1).trans x0
    have y1 := (hb2.cell (p := ⟨g, off + 1, none⟩) hgl1).trans x1
    have e0 := (hb2.cell (p := ⟨D, 0, none⟩) hDl).trans d0
    have e1' := (hb2.cell (p := ⟨D, 1, none⟩) hDl).trans d1
    have HI12 := Lib.hid (HI1.out.below hb2)
    clear hb2 hB2 x0 x1 d0 d1 hgl1 hDl
    go_upto_region 7 with fail
    refine wp_region_quiet_below (by kernel_rfl) (by kernel_rfl) ?_
    have Ty0 := cell_regrown y0
    have Ty1 := cell_regrown y1
    have Te0 := cell_regrown e0
    have HQ := Lib.hid (show ∀ (d : Nat) (os : Array Obj), Calls Tryz.prog 63 #[ptr S, .int .i64 (p1 : Int), .int .u32 0] (Sort.grow (redrawn w2 d) os) fun e w'' => e = .returned (.bool true) ∧ ∃ p : Regrown, w'' = Sort.grow (redrawn w2 p.d) p.os from fun d os => Calls.regrown_of (HI12.out _ (below_regrown w2 d os)))
    iterate 24 (go_big_quiet_step ((go_at_call 63; with_reducible exact HQ.out _ _)))
    refine wpQuiet_nil ?_
    intro _ hw'
    obtain ⟨⟨dq, osq⟩, hw''⟩ := hw'
    subst hw''
    have HB9 := Lib.hid (HB2.out.trans ((below_regrown w2 dq osq).mono HB2.out.size))
    generalize Sort.grow (redrawn w2 dq) osq = W9 at HB9 ⊢
    clear Ty0 Ty1 Te0 HQ
    go_wp2
    go_ret2
    exact ⟨rfl, HB9.out⟩
set_option maxRecDepth 100000 in
set_option maxHeartbeats 8000000 in
theorem drop_a9y {w : World} (hgl : g < w.heap.size) (c0 : w.cell? ⟨g, off, none⟩ = some (.int .i64 (p0 : Int))) (c1 : w.cell? ⟨g, off + 1, none⟩ = some (.int .i64 (p1 : Int))) (h1n : 1 < n) (_ : n ≤ c) (_ : c ≤ 9223372036854775807) (h0 : IsAt w S p0 0 true) :
    Calls Tryz.prog 42 #[ptr S, .agg #[.int .i64 9, .int .i64 wid, .int .i64 fl, .slice A' n' c', .int .u32 imm], .slice (some ⟨g, off, none⟩) n c] w fun e w' => e = .returned (.tuple #[.int .i64 (p1 : Int), .bool true]) ∧ Below w.heap.size w w' := by
  go_enter Tryz.func42, Tryz.ntmps42
  go_upto_region 1 with fail
  have hx := heap_alloc_new w (.cells #[.int .i64 9, .int .i64 wid, .int .i64 fl, .slice A' n' c', .int .u32 imm] 38)
  have hbn : Below w.heap.size w (w.alloc (.cells #[.int .i64 9, .int .i64 wid, .int .i64 fl, .slice A' n' c', .int .u32 imm] 38)) := (Below.refl _ _).alloc (Nat.le_refl _) _
  generalize World.alloc w _ = W1 at hx hbn ⊢
  obtain ⟨d0, d1, d2, d3, d4⟩ := cells5 (x := ⟨9, wid, fl, [], imm⟩) hx
  simp only at d0 d1 d2 d3 d4
  have hDl := lt_of_block hx
  have HBN := Lib.hid hbn
  have HI0 := Lib.hid (h0.below hbn)
  obtain ⟨D, hDE⟩ : ∃ D, w.heap.size = D := ⟨_, rfl⟩
  rw [hDE] at d0 d1 d2 d3 d4 hDl ⊢
  have hgl1 := Nat.lt_of_lt_of_le hgl hbn.size
  have x0 := (hbn.cell (p := ⟨g, off, none⟩) hgl).trans c0
  have x1 := (hbn.cell (p := ⟨g, off + 1, none⟩) hgl).trans c1
  clear hDE hx hbn d2 d3 d4
  go_wp2_with fail
  refine (HI0.out _ (Below.refl _ _)).mono ?_
  rintro e w2 ⟨rfl, hb2⟩
  have hB2 := HBN.out.trans (hb2.mono HBN.out.size)
  have HB2 := Lib.hid hB2
  have gl2 := Nat.lt_of_lt_of_le hgl1 hb2.size
  have Dl2 := Nat.lt_of_lt_of_le hDl hb2.size
  have y0 := (hb2.cell (p := ⟨g, off, none⟩) hgl1).trans x0
  have y1 := (hb2.cell (p := ⟨g, off + 1, none⟩) hgl1).trans x1
  have e0 := (hb2.cell (p := ⟨D, 0, none⟩) hDl).trans d0
  have e1' := (hb2.cell (p := ⟨D, 1, none⟩) hDl).trans d1
  clear hb2 hB2 x0 x1 d0 d1 hgl1 hDl
  go_wp2
  go_ret2
  exact ⟨rfl, HB2.out⟩
set_option maxRecDepth 100000 in
set_option maxHeartbeats 8000000 in
theorem drop_a9n {w : World} (hgl : g < w.heap.size) (c0 : w.cell? ⟨g, off, none⟩ = some (.int .i64 (p0 : Int))) (c1 : w.cell? ⟨g, off + 1, none⟩ = some (.int .i64 (p1 : Int))) (h1n : 1 < n) (_ : n ≤ c) (_ : c ≤ 9223372036854775807) {b1 Z : Bool} (hZ : ((p0 : Int) == (p1 : Int)) = Z) (h0 : IsAt w S p0 0 false) (h1 : IsAt w S p1 0 b1) :
    Calls Tryz.prog 42 #[ptr S, .agg #[.int .i64 9, .int .i64 wid, .int .i64 fl, .slice A' n' c', .int .u32 imm], .slice (some ⟨g, off, none⟩) n c] w fun e w' => e = .returned (.tuple #[.int .i64 (p0 : Int), .bool (b1 || Z)]) ∧ Below w.heap.size w w' := by
  cases b1
  · go_enter Tryz.func42, Tryz.ntmps42
    go_upto_region 1 with fail
    have hx := heap_alloc_new w (.cells #[.int .i64 9, .int .i64 wid, .int .i64 fl, .slice A' n' c', .int .u32 imm] 38)
    have hbn : Below w.heap.size w (w.alloc (.cells #[.int .i64 9, .int .i64 wid, .int .i64 fl, .slice A' n' c', .int .u32 imm] 38)) := (Below.refl _ _).alloc (Nat.le_refl _) _
    generalize World.alloc w _ = W1 at hx hbn ⊢
    obtain ⟨d0, d1, d2, d3, d4⟩ := cells5 (x := ⟨9, wid, fl, [], imm⟩) hx
    simp only at d0 d1 d2 d3 d4
    have hDl := lt_of_block hx
    have HBN := Lib.hid hbn
    have HI0 := Lib.hid (h0.below hbn)
    have HI1 := Lib.hid (h1.below hbn)
    obtain ⟨D, hDE⟩ : ∃ D, w.heap.size = D := ⟨_, rfl⟩
    rw [hDE] at d0 d1 d2 d3 d4 hDl ⊢
    have hgl1 := Nat.lt_of_lt_of_le hgl hbn.size
    have x0 := (hbn.cell (p := ⟨g, off, none⟩) hgl).trans c0
    have x1 := (hbn.cell (p := ⟨g, off + 1, none⟩) hgl).trans c1
    clear hDE hx hbn d2 d3 d4
    go_wp2_with fail
    refine (HI0.out _ (Below.refl _ _)).mono ?_
    rintro e w2 ⟨rfl, hb2⟩
    have hB2 := HBN.out.trans (hb2.mono HBN.out.size)
    have HB2 := Lib.hid hB2
    have gl2 := Nat.lt_of_lt_of_le hgl1 hb2.size
    have Dl2 := Nat.lt_of_lt_of_le hDl hb2.size
    have y0 := (hb2.cell (p := ⟨g, off, none⟩) hgl1).trans x0
    have y1 := (hb2.cell (p := ⟨g, off + 1, none⟩) hgl1).trans x1
    have e0 := (hb2.cell (p := ⟨D, 0, none⟩) hDl).trans d0
    have e1' := (hb2.cell (p := ⟨D, 1, none⟩) hDl).trans d1
    have HI12 := Lib.hid (HI1.out.below hb2)
    clear hb2 hB2 x0 x1 d0 d1 hgl1 hDl
    go_upto_region 7 with fail
    refine wp_region_quiet_below (by kernel_rfl) (by kernel_rfl) ?_
    have Ty0 := cell_regrown y0
    have Ty1 := cell_regrown y1
    have Te0 := cell_regrown e0
    have HQ := Lib.hid (show ∀ (d : Nat) (os : Array Obj), Calls Tryz.prog 63 #[ptr S, .int .i64 (p1 : Int), .int .u32 0] (Sort.grow (redrawn w2 d) os) fun e w'' => e = .returned (.bool false) ∧ ∃ p : Regrown, w'' = Sort.grow (redrawn w2 p.d) p.os from fun d os => Calls.regrown_of (HI12.out _ (below_regrown w2 d os)))
    iterate 24 (go_big_quiet_step ((go_at_call 63; with_reducible exact HQ.out _ _)))
    refine wpQuiet_nil ?_
    intro _ hw'
    obtain ⟨⟨dq, osq⟩, hw''⟩ := hw'
    subst hw''
    have HB9 := Lib.hid (HB2.out.trans ((below_regrown w2 dq osq).mono HB2.out.size))
    generalize Sort.grow (redrawn w2 dq) osq = W9 at HB9 ⊢
    clear Ty0 Ty1 Te0 HQ
    go_wp2
    go_ret2
    exact ⟨rfl, HB9.out⟩
  · go_enter Tryz.func42, Tryz.ntmps42
    go_upto_region 1 with fail
    have hx := heap_alloc_new w (.cells #[.int .i64 9, .int .i64 wid, .int .i64 fl, .slice A' n' c', .int .u32 imm] 38)
    have hbn : Below w.heap.size w (w.alloc (.cells #[.int .i64 9, .int .i64 wid, .int .i64 fl, .slice A' n' c', .int .u32 imm] 38)) := (Below.refl _ _).alloc (Nat.le_refl _) _
    generalize World.alloc w _ = W1 at hx hbn ⊢
    obtain ⟨d0, d1, d2, d3, d4⟩ := cells5 (x := ⟨9, wid, fl, [], imm⟩) hx
    simp only at d0 d1 d2 d3 d4
    have hDl := lt_of_block hx
    have HBN := Lib.hid hbn
    have HI0 := Lib.hid (h0.below hbn)
    have HI1 := Lib.hid (h1.below hbn)
    obtain ⟨D, hDE⟩ : ∃ D, w.heap.size = D := ⟨_, rfl⟩
    rw [hDE] at d0 d1 d2 d3 d4 hDl ⊢
    have hgl1 := Nat.lt_of_lt_of_le hgl hbn.size
    have x0 := (hbn.cell (p := ⟨g, off, none⟩) hgl).trans c0
    have x1 := (hbn.cell (p := ⟨g, off + 1, none⟩) hgl).trans c1
    clear hDE hx hbn d2 d3 d4
    go_wp2_with fail
    refine (HI0.out _ (Below.refl _ _)).mono ?_
    rintro e w2 ⟨rfl, hb2⟩
    have hB2 := HBN.out.trans (hb2.mono HBN.out.size)
    have HB2 := Lib.hid hB2
    have gl2 := Nat.lt_of_lt_of_le hgl1 hb2.size
    have Dl2 := Nat.lt_of_lt_of_le hDl hb2.size
    have y0 := (hb2.cell (p := ⟨g, off, none⟩) hgl1).trans x0
    have y1 := (hb2.cell (p := ⟨g, off + 1, none⟩) hgl1).trans x1
    have e0 := (hb2.cell (p := ⟨D, 0, none⟩) hDl).trans d0
    have e1' := (hb2.cell (p := ⟨D, 1, none⟩) hDl).trans d1
    have HI12 := Lib.hid (HI1.out.below hb2)
    clear hb2 hB2 x0 x1 d0 d1 hgl1 hDl
    go_upto_region 7 with fail
    refine wp_region_quiet_below (by kernel_rfl) (by kernel_rfl) ?_
    have Ty0 := cell_regrown y0
    have Ty1 := cell_regrown y1
    have Te0 := cell_regrown e0
    have HQ := Lib.hid (show ∀ (d : Nat) (os : Array Obj), Calls Tryz.prog 63 #[ptr S, .int .i64 (p1 : Int), .int .u32 0] (Sort.grow (redrawn w2 d) os) fun e w'' => e = .returned (.bool true) ∧ ∃ p : Regrown, w'' = Sort.grow (redrawn w2 p.d) p.os from fun d os => Calls.regrown_of (HI12.out _ (below_regrown w2 d os)))
    iterate 24 (go_big_quiet_step ((go_at_call 63; with_reducible exact HQ.out _ _)))
    refine wpQuiet_nil ?_
    intro _ hw'
    obtain ⟨⟨dq, osq⟩, hw''⟩ := hw'
    subst hw''
    have HB9 := Lib.hid (HB2.out.trans ((below_regrown w2 dq osq).mono HB2.out.size))
    generalize Sort.grow (redrawn w2 dq) osq = W9 at HB9 ⊢
    clear Ty0 Ty1 Te0 HQ
    go_wp2
    go_ret2
    exact ⟨rfl, HB9.out⟩
set_option maxRecDepth 100000 in
set_option maxHeartbeats 8000000 in
theorem drop_a10y {w : World} (hgl : g < w.heap.size) (c0 : w.cell? ⟨g, off, none⟩ = some (.int .i64 (p0 : Int))) (c1 : w.cell? ⟨g, off + 1, none⟩ = some (.int .i64 (p1 : Int))) (h1n : 1 < n) (_ : n ≤ c) (_ : c ≤ 9223372036854775807) (h0 : IsAt w S p0 0 true) :
    Calls Tryz.prog 42 #[ptr S, .agg #[.int .i64 10, .int .i64 wid, .int .i64 fl, .slice A' n' c', .int .u32 imm], .slice (some ⟨g, off, none⟩) n c] w fun e w' => e = .returned (.tuple #[.int .i64 (p1 : Int), .bool true]) ∧ Below w.heap.size w w' := by
  go_enter Tryz.func42, Tryz.ntmps42
  go_upto_region 1 with fail
  have hx := heap_alloc_new w (.cells #[.int .i64 10, .int .i64 wid, .int .i64 fl, .slice A' n' c', .int .u32 imm] 38)
  have hbn : Below w.heap.size w (w.alloc (.cells #[.int .i64 10, .int .i64 wid, .int .i64 fl, .slice A' n' c', .int .u32 imm] 38)) := (Below.refl _ _).alloc (Nat.le_refl _) _
  generalize World.alloc w _ = W1 at hx hbn ⊢
  obtain ⟨d0, d1, d2, d3, d4⟩ := cells5 (x := ⟨10, wid, fl, [], imm⟩) hx
  simp only at d0 d1 d2 d3 d4
  have hDl := lt_of_block hx
  have HBN := Lib.hid hbn
  have HI0 := Lib.hid (h0.below hbn)
  obtain ⟨D, hDE⟩ : ∃ D, w.heap.size = D := ⟨_, rfl⟩
  rw [hDE] at d0 d1 d2 d3 d4 hDl ⊢
  have hgl1 := Nat.lt_of_lt_of_le hgl hbn.size
  have x0 := (hbn.cell (p := ⟨g, off, none⟩) hgl).trans c0
  have x1 := (hbn.cell (p := ⟨g, off + 1, none⟩) hgl).trans c1
  clear hDE hx hbn d2 d3 d4
  go_wp2_with fail
  refine (HI0.out _ (Below.refl _ _)).mono ?_
  rintro e w2 ⟨rfl, hb2⟩
  have hB2 := HBN.out.trans (hb2.mono HBN.out.size)
  have HB2 := Lib.hid hB2
  have gl2 := Nat.lt_of_lt_of_le hgl1 hb2.size
  have Dl2 := Nat.lt_of_lt_of_le hDl hb2.size
  have y0 := (hb2.cell (p := ⟨g, off, none⟩) hgl1).trans x0
  have y1 := (hb2.cell (p := ⟨g, off + 1, none⟩) hgl1).trans x1
  have e0 := (hb2.cell (p := ⟨D, 0, none⟩) hDl).trans d0
  have e1' := (hb2.cell (p := ⟨D, 1, none⟩) hDl).trans d1
  clear hb2 hB2 x0 x1 d0 d1 hgl1 hDl
  go_wp2
  go_ret2
  exact ⟨rfl, HB2.out⟩
set_option maxRecDepth 100000 in
set_option maxHeartbeats 8000000 in
theorem drop_a10n {w : World} (hgl : g < w.heap.size) (c0 : w.cell? ⟨g, off, none⟩ = some (.int .i64 (p0 : Int))) (c1 : w.cell? ⟨g, off + 1, none⟩ = some (.int .i64 (p1 : Int))) (h1n : 1 < n) (_ : n ≤ c) (_ : c ≤ 9223372036854775807) {b1 : Bool} (h0 : IsAt w S p0 0 false) (h1 : IsAt w S p1 0 b1) :
    Calls Tryz.prog 42 #[ptr S, .agg #[.int .i64 10, .int .i64 wid, .int .i64 fl, .slice A' n' c', .int .u32 imm], .slice (some ⟨g, off, none⟩) n c] w fun e w' => e = .returned (.tuple #[.int .i64 (p0 : Int), .bool b1]) ∧ Below w.heap.size w w' := by
  cases b1
  · go_enter Tryz.func42, Tryz.ntmps42
    go_upto_region 1 with fail
    have hx := heap_alloc_new w (.cells #[.int .i64 10, .int .i64 wid, .int .i64 fl, .slice A' n' c', .int .u32 imm] 38)
    have hbn : Below w.heap.size w (w.alloc (.cells #[.int .i64 10, .int .i64 wid, .int .i64 fl, .slice A' n' c', .int .u32 imm] 38)) := (Below.refl _ _).alloc (Nat.le_refl _) _
    generalize World.alloc w _ = W1 at hx hbn ⊢
    obtain ⟨d0, d1, d2, d3, d4⟩ := cells5 (x := ⟨10, wid, fl, [], imm⟩) hx
    simp only at d0 d1 d2 d3 d4
    have hDl := lt_of_block hx
    have HBN := Lib.hid hbn
    have HI0 := Lib.hid (h0.below hbn)
    have HI1 := Lib.hid (h1.below hbn)
    obtain ⟨D, hDE⟩ : ∃ D, w.heap.size = D := ⟨_, rfl⟩
    rw [hDE] at d0 d1 d2 d3 d4 hDl ⊢
    have hgl1 := Nat.lt_of_lt_of_le hgl hbn.size
    have x0 := (hbn.cell (p := ⟨g, off, none⟩) hgl).trans c0
    have x1 := (hbn.cell (p := ⟨g, off + 1, none⟩) hgl).trans c1
    clear hDE hx hbn d2 d3 d4
    go_wp2_with fail
    refine (HI0.out _ (Below.refl _ _)).mono ?_
    rintro e w2 ⟨rfl, hb2⟩
    have hB2 := HBN.out.trans (hb2.mono HBN.out.size)
    have HB2 := Lib.hid hB2
    have gl2 := Nat.lt_of_lt_of_le hgl1 hb2.size
    have Dl2 := Nat.lt_of_lt_of_le hDl hb2.size
    have y0 := (hb2.cell (p := ⟨g, off, none⟩) hgl1).trans x0
    have y1 := (hb2.cell (p := ⟨g, off + 1, none⟩) hgl1).trans x1
    have e0 := (hb2.cell (p := ⟨D, 0, none⟩) hDl).trans d0
    have e1' := (hb2.cell (p := ⟨D, 1, none⟩) hDl).trans d1
    have HI12 := Lib.hid (HI1.out.below hb2)
    clear hb2 hB2 x0 x1 d0 d1 hgl1 hDl
    go_upto_region 7 with fail
    refine wp_region_quiet_below (by kernel_rfl) (by kernel_rfl) ?_
    have Ty0 := cell_regrown y0
    have Ty1 := cell_regrown y1
    have Te0 := cell_regrown e0
    have HQ := Lib.hid (show ∀ (d : Nat) (os : Array Obj), Calls Tryz.prog 63 #[ptr S, .int .i64 (p1 : Int), .int .u32 0] (Sort.grow (redrawn w2 d) os) fun e w'' => e = .returned (.bool false) ∧ ∃ p : Regrown, w'' = Sort.grow (redrawn w2 p.d) p.os from fun d os => Calls.regrown_of (HI12.out _ (below_regrown w2 d os)))
    iterate 24 (go_big_quiet_step ((go_at_call 63; with_reducible exact HQ.out _ _)))
    refine wpQuiet_nil ?_
    intro _ hw'
    obtain ⟨⟨dq, osq⟩, hw''⟩ := hw'
    subst hw''
    have HB9 := Lib.hid (HB2.out.trans ((below_regrown w2 dq osq).mono HB2.out.size))
    generalize Sort.grow (redrawn w2 dq) osq = W9 at HB9 ⊢
    clear Ty0 Ty1 Te0 HQ
    go_wp2
    go_ret2
    exact ⟨rfl, HB9.out⟩
  · go_enter Tryz.func42, Tryz.ntmps42
    go_upto_region 1 with fail
    have hx := heap_alloc_new w (.cells #[.int .i64 10, .int .i64 wid, .int .i64 fl, .slice A' n' c', .int .u32 imm] 38)
    have hbn : Below w.heap.size w (w.alloc (.cells #[.int .i64 10, .int .i64 wid, .int .i64 fl, .slice A' n' c', .int .u32 imm] 38)) := (Below.refl _ _).alloc (Nat.le_refl _) _
    generalize World.alloc w _ = W1 at hx hbn ⊢
    obtain ⟨d0, d1, d2, d3, d4⟩ := cells5 (x := ⟨10, wid, fl, [], imm⟩) hx
    simp only at d0 d1 d2 d3 d4
    have hDl := lt_of_block hx
    have HBN := Lib.hid hbn
    have HI0 := Lib.hid (h0.below hbn)
    have HI1 := Lib.hid (h1.below hbn)
    obtain ⟨D, hDE⟩ : ∃ D, w.heap.size = D := ⟨_, rfl⟩
    rw [hDE] at d0 d1 d2 d3 d4 hDl ⊢
    have hgl1 := Nat.lt_of_lt_of_le hgl hbn.size
    have x0 := (hbn.cell (p := ⟨g, off, none⟩) hgl).trans c0
    have x1 := (hbn.cell (p := ⟨g, off + 1, none⟩) hgl).trans c1
    clear hDE hx hbn d2 d3 d4
    go_wp2_with fail
    refine (HI0.out _ (Below.refl _ _)).mono ?_
    rintro e w2 ⟨rfl, hb2⟩
    have hB2 := HBN.out.trans (hb2.mono HBN.out.size)
    have HB2 := Lib.hid hB2
    have gl2 := Nat.lt_of_lt_of_le hgl1 hb2.size
    have Dl2 := Nat.lt_of_lt_of_le hDl hb2.size
    have y0 := (hb2.cell (p := ⟨g, off, none⟩) hgl1).trans x0
    have y1 := (hb2.cell (p := ⟨g, off + 1, none⟩) hgl1).trans x1
    have e0 := (hb2.cell (p := ⟨D, 0, none⟩) hDl).trans d0
    have e1' := (hb2.cell (p := ⟨D, 1, none⟩) hDl).trans d1
    have HI12 := Lib.hid (HI1.out.below hb2)
    clear hb2 hB2 x0 x1 d0 d1 hgl1 hDl
    go_upto_region 7 with fail
    refine wp_region_quiet_below (by kernel_rfl) (by kernel_rfl) ?_
    have Ty0 := cell_regrown y0
    have Ty1 := cell_regrown y1
    have Te0 := cell_regrown e0
    have HQ := Lib.hid (show ∀ (d : Nat) (os : Array Obj), Calls Tryz.prog 63 #[ptr S, .int .i64 (p1 : Int), .int .u32 0] (Sort.grow (redrawn w2 d) os) fun e w'' => e = .returned (.bool true) ∧ ∃ p : Regrown, w'' = Sort.grow (redrawn w2 p.d) p.os from fun d os => Calls.regrown_of (HI12.out _ (below_regrown w2 d os)))
    iterate 24 (go_big_quiet_step ((go_at_call 63; with_reducible exact HQ.out _ _)))
    refine wpQuiet_nil ?_
    intro _ hw'
    obtain ⟨⟨dq, osq⟩, hw''⟩ := hw'
    subst hw''
    have HB9 := Lib.hid (HB2.out.trans ((below_regrown w2 dq osq).mono HB2.out.size))
    generalize Sort.grow (redrawn w2 dq) osq = W9 at HB9 ⊢
    clear Ty0 Ty1 Te0 HQ
    go_wp2
    go_ret2
    exact ⟨rfl, HB9.out⟩
set_option maxRecDepth 100000 in
set_option maxHeartbeats 8000000 in
theorem drop_c_y {w : World} (hgl : g < w.heap.size) (c0 : w.cell? ⟨g, off, none⟩ = some (.int .i64 (p0 : Int))) (c1 : w.cell? ⟨g, off + 1, none⟩ = some (.int .i64 (p1 : Int))) (h1n : 1 < n) (_ : n ≤ c) (_ : c ≤ 9223372036854775807) (h0 : IsAt w S p0 1 true) :
    Calls Tryz.prog 42 #[ptr S, .agg #[.int .i64 3, .int .i64 wid, .int .i64 fl, .slice A' n' c', .int .u32 imm], .slice (some ⟨g, off, none⟩) n c] w fun e w' => e = .returned (.tuple #[.int .i64 (p1 : Int), .bool true]) ∧ Below w.heap.size w w' := by
  go_enter Tryz.func42, Tryz.ntmps42
  go_upto_region 1 with fail
  have hx := heap_alloc_new w (.cells #[.int .i64 3, .int .i64 wid, .int .i64 fl, .slice A' n' c', .int .u32 imm] 38)
  have hbn : Below w.heap.size w (w.alloc (.cells #[.int .i64 3, .int .i64 wid, .int .i64 fl, .slice A' n' c', .int .u32 imm] 38)) := (Below.refl _ _).alloc (Nat.le_refl _) _
  generalize World.alloc w _ = W1 at hx hbn ⊢
  obtain ⟨d0, d1, d2, d3, d4⟩ := cells5 (x := ⟨3, wid, fl, [], imm⟩) hx
  simp only at d0 d1 d2 d3 d4
  have hDl := lt_of_block hx
  have HBN := Lib.hid hbn
  have HI0 := Lib.hid (h0.below hbn)
  obtain ⟨D, hDE⟩ : ∃ D, w.heap.size = D := ⟨_, rfl⟩
  rw [hDE] at d0 d1 d2 d3 d4 hDl ⊢
  have hgl1 := Nat.lt_of_lt_of_le hgl hbn.size
  have x0 := (hbn.cell (p := ⟨g, off, none⟩) hgl).trans c0
  have x1 := (hbn.cell (p := ⟨g, off + 1, none⟩) hgl).trans c1
  clear hDE hx hbn d2 d3 d4
  go_wp2_with fail
  refine (HI0.out _ (Below.refl _ _)).mono ?_
  rintro e w2 ⟨rfl, hb2⟩
  have hB2 := HBN.out.trans (hb2.mono HBN.out.size)
  have HB2 := Lib.hid hB2
  have gl2 := Nat.lt_of_lt_of_le hgl1 hb2.size
  have Dl2 := Nat.lt_of_lt_of_le hDl hb2.size
  have y0 := (hb2.cell (p := ⟨g, off, none⟩) hgl1).trans x0
  have y1 := (hb2.cell (p := ⟨g, off + 1, none⟩) hgl1).trans x1
  have e0 := (hb2.cell (p := ⟨D, 0, none⟩) hDl).trans d0
  have e1' := (hb2.cell (p := ⟨D, 1, none⟩) hDl).trans d1
  clear hb2 hB2 x0 x1 d0 d1 hgl1 hDl
  go_wp2
  go_ret2
  exact ⟨rfl, HB2.out⟩
set_option maxRecDepth 100000 in
set_option maxHeartbeats 8000000 in
theorem drop_c_n {w : World} (hgl : g < w.heap.size) (c0 : w.cell? ⟨g, off, none⟩ = some (.int .i64 (p0 : Int))) (c1 : w.cell? ⟨g, off + 1, none⟩ = some (.int .i64 (p1 : Int))) (h1n : 1 < n) (_ : n ≤ c) (_ : c ≤ 9223372036854775807) {b1 : Bool} (h0 : IsAt w S p0 1 false) (h1 : IsAt w S p1 1 b1) :
    Calls Tryz.prog 42 #[ptr S, .agg #[.int .i64 3, .int .i64 wid, .int .i64 fl, .slice A' n' c', .int .u32 imm], .slice (some ⟨g, off, none⟩) n c] w fun e w' => e = .returned (.tuple #[.int .i64 (p0 : Int), .bool b1]) ∧ Below w.heap.size w w' := by
  go_enter Tryz.func42, Tryz.ntmps42
  go_upto_region 1 with fail
  have hx := heap_alloc_new w (.cells #[.int .i64 3, .int .i64 wid, .int .i64 fl, .slice A' n' c', .int .u32 imm] 38)
  have hbn : Below w.heap.size w (w.alloc (.cells #[.int .i64 3, .int .i64 wid, .int .i64 fl, .slice A' n' c', .int .u32 imm] 38)) := (Below.refl _ _).alloc (Nat.le_refl _) _
  generalize World.alloc w _ = W1 at hx hbn ⊢
  obtain ⟨d0, d1, d2, d3, d4⟩ := cells5 (x := ⟨3, wid, fl, [], imm⟩) hx
  simp only at d0 d1 d2 d3 d4
  have hDl := lt_of_block hx
  have HBN := Lib.hid hbn
  have HI0 := Lib.hid (h0.below hbn)
  have HI1 := Lib.hid (h1.below hbn)
  obtain ⟨D, hDE⟩ : ∃ D, w.heap.size = D := ⟨_, rfl⟩
  rw [hDE] at d0 d1 d2 d3 d4 hDl ⊢
  have hgl1 := Nat.lt_of_lt_of_le hgl hbn.size
  have x0 := (hbn.cell (p := ⟨g, off, none⟩) hgl).trans c0
  have x1 := (hbn.cell (p := ⟨g, off + 1, none⟩) hgl).trans c1
  clear hDE hx hbn d2 d3 d4
  go_wp2_with fail
  refine (HI0.out _ (Below.refl _ _)).mono ?_
  rintro e w2 ⟨rfl, hb2⟩
  have hB2 := HBN.out.trans (hb2.mono HBN.out.size)
  have HB2 := Lib.hid hB2
  have gl2 := Nat.lt_of_lt_of_le hgl1 hb2.size
  have Dl2 := Nat.lt_of_lt_of_le hDl hb2.size
  have y0 := (hb2.cell (p := ⟨g, off, none⟩) hgl1).trans x0
  have y1 := (hb2.cell (p := ⟨g, off + 1, none⟩) hgl1).trans x1
  have e0 := (hb2.cell (p := ⟨D, 0, none⟩) hDl).trans d0
  have e1' := (hb2.cell (p := ⟨D, 1, none⟩) hDl).trans d1
  have HI12 := Lib.hid (HI1.out.below hb2)
  clear hb2 hB2 x0 x1 d0 d1 hgl1 hDl
  go_upto_region 16 with fail
  refine wp_region_quiet_below (by kernel_rfl) (by kernel_rfl) ?_
  have Ty0 := cell_regrown y0
  have Ty1 := cell_regrown y1
  have HQ := Lib.hid (show ∀ (d : Nat) (os : Array Obj), Calls Tryz.prog 63 #[ptr S, .int .i64 (p1 : Int), .int .u32 1] (Sort.grow (redrawn w2 d) os) fun e w'' => e = .returned (.bool b1) ∧ ∃ p : Regrown, w'' = Sort.grow (redrawn w2 p.d) p.os from fun d os => Calls.regrown_of (HI12.out _ (below_regrown w2 d os)))
  iterate 10 (go_big_quiet_step ((go_at_call 63; with_reducible exact HQ.out _ _)))
  refine wpQuiet_nil ?_
  intro _ hw'
  obtain ⟨⟨dq, osq⟩, hw''⟩ := hw'
  subst hw''
  have HB9 := Lib.hid (HB2.out.trans ((below_regrown w2 dq osq).mono HB2.out.size))
  generalize Sort.grow (redrawn w2 dq) osq = W9 at HB9 ⊢
  clear Ty0 Ty1 HQ
  go_wp2
  go_ret2
  exact ⟨rfl, HB9.out⟩
set_option maxRecDepth 100000 in
set_option maxHeartbeats 8000000 in
theorem drop_d {w : World} (hgl : g < w.heap.size) (c0 : w.cell? ⟨g, off, none⟩ = some (.int .i64 (p0 : Int))) (c1 : w.cell? ⟨g, off + 1, none⟩ = some (.int .i64 (p1 : Int))) (h1n : 1 < n) (_ : n ≤ c) (_ : c ≤ 9223372036854775807) {b1 : Bool} (h1 : IsAt w S p1 1 b1) :
    Calls Tryz.prog 42 #[ptr S, .agg #[.int .i64 4, .int .i64 wid, .int .i64 fl, .slice A' n' c', .int .u32 imm], .slice (some ⟨g, off, none⟩) n c] w fun e w' => e = .returned (.tuple #[.int .i64 (p0 : Int), .bool b1]) ∧ Below w.heap.size w w' := by
  go_enter Tryz.func42, Tryz.ntmps42
  go_upto_region 1 with fail
  have hx := heap_alloc_new w (.cells #[.int .i64 4, .int .i64 wid, .int .i64 fl, .slice A' n' c', .int .u32 imm] 38)
  have hbn : Below w.heap.size w (w.alloc (.cells #[.int .i64 4, .int .i64 wid, .int .i64 fl, .slice A' n' c', .int .u32 imm] 38)) := (Below.refl _ _).alloc (Nat.le_refl _) _
  generalize World.alloc w _ = W1 at hx hbn ⊢
  obtain ⟨d0, d1, d2, d3, d4⟩ := cells5 (x := ⟨4, wid, fl, [], imm⟩) hx
  simp only at d0 d1 d2 d3 d4
  have hDl := lt_of_block hx
  have HBN := Lib.hid hbn
  have HI1 := Lib.hid (h1.below hbn)
  obtain ⟨D, hDE⟩ : ∃ D, w.heap.size = D := ⟨_, rfl⟩
  rw [hDE] at d0 d1 d2 d3 d4 hDl ⊢
  have hgl1 := Nat.lt_of_lt_of_le hgl hbn.size
  have x0 := (hbn.cell (p := ⟨g, off, none⟩) hgl).trans c0
  have x1 := (hbn.cell (p := ⟨g, off + 1, none⟩) hgl).trans c1
  clear hDE hx hbn d2 d3 d4
  go_upto_region 18 with fail
  refine wp_region_quiet_below (by kernel_rfl) (by kernel_rfl) ?_
  have Tx0 := cell_regrown x0
  have Tx1 := cell_regrown x1
  have HQ := Lib.hid (show ∀ (d : Nat) (os : Array Obj), Calls Tryz.prog 63 #[ptr S, .int .i64 (p1 : Int), .int .u32 1] (Sort.grow (redrawn W1 d) os) fun e w'' => e = .returned (.bool b1) ∧ ∃ p : Regrown, w'' = Sort.grow (redrawn W1 p.d) p.os from fun d os => Calls.regrown_of (HI1.out _ (below_regrown W1 d os)))
  iterate 10 (go_big_quiet_step ((go_at_call 63; with_reducible exact HQ.out _ _)))
  refine wpQuiet_nil ?_
  intro _ hw'
  obtain ⟨⟨dq, osq⟩, hw''⟩ := hw'
  subst hw''
  have HB9 := Lib.hid (HBN.out.trans ((below_regrown W1 dq osq).mono HBN.out.size))
  generalize Sort.grow (redrawn W1 dq) osq = W9 at HB9 ⊢
  clear Tx0 Tx1 HQ
  go_wp2
  go_ret2
  exact ⟨rfl, HB9.out⟩
set_option maxRecDepth 100000 in
set_option maxHeartbeats 8000000 in
theorem drop_g {w : World} {op : Int} {A : Option Addr} (e1 : (op == 1) = false) (e9 : (op == 9) = false) (e10 : (op == 10) = false) (e2 : (op == 2) = false) (e11 : (op == 11) = false) (e12 : (op == 12) = false) (e13 : (op == 13) = false) (e3 : (op == 3) = false) (e4 : (op == 4) = false) (e8 : (op == 8) = false) (e15 : (op == 15) = false) :
    Calls Tryz.prog 42 #[ptr S, .agg #[.int .i64 op, .int .i64 wid, .int .i64 fl, .slice A' n' c', .int .u32 imm], .slice A n c] w fun e w' => e = .returned (.tuple #[.int .i64 0, .bool false]) ∧ Below w.heap.size w w' := by
  go_enter Tryz.func42, Tryz.ntmps42
  go_upto_region 1 with fail
  have hx := heap_alloc_new w (.cells #[.int .i64 op, .int .i64 wid, .int .i64 fl, .slice A' n' c', .int .u32 imm] 38)
  have hbn : Below w.heap.size w (w.alloc (.cells #[.int .i64 op, .int .i64 wid, .int .i64 fl, .slice A' n' c', .int .u32 imm] 38)) := (Below.refl _ _).alloc (Nat.le_refl _) _
  generalize World.alloc w _ = W1 at hx hbn ⊢
  obtain ⟨d0, d1, d2, d3, d4⟩ := cells5 (x := ⟨op, wid, fl, [], imm⟩) hx
  simp only at d0 d1 d2 d3 d4
  have hDl := lt_of_block hx
  have HBN := Lib.hid hbn

  obtain ⟨D, hDE⟩ : ∃ D, w.heap.size = D := ⟨_, rfl⟩
  rw [hDE] at d0 d1 d2 d3 d4 hDl ⊢
  clear hDE hx hbn d2 d3 d4
  have HB9 := HBN
  go_wp2
  go_ret2
  exact ⟨rfl, HB9.out⟩
set_option maxRecDepth 100000 in
set_option maxHeartbeats 8000000 in
theorem drop_e_y {w : World} (hgl : g < w.heap.size) (c0 : w.cell? ⟨g, off, none⟩ = some (.int .i64 (p0 : Int))) (c1 : w.cell? ⟨g, off + 1, none⟩ = some (.int .i64 (p1 : Int))) (h1n : 1 < n) (_ : n ≤ c) (_ : c ≤ 9223372036854775807) {wd al : Nat} (hwd : 1 ≤ wd ∧ wd ≤ 32) (hw : wid = (wd : Int)) (hal : ((2 : Int) ^ wd % 4294967296 - 1) % 4294967296 = (al : Int)) (h0 : IsAt w S p0 (al : Int) true) :
    Calls Tryz.prog 42 #[ptr S, .agg #[.int .i64 8, .int .i64 wid, .int .i64 fl, .slice A' n' c', .int .u32 imm], .slice (some ⟨g, off, none⟩) n c] w fun e w' => e = .returned (.tuple #[.int .i64 (p1 : Int), .bool true]) ∧ Below w.heap.size w w' := by
  subst hw
  have HAL := Lib.hid hal
  clear hal
  go_enter Tryz.func42, Tryz.ntmps42
  go_upto_region 1 with fail
  have hx := heap_alloc_new w (.cells #[.int .i64 8, .int .i64 (wd : Int), .int .i64 fl, .slice A' n' c', .int .u32 imm] 38)
  have hbn : Below w.heap.size w (w.alloc (.cells #[.int .i64 8, .int .i64 (wd : Int), .int .i64 fl, .slice A' n' c', .int .u32 imm] 38)) := (Below.refl _ _).alloc (Nat.le_refl _) _
  generalize World.alloc w _ = W1 at hx hbn ⊢
  obtain ⟨d0, d1, d2, d3, d4⟩ := cells5 (x := ⟨8, (wd : Int), fl, [], imm⟩) hx
  simp only at d0 d1 d2 d3 d4
  have hDl := lt_of_block hx
  have HBN := Lib.hid hbn
  have HI0 := Lib.hid (h0.below hbn)
  obtain ⟨D, hDE⟩ : ∃ D, w.heap.size = D := ⟨_, rfl⟩
  rw [hDE] at d0 d1 d2 d3 d4 hDl ⊢
  have hgl1 := Nat.lt_of_lt_of_le hgl hbn.size
  have x0 := (hbn.cell (p := ⟨g, off, none⟩) hgl).trans c0
  have x1 := (hbn.cell (p := ⟨g, off + 1, none⟩) hgl).trans c1
  clear hDE hx hbn d2 d3 d4
  go_upto_region 21 with fail
  rw [HAL.out]
  go_wp2_with fail
  refine (HI0.out _ (Below.refl _ _)).mono ?_
  rintro e w2 ⟨rfl, hb2⟩
  have hB2 := HBN.out.trans (hb2.mono HBN.out.size)
  have HB2 := Lib.hid hB2
  have gl2 := Nat.lt_of_lt_of_le hgl1 hb2.size
  have Dl2 := Nat.lt_of_lt_of_le hDl hb2.size
  have y0 := (hb2.cell (p := ⟨g, off, none⟩) hgl1).trans x0
  have y1 := (hb2.cell (p := ⟨g, off + 1, none⟩) hgl1).trans x1
  have e0 := (hb2.cell (p := ⟨D, 0, none⟩) hDl).trans d0
  have e1' := (hb2.cell (p := ⟨D, 1, none⟩) hDl).trans d1
  clear hb2 hB2 x0 x1 d0 d1 hgl1 hDl
  go_wp2
  go_ret2
  exact ⟨rfl, HB2.out⟩
set_option maxRecDepth 100000 in
set_option maxHeartbeats 8000000 in
theorem drop_e_n {w : World} (hgl : g < w.heap.size) (c0 : w.cell? ⟨g, off, none⟩ = some (.int .i64 (p0 : Int))) (c1 : w.cell? ⟨g, off + 1, none⟩ = some (.int .i64 (p1 : Int))) (h1n : 1 < n) (_ : n ≤ c) (_ : c ≤ 9223372036854775807) {wd al : Nat} (hwd : 1 ≤ wd ∧ wd ≤ 32) (hw : wid = (wd : Int)) (hal : ((2 : Int) ^ wd % 4294967296 - 1) % 4294967296 = (al : Int)) {b1 Z : Bool} (hZ : ((p0 : Int) == (p1 : Int)) = Z) (h0 : IsAt w S p0 (al : Int) false) (h1 : IsAt w S p1 (al : Int) b1) :
    Calls Tryz.prog 42 #[ptr S, .agg #[.int .i64 8, .int .i64 wid, .int .i64 fl, .slice A' n' c', .int .u32 imm], .slice (some ⟨g, off, none⟩) n c] w fun e w' => e = .returned (.tuple #[.int .i64 (p0 : Int), .bool (b1 || Z)]) ∧ Below w.heap.size w w' := by
  cases b1
  · subst hw
    have HAL := Lib.hid hal
    clear hal
    go_enter Tryz.func42, Tryz.ntmps42
    go_upto_region 1 with fail
    have hx := heap_alloc_new w (.cells #[.int .i64 8, .int .i64 (wd : Int), .int .i64 fl, .slice A' n' c', .int .u32 imm] 38)
    have hbn : Below w.heap.size w (w.alloc (.cells #[.int .i64 8, .int .i64 (wd : Int), .int .i64 fl, .slice A' n' c', .int .u32 imm] 38)) := (Below.refl _ _).alloc (Nat.le_refl _) _
    generalize World.alloc w _ = W1 at hx hbn ⊢
    obtain ⟨d0, d1, d2, d3, d4⟩ := cells5 (x := ⟨8, (wd : Int), fl, [], imm⟩) hx
    simp only at d0 d1 d2 d3 d4
    have hDl := lt_of_block hx
    have HBN := Lib.hid hbn
    have HI0 := Lib.hid (h0.below hbn)
    have HI1 := Lib.hid (h1.below hbn)
    obtain ⟨D, hDE⟩ : ∃ D, w.heap.size = D := ⟨_, rfl⟩
    rw [hDE] at d0 d1 d2 d3 d4 hDl ⊢
    have hgl1 := Nat.lt_of_lt_of_le hgl hbn.size
    have x0 := (hbn.cell (p := ⟨g, off, none⟩) hgl).trans c0
    have x1 := (hbn.cell (p := ⟨g, off + 1, none⟩) hgl).trans c1
    clear hDE hx hbn d2 d3 d4
    go_upto_region 21 with fail
    rw [HAL.out]
    go_wp2_with fail
    refine (HI0.out _ (Below.refl _ _)).mono ?_
    rintro e w2 ⟨rfl, hb2⟩
    have hB2 := HBN.out.trans (hb2.mono HBN.out.size)
    have HB2 := Lib.hid hB2
    have gl2 := Nat.lt_of_lt_of_le hgl1 hb2.size
    have Dl2 := Nat.lt_of_lt_of_le hDl hb2.size
    have y0 := (hb2.cell (p := ⟨g, off, none⟩) hgl1).trans x0
    have y1 := (hb2.cell (p := ⟨g, off + 1, none⟩) hgl1).trans x1
    have e0 := (hb2.cell (p := ⟨D, 0, none⟩) hDl).trans d0
    have e1' := (hb2.cell (p := ⟨D, 1, none⟩) hDl).trans d1
    have HI12 := Lib.hid (HI1.out.below hb2)
    clear hb2 hB2 x0 x1 d0 d1 hgl1 hDl
    go_upto_region 23 with fail
    refine wp_region_quiet_below (by kernel_rfl) (by kernel_rfl) ?_
    have Ty0 := cell_regrown y0
    have Ty1 := cell_regrown y1
    have Te0 := cell_regrown e0
    have HQ := Lib.hid (show ∀ (d : Nat) (os : Array Obj), Calls Tryz.prog 63 #[ptr S, .int .i64 (p1 : Int), .int .u32 (al : Int)] (Sort.grow (redrawn w2 d) os) fun e w'' => e = .returned (.bool false) ∧ ∃ p : Regrown, w'' = Sort.grow (redrawn w2 p.d) p.os from fun d os => Calls.regrown_of (HI12.out _ (below_regrown w2 d os)))
    iterate 20 (go_big_quiet_step ((go_at_call 63; with_reducible exact HQ.out _ _)))
    refine wpQuiet_nil ?_
    intro _ hw'
    obtain ⟨⟨dq, osq⟩, hw''⟩ := hw'
    subst hw''
    have HB9 := Lib.hid (HB2.out.trans ((below_regrown w2 dq osq).mono HB2.out.size))
    generalize Sort.grow (redrawn w2 dq) osq = W9 at HB9 ⊢
    clear Ty0 Ty1 Te0 HQ
    go_wp2
    go_ret2
    exact ⟨rfl, HB9.out⟩
  · subst hw
    have HAL := Lib.hid hal
    clear hal
    go_enter Tryz.func42, Tryz.ntmps42
    go_upto_region 1 with fail
    have hx := heap_alloc_new w (.cells #[.int .i64 8, .int .i64 (wd : Int), .int .i64 fl, .slice A' n' c', .int .u32 imm] 38)
    have hbn : Below w.heap.size w (w.alloc (.cells #[.int .i64 8, .int .i64 (wd : Int), .int .i64 fl, .slice A' n' c', .int .u32 imm] 38)) := (Below.refl _ _).alloc (Nat.le_refl _) _
    generalize World.alloc w _ = W1 at hx hbn ⊢
    obtain ⟨d0, d1, d2, d3, d4⟩ := cells5 (x := ⟨8, (wd : Int), fl, [], imm⟩) hx
    simp only at d0 d1 d2 d3 d4
    have hDl := lt_of_block hx
    have HBN := Lib.hid hbn
    have HI0 := Lib.hid (h0.below hbn)
    have HI1 := Lib.hid (h1.below hbn)
    obtain ⟨D, hDE⟩ : ∃ D, w.heap.size = D := ⟨_, rfl⟩
    rw [hDE] at d0 d1 d2 d3 d4 hDl ⊢
    have hgl1 := Nat.lt_of_lt_of_le hgl hbn.size
    have x0 := (hbn.cell (p := ⟨g, off, none⟩) hgl).trans c0
    have x1 := (hbn.cell (p := ⟨g, off + 1, none⟩) hgl).trans c1
    clear hDE hx hbn d2 d3 d4
    go_upto_region 21 with fail
    rw [HAL.out]
    go_wp2_with fail
    refine (HI0.out _ (Below.refl _ _)).mono ?_
    rintro e w2 ⟨rfl, hb2⟩
    have hB2 := HBN.out.trans (hb2.mono HBN.out.size)
    have HB2 := Lib.hid hB2
    have gl2 := Nat.lt_of_lt_of_le hgl1 hb2.size
    have Dl2 := Nat.lt_of_lt_of_le hDl hb2.size
    have y0 := (hb2.cell (p := ⟨g, off, none⟩) hgl1).trans x0
    have y1 := (hb2.cell (p := ⟨g, off + 1, none⟩) hgl1).trans x1
    have e0 := (hb2.cell (p := ⟨D, 0, none⟩) hDl).trans d0
    have e1' := (hb2.cell (p := ⟨D, 1, none⟩) hDl).trans d1
    have HI12 := Lib.hid (HI1.out.below hb2)
    clear hb2 hB2 x0 x1 d0 d1 hgl1 hDl
    go_upto_region 23 with fail
    refine wp_region_quiet_below (by kernel_rfl) (by kernel_rfl) ?_
    have Ty0 := cell_regrown y0
    have Ty1 := cell_regrown y1
    have Te0 := cell_regrown e0
    have HQ := Lib.hid (show ∀ (d : Nat) (os : Array Obj), Calls Tryz.prog 63 #[ptr S, .int .i64 (p1 : Int), .int .u32 (al : Int)] (Sort.grow (redrawn w2 d) os) fun e w'' => e = .returned (.bool true) ∧ ∃ p : Regrown, w'' = Sort.grow (redrawn w2 p.d) p.os from fun d os => Calls.regrown_of (HI12.out _ (below_regrown w2 d os)))
    iterate 20 (go_big_quiet_step ((go_at_call 63; with_reducible exact HQ.out _ _)))
    refine wpQuiet_nil ?_
    intro _ hw'
    obtain ⟨⟨dq, osq⟩, hw''⟩ := hw'
    subst hw''
    have HB9 := Lib.hid (HB2.out.trans ((below_regrown w2 dq osq).mono HB2.out.size))
    generalize Sort.grow (redrawn w2 dq) osq = W9 at HB9 ⊢
    clear Ty0 Ty1 Te0 HQ
    go_wp2
    go_ret2
    exact ⟨rfl, HB9.out⟩
set_option maxRecDepth 100000 in
set_option maxHeartbeats 8000000 in
theorem drop_f_y {w : World} (hgl : g < w.heap.size) (c0 : w.cell? ⟨g, off, none⟩ = some (.int .i64 (p0 : Int))) (c1 : w.cell? ⟨g, off + 1, none⟩ = some (.int .i64 (p1 : Int))) (c2 : w.cell? ⟨g, off + 2, none⟩ = some (.int .i64 (p2 : Int))) (h2n : 2 < n) (_ : 1 < n) (_ : n ≤ c) (_ : c ≤ 9223372036854775807) (h0 : IsAt w S p0 0 true) :
    Calls Tryz.prog 42 #[ptr S, .agg #[.int .i64 15, .int .i64 wid, .int .i64 fl, .slice A' n' c', .int .u32 imm], .slice (some ⟨g, off, none⟩) n c] w fun e w' => e = .returned (.tuple #[.int .i64 (p2 : Int), .bool true]) ∧ Below w.heap.size w w' := by
  go_enter Tryz.func42, Tryz.ntmps42
  go_upto_region 1 with fail
  have hx := heap_alloc_new w (.cells #[.int .i64 15, .int .i64 wid, .int .i64 fl, .slice A' n' c', .int .u32 imm] 38)
  have hbn : Below w.heap.size w (w.alloc (.cells #[.int .i64 15, .int .i64 wid, .int .i64 fl, .slice A' n' c', .int .u32 imm] 38)) := (Below.refl _ _).alloc (Nat.le_refl _) _
  generalize World.alloc w _ = W1 at hx hbn ⊢
  obtain ⟨d0, d1, d2, d3, d4⟩ := cells5 (x := ⟨15, wid, fl, [], imm⟩) hx
  simp only at d0 d1 d2 d3 d4
  have hDl := lt_of_block hx
  have HBN := Lib.hid hbn
  have HI0 := Lib.hid (h0.below hbn)
  obtain ⟨D, hDE⟩ : ∃ D, w.heap.size = D := ⟨_, rfl⟩
  rw [hDE] at d0 d1 d2 d3 d4 hDl ⊢
  have hgl1 := Nat.lt_of_lt_of_le hgl hbn.size
  have x0 := (hbn.cell (p := ⟨g, off, none⟩) hgl).trans c0
  have x1 := (hbn.cell (p := ⟨g, off + 1, none⟩) hgl).trans c1
  have x2 := (hbn.cell (p := ⟨g, off + 2, none⟩) hgl).trans c2
  clear hDE hx hbn d2 d3 d4
  go_upto_region 25 with fail
  refine wp_region_quiet_below (by kernel_rfl) (by kernel_rfl) ?_
  have Tx0 := cell_regrown x0
  have Tx1 := cell_regrown x1
  have Tx2 := cell_regrown x2
  have HQ := Lib.hid (show ∀ (d : Nat) (os : Array Obj), Calls Tryz.prog 63 #[ptr S, .int .i64 (p0 : Int), .int .u32 0] (Sort.grow (redrawn W1 d) os) fun e w'' => e = .returned (.bool true) ∧ ∃ p : Regrown, w'' = Sort.grow (redrawn W1 p.d) p.os from fun d os => Calls.regrown_of (HI0.out _ (below_regrown W1 d os)))
  iterate 14 (go_big_quiet_step ((go_at_call 63; with_reducible exact HQ.out _ _)))
  refine wpQuiet_nil ?_
  intro _ hw'
  obtain ⟨⟨dq, osq⟩, hw''⟩ := hw'
  subst hw''
  have HB9 := Lib.hid ((Below.refl W1.heap.size W1).trans ((below_regrown W1 dq osq).mono (Nat.le_refl _)))
  generalize Sort.grow (redrawn W1 dq) osq = W9 at HB9 ⊢
  clear Tx0 Tx1 Tx2 HQ
  have HB9b := Lib.hid (HBN.out.trans (HB9.out.mono HBN.out.size))
  have gl2 := Nat.lt_of_lt_of_le hgl1 HB9.out.size
  have y0 := (HB9.out.cell (p := ⟨g, off, none⟩) hgl1).trans x0
  have y1 := (HB9.out.cell (p := ⟨g, off + 1, none⟩) hgl1).trans x1
  have y2 := (HB9.out.cell (p := ⟨g, off + 2, none⟩) hgl1).trans x2
  clear x0 x1 x2 hgl1
  go_wp2
  go_ret2
  exact ⟨rfl, HB9b.out⟩
set_option maxRecDepth 100000 in
set_option maxHeartbeats 8000000 in
theorem drop_f_z {w : World} (hgl : g < w.heap.size) (c0 : w.cell? ⟨g, off, none⟩ = some (.int .i64 (p0 : Int))) (c1 : w.cell? ⟨g, off + 1, none⟩ = some (.int .i64 (p1 : Int))) (c2 : w.cell? ⟨g, off + 2, none⟩ = some (.int .i64 (p2 : Int))) (h2n : 2 < n) (_ : 1 < n) (_ : n ≤ c) (_ : c ≤ 9223372036854775807) (hZ : ((p1 : Int) == (p2 : Int)) = true) (h0 : IsAt w S p0 0 false) :
    Calls Tryz.prog 42 #[ptr S, .agg #[.int .i64 15, .int .i64 wid, .int .i64 fl, .slice A' n' c', .int .u32 imm], .slice (some ⟨g, off, none⟩) n c] w fun e w' => e = .returned (.tuple #[.int .i64 (p2 : Int), .bool true]) ∧ Below w.heap.size w w' := by
  go_enter Tryz.func42, Tryz.ntmps42
  go_upto_region 1 with fail
  have hx := heap_alloc_new w (.cells #[.int .i64 15, .int .i64 wid, .int .i64 fl, .slice A' n' c', .int .u32 imm] 38)
  have hbn : Below w.heap.size w (w.alloc (.cells #[.int .i64 15, .int .i64 wid, .int .i64 fl, .slice A' n' c', .int .u32 imm] 38)) := (Below.refl _ _).alloc (Nat.le_refl _) _
  generalize World.alloc w _ = W1 at hx hbn ⊢
  obtain ⟨d0, d1, d2, d3, d4⟩ := cells5 (x := ⟨15, wid, fl, [], imm⟩) hx
  simp only at d0 d1 d2 d3 d4
  have hDl := lt_of_block hx
  have HBN := Lib.hid hbn
  have HI0 := Lib.hid (h0.below hbn)
  obtain ⟨D, hDE⟩ : ∃ D, w.heap.size = D := ⟨_, rfl⟩
  rw [hDE] at d0 d1 d2 d3 d4 hDl ⊢
  have hgl1 := Nat.lt_of_lt_of_le hgl hbn.size
  have x0 := (hbn.cell (p := ⟨g, off, none⟩) hgl).trans c0
  have x1 := (hbn.cell (p := ⟨g, off + 1, none⟩) hgl).trans c1
  have x2 := (hbn.cell (p := ⟨g, off + 2, none⟩) hgl).trans c2
  clear hDE hx hbn d2 d3 d4
  go_upto_region 25 with fail
  refine wp_region_quiet_below (by kernel_rfl) (by kernel_rfl) ?_
  have Tx0 := cell_regrown x0
  have Tx1 := cell_regrown x1
  have Tx2 := cell_regrown x2
  have HQ := Lib.hid (show ∀ (d : Nat) (os : Array Obj), Calls Tryz.prog 63 #[ptr S, .int .i64 (p0 : Int), .int .u32 0] (Sort.grow (redrawn W1 d) os) fun e w'' => e = .returned (.bool false) ∧ ∃ p : Regrown, w'' = Sort.grow (redrawn W1 p.d) p.os from fun d os => Calls.regrown_of (HI0.out _ (below_regrown W1 d os)))
  iterate 14 (go_big_quiet_step ((go_at_call 63; with_reducible exact HQ.out _ _)))
  refine wpQuiet_nil ?_
  intro _ hw'
  obtain ⟨⟨dq, osq⟩, hw''⟩ := hw'
  subst hw''
  have HB9 := Lib.hid ((Below.refl W1.heap.size W1).trans ((below_regrown W1 dq osq).mono (Nat.le_refl _)))
  generalize Sort.grow (redrawn W1 dq) osq = W9 at HB9 ⊢
  clear Tx0 Tx1 Tx2 HQ
  have HB9b := Lib.hid (HBN.out.trans (HB9.out.mono HBN.out.size))
  have gl2 := Nat.lt_of_lt_of_le hgl1 HB9.out.size
  have y0 := (HB9.out.cell (p := ⟨g, off, none⟩) hgl1).trans x0
  have y1 := (HB9.out.cell (p := ⟨g, off + 1, none⟩) hgl1).trans x1
  have y2 := (HB9.out.cell (p := ⟨g, off + 2, none⟩) hgl1).trans x2
  clear x0 x1 x2 hgl1
  go_wp2
  go_ret2
  exact ⟨rfl, HB9b.out⟩
set_option maxRecDepth 100000 in
set_option maxHeartbeats 8000000 in
theorem drop_f_n {w : World} (hgl : g < w.heap.size) (c0 : w.cell? ⟨g, off, none⟩ = some (.int .i64 (p0 : Int))) (c1 : w.cell? ⟨g, off + 1, none⟩ = some (.int .i64 (p1 : Int))) (c2 : w.cell? ⟨g, off + 2, none⟩ = some (.int .i64 (p2 : Int))) (h2n : 2 < n) (_ : 1 < n) (_ : n ≤ c) (_ : c ≤ 9223372036854775807) {b1 : Bool} (hZ : ((p1 : Int) == (p2 : Int)) = false) (h0 : IsAt w S p0 0 false) (h1 : IsAt w S p0 1 b1) :
    Calls Tryz.prog 42 #[ptr S, .agg #[.int .i64 15, .int .i64 wid, .int .i64 fl, .slice A' n' c', .int .u32 imm], .slice (some ⟨g, off, none⟩) n c] w fun e w' => e = .returned (.tuple #[.int .i64 (p1 : Int), .bool b1]) ∧ Below w.heap.size w w' := by
  go_enter Tryz.func42, Tryz.ntmps42
  go_upto_region 1 with fail
  have hx := heap_alloc_new w (.cells #[.int .i64 15, .int .i64 wid, .int .i64 fl, .slice A' n' c', .int .u32 imm] 38)
  have hbn : Below w.heap.size w (w.alloc (.cells #[.int .i64 15, .int .i64 wid, .int .i64 fl, .slice A' n' c', .int .u32 imm] 38)) := (Below.refl _ _).alloc (Nat.le_refl _) _
  generalize World.alloc w _ = W1 at hx hbn ⊢
  obtain ⟨d0, d1, d2, d3, d4⟩ := cells5 (x := ⟨15, wid, fl, [], imm⟩) hx
  simp only at d0 d1 d2 d3 d4
  have hDl := lt_of_block hx
  have HBN := Lib.hid hbn
  have HI0 := Lib.hid (h0.below hbn)
  have HI1 := Lib.hid (h1.below hbn)
  obtain ⟨D, hDE⟩ : ∃ D, w.heap.size = D := ⟨_, rfl⟩
  rw [hDE] at d0 d1 d2 d3 d4 hDl ⊢
  have hgl1 := Nat.lt_of_lt_of_le hgl hbn.size
  have x0 := (hbn.cell (p := ⟨g, off, none⟩) hgl).trans c0
  have x1 := (hbn.cell (p := ⟨g, off + 1, none⟩) hgl).trans c1
  have x2 := (hbn.cell (p := ⟨g, off + 2, none⟩) hgl).trans c2
  clear hDE hx hbn d2 d3 d4
  go_upto_region 25 with fail
  refine wp_region_quiet_below (by kernel_rfl) (by kernel_rfl) ?_
  have Tx0 := cell_regrown x0
  have Tx1 := cell_regrown x1
  have Tx2 := cell_regrown x2
  have HQ := Lib.hid (show ∀ (d : Nat) (os : Array Obj), Calls Tryz.prog 63 #[ptr S, .int .i64 (p0 : Int), .int .u32 0] (Sort.grow (redrawn W1 d) os) fun e w'' => e = .returned (.bool false) ∧ ∃ p : Regrown, w'' = Sort.grow (redrawn W1 p.d) p.os from fun d os => Calls.regrown_of (HI0.out _ (below_regrown W1 d os)))
  iterate 14 (go_big_quiet_step ((go_at_call 63; with_reducible exact HQ.out _ _)))
  refine wpQuiet_nil ?_
  intro _ hw'
  obtain ⟨⟨dq, osq⟩, hw''⟩ := hw'
  subst hw''
  have HB9 := Lib.hid ((Below.refl W1.heap.size W1).trans ((below_regrown W1 dq osq).mono (Nat.le_refl _)))
  generalize Sort.grow (redrawn W1 dq) osq = W9 at HB9 ⊢
  clear Tx0 Tx1 Tx2 HQ
  have HB9b := Lib.hid (HBN.out.trans (HB9.out.mono HBN.out.size))
  have gl2 := Nat.lt_of_lt_of_le hgl1 HB9.out.size
  have y0 := (HB9.out.cell (p := ⟨g, off, none⟩) hgl1).trans x0
  have y1 := (HB9.out.cell (p := ⟨g, off + 1, none⟩) hgl1).trans x1
  have y2 := (HB9.out.cell (p := ⟨g, off + 2, none⟩) hgl1).trans x2
  have HI12 := Lib.hid (HI1.out.below HB9.out)
  clear x0 x1 x2 hgl1
  go_upto_region 27 with fail
  refine wp_region_quiet_below (by kernel_rfl) (by kernel_rfl) ?_
  have Ty0 := cell_regrown y0
  have Ty1 := cell_regrown y1
  have HQ := Lib.hid (show ∀ (d : Nat) (os : Array Obj), Calls Tryz.prog 63 #[ptr S, .int .i64 (p0 : Int), .int .u32 1] (Sort.grow (redrawn W9 d) os) fun e w'' => e = .returned (.bool b1) ∧ ∃ p : Regrown, w'' = Sort.grow (redrawn W9 p.d) p.os from fun d os => Calls.regrown_of (HI12.out _ (below_regrown W9 d os)))
  iterate 10 (go_big_quiet_step ((go_at_call 63; with_reducible exact HQ.out _ _)))
  refine wpQuiet_nil ?_
  intro _ hw'
  obtain ⟨⟨dq, osq⟩, hw''⟩ := hw'
  subst hw''
  have HB8 := Lib.hid (HB9b.out.trans ((below_regrown W9 dq osq).mono HB9b.out.size))
  generalize Sort.grow (redrawn W9 dq) osq = W8 at HB8 ⊢
  clear Ty0 Ty1 HQ
  go_wp2
  go_ret2
  exact ⟨rfl, HB8.out⟩
end
end
end
section
open Go.RowKit

/-- A made row of words. -/
def RowU (w : World) (B n : Nat) (f : Nat → Nat) : Prop := ∃ arr : Array Value, w.heap[B]? = some (.cells arr 36 (0, 0)) ∧ arr.size = n ∧ ∀ j, j < n → arr[j]? = some (.int .u32 ((f j : Nat) : Int))
theorem RowU.lt {w : World} {B n : Nat} {f : Nat → Nat} (h : RowU w B n f) : B < w.heap.size := by
  obtain ⟨arr, h1, -⟩ := h
  exact lt_of_block h1
theorem RowU.keep {w w' : World} {B n : Nat} {f : Nat → Nat} (h : RowU w B n f) (hb : w'.heap[B]? = w.heap[B]?) : RowU w' B n f := by
  obtain ⟨arr, h1, h2, h3⟩ := h
  exact ⟨arr, hb.trans h1, h2, h3⟩
theorem RowU.cell {w : World} {B n : Nat} {f : Nat → Nat} (h : RowU w B n f) {j : Nat} (hj : j < n) : w.cell? ⟨B, j, none⟩ = some (.int .u32 ((f j : Nat) : Int)) ∧ w.frozen? ⟨B, j, none⟩ = false := by
  obtain ⟨arr, h1, h2, h3⟩ := h
  refine ⟨?_, by simp [World.frozen?, h1]⟩
  simp only [World.cell?, h1]
  exact h3 j hj
def updN (f : Nat → Nat) (k x : Nat) : Nat → Nat := fun j => if j = k then x else f j
theorem RowU.put {w : World} {B n : Nat} {f : Nat → Nat} (h : RowU w B n f) (k x : Nat) : RowU (w.setCell ⟨B, k, none⟩ (.int .u32 (x : Int))) B n (updN f k x) := by
  obtain ⟨arr, h1, h2, h3⟩ := h
  refine ⟨_, heap_setCell_same w B k _ _ _ h1, by simpa using h2, fun j hj => ?_⟩
  rw [updN, Array.getElem?_setIfInBounds]
  by_cases hD : j = k
  · subst hD
    simp [h2, hj]
  · rw [if_neg (fun e => hD e.symm), if_neg hD]
    exact h3 j hj
def wsF (f : Nat → Nat) (n : Nat) : List Nat := (List.range n).map f
theorem wsF_at {f : Nat → Nat} {n j : Nat} (h : j < n) : (wsF f n)[j]! = f j := by simp [wsF, h]
theorem RowU.ws {w : World} {B n : Nat} {f : Nat → Nat} (h : RowU w B n f) (hn : n ≤ 300) : Ws w (some ⟨B, 0, none⟩) n n (wsF f n) :=
  ⟨by simp [wsF], Nat.le_refl _, by omega, .inr ⟨B, 0, rfl, h.lt, fun j hj => by rw [Nat.zero_add, (h.cell hj).1, wsF_at hj]⟩⟩
theorem RowU.made (w : World) (n : Nat) : RowU (w.alloc (.cells (madeCells #[.int .u32 0] n) 36)) w.heap.size n fun _ => 0 :=
  ⟨_, heap_alloc_new w _, size_madeCells _ _, fun j hj => by simp [madeCells, hj, Nat.mod_one]⟩
section
variable {w : World} {S base P M : Nat} {F : Nat → Prop} {out U : List Nd}
theorem all_eq {wd : Nat} (h1 : 1 ≤ wd) (h2 : wd ≤ 32) : ((2 : Int) ^ wd % 4294967296 - 1) % 4294967296 = ((pw wd - 1 : Nat) : Int) := by
  have e : (2 : Int) ^ wd = ((pw wd : Nat) : Int) := by
    unfold pw
    rw [Int.natCast_pow]
    rfl
  by_cases h : wd = 32
  · subst h
    rfl
  · have h3 := pw_mono (show wd ≤ 31 by omega)
    have h4 : pw 31 = 2147483648 := rfl
    have h5 := (pw_le h2).1
    rw [e]
    omega
theorem ret_ub {a b : Int} {c d : Bool} (h1 : b = a) (h2 : d = c) : Ending.returned (.tuple #[.int .u32 a, .bool c]) = Ending.returned (.tuple #[.int .u32 b, .bool d]) := by rw [h1, h2]
theorem ret_kb {a b : Nat} {c d : Bool} (h : (a, c) = (b, d)) : Ending.returned (.tuple #[.int .i64 (a : Int), .bool c]) = Ending.returned (.tuple #[.int .i64 (b : Int), .bool d]) := by
  injection h with h1 h2
  rw [h1, h2]
/-- What drop answers. -/
theorem drop_any (h : Sml w S base P M F out) {x : Nd} {a : List Nat} (hx : ArgX U out x a) {A A' : Option Addr} {n c n' c' : Nat} (hI : Ints w A n c (natI a)) :
    Calls Tryz.prog 42 #[ptr S, .agg #[.int .i64 x.op, .int .i64 x.width, .int .i64 x.flags, .slice A' n' c', .int .u32 x.imm], .slice A n c] w fun e w' => e = .returned (.tuple #[.int .i64 (((drF out x.op x.width a).1 : Nat) : Int), .bool (drF out x.op x.width a).2]) ∧ Below w.heap.size w w' := by
  have hn : n = a.length := by have := hI.1; rw [natI_len'] at this; exact this
  have hcap := hI.2.1
  have hmax := hI.2.2.1
  have hlen := hx.len
  have hs := fun i (hi : i < a.length) m => isAt_of h (hx.arg i hi) m
  obtain ⟨op, wid, fl, args, imm⟩ := x
  simp only at hlen ⊢
  have heq : ∀ (p q : Nat), ((p : Int) == (q : Int)) = decide (p = q) := fun p q => by rw [Bool.eq_iff_iff, beq_iff_eq, decide_eq_true_iff, Int.natCast_inj]
  have ho := hx.op
  have hw := hx.wid
  simp only at ho hw
  have two : 1 ≤ op ∧ op ≤ 13 → ∃ g off, A = some ⟨g, off, none⟩ ∧ g < w.heap.size ∧ w.cell? ⟨g, off, none⟩ = some (.int .i64 ((a[0]! : Nat) : Int)) ∧ w.cell? ⟨g, off + 1, none⟩ = some (.int .i64 ((a[1]! : Nat) : Int)) ∧ 1 < n ∧ 0 < a.length ∧ 1 < a.length := fun hop => by
    have e : argN op = 2 := argN_two (by omega)
    obtain ⟨g, off, hA, hg, c0, c1, -⟩ := hI.at0 (by omega)
    rw [natI_at (by omega)] at c0
    have c1 := c1 (by omega)
    rw [natI_at (by omega)] at c1
    exact ⟨g, off, hA, hg, c0, c1, by omega, by omega, by omega⟩
  unfold drF
  by_cases k1 : op = 1 ∨ op = 9 ∨ op = 10
  · rw [if_pos k1]
    obtain ⟨g, off, rfl, hg, c0, c1, h1n, l0, l1⟩ := two (by omega)
    have h0 := hs 0 l0 0
    have h1 := hs 1 l1 0
    generalize isB out a[0]! 0 = b0 at h0 ⊢
    generalize isB out a[1]! 0 = b1 at h1 ⊢
    cases b0
    · rw [if_neg (by decide)]
      rcases k1 with rfl | rfl | rfl
      · rw [decide_eq_false (show ¬ (1 : Int) = 9 by decide), Bool.false_and, Bool.or_false]
        exact drop_a1n hg c0 c1 h1n hcap hmax h0 h1
      · rw [decide_eq_true (show (9 : Int) = 9 from rfl), Bool.true_and]
        exact drop_a9n hg c0 c1 h1n hcap hmax (heq _ _) h0 h1
      · rw [decide_eq_false (show ¬ (10 : Int) = 9 by decide), Bool.false_and, Bool.or_false]
        exact drop_a10n hg c0 c1 h1n hcap hmax h0 h1
    · rw [if_pos rfl]
      rcases k1 with rfl | rfl | rfl
      · exact drop_a1y hg c0 c1 h1n hcap hmax h0
      · exact drop_a9y hg c0 c1 h1n hcap hmax h0
      · exact drop_a10y hg c0 c1 h1n hcap hmax h0
  rw [if_neg k1]
  by_cases k2 : op = 2 ∨ op = 11 ∨ op = 12 ∨ op = 13
  · rw [if_pos k2]
    obtain ⟨g, off, rfl, hg, c0, c1, h1n, l0, l1⟩ := two (by omega)
    have h1 := hs 1 l1 0
    rcases k2 with rfl | rfl | rfl | rfl
    · exact drop_b2 hg c0 c1 h1n hcap hmax h1
    · exact drop_b11 hg c0 c1 h1n hcap hmax h1
    · exact drop_b12 hg c0 c1 h1n hcap hmax h1
    · exact drop_b13 hg c0 c1 h1n hcap hmax h1
  rw [if_neg k2]
  by_cases k3 : op = 3
  · rw [if_pos k3]
    obtain ⟨g, off, rfl, hg, c0, c1, h1n, l0, l1⟩ := two (by omega)
    have h0 := hs 0 l0 1
    have h1 := hs 1 l1 1
    subst k3
    generalize isB out a[0]! 1 = b0 at h0 ⊢
    cases b0
    · exact drop_c_n hg c0 c1 h1n hcap hmax h0 h1
    · exact drop_c_y hg c0 c1 h1n hcap hmax h0
  rw [if_neg k3]
  by_cases k4 : op = 4
  · rw [if_pos k4]
    obtain ⟨g, off, rfl, hg, c0, c1, h1n, l0, l1⟩ := two (by omega)
    subst k4
    exact drop_d hg c0 c1 h1n hcap hmax (hs 1 l1 1)
  rw [if_neg k4]
  by_cases k8 : op = 8
  · rw [if_pos k8]
    obtain ⟨g, off, rfl, hg, c0, c1, h1n, l0, l1⟩ := two (by omega)
    subst k8
    obtain ⟨wd, rfl⟩ : ∃ wd : Nat, wid = (wd : Int) := ⟨wid.toNat, by omega⟩
    rw [Int.toNat_natCast]
    have hall := all_eq (wd := wd) (by omega) (by omega)
    generalize pw wd - 1 = al at hall ⊢
    have h0 := hs 0 l0 (al : Int)
    have h1 := hs 1 l1 (al : Int)
    generalize isB out a[0]! (al : Int) = b0 at h0 ⊢
    cases b0
    · exact drop_e_n hg c0 c1 h1n hcap hmax ⟨by omega, by omega⟩ rfl hall (heq _ _) h0 h1
    · exact drop_e_y hg c0 c1 h1n hcap hmax ⟨by omega, by omega⟩ rfl hall h0
  rw [if_neg k8]
  by_cases k15 : op = 15
  · rw [if_pos k15]
    have e : argN op = 3 := by rw [k15]; rfl
    obtain ⟨g, off, rfl, hg, c0, c1, c2⟩ := hI.at0 (by omega)
    rw [natI_at (by omega)] at c0
    have c1 := c1 (by omega)
    have c2 := c2 (by omega)
    rw [natI_at (by omega)] at c1 c2
    subst k15
    have h0 := hs 0 (by omega) 0
    have h1 := hs 0 (by omega) 1
    generalize isB out a[0]! 0 = b0 at h0 ⊢
    cases b0
    · have hz := heq a[1]! a[2]!
      generalize decide (a[1]! = a[2]!) = Z at hz ⊢
      cases Z
      · exact drop_f_n hg c0 c1 c2 (by omega) (by omega) hcap hmax hz h0 h1
      · exact drop_f_z hg c0 c1 c2 (by omega) (by omega) hcap hmax hz h0
    · exact drop_f_y hg c0 c1 c2 (by omega) (by omega) hcap hmax h0
  · rw [if_neg k15]
    have hf : ∀ m : Int, op ≠ m → (op == m) = false := fun m h => beq_eq_false_iff_ne.2 h
    exact drop_g (hf 1 (by omega)) (hf 9 (by omega)) (hf 10 (by omega)) (hf 2 (by omega)) (hf 11 (by omega)) (hf 12 (by omega)) (hf 13 (by omega)) (hf 3 (by omega)) (hf 4 (by omega)) (hf 8 (by omega)) (hf 15 (by omega))
theorem imm_lt {x : Nd} {k : Nat} (h : nodB x k = true) (h0 : x.op = 0) : x.imm < (pw x.width.toNat : Nat) := by
  have := (nod_iff.1 h).2.2.2.2.2
  unfold immB at this
  rw [if_pos h0] at this
  exact of_decide_eq_true this
set_option maxRecDepth 100000 in
set_option maxHeartbeats 8000000 in
theorem fold_any (h : Sml w S base P M F out) (hpv : PV U out) {x : Nd} {a : List Nat} (hx : ArgX U out x a) {A A' : Option Addr} {n c n' c' : Nat} (hI : Ints w A n c (natI a)) (hM : Masks w) :
    Calls Tryz.prog 40 #[ptr S, .agg #[.int .i64 x.op, .int .i64 x.width, .int .i64 x.flags, .slice A' n' c', .int .u32 x.imm], .slice A n c] w fun e w' => e = .returned (.tuple #[.int .u32 ((if cons1 out a then foldV out x a else 0 : Nat) : Int), .bool (cons1 out a)]) ∧ Below w.heap.size w w' := by
  have hn : n = a.length := by have := hI.1; rw [natI_len'] at this; exact this
  have hcap := hI.2.1
  have hmax := hI.2.2.1
  by_cases h0 : n = 0
  · have hc : cons1 out a = false := by
      apply Classical.byContradiction
      intro hh
      have := (cons1_iff.1 (by simpa using hh)).1
      omega
    rw [hc]
    have e0 : ((n : Int) == 0) = true := by rw [beq_iff_eq]; omega
    clear h hpv hx hI hM
    go_enter Tryz.func40, Tryz.ntmps40
    go_wp2
    go_ret2
    exact ⟨rfl, (Below.refl _ _).alloc (Nat.le_refl _) _⟩
  have e0 : ((n : Int) == 0) = false := by rw [beq_eq_false_iff_ne]; omega
  obtain ⟨i0, hi, hz0, hz1, hz2⟩ := info_parts infoW
  have h300 := hpv.len
  obtain ⟨nv, av, hO, hB, -⟩ := pool_own h.pool
  obtain ⟨Ap, cp, rfl, hT⟩ := own_term hO
  have hl1 : 1 ≤ out.length := by have := hx.arg 0 (by omega); omega
  have hval := hpv.val hl1
  have hcapT := hT.2.1
  have hmaxT := hT.2.2.1
  have HH := Lib.hid h
  have HT := Lib.hid hT
  have HBB := Lib.hid hB
  have HI := Lib.hid hI
  have HM := Lib.hid hM
  have HCON := Lib.hid (fun (w1 : World) (hb : Below w.heap.size w w1) i (hi : i < a.length) => constant_any (h.below hb) (hx.arg i hi))
  have HARG := Lib.hid (fun i (hi : i < a.length) => hx.arg i hi)
  have HIM := Lib.hid (fun i (hi : i < a.length) (h0 : (out[a[i]!]!).op = 0) => And.intro (hpv.imm _ (hx.arg i hi)).1 (And.intro (hpv.imm _ (hx.arg i hi)).2 (imm_lt ((val_zero.1 hval).2.1 _ (hx.arg i hi)) h0)))
  have HCN := Lib.hid (show ∀ i, i < a.length → (out[a[i]!]!).op ≠ 0 → cons1 out a = false from fun i hi hne => by
    apply Classical.byContradiction
    intro hh
    exact hne ((cons1_iff.1 (by simpa using hh)).2 i hi))
  have HCY := Lib.hid (show (∀ i, i < a.length → (out[a[i]!]!).op = 0) → cons1 out a = true from fun hh => cons1_iff.2 ⟨by omega, hh⟩)
  have HVA := Lib.hid (fun (w1 : World) (hb : Below w.heap.size w w1) (L : Option Addr) (k cL : Nat) (l : List Nat) (hL : Ws w1 L k cL l) (hF : FitX out ⟨x.op, x.width, x.flags, natI a, x.imm⟩ l []) => value_any (A' := A) (n' := n) (c' := c) (hT.below hb) (hM.below hb (Nat.le_refl _)) (hI.below hb) hL (ws_nil (w := w1) rfl) hF)
  have HFIT := Lib.hid (show ∀ l : List Nat, l.length = out.length → (∀ i, i < a.length → l[a[i]!]! = (out[a[i]!]!).imm.toNat ∧ (out[a[i]!]!).op = 0) → FitX out ⟨x.op, x.width, x.flags, natI a, x.imm⟩ l [] ∧ val1 out ⟨x.op, x.width, x.flags, natI a, x.imm⟩ l [] = foldV out x a from fun l hl hla => by
    refine ⟨⟨hx.op, hx.wid, by simp only [natI_len']; exact hx.len, hx.fit, hx.imm, hx.imm0.1, fun i hi => ?_, fun h33 => ?_⟩, ?_⟩
    · simp only [natI_len'] at hi
      simp only
      rw [natI_at hi]
      obtain ⟨e1, e2⟩ := hla i hi
      have h3 := HIM.out i hi e2
      refine ⟨a[i]!, rfl, hx.arg i hi, by rw [hl]; exact hx.arg i hi, hpv.wid (hx.arg i hi), ?_⟩
      rw [e1]
      omega
    · have h1 := hx.len
      simp only at h33
      rw [h33] at h1
      have e2 : argN 33 = 0 := rfl
      omega
    · rw [val1_opV hx.op hx.len]
      unfold foldV
      congr 1
      refine List.map_congr_left fun p hp => ?_
      obtain ⟨i, hi', rfl⟩ := List.getElem_of_mem hp
      have := (hla i hi').1
      rw [getElem!_pos a i hi'] at this
      exact this)
  have hSc := cell_of_one h.blk
  have hSl := lt_of_block h.blk
  obtain ⟨op, wid, fl, args, imm⟩ := x
  simp only at HVA HFIT
  have HRES := Lib.hid (show (cons1 out a = false → (if cons1 out a = true then foldV out ⟨op, wid, fl, args, imm⟩ a else 0) = 0) ∧ (cons1 out a = true → (if cons1 out a = true then foldV out ⟨op, wid, fl, args, imm⟩ a else 0) = foldV out ⟨op, wid, fl, args, imm⟩ a) from ⟨fun e => if_neg (by rw [e]; decide), fun e => if_pos e⟩)
  generalize (if cons1 out a = true then foldV out ⟨op, wid, fl, args, imm⟩ a else 0) = r at HRES ⊢
  generalize cons1 out a = cb at HRES HCN HCY ⊢
  have HNA := Lib.hid hn
  clear hpv hx hI hM h hT hO hB hval hn
  generalize foldV out ⟨op, wid, fl, args, imm⟩ a = fv at HFIT HRES ⊢
  generalize hlo : out.length = N at *
  have HLO := Lib.hid hlo
  clear hlo
  go_enter Tryz.func40, Tryz.ntmps40
  go_upto_region 1 with fail
  have hxb := heap_alloc_new w (.cells #[.int .i64 op, .int .i64 wid, .int .i64 fl, .slice A' n' c', .int .u32 imm] 38)
  have hbn : Below w.heap.size w (w.alloc (.cells #[.int .i64 op, .int .i64 wid, .int .i64 fl, .slice A' n' c', .int .u32 imm] 38)) := (Below.refl _ _).alloc (Nat.le_refl _) _
  generalize World.alloc w _ = W1 at hxb hbn ⊢
  obtain ⟨D, hDE⟩ : ∃ D, w.heap.size = D := ⟨_, rfl⟩
  have HDE := Lib.hid hDE
  rw [hDE] at hxb ⊢
  have hSc1 := (hbn.cell (p := ⟨S, 0, none⟩) hSl).trans hSc
  have hSl1 := Nat.lt_of_lt_of_le hSl hbn.size
  have HND := Lib.hid (nodes_at ((hbn.block _ (lt_of_block HBB.out)).trans HBB.out))
  have HXB := Lib.hid hxb
  have HBN := Lib.hid hbn
  have hDl := lt_of_block hxb
  clear hDE hSc hSl hxb hbn
  go_wp2_with fail
  refine HND.out.mono ?_
  rintro e w2 ⟨rfl, rfl⟩
  go_upto_region 4 with (refine wpList_make_row _ rfl _ _ 31 rfl 36 i0 (.int .u32 0) Tryz.underlying31 hi hz0 hz1 rfl .i64 .i64 N rfl rfl (by rw [hz2]; omega) (by omega) ?_)
  have hR0 := RowU.made w2 N
  have hbR : Below w2.heap.size w2 (w2.alloc (.cells (madeCells #[.int .u32 0] N) 36)) := (Below.refl _ _).alloc (Nat.le_refl _) _
  generalize World.alloc w2 _ = W3 at hR0 hbR ⊢
  obtain ⟨R, hRE⟩ : ∃ R, w2.heap.size = R := ⟨_, rfl⟩
  have HRE := Lib.hid hRE
  rw [hRE] at hR0 ⊢
  have HBR := Lib.hid hbR
  have HXB3 := Lib.hid ((hbR.block _ hDl).trans HXB.out)
  clear hRE hbR hSc1 hSl1
  go_wp2
  go_loopw [25] (fun zi wr => ∃ (i : Nat) (f : Nat → Nat), i ≤ n ∧ zi = .int .i64 (i : Int) ∧ RowU wr R N f ∧ Below R W3 wr ∧ Hid (∀ j, j < i → (out[a[j]!]!).op = 0 ∧ f a[j]! = (out[a[j]!]!).imm.toNat)) (fun zi _ => n - (intOf zi).toNat)
  case atStart => exact ⟨0, _, by omega, rfl, hR0, ⟨rfl, rfl, rfl, Nat.le_refl _, fun _ _ => rfl⟩, Lib.hid fun j hj => absurd hj (by omega)⟩
  case round =>
    clear hR0
    obtain ⟨i, f, hin, rfl, hR, hb, HJ⟩ := hrel
    rename World => wr
    have HB := Lib.hid hb
    have hbw : Below w.heap.size w wr := HBN.out.trans ((HBR.out.mono HBN.out.size).trans (hb.mono (by have h1 := HBN.out.size; have h2 := HRE.out; omega)))
    have HBW := Lib.hid hbw
    clear hb hbw
    by_cases hlt : i < n
    · have hia : i < a.length := by have := HNA.out; omega
      obtain ⟨g, off, rfl, hgl, hc⟩ := (HI.out.below HBW.out).at_ hlt
      rw [natI_at hia] at hc
      have HCC := Lib.hid (HCON.out wr HBW.out i hia)
      have hpN := HARG.out i hia
      have HIMI := Lib.hid (HIM.out i hia)
      have HCNI := Lib.hid (HCN.out i hia)
      have HSTP := Lib.hid (show (out[a[i]!]!).op = 0 → ∀ v : Nat, (out[a[i]!]!).imm = (v : Int) → ∀ j, j < i + 1 → (out[a[j]!]!).op = 0 ∧ updN f a[i]! v a[j]! = (out[a[j]!]!).imm.toNat from fun h0 v hv j hj => by
        by_cases e : a[j]! = a[i]!
        · rw [e, updN, if_pos rfl, hv, Int.toNat_natCast]
          exact ⟨h0, rfl⟩
        · have hji : j < i := by
            apply Classical.byContradiction
            intro hh
            obtain rfl : j = i := by omega
            exact e rfl
          rw [updN, if_neg e]
          exact HJ.out j hji)
      generalize a[i]! = p at hc HCC hpN HIMI HCNI HSTP
      obtain ⟨hrc, hrf⟩ := hR.cell hpN
      have hrl := hR.lt
      have hRl2 : R ≤ wr.heap.size := Nat.le_of_lt hR.lt
      by_cases h0 : (out[p]!).op = 0
      · obtain ⟨v, hv⟩ : ∃ v : Nat, (out[p]!).imm = (v : Int) := ⟨(out[p]!).imm.toNat, by have := HIMI.out h0; omega⟩
        have HST := Lib.hid (HSTP.out h0 v hv)
        rw [hv, decide_eq_true h0] at HCC
        clear h0 hv HSTP HIMI HCNI hrc hrf hrl
        go_wp2_with fail
        refine HCC.out.mono ?_
        rintro e w5 ⟨rfl, hb5⟩
        have hR5 := hR.keep (hb5.block R hR.lt)
        obtain ⟨hrc, hrf⟩ := hR5.cell hpN
        have hrl := hR5.lt
        have HP5 := Lib.hid (hR5.put p v)
        have HB5 := Lib.hid ((HB.out.trans (hb5.mono hRl2)).setCell (p := ⟨R, p, none⟩) (Nat.le_refl _) (.int .u32 (v : Int)))
        clear hb5 hc hR5 hR
        go_wp2
        go_roundw
        case rel => exact ⟨i + 1, _, by omega, by go_num, HP5.out, HB5.out, HST⟩
        case measure => simp [intOf]; omega
      · have HCF := Lib.hid (HCNI.out h0)
        rw [decide_eq_false h0] at HCC
        clear h0 HSTP HIMI HCNI
        generalize (out[p]!).imm = im at HCC
        go_wp2_with fail
        refine HCC.out.mono ?_
        rintro e w5 ⟨rfl, hb5⟩
        have HB5 := Lib.hid (HBW.out.trans (hb5.mono HBW.out.size))
        clear hb5 hc hrc hrf
        go_wp2
        go_ret2
        exact ⟨by exact ret_ub (by rw [HRES.out.1 HCF.out]; rfl) HCF.out, HB5.out⟩
    · obtain rfl : i = n := by omega
      have hall := HJ.out
      rw [HNA.out] at hall
      have HCT := Lib.hid (HCY.out fun j hj => (hall j hj).1)
      have hws := hR.ws h300
      obtain ⟨hF, hv1⟩ := HFIT.out (wsF f N) (by simp [wsF]) (fun j hj => by
        obtain ⟨e1, e2⟩ := hall j hj
        exact ⟨by rw [wsF_at (HARG.out j hj), e2], e1⟩)
      have HVF := Lib.hid hF
      have HV1 := Lib.hid hv1
      have hS2 := (HBW.out.block _ (lt_of_block HH.out.blk)).trans HH.out.blk
      have hP2 := (HBW.out.block _ (lt_of_block HBB.out)).trans HBB.out
      have hX2 := (HB.out.block D (by have := HRE.out; have := HBR.out.size; omega)).trans HXB3.out
      have hX2l := lt_of_block hX2
      obtain ⟨d0, d1, d2, d3, d4⟩ := cells5 (x := ⟨op, wid, fl, [], imm⟩) hX2
      simp only at d0 d1 d2 d3 d4
      have hdf : wr.frozen? ⟨D, 3, none⟩ = false := by simp [World.frozen?, hX2]
      clear hF hv1 hall
      go_upto_region 13 with fail
      have hX3 : (wr.setCell ⟨D, 3, none⟩ (.slice A i c)).heap[D]? = some (.cells #[.int .i64 op, .int .i64 wid, .int .i64 fl, .slice A i c, .int .u32 imm] 38 (0, 0)) := (heap_setCell_same wr D 3 _ _ _ hX2).trans rfl
      have hk3 := keep_set wr D 3 (.slice A i c)
      have hD1 := HDE.out
      have hS3 := (hk3.block S (lt_of_block hS2) (by have := lt_of_block HH.out.blk; omega)).trans hS2
      have hP3 := (hk3.block P (lt_of_block hP2) (by have := lt_of_block HBB.out; omega)).trans hP2
      have hb3 : Below w.heap.size w (wr.setCell ⟨D, 3, none⟩ (.slice A i c)) := HBW.out.setCell (p := ⟨D, 3, none⟩) (by simp only; omega) _
      have hR3 := hR.keep (hk3.block R hR.lt (by have := HRE.out; have h1 := lt_of_block HXB.out; omega))
      generalize World.setCell wr _ _ = w6 at hX3 hS3 hP3 hb3 hR3 ⊢
      have HVC := Lib.hid (fun U (hU : Below w6.heap.size w6 U) => (HVA.out U (hb3.trans (hU.mono hb3.size)) _ _ _ _ ((hR3.ws h300).below hU) HVF.out).mono (R' := fun e w' => e = .returned (.int .u32 ((val1 out ⟨op, wid, fl, natI a, imm⟩ (wsF f N) [] : Nat) : Int)) ∧ Below w6.heap.size w6 w') (fun e w' ⟨h1, h2⟩ => ⟨h1, hU.trans (h2.mono hU.size)⟩))
      rw [HV1.out] at HVC
      have HND6 := Lib.hid (fun U (hU : Below w6.heap.size w6 U) => nodes_at ((hU.block _ (lt_of_block hP3)).trans hP3))
      have hS3l := lt_of_block hS3
      have hX3l := lt_of_block hX3
      have HSS := Lib.hid (show ∀ U, Below w6.heap.size w6 U → U.cell? ⟨S, 0, none⟩ = some (ptr P) ∧ (U.cell? ⟨D, 0, none⟩ = some (.int .i64 op) ∧ U.cell? ⟨D, 1, none⟩ = some (.int .i64 wid) ∧ U.cell? ⟨D, 2, none⟩ = some (.int .i64 fl) ∧ U.cell? ⟨D, 3, none⟩ = some (.slice A i c) ∧ U.cell? ⟨D, 4, none⟩ = some (.int .u32 imm)) from fun U hU => ⟨cell_of_one ((hU.block _ hS3l).trans hS3), cells5 (x := ⟨op, wid, fl, [], imm⟩) ((hU.block _ hX3l).trans hX3)⟩)
      have HB3 := Lib.hid hb3
      clear hX3 hk3 hS3 hP3 hb3 hR3 hX2 hS2 hP2 d0 d1 d2 d3 d4 hdf hX2l hws hR
      go_region_held3 (fun U => U.cell? ⟨S, 0, none⟩ = some (ptr P) ∧ (U.cell? ⟨D, 0, none⟩ = some (.int .i64 op) ∧ U.cell? ⟨D, 1, none⟩ = some (.int .i64 wid) ∧ U.cell? ⟨D, 2, none⟩ = some (.int .i64 fl) ∧ U.cell? ⟨D, 3, none⟩ = some (.slice A i c) ∧ U.cell? ⟨D, 4, none⟩ = some (.int .u32 imm))) (first | exact HSS.out _ (Below.refl _ _) | exact HSS.out _ (drewD (Below.refl _ _)) | exact HSS.out _ hb7) (first | (go_at_call 26; refine (HND6.out _ (drewD (Below.refl _ _))).mono ?_; rintro e w7 ⟨rfl, rfl⟩) | (go_at_call 50; refine (HVC.out _ (drewD (Below.refl _ _))).mono ?_; rintro e w7 ⟨rfl, hb7⟩))
      go_wp2
      go_ret2
      exact ⟨by exact ret_ub (by rw [HRES.out.2 HCT.out]) HCT.out, HB3.out.trans (hb7.mono HB3.out.size)⟩
end
end
section
open Go.RowKit

theorem fine_of {U out : List Nd} {x : Nd} {a : List Nat} (hx : ArgX U out x a) (hl : out.length ≤ 300) : Fine ⟨x.op, x.width, x.flags, natI a, x.imm⟩ := by
  refine ⟨?_, ?_, hx.flags, hx.imm0, by simp only [natI_len']; exact hx.len, fun i hi => ?_⟩
  · have := hx.op
    simp only
    omega
  · have := hx.wid
    simp only
    omega
  · simp only [natI_len'] at hi
    simp only
    rw [natI_at hi]
    have := hx.arg i hi
    omega
section
variable {w : World} {S base P M : Nat} {F : Nat → Prop} {out U : List Nd}
set_option maxRecDepth 100000 in
set_option maxHeartbeats 8000000 in
theorem node_any (h : Sml w S base P M F out) (hSF : ¬ F S) (hpv : PV U out) (hU : valF U = 0) (hiU : ∀ k, k < U.length → 0 ≤ U[k]!.imm) {x : Nd} {a : List Nat} (hx : ArgX U out x a) {A A' : Option Addr} {n c n' c' : Nat} (hI : Ints w A n c (natI a)) (hA : n = 0 → A = none ∧ c = 0) (hAF : ∀ b off, A = some ⟨b, off, none⟩ → ¬ F b) (h300 : out.length < 300) (hM : Masks w) :
    Calls Tryz.prog 24 #[ptr S, .agg #[.int .i64 x.op, .int .i64 x.width, .int .i64 x.flags, .slice A' n' c', .int .u32 x.imm], .slice A n c] w fun e w' => ∃ k o2 F', e = .returned (.int .i64 ((k : Nat) : Int)) ∧ Sml w' S base P M F' o2 ∧ NodeOK U out x a k o2 ∧ (∀ b, F b → F' b) ∧ (∀ b, F' b → F b ∨ w.heap.size ≤ b) ∧ KeepF F w w' := by
  have hcap := hI.2.1
  have hmax := hI.2.2.1
  have HF := Lib.hid (fun w1 (hb : Below w.heap.size w w1) => fold_any (A' := A') (n' := n') (c' := c') (h.below hb) hpv hx (hI.below hb) (hM.below hb (Nat.le_refl _)))
  have HD := Lib.hid (fun w1 (hb : Below w.heap.size w w1) => drop_any (A' := A') (n' := n') (c' := c') (h.below hb) hx (hI.below hb))
  have HH := Lib.hid h
  have hSl := lt_of_block h.blk
  have HSF := Lib.hid hSF
  have HFL := Lib.hid (fun b (e : F b) => (h.pool.lt b e).1)
  cases hc : cons1 out a
  · cases hd : (drF out x.op x.width a).2
    · -- the node itself
      have HOK := Lib.hid (nodeOK_put hpv hU hx h300)
      have HADD := Lib.hid (fun w1 (hb : Below w.heap.size w w1) => poolAdd_any (h.below hb).pool ⟨x.op, x.width, x.flags, natI a, x.imm⟩ (hI.below hb) hA hAF (fine_of hx (by omega)) (by omega))
      rw [hc] at HF
      rw [hd] at HD
      generalize (drF out x.op x.width a).1 = dk at HD
      obtain ⟨op, wid, fl, args, imm⟩ := x
      simp only at HF HD HADD HOK
      clear hpv hx hI hM h hSF hc hd hA hAF
      generalize (⟨op, wid, fl, natI a, imm⟩ : Nd) = y at HADD HOK
      go_enter Tryz.func24, Tryz.ntmps24
      go_upto_region 1 with fail
      have hxb := heap_alloc_new w (.cells #[.int .i64 op, .int .i64 wid, .int .i64 fl, .slice A' n' c', .int .u32 imm] 38)
      have hbn : Below w.heap.size w (w.alloc (.cells #[.int .i64 op, .int .i64 wid, .int .i64 fl, .slice A' n' c', .int .u32 imm] 38)) := (Below.refl _ _).alloc (Nat.le_refl _) _
      generalize World.alloc w _ = W1 at hxb hbn ⊢
      have HBN := Lib.hid hbn
      obtain ⟨D, hDE⟩ : ∃ D, w.heap.size = D := ⟨_, rfl⟩
      rw [hDE] at hxb ⊢
      have hDl := lt_of_block hxb
      obtain ⟨d0, d1, d2, d3, d4⟩ := cells5 (x := ⟨op, wid, fl, [], imm⟩) hxb
      simp only at d0 d1 d2 d3 d4
      have HDE := Lib.hid hDE
      clear hDE hbn
      go_wp2_with fail
      refine (HF.out _ HBN.out).mono ?_
      rintro e w2 ⟨rfl, hb2⟩
      have HB2 := Lib.hid (HBN.out.trans (hb2.mono HBN.out.size))
      have hx2 := (hb2.block _ hDl).trans hxb
      clear d0 d1 d2 d3 d4 hDl hb2
      have hDl := lt_of_block hx2
      obtain ⟨d0, d1, d2, d3, d4⟩ := cells5 (x := ⟨op, wid, fl, [], imm⟩) hx2
      simp only at d0 d1 d2 d3 d4
      go_wp2_with fail
      refine (HD.out _ HB2.out).mono ?_
      rintro e w3 ⟨rfl, hb3⟩
      have HB3 := Lib.hid (HB2.out.trans (hb3.mono HB2.out.size))
      have hx3 := (hb3.block _ hDl).trans hx2
      clear d0 d1 d2 d3 d4 hDl hb3 hx2
      have hDl := lt_of_block hx3
      obtain ⟨d0, d1, d2, d3, d4⟩ := cells5 (x := ⟨op, wid, fl, [], imm⟩) hx3
      simp only at d0 d1 d2 d3 d4
      have hdf : w3.frozen? ⟨D, 3, none⟩ = false := by simp [World.frozen?, hx3]
      go_upto_region 8 with fail
      have hx4 : (w3.setCell ⟨D, 3, none⟩ (.slice A n c)).heap[D]? = some (.cells #[.int .i64 op, .int .i64 wid, .int .i64 fl, .slice A n c, .int .u32 imm] 38 (0, 0)) := (heap_setCell_same w3 D 3 _ _ _ hx3).trans rfl
      have hb4 : Below w.heap.size w (w3.setCell ⟨D, 3, none⟩ (.slice A n c)) := HB3.out.setCell (p := ⟨D, 3, none⟩) (by rw [HDE.out]; exact Nat.le_refl _) _
      generalize World.setCell w3 _ _ = w4 at hx4 hb4 ⊢
      have HS4 := Lib.hid (HH.out.below hb4)
      have hx4l := lt_of_block hx4
      have HFD := Lib.hid (show ¬ F D from fun e => by have := HFL.out D e; have := HDE.out; omega)
      have HSS := Lib.hid (show ∀ U, KeepF F w4 U → U.cell? ⟨S, 0, none⟩ = some (ptr P) ∧ (U.cell? ⟨D, 0, none⟩ = some (.int .i64 op) ∧ U.cell? ⟨D, 1, none⟩ = some (.int .i64 wid) ∧ U.cell? ⟨D, 2, none⟩ = some (.int .i64 fl) ∧ U.cell? ⟨D, 3, none⟩ = some (.slice A n c) ∧ U.cell? ⟨D, 4, none⟩ = some (.int .u32 imm)) from fun U hU => ⟨cell_of_one ((hU.block _ (lt_of_block HS4.out.blk) HSF.out).trans HS4.out.blk), cells5 (x := ⟨op, wid, fl, [], imm⟩) ((hU.block _ hx4l HFD.out).trans hx4)⟩)
      have HB4 := Lib.hid hb4
      have HAD4 := Lib.hid (HADD.out w4.drew (drewD hb4))
      clear d0 d1 d2 d3 d4 hDl hdf hx3 hx4 hb4 hx4l
      go_region_held3 (fun U => U.cell? ⟨S, 0, none⟩ = some (ptr P) ∧ (U.cell? ⟨D, 0, none⟩ = some (.int .i64 op) ∧ U.cell? ⟨D, 1, none⟩ = some (.int .i64 wid) ∧ U.cell? ⟨D, 2, none⟩ = some (.int .i64 fl) ∧ U.cell? ⟨D, 3, none⟩ = some (.slice A n c) ∧ U.cell? ⟨D, 4, none⟩ = some (.int .u32 imm))) (first | exact HSS.out _ (KeepF.refl _ _) | exact HSS.out _ ⟨rfl, rfl, rfl, Nat.le_refl _, fun _ _ _ => rfl⟩ | exact HSS.out _ ⟨g4.os, g4.tape, g4.output, g4.size, g4.block⟩) (first | (go_at_call 41; refine HAD4.out.mono ?_; rintro e w7 ⟨rfl, ⟨F7, g1, g2, g3⟩, g4⟩))
      have hk : KeepF F w4 w7 := ⟨g4.os, g4.tape, g4.output, g4.size, g4.block⟩
      have HR := Lib.hid (show Sml w7 S base P M F7 (addP out y) ∧ (∀ b, F7 b → F b ∨ w.heap.size ≤ b) ∧ KeepF F w w7 from ⟨⟨(hk.block _ (lt_of_block HS4.out.blk) HSF.out).trans HS4.out.blk, g1⟩, fun b e => (g3 b e).elim .inl (fun h => .inr (Nat.le_trans HB4.out.size h)), (keep_of_below HB4.out).trans hk (fun _ e => .inl e)⟩)
      clear g1 g3 g4 hk
      go_wp2
      go_ret
      exact ⟨ix out y, addP out y, F7, rfl, HR.out.1, HOK.out, g2, HR.out.2.1, HR.out.2.2⟩
    · have HOK := Lib.hid (nodeOK_drop hpv hx hd)
      rw [hc] at HF
      rw [hd] at HD
      generalize (drF out x.op x.width a).1 = dk at HD HOK
      obtain ⟨op, wid, fl, args, imm⟩ := x
      simp only at HF HD HOK
      clear hpv hx hI hM h hSF hc hd hA hAF
      go_enter Tryz.func24, Tryz.ntmps24
      go_upto_region 1 with fail
      have hxb := heap_alloc_new w (.cells #[.int .i64 op, .int .i64 wid, .int .i64 fl, .slice A' n' c', .int .u32 imm] 38)
      have hbn : Below w.heap.size w (w.alloc (.cells #[.int .i64 op, .int .i64 wid, .int .i64 fl, .slice A' n' c', .int .u32 imm] 38)) := (Below.refl _ _).alloc (Nat.le_refl _) _
      generalize World.alloc w _ = W1 at hxb hbn ⊢
      have HBN := Lib.hid hbn
      obtain ⟨D, hDE⟩ : ∃ D, w.heap.size = D := ⟨_, rfl⟩
      rw [hDE] at hxb ⊢
      have hDl := lt_of_block hxb
      obtain ⟨d0, d1, d2, d3, d4⟩ := cells5 (x := ⟨op, wid, fl, [], imm⟩) hxb
      simp only at d0 d1 d2 d3 d4
      clear hDE hbn
      go_wp2_with fail
      refine (HF.out _ HBN.out).mono ?_
      rintro e w2 ⟨rfl, hb2⟩
      have HB2 := Lib.hid (HBN.out.trans (hb2.mono HBN.out.size))
      have hx2 := (hb2.block _ hDl).trans hxb
      clear d0 d1 d2 d3 d4 hDl hb2
      have hDl := lt_of_block hx2
      obtain ⟨d0, d1, d2, d3, d4⟩ := cells5 (x := ⟨op, wid, fl, [], imm⟩) hx2
      simp only at d0 d1 d2 d3 d4
      go_wp2_with fail
      refine (HD.out _ HB2.out).mono ?_
      rintro e w3 ⟨rfl, hb3⟩
      have HB3 := Lib.hid (HB2.out.trans (hb3.mono HB2.out.size))
      clear d0 d1 d2 d3 d4 hDl hb3 hx2
      go_wp2
      go_ret
      exact ⟨dk, out, F, rfl, HH.out.below HB3.out, HOK.out, fun _ h => h, fun _ h => .inl h, keep_of_below HB3.out⟩
  · obtain ⟨hlt, hok⟩ := nodeOK_fold hpv hU hiU hx hc h300
    have HOK := Lib.hid hok
    have hwd := hx.wid
    have hp32 := pw_le (show x.width.toNat ≤ 32 by omega)
    have HADD := Lib.hid (fun w1 (hb : Below w.heap.size w w1) => poolAdd_any (h.below hb).pool ⟨0, x.width, 0, [], (foldV out x a : Nat)⟩ (A := none) (n := 0) (c := 0) (ints_nil rfl) (fun _ => ⟨rfl, rfl⟩) (fun b off e => by cases e) ⟨⟨by simp only; omega, by simp only; omega⟩, ⟨by simp only; omega, by simp only; omega⟩, rfl, ⟨by simp only; omega, by simp only; omega⟩, rfl, fun i hi => absurd hi (by simp)⟩ (by omega))
    rw [hc, if_pos rfl] at HF
    generalize foldV out x a = fv at HF HADD HOK
    obtain ⟨op, wid, fl, args, imm⟩ := x
    simp only at HF HADD HOK
    clear hpv hx hI hM h hSF hc hA hAF hlt hok hwd hp32 HD
    generalize (⟨0, wid, 0, [], (fv : Int)⟩ : Nd) = y at HADD HOK
    go_enter Tryz.func24, Tryz.ntmps24
    go_upto_region 1 with fail
    have hxb := heap_alloc_new w (.cells #[.int .i64 op, .int .i64 wid, .int .i64 fl, .slice A' n' c', .int .u32 imm] 38)
    have hbn : Below w.heap.size w (w.alloc (.cells #[.int .i64 op, .int .i64 wid, .int .i64 fl, .slice A' n' c', .int .u32 imm] 38)) := (Below.refl _ _).alloc (Nat.le_refl _) _
    generalize World.alloc w _ = W1 at hxb hbn ⊢
    have HBN := Lib.hid hbn
    obtain ⟨D, hDE⟩ : ∃ D, w.heap.size = D := ⟨_, rfl⟩
    rw [hDE] at hxb ⊢
    have hDl := lt_of_block hxb
    obtain ⟨d0, d1, d2, d3, d4⟩ := cells5 (x := ⟨op, wid, fl, [], imm⟩) hxb
    simp only at d0 d1 d2 d3 d4
    have HDE := Lib.hid hDE
    clear hDE hbn
    go_wp2_with fail
    refine (HF.out _ HBN.out).mono ?_
    rintro e w2 ⟨rfl, hb2⟩
    have HB2 := Lib.hid (HBN.out.trans (hb2.mono HBN.out.size))
    have hx2 := (hb2.block _ hDl).trans hxb
    clear d0 d1 d2 d3 d4 hDl hb2
    have hDl := lt_of_block hx2
    obtain ⟨d0, d1, d2, d3, d4⟩ := cells5 (x := ⟨op, wid, fl, [], imm⟩) hx2
    simp only at d0 d1 d2 d3 d4
    have HS4 := Lib.hid (HH.out.below HB2.out)
    have HFD := Lib.hid (show ¬ F D from fun e => by have := HFL.out D e; have := HDE.out; omega)
    have HSS := Lib.hid (show ∀ U, KeepF F w2 U → U.cell? ⟨S, 0, none⟩ = some (ptr P) ∧ U.cell? ⟨D, 1, none⟩ = some (.int .i64 wid) from fun U hU => ⟨cell_of_one ((hU.block _ (lt_of_block HS4.out.blk) HSF.out).trans HS4.out.blk), (cells5 (x := ⟨op, wid, fl, [], imm⟩) ((hU.block _ hDl HFD.out).trans hx2)).2.1⟩)
    have HAD4 := Lib.hid (HADD.out w2.drew (drewD HB2.out))
    clear d0 d1 d2 d3 d4 hDl hx2
    go_upto_region 3 with fail
    go_region_held3 (fun U => U.cell? ⟨S, 0, none⟩ = some (ptr P) ∧ U.cell? ⟨D, 1, none⟩ = some (.int .i64 wid)) (first | exact HSS.out _ (KeepF.refl _ _) | exact HSS.out _ ⟨rfl, rfl, rfl, Nat.le_refl _, fun _ _ _ => rfl⟩ | exact HSS.out _ ⟨g4.os, g4.tape, g4.output, g4.size, g4.block⟩) (first | (go_at_call 41; refine HAD4.out.mono ?_; rintro e w7 ⟨rfl, ⟨F7, g1, g2, g3⟩, g4⟩))
    have hk : KeepF F w2 w7 := ⟨g4.os, g4.tape, g4.output, g4.size, g4.block⟩
    have HR := Lib.hid (show Sml w7 S base P M F7 (addP out y) ∧ (∀ b, F7 b → F b ∨ w.heap.size ≤ b) ∧ KeepF F w w7 from ⟨⟨(hk.block _ (lt_of_block HS4.out.blk) HSF.out).trans HS4.out.blk, g1⟩, fun b e => (g3 b e).elim .inl (fun h => .inr (Nat.le_trans HB2.out.size h)), (keep_of_below HB2.out).trans hk (fun _ e => .inl e)⟩)
    clear g1 g3 g4 hk
    go_wp2
    go_ret
    exact ⟨ix out y, addP out y, F7, rfl, HR.out.1, HOK.out, g2, HR.out.2.1, HR.out.2.2⟩
end
end
end Go.Proofs.YtbohigjfdnnomaaGreatDoor
