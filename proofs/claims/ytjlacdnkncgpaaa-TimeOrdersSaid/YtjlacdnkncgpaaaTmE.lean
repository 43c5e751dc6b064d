/-
  What an instruction reads and writes; which are right.
-/
import Derived.Test.YtjlacdnkncgpaaaTmD
namespace Go.Proofs.Ytjlacdnkncgpaaa
open Go.RowKit

theorem isCode_at (x : Cod) (B : Bool) (w : World) (h : codB x = B) : Calls Try.prog 48 #[aggC x, .int .i64 200, .int .i64 400] w fun e w' => e = .returned (.bool B) ∧ Below w.heap.size w w' := by
  subst h
  exact isCode_any x w
def usesR (x : Cod) : List Int := if codB x then useL x else []
theorem Uses_any (x : Cod) (w : World) : Calls Try.prog 35 #[aggC x] w fun e w' => ∃ v, e = .returned (.tuple #[v, .int .i64 (if codB x then 0 else 1)]) ∧ IntsAt w' v (usesR x) ∧ Below w.heap.size w w' := by
  have HU := Lib.hid (fun w1 => uses_any x w1)
  unfold usesR
  generalize useL x = U at HU ⊢
  cases hB : codB x
  · have HB := Lib.hid (fun w1 => isCode_at x false w1 hB)
    obtain ⟨op, d, a, b, imm, to⟩ := x
    go_enter Try.func35, Try.ntmps35
    go_wp2_with fail
    have hb0 : Below w.heap.size w (w.alloc (.cells #[.int .i64 op, .int .i64 d, .int .i64 a, .int .i64 b, .int .u32 imm, .int .i64 to] 47)) := (Below.refl _ _).alloc (Nat.le_refl _) _
    generalize World.alloc w _ = W0 at hb0 ⊢
    refine (HB.out W0).mono ?_
    rintro e w1 ⟨rfl, hb1⟩
    go_wp2
    refine bodyPost_ret (results_tmp2 rfl _ _ _) rfl ?_
    exact ⟨_, rfl, ⟨none, 0, rfl, .inl rfl⟩, hb0.trans (hb1.mono hb0.size)⟩
  · have HB := Lib.hid (fun w1 => isCode_at x true w1 hB)
    obtain ⟨op, d, a, b, imm, to⟩ := x
    go_enter Try.func35, Try.ntmps35
    go_wp2_with fail
    have hb0 : Below w.heap.size w (w.alloc (.cells #[.int .i64 op, .int .i64 d, .int .i64 a, .int .i64 b, .int .u32 imm, .int .i64 to] 47)) := (Below.refl _ _).alloc (Nat.le_refl _) _
    have hx := heap_alloc_new w (.cells #[.int .i64 op, .int .i64 d, .int .i64 a, .int .i64 b, .int .u32 imm, .int .i64 to] 47)
    generalize World.alloc w _ = W0 at hb0 hx ⊢
    refine (HB.out W0).mono ?_
    rintro e w1 ⟨rfl, hb1⟩
    replace hx := (hb1.block _ (lt_of_block hx)).trans hx
    replace hb0 := hb0.trans (hb1.mono hb0.size)
    obtain ⟨x0, x1, x2, x3, x4, x5⟩ := cells6 hx
    clear hb1
    go_wp2_with fail
    refine (HU.out w1).mono ?_
    rintro e w2 ⟨v, rfl, hI, hb2⟩
    have HI := Lib.hid hI
    clear hI
    go_wp2
    refine bodyPost_ret (results_tmp2 rfl _ _ _) rfl ?_
    exact ⟨_, rfl, HI.out, hb0.trans (hb2.mono hb0.size)⟩
/-- What Defines answers: the register, whether there is one, the error. -/
def defR (x : Cod) : Int × Bool × Int := if codB x then (x.d, (shF x.op).d, 0) else (0, false, 1)
set_option maxRecDepth 100000 in
set_option maxHeartbeats 2000000 in
theorem Defines_any (x : Cod) (w : World) : Calls Try.prog 45 #[aggC x] w fun e w' => e = .returned (.tuple #[.int .i64 (defR x).1, .bool (defR x).2.1, .int .i64 (defR x).2.2]) ∧ Below w.heap.size w w' := by
  unfold defR
  cases hB : codB x
  · have HB := Lib.hid (fun w1 => isCode_at x false w1 hB)
    obtain ⟨op, d, a, b, imm, to⟩ := x
    go_enter Try.func45, Try.ntmps45
    go_wp2_with fail
    have hb0 : Below w.heap.size w (w.alloc (.cells #[.int .i64 op, .int .i64 d, .int .i64 a, .int .i64 b, .int .u32 imm, .int .i64 to] 47)) := (Below.refl _ _).alloc (Nat.le_refl _) _
    generalize World.alloc w _ = W0 at hb0 ⊢
    refine (HB.out W0).mono ?_
    rintro e w1 ⟨rfl, hb1⟩
    go_wp2
    exact bodyPost_ret (v := .tuple #[.int .i64 0, .bool false, .int .i64 1]) (by simp [results, Try.results45, go_sem]) rfl ⟨rfl, hb0.trans (hb1.mono hb0.size)⟩
  · have HB := Lib.hid (fun w1 => isCode_at x true w1 hB)
    obtain ⟨op, d, a, b, imm, to⟩ := x
    have HS := Lib.hid (fun w1 => shapeOf_any op w1)
    simp only
    generalize shF op = S at HS ⊢
    obtain ⟨sd, sa, sb, si, st, sp⟩ := S
    go_enter Try.func45, Try.ntmps45
    go_wp2_with fail
    have hb0 : Below w.heap.size w (w.alloc (.cells #[.int .i64 op, .int .i64 d, .int .i64 a, .int .i64 b, .int .u32 imm, .int .i64 to] 47)) := (Below.refl _ _).alloc (Nat.le_refl _) _
    have hx := heap_alloc_new w (.cells #[.int .i64 op, .int .i64 d, .int .i64 a, .int .i64 b, .int .u32 imm, .int .i64 to] 47)
    generalize World.alloc w _ = W0 at hb0 hx ⊢
    refine (HB.out W0).mono ?_
    rintro e w1 ⟨rfl, hb1⟩
    replace hx := (hb1.block _ (lt_of_block hx)).trans hx
    replace hb0 := hb0.trans (hb1.mono hb0.size)
    obtain ⟨x0, x1, -, -, -, -⟩ := cells6 hx
    have T0 := cell_regrown x0
    have T1 := cell_regrown x1
    have hf : ∀ W, (Instr.field 66 (.agg #[.bool sd, .bool sa, .bool sb, .bool si, .bool st, .bool sp]) 0).run Try.prog W = .ok (.bool sd) W := fun _ => by kernel_rfl
    clear hb1 x0 x1 hx
    go_wp2
    refine wp_region_quiet_below (by kernel_rfl) (by kernel_rfl) ?_
    have q1 : ∀ (dr : Nat) (os : Array Obj), Calls Try.prog 57 #[.int .i64 op] (Sort.grow (redrawn w1 dr) os) fun e w'' => e = .returned (.agg #[.bool sd, .bool sa, .bool sb, .bool si, .bool st, .bool sp]) ∧ ∃ p : Regrown, w'' = Sort.grow (redrawn w1 p.d) p.os := fun dr os => Calls.regrown_of (HS.out _)
    have Q1 := Lib.hid q1
    clear q1
    iterate 9 (go_big_quiet_step ((go_at_call 57; with_reducible exact Q1.out _ _)))
    refine wpQuiet_nil ?_
    intro _ hw'
    obtain ⟨⟨dq, osq⟩, hw''⟩ := hw'
    subst hw''
    replace hb0 := hb0.trans ((below_regrown w1 dq osq).mono hb0.size)
    generalize Sort.grow (redrawn w1 dq) osq = W2 at hb0
    clear T0 T1 hf
    go_wp2
    exact bodyPost_ret (v := .tuple #[.int .i64 d, .bool sd, .int .i64 0]) (by simp [results, Try.results45, go_sem]) rfl ⟨rfl, hb0⟩
/-- The register that an instruction writes, to the reference; -1 if none. -/
def wrF (x : Cod) : Int := if inB x.op 0 20 then x.d else -1
theorem writes_any (x : Cod) (w : World) : Calls Try.prog 47 #[aggC x] w fun e w' => e = .returned (.int .i64 (wrF x)) ∧ Below w.heap.size w w' := by
  obtain ⟨op, d, a, b, imm, to⟩ := x
  unfold wrF
  simp only
  by_cases h1 : 0 ≤ op
  · by_cases h2 : op ≤ 20
    · have E := Lib.hid (show inB op 0 20 = true from inB_iff.2 ⟨h1, h2⟩)
      rw [E.out]
      go_enter Try.func47, Try.ntmps47
      go_wp2
      go_ret
      exact ⟨rfl, (Below.refl _ _).alloc (Nat.le_refl _) _⟩
    · have E := Lib.hid (show inB op 0 20 = false from decide_eq_false (by omega))
      have h3 : 20 < op := by omega
      rw [E.out]
      go_enter Try.func47, Try.ntmps47
      go_wp2
      go_ret
      exact ⟨rfl, (Below.refl _ _).alloc (Nat.le_refl _) _⟩
  · have E := Lib.hid (show inB op 0 20 = false from decide_eq_false (by omega))
    have h3 : op < 0 := by omega
    rw [E.out]
    go_enter Try.func47, Try.ntmps47
    go_wp2
    go_ret
    exact ⟨rfl, (Below.refl _ _).alloc (Nat.le_refl _) _⟩
/-- The registers that an instruction reads, to the reference. -/
def rdF (x : Cod) : List Int := if x.op = 1 then [x.a] else if 2 ≤ x.op ∧ x.op ≤ 17 then [x.a, x.b] else if 18 ≤ x.op ∧ x.op ≤ 20 ∧ 0 ≤ x.a then [x.a] else if 21 ≤ x.op ∧ x.op ≤ 23 then (if 0 ≤ x.a then [x.a, x.b] else [x.b]) else []
theorem ints_one (w : World) (a : Int) : IntsAt (w.alloc (.cells #[.int .i64 a] 3)) (.slice (some ⟨w.heap.size, 0, none⟩) 1 1) [a] := by
  refine ⟨_, 1, rfl, .inr ⟨_, rfl, by simp, fun j hj => ?_⟩⟩
  obtain rfl : j = 0 := by simpa using hj
  have h := heap_alloc_new w (.cells #[.int .i64 a] 3)
  simp only [World.cell?, h]
  rfl
theorem ints_two (w : World) (a b : Int) : IntsAt (w.alloc (.cells #[.int .i64 a, .int .i64 b] 3)) (.slice (some ⟨w.heap.size, 0, none⟩) 2 2) [a, b] := by
  refine ⟨_, 2, rfl, .inr ⟨_, rfl, by simp, fun j hj => ?_⟩⟩
  have h := heap_alloc_new w (.cells #[.int .i64 a, .int .i64 b] 3)
  have hj2 : j = 0 ∨ j = 1 := by simp at hj; omega
  rcases hj2 with rfl | rfl
  · simp only [World.cell?, h]
    rfl
  · simp only [World.cell?, h]
    rfl
set_option maxHeartbeats 2000000 in
theorem reads_any (x : Cod) (w : World) : Calls Try.prog 46 #[aggC x] w fun e w' => ∃ v, e = .returned v ∧ IntsAt w' v (rdF x) ∧ Below w.heap.size w w' := by
  obtain ⟨op, d, a, b, imm, to⟩ := x
  have HR := Lib.hid (show rdF ⟨op, d, a, b, imm, to⟩ = if op = 1 then [a] else if 2 ≤ op ∧ op ≤ 17 then [a, b] else if 18 ≤ op ∧ op ≤ 20 ∧ 0 ≤ a then [a] else if 21 ≤ op ∧ op ≤ 23 then (if 0 ≤ a then [a, b] else [b]) else [] from rfl)
  generalize rdF ⟨op, d, a, b, imm, to⟩ = U at HR ⊢
  by_cases h1 : op = 1
  · subst h1
    have HE := Lib.hid (show U = [a] from HR.out.trans (by repeat (first | rw [if_neg (by omega)] | rw [if_pos (by omega)])))
    rw [HE.out]
    clear HR
    go_enter Try.func46, Try.ntmps46
    go_wp2
    go_ret
    exact ⟨_, rfl, by simpa using ints_one (w.alloc (.cells #[.int .i64 1, .int .i64 d, .int .i64 a, .int .i64 b, .int .u32 imm, .int .i64 to] 47)) a, ((Below.refl _ _).alloc (Nat.le_refl _) _).alloc (by simp) _⟩
  by_cases h2 : op < 2
  · have g0 : op ≤ 0 := by omega
    have HE := Lib.hid (show U = [] from HR.out.trans (by repeat (first | rw [if_neg (by omega)] | rw [if_pos (by omega)])))
    rw [HE.out]
    clear HR
    have HB := Lib.hid (show inB op 21 23 = false from (decide_eq_false (by omega)))
    go_enter Try.func46, Try.ntmps46
    go_wp2_with (go_at_call 51; ((with_reducible refine (refIsStore_at op false _ HB.out).mono ?_); rintro e w' ⟨rfl, rfl⟩))
    go_ret
    exact ⟨_, rfl, ⟨none, 0, rfl, .inl rfl⟩, (Below.refl _ _).alloc (Nat.le_refl _) _⟩
  by_cases h3 : op ≤ 17
  · have g0 : 2 ≤ op := by omega
    have HE := Lib.hid (show U = [a, b] from HR.out.trans (by repeat (first | rw [if_neg (by omega)] | rw [if_pos (by omega)])))
    rw [HE.out]
    clear HR
    go_enter Try.func46, Try.ntmps46
    go_wp2
    go_ret
    exact ⟨_, rfl, by simpa using ints_two (w.alloc (.cells #[.int .i64 op, .int .i64 d, .int .i64 a, .int .i64 b, .int .u32 imm, .int .i64 to] 47)) a b, ((Below.refl _ _).alloc (Nat.le_refl _) _).alloc (by simp) _⟩
  have g1 : 18 ≤ op := by omega
  by_cases h4 : op ≤ 20
  · by_cases h5 : 0 ≤ a
    · have HE := Lib.hid (show U = [a] from HR.out.trans (by repeat (first | rw [if_neg (by omega)] | rw [if_pos (by omega)])))
      rw [HE.out]
      clear HR
      go_enter Try.func46, Try.ntmps46
      go_wp2
      go_ret
      exact ⟨_, rfl, by simpa using ints_one (w.alloc (.cells #[.int .i64 op, .int .i64 d, .int .i64 a, .int .i64 b, .int .u32 imm, .int .i64 to] 47)) a, ((Below.refl _ _).alloc (Nat.le_refl _) _).alloc (by simp) _⟩
    · have h6 : a < 0 := by omega
      have HE := Lib.hid (show U = [] from HR.out.trans (by repeat (first | rw [if_neg (by omega)] | rw [if_pos (by omega)])))
      rw [HE.out]
      clear HR
      have HB := Lib.hid (show inB op 21 23 = false from (decide_eq_false (by omega)))
      go_enter Try.func46, Try.ntmps46
      go_wp2_with (go_at_call 51; ((with_reducible refine (refIsStore_at op false _ HB.out).mono ?_); rintro e w' ⟨rfl, rfl⟩))
      go_ret
      exact ⟨_, rfl, ⟨none, 0, rfl, .inl rfl⟩, (Below.refl _ _).alloc (Nat.le_refl _) _⟩
  have g2 : 21 ≤ op := by omega
  clear g1
  have g1 : 20 < op := by omega
  by_cases h7 : op ≤ 23
  · by_cases h5 : 0 ≤ a
    · have HE := Lib.hid (show U = [a, b] from HR.out.trans (by repeat (first | rw [if_neg (by omega)] | rw [if_pos (by omega)])))
      rw [HE.out]
      clear HR
      have HB := Lib.hid (show inB op 21 23 = true from (inB_iff.2 ⟨by omega, by omega⟩))
      go_enter Try.func46, Try.ntmps46
      go_wp2_with (go_at_call 51; ((with_reducible refine (refIsStore_at op true _ HB.out).mono ?_); rintro e w' ⟨rfl, rfl⟩))
      go_ret
      exact ⟨_, rfl, by simpa using ints_two (w.alloc (.cells #[.int .i64 op, .int .i64 d, .int .i64 a, .int .i64 b, .int .u32 imm, .int .i64 to] 47)) a b, ((Below.refl _ _).alloc (Nat.le_refl _) _).alloc (by simp) _⟩
    · have h6 : a < 0 := by omega
      have HE := Lib.hid (show U = [b] from HR.out.trans (by repeat (first | rw [if_neg (by omega)] | rw [if_pos (by omega)])))
      rw [HE.out]
      clear HR
      have HB := Lib.hid (show inB op 21 23 = true from (inB_iff.2 ⟨by omega, by omega⟩))
      go_enter Try.func46, Try.ntmps46
      go_wp2_with (go_at_call 51; ((with_reducible refine (refIsStore_at op true _ HB.out).mono ?_); rintro e w' ⟨rfl, rfl⟩))
      go_ret
      exact ⟨_, rfl, by simpa using ints_one (w.alloc (.cells #[.int .i64 op, .int .i64 d, .int .i64 a, .int .i64 b, .int .u32 imm, .int .i64 to] 47)) b, ((Below.refl _ _).alloc (Nat.le_refl _) _).alloc (by simp) _⟩
  have g3 : 23 < op := by omega
  have HE := Lib.hid (show U = [] from HR.out.trans (by repeat (first | rw [if_neg (by omega)] | rw [if_pos (by omega)])))
  rw [HE.out]
  clear HR
  have HB := Lib.hid (show inB op 21 23 = false from (decide_eq_false (by omega)))
  go_enter Try.func46, Try.ntmps46
  go_wp2_with (go_at_call 51; ((with_reducible refine (refIsStore_at op false _ HB.out).mono ?_); rintro e w' ⟨rfl, rfl⟩))
  go_ret
  exact ⟨_, rfl, ⟨none, 0, rfl, .inl rfl⟩, (Below.refl _ _).alloc (Nat.le_refl _) _⟩
end Go.Proofs.Ytjlacdnkncgpaaa
