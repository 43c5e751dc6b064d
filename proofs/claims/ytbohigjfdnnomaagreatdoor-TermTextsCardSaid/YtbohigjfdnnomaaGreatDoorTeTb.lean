/-
  The key of a node in the pool's map; slices.Clone.
-/
import Derived.Test.YtbohigjfdnnomaaGreatDoorTeTa
import Derived.Test.YtbohigjfdnnomaaGreatDoorTeJ
import Derived.Maps.OwnSet
import Derived.DeepKeys4
import Derived.Lib.SliceRun
import Derived.Lib.Walk
namespace Go.Proofs.YtbohigjfdnnomaaGreatDoor
open Go.RowKit

theorem laidKeys : laidOutB Tryz.prog = true := by kernel_rfl
theorem keyLaw : Go.Maps.Keyed Tryz.prog 99 := Go.Maps.Keyed.of_law (deep_law_laid laidKeys (m := Tryz.prog.types.size + 1) (of_decide_eq_true (by kernel_rfl)) (of_decide_eq_true (by kernel_rfl)) (by kernel_rfl) (by kernel_rfl))
/-- An Arg as the key has it. -/
def argK (l : List Int) (i : Nat) : Int := if i < l.length then l[i]! else 0
def keyV (y : Nd) : Value := .agg #[.int .i64 y.op, .int .i64 y.width, .int .i64 y.flags, .int .u32 y.imm, .int .i64 (argK y.args 0), .int .i64 (argK y.args 1), .int .i64 (argK y.args 2)]
/-- Nodes that a pool holds. -/
structure Fine (y : Nd) : Prop where
  op : 0 ≤ y.op ∧ y.op ≤ 33
  width : 0 ≤ y.width ∧ y.width ≤ 1000
  flags : y.flags = 0
  imm : 0 ≤ y.imm ∧ y.imm < 4294967296
  len : (y.args.length : Int) = argN y.op
  args : ∀ i, i < y.args.length → 0 ≤ y.args[i]! ∧ y.args[i]! < 1000000
theorem fine_len {y : Nd} (h : Fine y) : y.args.length ≤ 3 := by
  have h1 := h.len
  have h2 := argN_le (op := y.op)
  omega
theorem argK_bound {y : Nd} (h : Fine y) (i : Nat) : 0 ≤ argK y.args i ∧ argK y.args i < 1000000 := by
  unfold argK
  split
  · rename_i hi
    exact h.args i hi
  · omega
theorem wf64 {x : Int} (h : 0 ≤ x ∧ x < 1000000) : (Lit.int .i64 x).wf = true := by
  simp [Lit.wf, IntKind.min, IntKind.max, IntKind.signed, IntKind.bits]
  omega
theorem cellsK3 : Tryz.prog.cellsOf 3 = 1 := by kernel_rfl
theorem cellsK34 : Tryz.prog.cellsOf 36 = 1 := by kernel_rfl
theorem cellsK78 : Tryz.prog.cellsOf 97 = 3 := by kernel_rfl
theorem kI (d : Nat) (a : Int) (h : (Lit.int .i64 a).wf = true) : Tryz.prog.keyLits (d + 1) 3 [.int .i64 a] = some [.int .i64 a] := by
  unfold Program.keyLits
  rw [Tryz.underlying3]
  simp [h]
theorem kU (d : Nat) (a : Int) (h : (Lit.int .u32 a).wf = true) : Tryz.prog.keyLits (d + 1) 36 [.int .u32 a] = some [.int .u32 a] := by
  unfold Program.keyLits
  rw [Tryz.underlying36]
  simp [h]
theorem kA (d : Nat) (a b c : Int) (ha : (Lit.int .i64 a).wf = true) (hb : (Lit.int .i64 b).wf = true) (hc : (Lit.int .i64 c).wf = true) : Tryz.prog.keyLits (d + 2) 97 [.int .i64 a, .int .i64 b, .int .i64 c] = some [.int .i64 a, .int .i64 b, .int .i64 c] := by
  unfold Program.keyLits
  rw [Tryz.underlying97]
  simp only
  rw [if_pos (by kernel_rfl)]
  simp [List.range, List.range.loop, cellsK3, kI _ _ ha, kI _ _ hb, kI _ _ hc]
theorem keyOf_ex {y : Nd} (h : Fine y) : ∃ l, keyOf Tryz.prog 99 (keyV y) = some l := by
  have w0 : (Lit.int .i64 y.op).wf = true := wf64 (by have := h.op; omega)
  have w1 : (Lit.int .i64 y.width).wf = true := wf64 (by have := h.width; omega)
  have w2 : (Lit.int .i64 y.flags).wf = true := wf64 (by have := h.flags; omega)
  have w3 : (Lit.int .u32 y.imm).wf = true := by
    have := h.imm
    simp [Lit.wf, IntKind.min, IntKind.max, IntKind.signed, IntKind.bits]
    omega
  have w4 := wf64 (argK_bound h 0)
  have w5 := wf64 (argK_bound h 1)
  have w6 := wf64 (argK_bound h 2)
  unfold keyV
  generalize y.op = a0 at *
  generalize y.width = a1 at *
  generalize y.flags = a2 at *
  generalize y.imm = a3 at *
  generalize argK y.args 0 = a4 at *
  generalize argK y.args 1 = a5 at *
  generalize argK y.args 2 = a6 at *
  unfold keyOf
  rw [Tryz.underlying99]
  simp only
  rw [if_pos (by kernel_rfl)]
  have e : Tryz.prog.keyLits (Tryz.prog.types.size + 1) 99 (Value.agg #[.int .i64 a0, .int .i64 a1, .int .i64 a2, .int .u32 a3, .int .i64 a4, .int .i64 a5, .int .i64 a6]).cells.toList = some [.int .i64 a0, .int .i64 a1, .int .i64 a2, .int .u32 a3, .int .i64 a4, .int .i64 a5, .int .i64 a6] := by
    obtain ⟨d, hd⟩ : ∃ d, Tryz.prog.types.size = d + 2 := ⟨Tryz.prog.types.size - 2, by kernel_rfl⟩
    rw [hd]
    unfold Program.keyLits
    rw [Tryz.underlying99]
    simp only
    rw [if_pos ⟨by kernel_rfl, by kernel_rfl⟩]
    simp [Value.cells, cellsK3, cellsK34, cellsK78, kI _ _ w0, kI _ _ w1, kI _ _ w2, kU _ _ w3, kA _ _ _ _ w4 w5 w6]
  rw [e]
  exact ⟨_, rfl⟩
noncomputable def keyL (y : Nd) : Lit := (keyOf Tryz.prog 99 (keyV y)).getD (.bool false)
theorem keyL_of {y : Nd} (h : Fine y) : keyOf Tryz.prog 99 (keyV y) = some (keyL y) := by
  obtain ⟨l, hl⟩ := keyOf_ex h
  unfold keyL
  rw [hl]
  rfl
theorem argK_ext {l l2 : List Int} (hl : l.length = l2.length) (h3 : l.length ≤ 3) (h0 : argK l 0 = argK l2 0) (h1 : argK l 1 = argK l2 1) (h2 : argK l 2 = argK l2 2) : l = l2 := by
  refine List.ext_getElem hl fun i hi hi2 => ?_
  have e : ∀ (m : List Int) (j : Nat) (hj : j < m.length), argK m j = m[j] := fun m j hj => by
    unfold argK
    rw [if_pos hj, getElem!_pos m j hj]
  obtain rfl | rfl | rfl : i = 0 ∨ i = 1 ∨ i = 2 := by omega
  · rw [← e l 0 hi, ← e l2 0 hi2, h0]
  · rw [← e l 1 hi, ← e l2 1 hi2, h1]
  · rw [← e l 2 hi, ← e l2 2 hi2, h2]
theorem keyL_inj {y z : Nd} (hy : Fine y) (hz : Fine z) (h : keyL y = keyL z) : y = z := by
  have e := keyLaw.inj (keyL_of hy) (by rw [h]; exact keyL_of hz)
  unfold keyV at e
  simp at e
  obtain ⟨e0, e1, e2, e3, e4, e5, e6⟩ := e
  have hl : y.args.length = z.args.length := by
    have h1 := hy.len
    have h2 := hz.len
    rw [e0] at h1
    omega
  obtain ⟨a0, a1, a2, a3, a4⟩ := y
  obtain ⟨b0, b1, b2, b3, b4⟩ := z
  simp only at e0 e1 e2 e3 hl
  rw [e0, e1, e2, e3, argK_ext hl (fine_len hy) e4 e5 e6]
/-- What the pool's map says. -/
def MapOK (D : DataW Unit) (out : List Nd) : Prop := ∀ y, Fine y → Go.Maps.has D (keyL y) = decide (ix out y < out.length) ∧ (ix out y < out.length → ∀ z, D.atKey (keyL y) z = .lit (.int .i64 ((ix out y : Nat) : Int)))
theorem mapOK_nil : MapOK (.map []) [] := fun y _ => ⟨rfl, fun h => absurd h (by simp)⟩
theorem ix_other {out : List Nd} {y z : Nd} (h : z ≠ y) : ix (out ++ [y]) z = if ix out z < out.length then ix out z else out.length + 1 := by
  induction out with
  | nil => simp [ix, Ne.symm h]
  | cons x l ih =>
    rw [List.cons_append]
    unfold ix
    by_cases e : x = z
    · rw [if_pos e, if_pos e, if_pos (by simp)]
    · rw [if_neg e, if_neg e, ih, List.length_cons]
      by_cases h2 : ix l z < l.length
      · rw [if_pos h2, if_pos (by omega)]
      · rw [if_neg h2, if_neg (by omega)]
theorem ix_self {out : List Nd} {y : Nd} (h : ¬ ix out y < out.length) : ix (out ++ [y]) y = out.length := by
  induction out with
  | nil => simp [ix]
  | cons x l ih =>
    rw [List.cons_append]
    unfold ix at h ⊢
    by_cases e : x = y
    · rw [if_pos e] at h
      simp at h
    · rw [if_neg e] at h ⊢
      rw [ih (by simpa using h), List.length_cons]
set_option maxRecDepth 100000 in
theorem mapOK_put {D : DataW Unit} {out : List Nd} {y : Nd} (hD : Go.Maps.IsMap D) (h : MapOK D out) (hy : Fine y) (hn : ¬ ix out y < out.length) : MapOK (D.put (keyL y) (.lit (.int .i64 ((out.length : Nat) : Int)))) (out ++ [y]) := fun z hz => by
  have hk := keyLaw.key (keyL_of hy)
  by_cases e : z = y
  · subst e
    rw [ix_self hn]
    refine ⟨?_, fun _ z0 => Go.Maps.atKey_put_same hD hk _ z0⟩
    rw [Go.Maps.has_put_same hD hk]
    exact (decide_eq_true (by simp)).symm
  · have hne : keyL z ≠ keyL y := fun he => e (keyL_inj hz hy he)
    obtain ⟨h1, h2⟩ := h z hz
    rw [ix_other e, Go.Maps.has_put_other hne, h1]
    by_cases h3 : ix out z < out.length
    · rw [if_pos h3]
      refine ⟨by rw [decide_eq_true h3]; exact (decide_eq_true (by simp; omega)).symm, fun _ z0 => ?_⟩
      rw [Go.Maps.atKey_put_other hne]
      exact h2 h3 z0
    · rw [if_neg h3]
      refine ⟨by rw [decide_eq_false h3]; exact (decide_eq_false (by simp)).symm, fun h => absurd h (by simp)⟩
set_option maxRecDepth 100000 in
set_option maxHeartbeats 4000000 in
theorem clone_nil (w : World) : Calls Tryz.prog 62 #[.slice none 0 0] w fun e w' => e = .returned (.slice none 0 0) ∧ w' = w := by
  have q22 : ∀ (w : World) (a : Option Addr) (n c n' c' : Nat), (binOp .eql 35 (.slice a n c) (.slice none n' c')).run Tryz.prog w = .ok (.bool a.isNone) w := fun w a n c n' c' => Lib.run_eql_slice_nil w _ _ a n c n' c' Tryz.underlying35
  go_enter Tryz.func62, Tryz.ntmps62
  go_wp2
  go_ret
  exact ⟨rfl, rfl⟩
set_option maxRecDepth 100000 in
set_option maxHeartbeats 4000000 in
theorem clone_ints {w : World} {b off n c : Nat} {l : List Int} (h : Ints w (some ⟨b, off, none⟩) n c l) (h0 : 0 < n) (hn : n ≤ 100) : Calls Tryz.prog 62 #[.slice (some ⟨b, off, none⟩) n c] w fun e w' => (∃ v', e = .returned v' ∧ w'.ownsRow w.heap.size 3 1 v' n (iV l)) ∧ Below w.heap.size w w' := by
  have q22 : ∀ (w : World) (a : Option Addr) (n c n' c' : Nat), (binOp .eql 35 (.slice a n c) (.slice none n' c')).run Tryz.prog w = .ok (.bool a.isNone) w := fun w a n c n' c' => Lib.run_eql_slice_nil w _ _ a n c n' c' Tryz.underlying35
  obtain ⟨i0, hi, hz0, hz1, hz2⟩ := info_parts infoI
  obtain ⟨hl, hcap, hmax, h4⟩ := h
  have hc : ∀ j, j < n → w.cell? ⟨b, off + j, none⟩ = some (.int .i64 l[j]!) := by
    rcases h4 with h4 | ⟨b', off', e, -, h6⟩
    · omega
    · injection e with e
      injection e with e1 e2 _
      subst e1 e2
      exact h6
  have HC := Lib.hid hc
  have HL := Lib.hid hl
  clear hc h4 hl
  go_enter Tryz.func62, Tryz.ntmps62
  go_wp2_with (at_builtin; refine wpList_append_own _ rfl _ _ 35 rfl w.heap.size 3 i0 (.int .i64 0) 1 8 Tryz.underlying35 hi hz0 hz1 hz2 rfl (by decide) _ _ _ rfl (World.ownsRow_made w #[] 0 (Nat.le_refl _) (Nat.zero_le _) rfl) ⟨b, off, none⟩ n c (iV l) rfl ?qc1 ?qc2 ?qc3 ?qc4 ?qc5 ?qc6 ?_)
  case qc1 => have := HL.out; simp [iV]; omega
  case qc2 =>
    intro j u hj
    have hjn : j < n := by
      have h1 := (List.getElem?_eq_some_iff.1 hj).1
      have h2 := HL.out
      rw [iV, List.length_map] at h1
      omega
    rw [Addr.add_lit]
    refine Lib.cell?_alloc_some _ ?_
    rw [HC.out j hjn]
    have e : (iV l)[j]? = some (Value.int .i64 l[j]!) := by have := HL.out; simp [iV, show j < l.length by omega]
    rw [e] at hj
    exact hj
  case qc3 => intro u hu; obtain ⟨x, _, rfl⟩ := List.mem_map.1 hu; rfl
  case qc4 => unfold maxLen; omega
  case qc5 => omega
  case qc6 => simp
  intro v' w1 hown hgrow _
  go_wp2
  go_ret
  exact ⟨⟨v', rfl, hown⟩, ((Below.refl _ w).alloc (Nat.le_refl _) _).grown hgrow (by simp) (by intro k hk; simp [Value.ownBlock] at hk; omega)⟩
end Go.Proofs.YtbohigjfdnnomaaGreatDoor
