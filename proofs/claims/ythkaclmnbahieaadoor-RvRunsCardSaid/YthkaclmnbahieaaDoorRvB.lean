/-
  The tables lie; Validate of the program.
-/
import Derived.Test.YthkaclmnbahieaaDoorRvA
import Derived.Lib.LaidTab
import Derived.Lib.ItoaNum
namespace Go.Proofs.YthkaclmnbahieaaDoor
open Go.RowKit

/-- A row of the table of formats lies. -/
def FmAt (w : World) (i : Nat) : Prop :=
  w.cell? ⟨1, i * 4, none⟩ = some (.int .u32 (kT i : Nat)) ∧ w.cell? ⟨1, i * 4 + 1, none⟩ = some (.int .u32 (oT i : Nat)) ∧ w.cell? ⟨1, i * 4 + 2, none⟩ = some (.int .u32 (f3T i : Nat)) ∧ w.cell? ⟨1, i * 4 + 3, none⟩ = some (.int .u32 (f7T i : Nat))
/-- A row of the table of shapes lies. -/
def ShAt (w : World) (k : Nat) : Prop :=
  w.cell? ⟨0, k * 7, none⟩ = some (.bool (hasD k)) ∧ w.cell? ⟨0, k * 7 + 1, none⟩ = some (.bool (hasA k)) ∧ w.cell? ⟨0, k * 7 + 2, none⟩ = some (.bool (hasB k)) ∧ w.cell? ⟨0, k * 7 + 3, none⟩ = some (.bool (hasI k)) ∧
  w.cell? ⟨0, k * 7 + 4, none⟩ = some (.int .i64 (lowT k)) ∧ w.cell? ⟨0, k * 7 + 5, none⟩ = some (.int .i64 (highT k)) ∧ w.cell? ⟨0, k * 7 + 6, none⟩ = some (.bool (evenT k))
/-- Rows of cells in a row. -/
def rowsC (f : Nat → List Value) (m : Nat) : Array Value := ((List.range m).flatMap f).toArray
theorem rowsC_size {f : Nat → List Value} {k : Nat} (hf : ∀ i, (f i).length = k) (m : Nat) : (rowsC f m).size = m * k := by
  unfold rowsC
  rw [List.size_toArray, List.length_flatMap]
  simp [hf, List.map_const']
theorem rowsC_at {f : Nat → List Value} {k : Nat} (hf : ∀ i, (f i).length = k) {m i j : Nat} (hi : i < m) (hj : j < k) : (rowsC f m)[i * k + j]? = (f i)[j]? := by
  unfold rowsC
  rw [List.getElem?_toArray]
  induction m with
  | zero => omega
  | succ m ih =>
    rw [List.range_succ, List.flatMap_append]
    have hl : ((List.range m).flatMap f).length = m * k := by
      rw [List.length_flatMap]
      simp [hf, List.map_const']
    by_cases e : i < m
    · have : i * k + j < m * k := by
        have := Nat.mul_le_mul_right k (show i + 1 ≤ m by omega)
        rw [Nat.add_mul] at this
        omega
      rw [List.getElem?_append_left (by rw [hl]; exact this)]
      exact ih e
    · obtain rfl : i = m := by omega
      rw [List.getElem?_append_right (by rw [hl]; omega), hl]
      simp [show i * k + j - i * k = j by omega]
def fmC (i : Nat) : List Value := [.int .u32 (kT i : Nat), .int .u32 (oT i : Nat), .int .u32 (f3T i : Nat), .int .u32 (f7T i : Nat)]
def shC (k : Nat) : List Value := [.bool (hasD k), .bool (hasA k), .bool (hasB k), .bool (hasI k), .int .i64 (lowT k), .int .i64 (highT k), .bool (evenT k)]
def FA : Array Value := rowsC fmC 41
def SA : Array Value := rowsC shC 8
/-- The names, as bytes. -/
def nmT : List (List UInt8) := [[97, 100, 100], [115, 117, 98], [115, 108, 108], [115, 108, 116], [115, 108, 116, 117], [120, 111, 114], [115, 114, 108], [115, 114, 97], [111, 114], [97, 110, 100], [109, 117, 108], [100, 105, 118], [100, 105, 118, 117], [114, 101, 109], [114, 101, 109, 117],
  [97, 100, 100, 105], [115, 108, 116, 105], [115, 108, 116, 105, 117], [120, 111, 114, 105], [111, 114, 105], [97, 110, 100, 105], [115, 108, 108, 105], [115, 114, 108, 105], [115, 114, 97, 105], [108, 117, 105], [108, 98, 117], [108, 104, 117], [108, 119], [115, 98], [115, 104], [115, 119],
  [98, 101, 113], [98, 110, 101], [98, 108, 116], [98, 103, 101], [98, 108, 116, 117], [98, 103, 101, 117], [106, 97, 108], [106, 97, 108, 114], [101, 99, 97, 108, 108], [101, 98, 114, 101, 97, 107]]
def nmA : Array Value := (nmT.map fun l => Value.string ⟨l.toArray⟩).toArray
def p10A : Array Value := (Lib.pow10Tab.map fun z => Value.int .u64 z).toArray
def Holds1 (w : World) (g : Nat) (cs : Array Value) : Prop := ∃ t fr, w.heap[g]? = some (.cells cs t fr)
structure Laid (w : World) : Prop where
  fmB : Holds1 w 1 FA
  shB : Holds1 w 0 SA
  nmB : Holds1 w 2 nmA
  p10B : Holds1 w 3 p10A
theorem Holds1.at_ {w : World} {g : Nat} {cs : Array Value} (h : Holds1 w g cs) {i : Nat} {v : Value} (hv : cs[i]? = some v) : w.cell? ⟨g, i, none⟩ = some v := by
  obtain ⟨t, fr, h⟩ := h
  exact (cell_of_row w g i cs t fr h).trans hv
theorem Holds1.below {w w1 : World} {g : Nat} {cs : Array Value} (h : Holds1 w g cs) (hb : Below w.heap.size w w1) : Holds1 w1 g cs := by
  obtain ⟨t, fr, h⟩ := h
  exact ⟨t, fr, (hb.block _ (lt_of_block h)).trans h⟩
theorem Laid.below {w w1 : World} (h : Laid w) (hb : Below w.heap.size w w1) : Laid w1 := ⟨h.fmB.below hb, h.shB.below hb, h.nmB.below hb, h.p10B.below hb⟩
theorem Laid.fm {w : World} (h : Laid w) (i : Nat) (hi : i < 41) : FmAt w i :=
  ⟨h.fmB.at_ (i := i * 4) (rowsC_at (f := fmC) (k := 4) (fun _ => rfl) hi (j := 0) (by omega)), h.fmB.at_ (rowsC_at (f := fmC) (k := 4) (fun _ => rfl) hi (j := 1) (by omega)), h.fmB.at_ (rowsC_at (f := fmC) (k := 4) (fun _ => rfl) hi (j := 2) (by omega)), h.fmB.at_ (rowsC_at (f := fmC) (k := 4) (fun _ => rfl) hi (j := 3) (by omega))⟩
theorem Laid.sh {w : World} (h : Laid w) (k : Nat) (hi : k < 8) : ShAt w k :=
  ⟨h.shB.at_ (i := k * 7) (rowsC_at (f := shC) (k := 7) (fun _ => rfl) hi (j := 0) (by omega)), h.shB.at_ (rowsC_at (f := shC) (k := 7) (fun _ => rfl) hi (j := 1) (by omega)), h.shB.at_ (rowsC_at (f := shC) (k := 7) (fun _ => rfl) hi (j := 2) (by omega)), h.shB.at_ (rowsC_at (f := shC) (k := 7) (fun _ => rfl) hi (j := 3) (by omega)), h.shB.at_ (rowsC_at (f := shC) (k := 7) (fun _ => rfl) hi (j := 4) (by omega)), h.shB.at_ (rowsC_at (f := shC) (k := 7) (fun _ => rfl) hi (j := 5) (by omega)), h.shB.at_ (rowsC_at (f := shC) (k := 7) (fun _ => rfl) hi (j := 6) (by omega))⟩
abbrev rvA (op d a b imm : Int) : Value := .agg #[.int .i64 op, .int .i64 d, .int .i64 a, .int .i64 b, .int .i64 imm]
abbrev rvV (x : Rv) : Value := rvA x.op x.d x.a x.b x.imm
abbrev Calls1 (v V : Int) (w W2 : World) : Prop := Ending.returned (.int .i64 v) = Ending.returned (.int .i64 V) ∧ Below w.heap.size w W2
theorem cells7r {W : World} {B : Nat} {v0 v1 v2 v3 v4 v5 v6 : Value} {t : TypeId} (h : W.heap[B]? = some (.cells #[v0, v1, v2, v3, v4, v5, v6] t (0, 0))) : W.cell? ⟨B, 0, none⟩ = some v0 ∧ W.cell? ⟨B, 1, none⟩ = some v1 ∧ W.cell? ⟨B, 2, none⟩ = some v2 ∧ W.cell? ⟨B, 3, none⟩ = some v3 ∧ W.cell? ⟨B, 4, none⟩ = some v4 ∧ W.cell? ⟨B, 5, none⟩ = some v5 ∧ W.cell? ⟨B, 6, none⟩ = some v6 := by
  refine ⟨?_, ?_, ?_, ?_, ?_, ?_, ?_⟩ <;> simp [World.cell?, h]
theorem cells5r {W : World} {B : Nat} {op d a b imm : Value} {t : TypeId} (h : W.heap[B]? = some (.cells #[op, d, a, b, imm] t (0, 0))) : W.cell? ⟨B, 0, none⟩ = some op ∧ W.cell? ⟨B, 1, none⟩ = some d ∧ W.cell? ⟨B, 2, none⟩ = some a ∧ W.cell? ⟨B, 3, none⟩ = some b ∧ W.cell? ⟨B, 4, none⟩ = some imm := by
  refine ⟨?_, ?_, ?_, ?_, ?_⟩ <;> simp [World.cell?, h]
set_option maxRecDepth 100000 in
set_option maxHeartbeats 4000000 in
theorem validate_bad (op d a b imm : Int) (w : World) (h : op < 0 ∨ 40 < op) : Calls Tryd.prog 14 #[rvA op d a b imm] w fun e w' => e = .returned (.int .i64 1) ∧ Below w.heap.size w w' := by
  by_cases h0 : op < 0
  · go_enter Tryd.func14, Tryd.ntmps14
    go_wp2
    go_ret
    exact ⟨rfl, (Below.refl _ _).alloc (Nat.le_refl _) _⟩
  · have h1 : 40 < op := by omega
    go_enter Tryd.func14, Tryd.ntmps14
    go_wp2
    go_ret
    exact ⟨rfl, (Below.refl _ _).alloc (Nat.le_refl _) _⟩
def valI (k : Nat) (d a b imm : Int) : Int := if ValK k d a b imm then 0 else 1
theorem tmod2 (x : Int) : Int.tmod x 2 = 0 ↔ x % 2 = 0 := Int.dvd_iff_tmod_eq_zero.symm.trans Int.dvd_iff_emod_eq_zero
def valB (r1 r2 r3 ev : Bool) (lo hi imm : Int) : Int := if r1 && (r2 && (r3 && (decide (lo ≤ imm) && (decide (imm ≤ hi) && (!ev || decide (imm % 2 = 0)))))) then 0 else 1
theorem valB_eq (k : Nat) (d a b imm : Int) : valI k d a b imm = valB (decide (regF (hasD k) d)) (decide (regF (hasA k) a)) (decide (regF (hasB k) b)) (evenT k) (lowT k) (highT k) imm := by
  unfold valI valB
  have h : ValK k d a b imm ↔ (decide (regF (hasD k) d) && (decide (regF (hasA k) a) && (decide (regF (hasB k) b) && (decide (lowT k ≤ imm) && (decide (imm ≤ highT k) && (!evenT k || decide (imm % 2 = 0))))))) = true := by
    unfold ValK
    simp only [Bool.and_eq_true, decide_eq_true_eq, Bool.or_eq_true, Bool.not_eq_true']
    constructor
    · rintro ⟨h1, h2, h3, h4, h5, h6⟩
      refine ⟨h1, h2, h3, h4, h5, ?_⟩
      cases e : evenT k
      · exact .inl rfl
      · exact .inr (h6 e)
    · rintro ⟨h1, h2, h3, h4, h5, h6⟩
      refine ⟨h1, h2, h3, h4, h5, fun e => ?_⟩
      rcases h6 with h6 | h6
      · rw [e] at h6; cases h6
      · exact h6
  by_cases hv : ValK k d a b imm
  · have h2 := h.1 hv
    rw [if_pos hv, if_pos h2]
  · have h2 : ¬ _ := fun e => hv (h.2 e)
    rw [if_neg hv, if_neg h2]
set_option maxRecDepth 100000 in
set_option maxHeartbeats 4000000 in
theorem validate_row (i : Nat) (d a b imm : Int) (w : World) (hL : Laid w) (hi : i < 41) : Calls Tryd.prog 14 #[rvA i d a b imm] w fun e w' => e = .returned (.int .i64 (valI (kT i) d a b imm)) ∧ Below w.heap.size w w' := by
  have hb : Below w.heap.size w (w.alloc (.cells #[.int .i64 i, .int .i64 d, .int .i64 a, .int .i64 b, .int .i64 imm] 23)) := (Below.refl _ _).alloc (Nat.le_refl _) _
  have hx := heap_alloc_new w (.cells #[.int .i64 i, .int .i64 d, .int .i64 a, .int .i64 b, .int .i64 imm] 23)
  go_enter Tryd.func14, Tryd.ntmps14
  go_upto_region 1 with fail
  obtain ⟨c0, -, -, -⟩ := (hL.below hb).fm i hi
  obtain ⟨s0, s1, s2, s3, s4, s5, s6⟩ := (hL.below hb).sh (kT i) (by have := kT_le hi; omega)
  have hk := kT_le hi
  generalize World.alloc w _ = W at hx hb c0 s0 s1 s2 s3 s4 s5 s6 ⊢
  obtain ⟨X, hX⟩ : ∃ X, X = w.heap.size := ⟨_, rfl⟩
  rw [← hX] at hx hb ⊢
  have HX := Lib.hid hX
  have lX := lt_of_block hx
  obtain ⟨x0, x1, x2, x3, x4⟩ := cells5r hx
  have R1 := Lib.hid (fun w1 => isRegister_any d (hasD (kT i)) w1)
  have R2 := Lib.hid (fun w1 => isRegister_any a (hasA (kT i)) w1)
  have R3 := Lib.hid (fun w1 => isRegister_any b (hasB (kT i)) w1)
  clear hL hx hX
  go_upto_region 4 with fail
  have hs := heap_alloc_new W (.cells #[.bool (hasD (kT i)), .bool (hasA (kT i)), .bool (hasB (kT i)), .bool (hasI (kT i)), .int .i64 (lowT (kT i)), .int .i64 (highT (kT i)), .bool (evenT (kT i))] 63)
  have hb2 : Below X w (W.alloc (.cells #[.bool (hasD (kT i)), .bool (hasA (kT i)), .bool (hasB (kT i)), .bool (hasI (kT i)), .int .i64 (lowT (kT i)), .int .i64 (highT (kT i)), .bool (evenT (kT i))] 63)) := hb.alloc (by omega) _
  replace x1 := Lib.cell?_alloc_some (.cells #[.bool (hasD (kT i)), .bool (hasA (kT i)), .bool (hasB (kT i)), .bool (hasI (kT i)), .int .i64 (lowT (kT i)), .int .i64 (highT (kT i)), .bool (evenT (kT i))] 63) x1
  replace x2 := Lib.cell?_alloc_some (.cells #[.bool (hasD (kT i)), .bool (hasA (kT i)), .bool (hasB (kT i)), .bool (hasI (kT i)), .int .i64 (lowT (kT i)), .int .i64 (highT (kT i)), .bool (evenT (kT i))] 63) x2
  replace x3 := Lib.cell?_alloc_some (.cells #[.bool (hasD (kT i)), .bool (hasA (kT i)), .bool (hasB (kT i)), .bool (hasI (kT i)), .int .i64 (lowT (kT i)), .int .i64 (highT (kT i)), .bool (evenT (kT i))] 63) x3
  replace x4 := Lib.cell?_alloc_some (.cells #[.bool (hasD (kT i)), .bool (hasA (kT i)), .bool (hasB (kT i)), .bool (hasI (kT i)), .int .i64 (lowT (kT i)), .int .i64 (highT (kT i)), .bool (evenT (kT i))] 63) x4
  clear c0 s0 s1 s2 s3 s4 s5 s6 x0 lX hb
  have HV := Lib.hid (valB_eq (kT i) d a b imm)
  generalize World.alloc W _ = W2 at hs hb2 x1 x2 x3 x4 ⊢
  generalize W.heap.size = S at hs ⊢
  obtain ⟨s0, s1, s2, s3, s4, s5, s6⟩ := cells7r hs
  clear hs
  generalize hasD (kT i) = bd at *
  generalize hasA (kT i) = ba at *
  generalize hasB (kT i) = bb at *
  generalize hasI (kT i) = bi at *
  generalize evenT (kT i) = ev at *
  generalize lowT (kT i) = lo at *
  generalize highT (kT i) = hi' at *
  generalize decide (regF bd d) = r1 at R1 HV
  generalize decide (regF ba a) = r2 at R2 HV
  generalize decide (regF bb b) = r3 at R3 HV
  have fin : ∀ v, v = valI (kT i) d a b imm → Calls1 v (valI (kT i) d a b imm) w W2 := fun v h => ⟨by rw [h], by rw [HX.out] at hb2; exact hb2⟩
  cases r1
  · go_wp2_with (first | (with_reducible refine (R1.out _).mono ?_; rintro e w' ⟨rfl, rfl⟩))
    go_ret
    exact fin _ HV.out.symm
  · cases r2
    · go_wp2_with (first | (with_reducible refine (R1.out _).mono ?_; rintro e w' ⟨rfl, rfl⟩) | (with_reducible refine (R2.out _).mono ?_; rintro e w' ⟨rfl, rfl⟩))
      go_ret
      exact fin _ HV.out.symm
    · cases r3
      · go_wp2_with (first | (with_reducible refine (R1.out _).mono ?_; rintro e w' ⟨rfl, rfl⟩) | (with_reducible refine (R2.out _).mono ?_; rintro e w' ⟨rfl, rfl⟩) | (with_reducible refine (R3.out _).mono ?_; rintro e w' ⟨rfl, rfl⟩))
        go_ret
        exact fin _ HV.out.symm
      · by_cases hlo : imm < lo
        · have e1 : decide (lo ≤ imm) = false := decide_eq_false (by omega)
          go_wp2_with (first | (with_reducible refine (R1.out _).mono ?_; rintro e w' ⟨rfl, rfl⟩) | (with_reducible refine (R2.out _).mono ?_; rintro e w' ⟨rfl, rfl⟩) | (with_reducible refine (R3.out _).mono ?_; rintro e w' ⟨rfl, rfl⟩))
          go_ret
          exact fin _ (by rw [HV.out]; unfold valB; simp; omega)
        · by_cases hhi : hi' < imm
          · go_wp2_with (first | (with_reducible refine (R1.out _).mono ?_; rintro e w' ⟨rfl, rfl⟩) | (with_reducible refine (R2.out _).mono ?_; rintro e w' ⟨rfl, rfl⟩) | (with_reducible refine (R3.out _).mono ?_; rintro e w' ⟨rfl, rfl⟩))
            go_ret
            exact fin _ (by rw [HV.out]; unfold valB; simp; omega)
          · cases ev
            · go_wp2_with (first | (with_reducible refine (R1.out _).mono ?_; rintro e w' ⟨rfl, rfl⟩) | (with_reducible refine (R2.out _).mono ?_; rintro e w' ⟨rfl, rfl⟩) | (with_reducible refine (R3.out _).mono ?_; rintro e w' ⟨rfl, rfl⟩))
              go_ret
              exact fin _ (by rw [HV.out]; unfold valB; simp; omega)
            · by_cases he : imm % 2 = 0
              · have e2 : Int.tmod imm 2 = 0 := (tmod2 imm).2 he
                go_wp2_with (first | (with_reducible refine (R1.out _).mono ?_; rintro e w' ⟨rfl, rfl⟩) | (with_reducible refine (R2.out _).mono ?_; rintro e w' ⟨rfl, rfl⟩) | (with_reducible refine (R3.out _).mono ?_; rintro e w' ⟨rfl, rfl⟩))
                go_ret
                exact fin _ (by rw [HV.out]; unfold valB; simp; omega)
              · have e2 : ¬ Int.tmod imm 2 = 0 := fun h => he ((tmod2 imm).1 h)
                have e3 : (Int.tmod imm 2 != 0) = true := by simp [e2]
                go_wp2_with (first | (with_reducible refine (R1.out _).mono ?_; rintro e w' ⟨rfl, rfl⟩) | (with_reducible refine (R2.out _).mono ?_; rintro e w' ⟨rfl, rfl⟩) | (with_reducible refine (R3.out _).mono ?_; rintro e w' ⟨rfl, rfl⟩))
                go_ret
                exact fin _ (by rw [HV.out]; unfold valB; simp; omega)
end Go.Proofs.YthkaclmnbahieaaDoor
