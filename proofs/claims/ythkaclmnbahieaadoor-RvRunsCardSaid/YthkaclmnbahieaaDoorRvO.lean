/-
  An instruction, and a word, that came in as arguments.
-/
import Derived.Test.YthkaclmnbahieaaDoorRvS
import Derived.Deep.Slices
namespace Go.Proofs.YthkaclmnbahieaaDoor
open Go.ChangeShapes Go.WideShapes Go.ChangeAt Go.WideMaps Go.WideElems Go.RowKit Go.Joins

theorem wf_int {n : Int} (h : (Lit.int .i64 n).wf = true) : -9223372036854775808 ≤ n ∧ n ≤ 9223372036854775807 := by
  unfold Lit.wf at h
  simp only [Bool.and_eq_true, decide_eq_true_eq] at h
  exact h
theorem wf_u32 {n : Int} (h : (Lit.int .u32 n).wf = true) : ∃ m : Nat, n = (m : Int) ∧ m < 4294967296 := by
  unfold Lit.wf at h
  simp only [Bool.and_eq_true, decide_eq_true_eq] at h
  obtain ⟨h0, h1⟩ := h
  have h2 : (0 : Int) ≤ n := h0
  have h3 : n ≤ 4294967295 := h1
  exact ⟨n.toNat, by omega, by omega⟩
section
variable {H : Type} {enc : TypeId × Value → H} {W : World} {base b0 : Nat} {sp : Nat → Bool} {held : Bool}
set_option maxRecDepth 100000 in
theorem rv_open {v : Value} {d : DataW H} {p : List MemPlace} (hv : Value.okWide Tryd.prog W .any b0 23 v) (h : DataW.Trod enc Tryd.prog W base sp held 23 v d p) :
    ∃ a b x y z : Int, v = .agg #[.int .i64 a, .int .i64 b, .int .i64 x, .int .i64 y, .int .i64 z] ∧ d = .agg [.lit (.int .i64 a), .lit (.int .i64 b), .lit (.int .i64 x), .lit (.int .i64 y), .lit (.int .i64 z)] ∧ p = [] ∧
      (Lit.int .i64 a).wf = true ∧ (Lit.int .i64 b).wf = true ∧ (Lit.int .i64 x).wf = true ∧ (Lit.int .i64 y).wf = true ∧ (Lit.int .i64 z).wf = true := by
  obtain ⟨⟨l⟩, rfl, hsz⟩ := okWide_struct Tryd.underlying23 hv
  rw [show Tryd.prog.cellsOf 23 = 5 by kernel_rfl] at hsz
  obtain ⟨fuel, hf⟩ := h
  obtain ⟨xs, n, _, hx, _, hlen, hg⟩ := DataW.trod_struct Tryd.underlying23 hf
  have c1 : Tryd.prog.cellsOf 3 = 1 := by kernel_rfl
  have g0 := hg 0 _ rfl
  have g1 := hg 1 _ rfl
  have g2 := hg 2 _ rfl
  have g3 := hg 3 _ rfl
  have g4 := hg 4 _ rfl
  match l, hsz, xs, hlen, hx, g0, g1, g2, g3, g4 with
  | [v0, v1, v2, v3, v4], _, [y0, y1, y2, y3, y4], _, hx, g0, g1, g2, g3, g4 =>
    simp [Value.cells, c1] at g0 g1 g2 g3 g4
    obtain ⟨a, e0, rfl, w0⟩ := DataW.trod_int Tryd.underlying3 g0
    obtain ⟨b, e1, rfl, w1⟩ := DataW.trod_int Tryd.underlying3 g1
    obtain ⟨x, e2, rfl, w2⟩ := DataW.trod_int Tryd.underlying3 g2
    obtain ⟨y, e3, rfl, w3⟩ := DataW.trod_int Tryd.underlying3 g3
    obtain ⟨z, e4, rfl, w4⟩ := DataW.trod_int Tryd.underlying3 g4
    simp at e0 e1 e2 e3 e4
    subst e0 e1 e2 e3 e4
    simp at hx
    exact ⟨a, b, x, y, z, rfl, hx.1, hx.2, w0, w1, w2, w3, w4⟩
set_option maxRecDepth 100000 in
theorem rv_shut {a b x y z : Int} (w0 : (Lit.int .i64 a).wf = true) (w1 : (Lit.int .i64 b).wf = true) (w2 : (Lit.int .i64 x).wf = true) (w3 : (Lit.int .i64 y).wf = true) (w4 : (Lit.int .i64 z).wf = true) :
    DataW.Trod enc Tryd.prog W base sp held 23 (.agg #[.int .i64 a, .int .i64 b, .int .i64 x, .int .i64 y, .int .i64 z]) (.agg [.lit (.int .i64 a), .lit (.int .i64 b), .lit (.int .i64 x), .lit (.int .i64 y), .lit (.int .i64 z)]) [] := by
  have c1 : Tryd.prog.cellsOf 3 = 1 := by kernel_rfl
  have h := trod_struct_mk (enc := enc) (P := Tryd.prog) (w := W) (base := base) (spare := sp) (held := held) (n := 1) (cs := [.int .i64 a, .int .i64 b, .int .i64 x, .int .i64 y, .int .i64 z])
    (xs := [(.lit (.int .i64 a), []), (.lit (.int .i64 b), []), (.lit (.int .i64 x), []), (.lit (.int .i64 y), []), (.lit (.int .i64 z), [])]) Tryd.underlying23 (by show 5 = _; kernel_rfl)
    (by simp [c1, DataW.trod, Tryd.underlying3, w0, w1, w2, w3, w4])
  exact ⟨_, by simpa [Value.cells] using h⟩
end
end Go.Proofs.YthkaclmnbahieaaDoor
