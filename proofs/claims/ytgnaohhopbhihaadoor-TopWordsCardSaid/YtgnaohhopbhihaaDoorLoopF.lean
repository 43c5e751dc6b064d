/-
  A struct of two ints and three words by value, opened and shut; the walk of LoopSums.
-/
import Derived.Test.YtgnaohhopbhihaaDoorLoopE
import Derived.Test.YtgnaohhopbhihaaDoorBitsF
namespace Go.Proofs.YtgnaohhopbhihaaDoor
open Go.ChangeShapes Go.WideShapes Go.ChangeAt Go.WideMaps Go.WideElems Go.RowKit Go.Joins

section
variable {H : Type} {enc : TypeId × Value → H} {W : World} {base b0 : Nat} {sp : Nat → Bool} {held : Bool}
set_option maxRecDepth 100000 in
theorem count_open {v : Value} {d : DataW H} {p : List MemPlace} (hv : Value.okWide Tryd.prog W .any b0 44 v) (h : DataW.Trod enc Tryd.prog W base sp held 44 v d p) :
    ∃ a b x y z : Int, v = .agg #[.int .i64 a, .int .i64 b, .int .u32 x, .int .u32 y, .int .u32 z] ∧ d = .agg [.lit (.int .i64 a), .lit (.int .i64 b), .lit (.int .u32 x), .lit (.int .u32 y), .lit (.int .u32 z)] ∧ p = [] ∧
      (Lit.int .i64 a).wf = true ∧ (Lit.int .i64 b).wf = true ∧ (Lit.int .u32 x).wf = true ∧ (Lit.int .u32 y).wf = true ∧ (Lit.int .u32 z).wf = true := by
  obtain ⟨⟨l⟩, rfl, hsz⟩ := okWide_struct Tryd.underlying44 hv
  rw [show Tryd.prog.cellsOf 44 = 5 by kernel_rfl] at hsz
  obtain ⟨fuel, hf⟩ := h
  obtain ⟨xs, n, _, hx, _, hlen, hg⟩ := DataW.trod_struct Tryd.underlying44 hf
  have c1 : Tryd.prog.cellsOf 3 = 1 := by kernel_rfl
  have c2 : Tryd.prog.cellsOf 22 = 1 := cU32
  have g0 := hg 0 _ rfl
  have g1 := hg 1 _ rfl
  have g2 := hg 2 _ rfl
  have g3 := hg 3 _ rfl
  have g4 := hg 4 _ rfl
  match l, hsz, xs, hlen, hx, g0, g1, g2, g3, g4 with
  | [v0, v1, v2, v3, v4], _, [y0, y1, y2, y3, y4], _, hx, g0, g1, g2, g3, g4 =>
    simp [Value.cells, c1, c2] at g0 g1 g2 g3 g4
    obtain ⟨a, e0, rfl, w0⟩ := DataW.trod_int Tryd.underlying3 g0
    obtain ⟨b, e1, rfl, w1⟩ := DataW.trod_int Tryd.underlying3 g1
    obtain ⟨x, e2, rfl, w2⟩ := DataW.trod_int Tryd.underlying22 g2
    obtain ⟨y, e3, rfl, w3⟩ := DataW.trod_int Tryd.underlying22 g3
    obtain ⟨z, e4, rfl, w4⟩ := DataW.trod_int Tryd.underlying22 g4
    simp at e0 e1 e2 e3 e4
    subst e0 e1 e2 e3 e4
    simp at hx
    exact ⟨a, b, x, y, z, rfl, hx.1, hx.2, w0, w1, w2, w3, w4⟩
set_option maxRecDepth 100000 in
theorem count_shut {a b x y z : Int} (w0 : (Lit.int .i64 a).wf = true) (w1 : (Lit.int .i64 b).wf = true) (w2 : (Lit.int .u32 x).wf = true) (w3 : (Lit.int .u32 y).wf = true) (w4 : (Lit.int .u32 z).wf = true) :
    DataW.Trod enc Tryd.prog W base sp held 44 (.agg #[.int .i64 a, .int .i64 b, .int .u32 x, .int .u32 y, .int .u32 z]) (.agg [.lit (.int .i64 a), .lit (.int .i64 b), .lit (.int .u32 x), .lit (.int .u32 y), .lit (.int .u32 z)]) [] := by
  have c1 : Tryd.prog.cellsOf 3 = 1 := by kernel_rfl
  have c2 : Tryd.prog.cellsOf 22 = 1 := cU32
  have h := trod_struct_mk (enc := enc) (P := Tryd.prog) (w := W) (base := base) (spare := sp) (held := held) (n := 1) (cs := [.int .i64 a, .int .i64 b, .int .u32 x, .int .u32 y, .int .u32 z])
    (xs := [(.lit (.int .i64 a), []), (.lit (.int .i64 b), []), (.lit (.int .u32 x), []), (.lit (.int .u32 y), []), (.lit (.int .u32 z), [])]) Tryd.underlying44 (by show 5 = _; kernel_rfl)
    (by simp [c1, c2, DataW.trod, Tryd.underlying3, Tryd.underlying22, w0, w1, w2, w3, w4])
  exact ⟨_, by simpa [Value.cells] using h⟩
end
theorem sums_mod (a b n c : Nat) (h2 : n ≤ 32) : (sumS a b (c + 1) % 18446744073709551616 % pw n) % pw n = (sumS a b c % 18446744073709551616 % pw n + aftF n a b c) % pw n := by
  have hd : pw n ∣ 18446744073709551616 := by
    obtain ⟨k, hk⟩ := pw_dvd (m := n) (n := 64) (by omega)
    have e : pw 64 = 18446744073709551616 := by decide
    exact ⟨k, by rw [← e, hk]⟩
  unfold aftF
  rw [Nat.mod_mod_of_dvd _ hd, Nat.mod_mod_of_dvd _ hd, Nat.mod_mod, sumS_succ, ← Nat.add_mod]
end Go.Proofs.YtgnaohhopbhihaaDoor
