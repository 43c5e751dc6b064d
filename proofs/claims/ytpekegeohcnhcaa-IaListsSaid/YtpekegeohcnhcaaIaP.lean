/-
  An instruction and bytes that came in as arguments.
-/
import Derived.Test.YtpekegeohcnhcaaIaQ
import Derived.ChangeSlices
import Derived.Deep.Slices
import Derived.ChangeSame
import Derived.Carry
import Derived.Lib.SmallJoins
namespace Go.Proofs.Ytpekegeohcnhcaa
open Go.ChangeShapes Go.WideShapes Go.ChangeAt Go.WideMaps Go.WideElems Go.RowKit Go.Deep Go.Joins

/-- A slice that came in: bytes; nil if it has no address. -/
def Byn (w : World) (A : Option Addr) (n c : Nat) (l : List Int) : Prop := Byt w A n c l ∧ (A = none → c = 0)
theorem wf_byte {n : Int} (h : (Lit.int .u8 n).wf = true) : 0 ≤ n ∧ n ≤ 255 := by
  unfold Lit.wf at h
  simp only [Bool.and_eq_true, decide_eq_true_eq] at h
  exact h
theorem wf_int {n : Int} (h : (Lit.int .i64 n).wf = true) : -9223372036854775808 ≤ n ∧ n ≤ 9223372036854775807 := by
  unfold Lit.wf at h
  simp only [Bool.and_eq_true, decide_eq_true_eq] at h
  exact h
theorem cellsU8 : Try.prog.cellsOf 5 = 1 := by kernel_rfl
section
variable {H : Type} {enc : TypeId × Value → H} {W : World} {base b0 : Nat} {sp : Nat → Bool} {held : Bool}
set_option maxRecDepth 100000 in
theorem ia_open {v : Value} {d : DataW H} {p : List MemPlace} (hv : Value.okWide Try.prog W .any b0 23 v) (h : DataW.Trod enc Try.prog W base sp held 23 v d p) :
    ∃ a b x y z : Int, v = .agg #[.int .i64 a, .int .i64 b, .int .i64 x, .int .i64 y, .int .i64 z] ∧ d = .agg [.lit (.int .i64 a), .lit (.int .i64 b), .lit (.int .i64 x), .lit (.int .i64 y), .lit (.int .i64 z)] ∧ p = [] ∧
      (Lit.int .i64 a).wf = true ∧ (Lit.int .i64 b).wf = true ∧ (Lit.int .i64 x).wf = true ∧ (Lit.int .i64 y).wf = true ∧ (Lit.int .i64 z).wf = true := by
  obtain ⟨⟨l⟩, rfl, hsz⟩ := okWide_struct Try.underlying23 hv
  rw [show Try.prog.cellsOf 23 = 5 by kernel_rfl] at hsz
  obtain ⟨fuel, hf⟩ := h
  obtain ⟨xs, n, _, hx, _, hlen, hg⟩ := DataW.trod_struct Try.underlying23 hf
  have c1 : Try.prog.cellsOf 3 = 1 := by kernel_rfl
  have g0 := hg 0 _ rfl
  have g1 := hg 1 _ rfl
  have g2 := hg 2 _ rfl
  have g3 := hg 3 _ rfl
  have g4 := hg 4 _ rfl
  match l, hsz, xs, hlen, hx, g0, g1, g2, g3, g4 with
  | [v0, v1, v2, v3, v4], _, [y0, y1, y2, y3, y4], _, hx, g0, g1, g2, g3, g4 =>
    simp [Value.cells, c1] at g0 g1 g2 g3 g4
    obtain ⟨a, e0, rfl, w0⟩ := DataW.trod_int Try.underlying3 g0
    obtain ⟨b, e1, rfl, w1⟩ := DataW.trod_int Try.underlying3 g1
    obtain ⟨x, e2, rfl, w2⟩ := DataW.trod_int Try.underlying3 g2
    obtain ⟨y, e3, rfl, w3⟩ := DataW.trod_int Try.underlying3 g3
    obtain ⟨z, e4, rfl, w4⟩ := DataW.trod_int Try.underlying3 g4
    simp at e0 e1 e2 e3 e4
    subst e0 e1 e2 e3 e4
    simp at hx
    exact ⟨a, b, x, y, z, rfl, hx.1, hx.2, w0, w1, w2, w3, w4⟩
set_option maxRecDepth 100000 in
theorem ia_shut {a b x y z : Int} (w0 : (Lit.int .i64 a).wf = true) (w1 : (Lit.int .i64 b).wf = true) (w2 : (Lit.int .i64 x).wf = true) (w3 : (Lit.int .i64 y).wf = true) (w4 : (Lit.int .i64 z).wf = true) :
    DataW.Trod enc Try.prog W base sp held 23 (.agg #[.int .i64 a, .int .i64 b, .int .i64 x, .int .i64 y, .int .i64 z]) (.agg [.lit (.int .i64 a), .lit (.int .i64 b), .lit (.int .i64 x), .lit (.int .i64 y), .lit (.int .i64 z)]) [] := by
  have c1 : Try.prog.cellsOf 3 = 1 := by kernel_rfl
  have h := trod_struct_mk (enc := enc) (P := Try.prog) (w := W) (base := base) (spare := sp) (held := held) (n := 1) (cs := [.int .i64 a, .int .i64 b, .int .i64 x, .int .i64 y, .int .i64 z])
    (xs := [(.lit (.int .i64 a), []), (.lit (.int .i64 b), []), (.lit (.int .i64 x), []), (.lit (.int .i64 y), []), (.lit (.int .i64 z), [])]) Try.underlying23 (by show 5 = _; kernel_rfl)
    (by simp [c1, DataW.trod, Try.underlying3, w0, w1, w2, w3, w4])
  exact ⟨_, by simpa [Value.cells] using h⟩
end
section
variable {H : Type} {enc : TypeId × Value → H} {W : World} {base b0 : Nat} {held : Bool}
set_option maxRecDepth 100000 in
theorem open_byn {v : Value} {d : DataW H} {p : List MemPlace} (hv : Value.okWide Try.prog W .any b0 24 v) (h : DataW.Trod enc Try.prog W base (fun _ => true) held 24 v d p) :
    ∃ A n c l, v = .slice A n c ∧ Byn W A n c l := by
  obtain ⟨A, n, c, rfl⟩ := okWide_slice Try.underlying24 hv
  obtain ⟨fuel, hf⟩ := h
  rcases open_ints Try.underlying24 Try.underlying5 cellsU8 hf with ⟨hcs, -⟩ | ⟨a, len, cap, zs, hcs, -, hl, hm, hz, -, hcell, hwz⟩
  · simp [Value.cells] at hcs
    obtain ⟨rfl, rfl, rfl⟩ := hcs
    exact ⟨_, _, _, [], rfl, ⟨rfl, Nat.le_refl _, by omega, fun j hj => by omega, .inl rfl⟩, fun _ => rfl⟩
  · simp [Value.cells] at hcs
    obtain ⟨rfl, rfl, rfl⟩ := hcs
    simp only [if_true] at hz
    unfold maxLen at hm
    refine ⟨_, n, c, zs.take n, rfl, ⟨by simp; omega, hl, by omega, fun j hj => ?_, ?_⟩, fun h => by cases h⟩
    · have e2 : (zs.take n)[j]! = zs[j]'(by omega) := by
        simp [List.getElem!_eq_getElem?_getD, hj, List.getElem?_eq_getElem (show j < zs.length by omega)]
      rw [e2]
      have := wf_byte (hwz (zs[j]'(by omega)) (List.getElem_mem _))
      omega
    · by_cases hn : n = 0
      · exact .inl hn
      · obtain ⟨ab, ao, spot⟩ := a
        have hspot : spot = none := by simpa [Addr.add] using World.cell?_spot (hcell 0 (by omega))
        subst hspot
        have hb : ab < W.heap.size := by
          have h0 := hcell 0 (by omega)
          rw [Addr.add_lit] at h0
          apply Classical.byContradiction
          intro hb
          have : W.heap[ab]? = none := Array.getElem?_eq_none (by omega)
          simp [World.cell?, this] at h0
        refine .inr ⟨ab, ao, rfl, hb, fun j hj => ?_⟩
        have hc := hcell j (by omega)
        rw [Addr.add_lit] at hc
        have e : zs.getD j 0 = zs[j]'(by omega) := by simp [List.getD, List.getElem?_eq_getElem (show j < zs.length by omega)]
        have e2 : (zs.take n)[j]! = zs[j]'(by omega) := by
          simp [List.getElem!_eq_getElem?_getD, hj, List.getElem?_eq_getElem (show j < zs.length by omega)]
        rw [hc, e, e2]
end
end Go.Proofs.Ytpekegeohcnhcaa
