/-
  A stretch that came in as an argument: its instructions, and how it reads behind the call.
-/
import Derived.Test.YtjlacdnkncgpaaaTmG
import Derived.Deep.Slices
import Derived.ChangeSame
import Derived.Carry
namespace Go.Proofs.Ytjlacdnkncgpaaa
open Go.ChangeShapes Go.WideShapes Go.ChangeAt Go.WideMaps Go.WideElems Go.RowKit Go.Deep

/-- The number in a cell. -/
def cellI (w : World) (b o : Nat) : Int := match w.cell? ⟨b, o, none⟩ with
  | some v => intOf v
  | none => 0
def codAt (w : World) (b o : Nat) : Cod := ⟨cellI w b o, cellI w b (o + 1), cellI w b (o + 2), cellI w b (o + 3), cellI w b (o + 4), cellI w b (o + 5)⟩
theorem cellI_of {w : World} {b o : Nat} {k : Int} {q : IntKind} (h : w.cell? ⟨b, o, none⟩ = some (.int q k)) : cellI w b o = k := by
  unfold cellI
  rw [h]
  rfl
section
variable {H : Type} {enc : TypeId × Value → H} {W : World} {base b0 : Nat} {held : Bool}
set_option maxRecDepth 100000 in
/-- The cells of an instruction that reads as data are six numbers. -/
theorem code_cells {sp : Nat → Bool} {fuel : Nat} {cs : List Value} {x : DataW H × List MemPlace} (h : DataW.trod enc Try.prog W base sp held fuel 47 cs = some x) :
    ∃ a z v k n o : Int, cs = [.int .i64 a, .int .i64 z, .int .i64 v, .int .i64 k, .int .u32 n, .int .i64 o] := by
  obtain ⟨xs, n, _, hx, hcl, hlen, hg⟩ := DataW.trod_struct Try.underlying47 h
  rw [show Try.prog.cellsOf 47 = 6 by kernel_rfl] at hcl
  have c1 : Try.prog.cellsOf 3 = 1 := by kernel_rfl
  have c2 : Try.prog.cellsOf 45 = 1 := by kernel_rfl
  have g0 := hg 0 _ rfl
  have g1 := hg 1 _ rfl
  have g2 := hg 2 _ rfl
  have g3 := hg 3 _ rfl
  have g4 := hg 4 _ rfl
  have g5 := hg 5 _ rfl
  match cs, hcl, xs, hlen, g0, g1, g2, g3, g4, g5 with
  | [v0, v1, v2, v3, v4, v5], _, [y0, y1, y2, y3, y4, y5], _, g0, g1, g2, g3, g4, g5 =>
    simp [c1, c2] at g0 g1 g2 g3 g4 g5
    obtain ⟨a, e0, -, -⟩ := DataW.trod_int Try.underlying3 g0
    obtain ⟨b, e1, -, -⟩ := DataW.trod_int Try.underlying3 g1
    obtain ⟨x, e2, -, -⟩ := DataW.trod_int Try.underlying3 g2
    obtain ⟨y, e3, -, -⟩ := DataW.trod_int Try.underlying3 g3
    obtain ⟨z, e4, -, -⟩ := DataW.trod_int Try.underlying45 g4
    obtain ⟨o, e5, -, -⟩ := DataW.trod_int Try.underlying3 g5
    simp at e0 e1 e2 e3 e4 e5
    subst e0 e1 e2 e3 e4 e5
    exact ⟨a, b, x, y, z, o, rfl⟩
set_option maxRecDepth 100000 in
theorem open_tab {v : Value} {d : DataW H} {p : List MemPlace} (hv : Value.okWide Try.prog W .any b0 22 v) (h : DataW.Trod enc Try.prog W base (fun _ => true) held 22 v d p) :
    ∃ A n c zs, v = .slice A n c ∧ Tab W A n c zs := by
  obtain ⟨A, n, c, rfl⟩ := okWide_slice Try.underlying22 hv
  obtain ⟨fuel, hf⟩ := h
  rcases open_slice Try.underlying22 hf with ⟨hcs, -⟩ | ⟨a, len, cap, m, n', D, Pl, hcs, -, hl, hm, hmm, -, hi⟩
  · simp [Value.cells] at hcs
    obtain ⟨rfl, rfl, rfl⟩ := hcs
    exact ⟨_, _, _, [], rfl, rfl, Nat.le_refl _, by omega, .inl rfl⟩
  · simp [Value.cells] at hcs
    obtain ⟨rfl, rfl, rfl⟩ := hcs
    simp only [if_true] at hmm
    subst hmm
    unfold maxLen at hm
    rw [show Try.prog.cellsOf 47 = 6 by kernel_rfl] at hi
    obtain ⟨b, off, s⟩ := a
    have hall : ∀ i, i < n → ∃ a z v k q o : Int, ∀ j, j < 6 → W.cell? ((⟨b, off, s⟩ : Addr).add (i * 6 + j)) = [Value.int .i64 a, .int .i64 z, .int .i64 v, .int .i64 k, .int .u32 q, .int .i64 o][j]? := by
      intro i hin
      obtain ⟨cs', hc, ht⟩ := hi i (by omega)
      obtain ⟨_, _, hat⟩ := World.cells?_some hc
      obtain ⟨a, z, v, k, q, o, rfl⟩ := code_cells ht
      refine ⟨a, z, v, k, q, o, fun j hj => ?_⟩
      rw [← add_add]
      exact hat j hj
    by_cases hn : n = 0
    · subst hn
      exact ⟨_, _, _, [], rfl, rfl, hl, by omega, .inl rfl⟩
    · have hsp : s = none := by
        obtain ⟨a, z, v, k, q, o, h⟩ := hall 0 (by omega)
        have h0 := h 0 (by omega)
        cases s with
        | none => rfl
        | some s0 =>
          simp [Addr.add, World.cell?] at h0
          split at h0 <;> simp at h0
      subst hsp
      have hadd : ∀ k, (⟨b, off, none⟩ : Addr).add k = ⟨b, off + k, none⟩ := fun k => by
        unfold Addr.add
        by_cases hk : k = 0
        · rw [if_pos hk, hk]
          rfl
        · rw [if_neg hk]
      refine ⟨_, _, _, (List.range n).map fun i => codAt W b (off + i * 6), rfl, by simp, hl, by omega, .inr ⟨b, off, rfl, ?_, ?_⟩⟩
      · obtain ⟨a, z, v, k, q, o, h⟩ := hall 0 (by omega)
        have h0 := h 0 (by omega)
        rw [hadd] at h0
        apply Classical.byContradiction
        intro hb
        have : W.heap[b]? = none := Array.getElem?_eq_none (by omega)
        simp [World.cell?, this] at h0
      · intro j hj i v hv
        rw [List.length_map, List.length_range] at hj
        obtain ⟨a, z, v', k, q, o, h⟩ := hall j hj
        have h0 := h 0 (by omega)
        have h1 := h 1 (by omega)
        have h2 := h 2 (by omega)
        have h3 := h 3 (by omega)
        have h4 := h 4 (by omega)
        have h5 := h 5 (by omega)
        rw [hadd] at h0 h1 h2 h3 h4 h5
        simp only [← Nat.add_assoc, Nat.add_zero] at h0 h1 h2 h3 h4 h5
        have e : ((List.range n).map fun i => codAt W b (off + i * 6))[j]! = ⟨a, z, v', k, q, o⟩ := by
          have : ((List.range n).map fun i => codAt W b (off + i * 6))[j]! = codAt W b (off + j * 6) := by simp [hj]
          rw [this]
          unfold codAt
          rw [cellI_of h0, cellI_of h1, cellI_of h2, cellI_of h3, cellI_of h4, cellI_of h5]
        rw [e] at hv
        match i, hv with
        | 0, hv => rw [← hv]; exact h0
        | 1, hv => rw [← hv]; exact h1
        | 2, hv => rw [← hv]; exact h2
        | 3, hv => rw [← hv]; exact h3
        | 4, hv => rw [← hv]; exact h4
        | 5, hv => rw [← hv]; exact h5
end
end Go.Proofs.Ytjlacdnkncgpaaa
