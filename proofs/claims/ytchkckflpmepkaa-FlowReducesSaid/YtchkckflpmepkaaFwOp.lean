/-
  A graph and a list of numbers as arguments.
-/
import Derived.Test.YtchkckflpmepkaaFwZ
import Derived.Deep.Slices
import Derived.ChangeSame
import Derived.ChangeSlices
import Derived.Carry
namespace Go.Proofs.Ytchkckflpmepkaa
open Go.ChangeShapes Go.WideShapes Go.ChangeAt Go.WideMaps Go.WideElems Go.RowKit Go.Deep

theorem cellsInt : Try.prog.cellsOf 3 = 1 := by kernel_rfl
theorem cellsRow : Try.prog.cellsOf 25 = 1 := by kernel_rfl
section
variable {H : Type} {enc : TypeId × Value → H} {W : World} {base b0 : Nat} {held : Bool}
theorem get_takeI {l : List Int} {k j : Nat} (h : j < k) : (l.take k)[j]! = l[j]! := by
  rw [List.getElem!_eq_getElem?_getD, List.getElem!_eq_getElem?_getD, List.getElem?_take, if_pos h]
set_option maxRecDepth 100000 in
theorem ints_of {fuel : Nat} {cs : List Value} {x : DataW H × List MemPlace} (h : DataW.trod enc Try.prog W base (fun _ => true) held fuel 25 cs = some x) :
    ∃ A n c l, cs = [.slice A n c] ∧ Ints W A n c l := by
  rcases open_ints Try.underlying25 Try.underlying3 cellsInt h with ⟨rfl, -⟩ | ⟨a, n, cap, zs, rfl, -, hl, hm, hz, -, hcell, hwz⟩
  · exact ⟨_, _, _, [], rfl, Ints.nil _⟩
  · simp only [if_true] at hz
    unfold maxLen at hm
    by_cases hn : n = 0
    · subst hn
      exact ⟨_, _, _, [], rfl, rfl, hl, by omega, .inl rfl⟩
    · obtain ⟨ab, ao, spot⟩ := a
      have hspot : spot = none := by simpa [Addr.add] using World.cell?_spot (hcell 0 (by omega))
      subst hspot
      have hl' : (zs.take n).length = n := by simp; omega
      have hb : ab < W.heap.size := by
        have h0 := hcell 0 (by omega)
        rw [Addr.add_lit] at h0
        apply Classical.byContradiction
        intro hb
        have : W.heap[ab]? = none := Array.getElem?_eq_none (by omega)
        simp [World.cell?, this] at h0
      refine ⟨_, n, cap, zs.take n, rfl, hl'.symm, hl, by omega, .inr ⟨ab, ao, rfl, hb, fun j hj => ?_⟩⟩
      have hc := hcell j (by omega)
      rw [Addr.add_lit] at hc
      rw [hc, get_takeI hj]
      simp [show j < zs.length by omega]
set_option maxRecDepth 100000 in
theorem open_nums {v : Value} {d : DataW H} {p : List MemPlace} (hv : Value.okWide Try.prog W .any b0 25 v) (h : DataW.Trod enc Try.prog W base (fun _ => true) held 25 v d p) :
    ∃ A n c l, v = .slice A n c ∧ Ints W A n c l := by
  obtain ⟨A, n, c, rfl⟩ := okWide_slice Try.underlying25 hv
  obtain ⟨fuel, hf⟩ := h
  obtain ⟨A', n', c', l, hcs, hI⟩ := ints_of hf
  simp [Value.cells] at hcs
  obtain ⟨rfl, rfl, rfl⟩ := hcs
  exact ⟨_, _, _, l, rfl, hI⟩
set_option maxRecDepth 100000 in
theorem open_graph {v : Value} {d : DataW H} {p : List MemPlace} (hv : Value.okWide Try.prog W .any b0 22 v) (h : DataW.Trod enc Try.prog W base (fun _ => true) held 22 v d p) :
    ∃ A n c g, v = .slice A n c ∧ RG W A n c g := by
  obtain ⟨A, n, c, rfl⟩ := okWide_slice Try.underlying22 hv
  obtain ⟨fuel, hf⟩ := h
  rcases open_slice1 Try.underlying22 cellsRow hf with ⟨hcs, -⟩ | ⟨a, len, cap, m, n', V, D, Pl, hcs, -, hl, hm, hmm, -, hi⟩
  · simp [Value.cells] at hcs
    obtain ⟨rfl, rfl, rfl⟩ := hcs
    exact ⟨_, _, _, [], rfl, rfl, Nat.le_refl _, by omega, .inl rfl⟩
  · simp [Value.cells] at hcs
    obtain ⟨rfl, rfl, rfl⟩ := hcs
    simp only [if_true] at hmm
    subst hmm
    unfold maxLen at hm
    have hall : ∀ i, i < n → ∃ A' n' c' l, W.cell? (a.add i) = some (.slice A' n' c') ∧ Ints W A' n' c' l := fun i hin => by
      obtain ⟨h1, h2⟩ := hi i (by omega)
      obtain ⟨A', n', c', l, hV, hI⟩ := ints_of h2
      injection hV with hV
      exact ⟨A', n', c', l, by rw [h1, hV], hI⟩
    by_cases hn : n = 0
    · subst hn
      exact ⟨_, _, _, [], rfl, rfl, hl, by omega, .inl rfl⟩
    · obtain ⟨ab, ao, spot⟩ := a
      have hspot : spot = none := by
        obtain ⟨A', n', c', l, h1, -⟩ := hall 0 (by omega)
        simpa [Addr.add] using World.cell?_spot h1
      subst hspot
      have hb : ab < W.heap.size := by
        obtain ⟨A', n', c', l, h0, -⟩ := hall 0 (by omega)
        rw [Addr.add_lit] at h0
        apply Classical.byContradiction
        intro hb
        have : W.heap[ab]? = none := Array.getElem?_eq_none (by omega)
        simp [World.cell?, this] at h0
      have hch : ∃ L : Nat → List Int, ∀ i, i < n → ∃ A' n' c', W.cell? ⟨ab, ao + i, none⟩ = some (.slice A' n' c') ∧ Ints W A' n' c' (L i) := by
        have : ∀ i, ∃ l : List Int, i < n → ∃ A' n' c', W.cell? ⟨ab, ao + i, none⟩ = some (.slice A' n' c') ∧ Ints W A' n' c' l := fun i => by
          by_cases hin : i < n
          · obtain ⟨A', n', c', l, h1, h2⟩ := hall i hin
            rw [Addr.add_lit] at h1
            exact ⟨l, fun _ => ⟨A', n', c', h1, h2⟩⟩
          · exact ⟨[], fun h => absurd h hin⟩
        exact ⟨fun i => Classical.choose (this i), fun i => Classical.choose_spec (this i)⟩
      obtain ⟨L, hL⟩ := hch
      refine ⟨_, n, _, (List.range n).map L, rfl, by simp, hl, by omega, .inr ⟨ab, ao, rfl, hb, fun j hj => ?_⟩⟩
      obtain ⟨A', n', c', h1, h2⟩ := hL j hj
      refine ⟨A', n', c', h1, ?_⟩
      have e : ((List.range n).map L)[j]! = L j := by simp [hj]
      rw [e]
      exact h2
end
end Go.Proofs.Ytchkckflpmepkaa
