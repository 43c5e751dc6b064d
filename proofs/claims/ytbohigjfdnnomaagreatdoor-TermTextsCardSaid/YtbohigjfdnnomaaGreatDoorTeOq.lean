/-
  A term, words and a number as arguments.
  A term with a number, and parts with a root, as arguments.
-/
import Derived.Test.YtbohigjfdnnomaaGreatDoorTeSk
import Derived.Deep.Slices
import Derived.ChangeSame
import Derived.ChangeSlices
import Derived.Carry
import Derived.OpenShut
namespace Go.Proofs.YtbohigjfdnnomaaGreatDoor
section
open Go.ChangeShapes Go.WideShapes Go.ChangeAt Go.WideMaps Go.WideElems Go.RowKit Go.Deep

theorem cellsInt : Tryz.prog.cellsOf 3 = 1 := by kernel_rfl
theorem cellsRow : Tryz.prog.cellsOf 35 = 1 := by kernel_rfl
theorem cellsWord : Tryz.prog.cellsOf 36 = 1 := by kernel_rfl
theorem cellsNode : Tryz.prog.cellsOf 38 = 5 := by kernel_rfl
section
variable {H : Type} {enc : TypeId × Value → H} {W : World} {base b0 : Nat} {held : Bool}
theorem get_takeI {l : List Int} {k j : Nat} (h : j < k) : (l.take k)[j]! = l[j]! := by
  rw [List.getElem!_eq_getElem?_getD, List.getElem!_eq_getElem?_getD, List.getElem?_take, if_pos h]
theorem block_lt {a : Nat} {o : Nat} {v : Value} (h : W.cell? ⟨a, o, none⟩ = some v) : a < W.heap.size := by
  apply Classical.byContradiction
  intro hb
  have : W.heap[a]? = none := Array.getElem?_eq_none (by omega)
  simp [World.cell?, this] at h
set_option maxRecDepth 100000 in
theorem ints_of {fuel : Nat} {cs : List Value} {x : DataW H × List MemPlace} (h : DataW.trod enc Tryz.prog W base (fun _ => true) held fuel 35 cs = some x) :
    ∃ A n c l, cs = [.slice A n c] ∧ Ints W A n c l := by
  rcases open_ints Tryz.underlying35 Tryz.underlying3 cellsInt h with ⟨rfl, -⟩ | ⟨a, n, cap, zs, rfl, -, hl, hm, hz, -, hcell, hwz⟩
  · exact ⟨_, _, _, [], rfl, ints_nil rfl⟩
  · simp only [if_true] at hz
    unfold maxLen at hm
    by_cases hn : n = 0
    · subst hn
      exact ⟨_, _, _, [], rfl, rfl, hl, by omega, .inl rfl⟩
    · obtain ⟨ab, ao, spot⟩ := a
      have hspot : spot = none := by simpa [Addr.add] using World.cell?_spot (hcell 0 (by omega))
      subst hspot
      have hl' : (zs.take n).length = n := by simp; omega
      have h0 := hcell 0 (by omega)
      rw [Addr.add_lit] at h0
      refine ⟨_, n, cap, zs.take n, rfl, hl'.symm, hl, by omega, .inr ⟨ab, ao, rfl, block_lt h0, fun j hj => ?_⟩⟩
      have hc := hcell j (by omega)
      rw [Addr.add_lit] at hc
      rw [hc, get_takeI hj]
      simp [show j < zs.length by omega]
set_option maxRecDepth 100000 in
theorem open_words {v : Value} {d : DataW H} {p : List MemPlace} (hv : Value.okWide Tryz.prog W .any b0 31 v) (h : DataW.Trod enc Tryz.prog W base (fun _ => true) held 31 v d p) :
    ∃ A n c l, v = .slice A n c ∧ Ws W A n c l ∧ ∀ j, j < n → l[j]! < 4294967296 := by
  obtain ⟨A, n, c, rfl⟩ := okWide_slice Tryz.underlying31 hv
  obtain ⟨fuel, hf⟩ := h
  rcases open_ints Tryz.underlying31 Tryz.underlying36 cellsWord hf with ⟨hcs, -⟩ | ⟨a, n', cap, zs, hcs, -, hl, hm, hz, -, hcell, hwz⟩
  · simp [Value.cells] at hcs
    obtain ⟨rfl, rfl, rfl⟩ := hcs
    exact ⟨_, _, _, [], rfl, ws_nil rfl, fun j hj => absurd hj (by omega)⟩
  · simp [Value.cells] at hcs
    obtain ⟨rfl, rfl, rfl⟩ := hcs
    simp only [if_true] at hz
    unfold maxLen at hm
    by_cases hn : n = 0
    · subst hn
      exact ⟨_, _, _, [], rfl, ⟨rfl, hl, by omega, .inl rfl⟩, fun j hj => absurd hj (by omega)⟩
    · obtain ⟨ab, ao, spot⟩ := a
      have hspot : spot = none := by simpa [Addr.add] using World.cell?_spot (hcell 0 (by omega))
      subst hspot
      have h0 := hcell 0 (by omega)
      rw [Addr.add_lit] at h0
      have hb : ∀ j, j < n → 0 ≤ zs.getD j 0 ∧ zs.getD j 0 < 4294967296 := fun j hj => by
        have hm := hwz (zs.getD j 0) (by simp [List.getD, show j < zs.length by omega])
        have := bounds_u32 hm
        omega
      have hg : ∀ j, j < n → (((zs.take n).map Int.toNat)[j]! : Int) = zs.getD j 0 := fun j hj => by
        have e : ((zs.take n).map Int.toNat)[j]! = (zs.getD j 0).toNat := by simp [show j < zs.length by omega, hj]
        rw [e]
        have := hb j hj
        omega
      refine ⟨_, n, c, (zs.take n).map Int.toNat, rfl, ⟨by simp; omega, hl, by omega, .inr ⟨ab, ao, rfl, block_lt h0, fun j hj => ?_⟩⟩, fun j hj => ?_⟩
      · have hc := hcell j (by omega)
        rw [Addr.add_lit] at hc
        rw [hc, hg j hj]
      · have := hg j hj
        have := hb j hj
        omega
set_option maxRecDepth 100000 in
/-- The cells of a node that reads as data. -/
theorem node_cells {fuel : Nat} {cs : List Value} {x : DataW H × List MemPlace} (h : DataW.trod enc Tryz.prog W base (fun _ => true) held fuel 38 cs = some x) :
    ∃ (y : Nd) (A : Option Addr) (n c : Nat), cs = [.int .i64 y.op, .int .i64 y.width, .int .i64 y.flags, .slice A n c, .int .u32 y.imm] ∧ Ints W A n c y.args ∧ 0 ≤ y.imm ∧ y.imm < 4294967296 := by
  obtain ⟨xs, n, _, hx, hcl, hlen, hg⟩ := DataW.trod_struct Tryz.underlying38 h
  rw [cellsNode] at hcl
  have g0 := hg 0 _ rfl
  have g1 := hg 1 _ rfl
  have g2 := hg 2 _ rfl
  have g3 := hg 3 _ rfl
  have g4 := hg 4 _ rfl
  match cs, hcl, xs, hlen, g0, g1, g2, g3, g4 with
  | [v0, v1, v2, v3, v4], _, [y0, y1, y2, y3, y4], _, g0, g1, g2, g3, g4 =>
    simp [cellsInt, cellsRow, cellsWord] at g0 g1 g2 g3 g4
    obtain ⟨a, e0, -, -⟩ := DataW.trod_int Tryz.underlying3 g0
    obtain ⟨b, e1, -, -⟩ := DataW.trod_int Tryz.underlying3 g1
    obtain ⟨c, e2, -, -⟩ := DataW.trod_int Tryz.underlying3 g2
    obtain ⟨A, m, k, l, e3, hI⟩ := ints_of g3
    obtain ⟨z, e4, -, hw⟩ := DataW.trod_int Tryz.underlying36 g4
    have hb : 0 ≤ z ∧ z ≤ 4294967295 := bounds_u32 hw
    simp at e0 e1 e2 e3 e4
    subst e0 e1 e2 e3 e4
    exact ⟨⟨a, b, c, l, z⟩, A, m, k, rfl, hI, hb.1, Int.lt_of_le_of_lt hb.2 (by decide)⟩
set_option maxRecDepth 100000 in
theorem open_term {v : Value} {d : DataW H} {p : List MemPlace} (hv : Value.okWide Tryz.prog W .any b0 22 v) (h : DataW.Trod enc Tryz.prog W base (fun _ => true) held 22 v d p) :
    ∃ A n c T, v = .slice A n c ∧ Term W A n c T := by
  obtain ⟨A, n, c, rfl⟩ := okWide_slice Tryz.underlying22 hv
  obtain ⟨fuel, hf⟩ := h
  rcases open_slice Tryz.underlying22 hf with ⟨hcs, -⟩ | ⟨a, len, cap, m, n', D, Pl, hcs, -, hl, hm, hmm, -, hi⟩
  · simp [Value.cells] at hcs
    obtain ⟨rfl, rfl, rfl⟩ := hcs
    exact ⟨_, _, _, [], rfl, rfl, Nat.le_refl _, by omega, .inl rfl⟩
  · simp [Value.cells] at hcs
    obtain ⟨rfl, rfl, rfl⟩ := hcs
    simp only [if_true] at hmm
    subst hmm
    unfold maxLen at hm
    rw [cellsNode] at hi
    obtain ⟨b, off, s⟩ := a
    have hall : ∀ i, i < n → ∃ (y : Nd) (A : Option Addr) (k c : Nat), (∀ j, j < 5 → W.cell? ((⟨b, off, s⟩ : Addr).add (i * 5 + j)) = [Value.int .i64 y.op, .int .i64 y.width, .int .i64 y.flags, .slice A k c, .int .u32 y.imm][j]?) ∧ Ints W A k c y.args ∧ 0 ≤ y.imm ∧ y.imm < 4294967296 := by
      intro i hin
      obtain ⟨cs', hc, ht⟩ := hi i (by omega)
      obtain ⟨_, _, hat⟩ := World.cells?_some hc
      obtain ⟨y, A, k, c, rfl, hI, h0, h1⟩ := node_cells ht
      refine ⟨y, A, k, c, fun j hj => ?_, hI, h0, h1⟩
      rw [← add_add]
      exact hat j hj
    by_cases hn : n = 0
    · subst hn
      exact ⟨_, _, _, [], rfl, rfl, hl, by omega, .inl rfl⟩
    · have hsp : s = none := by
        obtain ⟨y, A, k, c, h, -⟩ := hall 0 (by omega)
        have h0 := h 0 (by omega)
        cases s with
        | none => rfl
        | some s0 =>
          simp [Addr.add, World.cell?] at h0
          split at h0 <;> simp at h0
      subst hsp
      have hall2 : ∀ i, i < n → ∃ (y : Nd) (A : Option Addr) (k c : Nat), At5 W b (off + i * 5) y A k c ∧ Ints W A k c y.args ∧ 0 ≤ y.imm ∧ y.imm < 4294967296 := fun i hin => by
        obtain ⟨y, A, k, c, h, hI, h0, h1⟩ := hall i hin
        have c0 := h 0 (by omega)
        have c1 := h 1 (by omega)
        have c2 := h 2 (by omega)
        have c3 := h 3 (by omega)
        have c4 := h 4 (by omega)
        rw [Addr.add_lit] at c0 c1 c2 c3 c4
        simp only [← Nat.add_assoc, Nat.add_zero] at c0 c1 c2 c3 c4
        exact ⟨y, A, k, c, ⟨c0, c1, c2, c3, c4⟩, hI, h0, h1⟩
      have hch : ∃ L : Nat → Nd, ∀ i, i < n → ∃ (A : Option Addr) (k c : Nat), At5 W b (off + i * 5) (L i) A k c ∧ Ints W A k c (L i).args ∧ 0 ≤ (L i).imm ∧ (L i).imm < 4294967296 := by
        have : ∀ i, ∃ y : Nd, i < n → ∃ (A : Option Addr) (k c : Nat), At5 W b (off + i * 5) y A k c ∧ Ints W A k c y.args ∧ 0 ≤ y.imm ∧ y.imm < 4294967296 := fun i => by
          by_cases hin : i < n
          · obtain ⟨y, h⟩ := hall2 i hin
            exact ⟨y, fun _ => h⟩
          · exact ⟨default, fun h => absurd h hin⟩
        exact ⟨fun i => Classical.choose (this i), fun i => Classical.choose_spec (this i)⟩
      obtain ⟨L, hL⟩ := hch
      have hb : b < W.heap.size := by
        obtain ⟨A, k, c, ⟨h0, -⟩, -⟩ := hL 0 (by omega)
        exact block_lt h0
      refine ⟨_, n, _, (List.range n).map L, rfl, by simp, hl, by omega, .inr ⟨b, off, rfl, hb, fun j hj => ?_⟩⟩
      obtain ⟨A, k, c, h1, h2, h3⟩ := hL j hj
      have e : ((List.range n).map L)[j]! = L j := by simp [hj]
      rw [e]
      exact ⟨A, k, c, h1, h2, h3⟩
end
end
section
open Go.ChangeShapes Go.WideShapes Go.ChangeAt Go.WideMaps Go.WideElems Go.RowKit Go.Deep

theorem cellsTerm : Tryz.prog.cellsOf 22 = 1 := by kernel_rfl
/-- Rows of nodes in memory. -/
def RTm (w : World) (A : Option Addr) (n c : Nat) (Ps : List (List Nd)) : Prop := n = Ps.length ∧ n ≤ c ∧ c ≤ 9223372036854775807 ∧ (n = 0 ∨ ∃ b off, A = some ⟨b, off, none⟩ ∧ b < w.heap.size ∧ ∀ j, j < n → ∃ A' n' c', w.cell? ⟨b, off + j, none⟩ = some (.slice A' n' c') ∧ Term w A' n' c' Ps[j]!)
theorem RTm.below {w w' : World} {A : Option Addr} {n c : Nat} {Ps : List (List Nd)} (h : RTm w A n c Ps) (hb : Below w.heap.size w w') : RTm w' A n c Ps := by
  obtain ⟨h1, h2, h3, h4⟩ := h
  refine ⟨h1, h2, h3, h4.imp id ?_⟩
  rintro ⟨b, off, e, hl, hc⟩
  refine ⟨b, off, e, Nat.lt_of_lt_of_le hl hb.size, fun j hj => ?_⟩
  obtain ⟨A', n', c', g1, g2⟩ := hc j hj
  exact ⟨A', n', c', (hb.cell (p := ⟨b, off + j, none⟩) hl).trans g1, g2.below hb⟩
theorem RTm.at_ {w : World} {A : Option Addr} {n c : Nat} {Ps : List (List Nd)} (h : RTm w A n c Ps) {j : Nat} (hj : j < n) : ∃ b off A' n' c', A = some ⟨b, off, none⟩ ∧ b < w.heap.size ∧ w.cell? ⟨b, off + j, none⟩ = some (.slice A' n' c') ∧ Term w A' n' c' Ps[j]! := by
  obtain ⟨-, -, -, h4⟩ := h
  rcases h4 with h | ⟨b, off, e, hl, hc⟩
  · omega
  · obtain ⟨A', n', c', g1, g2⟩ := hc j hj
    exact ⟨b, off, A', n', c', e, hl, g1, g2⟩
section
variable {H : Type} {enc : TypeId × Value → H} {W : World} {base b0 : Nat} {held : Bool}
set_option maxRecDepth 100000 in
theorem term_of {fuel : Nat} {cs : List Value} {x : DataW H × List MemPlace} (hf : DataW.trod enc Tryz.prog W base (fun _ => true) held fuel 22 cs = some x) :
    ∃ A n c T, cs = [.slice A n c] ∧ Term W A n c T := by
  rcases open_slice Tryz.underlying22 hf with ⟨hcs, -⟩ | ⟨a, n, cap, m, n', D, Pl, hcs, -, hl, hm, hmm, -, hi⟩
  · subst hcs
    exact ⟨_, _, _, [], rfl, rfl, Nat.le_refl _, by omega, .inl rfl⟩
  · subst hcs
    simp only [if_true] at hmm
    subst hmm
    unfold maxLen at hm
    rw [cellsNode] at hi
    obtain ⟨b, off, s⟩ := a
    have hall : ∀ i, i < n → ∃ (y : Nd) (A : Option Addr) (k c : Nat), (∀ j, j < 5 → W.cell? ((⟨b, off, s⟩ : Addr).add (i * 5 + j)) = [Value.int .i64 y.op, .int .i64 y.width, .int .i64 y.flags, .slice A k c, .int .u32 y.imm][j]?) ∧ Ints W A k c y.args ∧ 0 ≤ y.imm ∧ y.imm < 4294967296 := by
      intro i hin
      obtain ⟨cs', hc, ht⟩ := hi i (by omega)
      obtain ⟨_, _, hat⟩ := World.cells?_some hc
      obtain ⟨y, A, k, c, rfl, hI, h0, h1⟩ := node_cells ht
      refine ⟨y, A, k, c, fun j hj => ?_, hI, h0, h1⟩
      rw [← add_add]
      exact hat j hj
    by_cases hn : n = 0
    · subst hn
      exact ⟨_, _, _, [], rfl, rfl, hl, by omega, .inl rfl⟩
    · have hsp : s = none := by
        obtain ⟨y, A, k, c, h, -⟩ := hall 0 (by omega)
        have h0 := h 0 (by omega)
        cases s with
        | none => rfl
        | some s0 =>
          simp [Addr.add, World.cell?] at h0
          split at h0 <;> simp at h0
      subst hsp
      have hall2 : ∀ i, i < n → ∃ (y : Nd) (A : Option Addr) (k c : Nat), At5 W b (off + i * 5) y A k c ∧ Ints W A k c y.args ∧ 0 ≤ y.imm ∧ y.imm < 4294967296 := fun i hin => by
        obtain ⟨y, A, k, c, h, hI, h0, h1⟩ := hall i hin
        have c0 := h 0 (by omega)
        have c1 := h 1 (by omega)
        have c2 := h 2 (by omega)
        have c3 := h 3 (by omega)
        have c4 := h 4 (by omega)
        rw [Addr.add_lit] at c0 c1 c2 c3 c4
        simp only [← Nat.add_assoc, Nat.add_zero] at c0 c1 c2 c3 c4
        exact ⟨y, A, k, c, ⟨c0, c1, c2, c3, c4⟩, hI, h0, h1⟩
      have hch : ∃ L : Nat → Nd, ∀ i, i < n → ∃ (A : Option Addr) (k c : Nat), At5 W b (off + i * 5) (L i) A k c ∧ Ints W A k c (L i).args ∧ 0 ≤ (L i).imm ∧ (L i).imm < 4294967296 := by
        have : ∀ i, ∃ y : Nd, i < n → ∃ (A : Option Addr) (k c : Nat), At5 W b (off + i * 5) y A k c ∧ Ints W A k c y.args ∧ 0 ≤ y.imm ∧ y.imm < 4294967296 := fun i => by
          by_cases hin : i < n
          · obtain ⟨y, h⟩ := hall2 i hin
            exact ⟨y, fun _ => h⟩
          · exact ⟨default, fun h => absurd h hin⟩
        exact ⟨fun i => Classical.choose (this i), fun i => Classical.choose_spec (this i)⟩
      obtain ⟨L, hL⟩ := hch
      have hb : b < W.heap.size := by
        obtain ⟨A, k, c, ⟨h0, -⟩, -⟩ := hL 0 (by omega)
        exact block_lt h0
      refine ⟨_, n, _, (List.range n).map L, rfl, by simp, hl, by omega, .inr ⟨b, off, rfl, hb, fun j hj => ?_⟩⟩
      obtain ⟨A, k, c, h1, h2, h3⟩ := hL j hj
      have e : ((List.range n).map L)[j]! = L j := by simp [hj]
      rw [e]
      exact ⟨A, k, c, h1, h2, h3⟩
end
end
end Go.Proofs.YtbohigjfdnnomaaGreatDoor
