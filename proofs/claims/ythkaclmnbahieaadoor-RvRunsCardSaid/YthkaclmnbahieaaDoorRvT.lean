/-
  Bytes and lists of instructions in memory, as arguments, and of the call's own.
-/
import Derived.Test.YthkaclmnbahieaaDoorRvG
import Derived.Test.YthkaclmnbahieaaDoorRvO
import Derived.Laws.AppendOwnNone
import Derived.Deep.Slices
import Derived.ChangeKeysEq
import Derived.Lib.SliceRun
namespace Go.Proofs.YthkaclmnbahieaaDoor
open Go.ChangeShapes Go.WideShapes Go.ChangeAt Go.WideMaps Go.WideElems Go.RowKit Go.Deep Go.Joins

def byV (l : List Int) : List Value := l.map (Value.int .u8)
theorem byV_append (a b : List Int) : byV (a ++ b) = byV a ++ byV b := by simp [byV]
theorem byV_length (l : List Int) : (byV l).length = l.length := by simp [byV]
theorem byV_one (l : List Int) : ∀ u ∈ byV l, u.oneCell' = true := by
  intro u hu
  obtain ⟨x, -, rfl⟩ := List.mem_map.1 hu
  rfl
theorem infoBy : (Tryd.prog.info? 5).map (fun i => (i.zero, i.size, i.bytes)) = some (some (.int .u8 0), 1, 1) := by kernel_rfl
theorem one_new (w : World) (v : Value) (t : TypeId) : ∀ j u, [v][j]? = some u → (w.alloc (.cells #[v] t)).cell? ((⟨w.heap.size, 0, none⟩ : Addr).add j) = some u := by
  intro j u hj
  have hj0 : j = 0 := by
    have := (List.getElem?_eq_some_iff.1 hj).1
    simpa using this
  subst hj0
  have e : (⟨w.heap.size, 0, none⟩ : Addr).add 0 = ⟨w.heap.size, 0, none⟩ := by simp [Addr.add]
  rw [e, cell_of_row _ _ 0 _ _ _ (heap_alloc_new w (.cells #[v] t))]
  simpa using hj
theorem own_base {w : World} {base e size k : Nat} {v : Value} {xs : List Value} (h : w.ownsRow base e size v k xs) : ∀ g, v.ownBlock = some g → base ≤ g := by
  intro g hg
  rcases h.2 with ⟨rfl, _⟩ | ⟨g', cap, cur, rfl, hb, _⟩
  · simp [Value.ownBlock] at hg
  · have : g' = g := by simpa [Value.ownBlock] using hg
    omega
theorem own_below {w w' : World} {base e size k : Nat} {v : Value} {xs : List Value} (h : w.ownsRow base e size v k xs) (hb : Below w.heap.size w w') : w'.ownsRow base e size v k xs := by
  refine ⟨h.1, ?_⟩
  rcases h.2 with h2 | ⟨g, cap, cur, h1, h2, h3, h4⟩
  · exact .inl h2
  · exact .inr ⟨g, cap, cur, h1, h2, (hb.block _ (lt_of_block h3)).trans h3, h4⟩
theorem own_lower {w' : World} {b1 b2 e size k : Nat} {v : Value} {xs : List Value} (h : w'.ownsRow b1 e size v k xs) (hb : b2 ≤ b1) : w'.ownsRow b2 e size v k xs := by
  refine ⟨h.1, ?_⟩
  rcases h.2 with h2 | ⟨g, cap, cur, h1, h2, h3⟩
  · exact .inl h2
  · exact .inr ⟨g, cap, cur, h1, by omega, h3⟩
theorem own_form {w : World} {base e size k : Nat} {v : Value} {xs : List Value} (h : w.ownsRow base e size v k xs) (hk : 0 < k) : ∃ g cap, v = .slice (some ⟨g, 0, none⟩) k cap := by
  rcases h.2 with ⟨_, h0⟩ | ⟨g, cap, cur, h0, _⟩
  · omega
  · exact ⟨g, cap, h0⟩
/-- Bytes in memory. -/
def Byt (w : World) (A : Option Addr) (n c : Nat) (l : List Int) : Prop := n = l.length ∧ n ≤ c ∧ c ≤ 9223372036854775807 ∧ (∀ j, j < n → 0 ≤ l[j]! ∧ l[j]! < 256) ∧ (n = 0 ∨ ∃ b off, A = some ⟨b, off, none⟩ ∧ b < w.heap.size ∧ ∀ j, j < n → w.cell? ⟨b, off + j, none⟩ = some (.int .u8 l[j]!))
theorem Byt.at_ {w : World} {A : Option Addr} {n c : Nat} {l : List Int} (h : Byt w A n c l) {j : Nat} (hj : j < n) : ∃ b off, A = some ⟨b, off, none⟩ ∧ b < w.heap.size ∧ w.cell? ⟨b, off + j, none⟩ = some (.int .u8 l[j]!) ∧ 0 ≤ l[j]! ∧ l[j]! < 256 := by
  obtain ⟨h1, h2, h3, h0, h4 | ⟨b, off, h4, h5, h6⟩⟩ := h
  · omega
  · exact ⟨b, off, h4, h5, h6 j hj, h0 j hj⟩
theorem Byt.below {w w' : World} {A : Option Addr} {n c : Nat} {l : List Int} (h : Byt w A n c l) (hb : Below w.heap.size w w') : Byt w' A n c l := by
  obtain ⟨h1, h2, h3, h0, h4 | ⟨b, off, h4, h5, h6⟩⟩ := h
  · exact ⟨h1, h2, h3, h0, .inl h4⟩
  · exact ⟨h1, h2, h3, h0, .inr ⟨b, off, h4, Nat.lt_of_lt_of_le h5 hb.size, fun j hj => (hb.cell (p := ⟨b, off + j, none⟩) h5).trans (h6 j hj)⟩⟩
/-- Bytes as a string's. -/
def strI (l : List Int) : ByteArray := ⟨(l.map fun x => UInt8.ofNat x.toNat).toArray⟩
def isBy (l : List Int) : Prop := ∀ x ∈ l, 0 ≤ x ∧ x < 256
theorem strI_inj {a b : List Int} (ha : isBy a) (hb : isBy b) (h : strI a = strI b) : a = b := by
  unfold strI at h
  injection h with h
  have h1 : a.map (fun x => UInt8.ofNat x.toNat) = b.map (fun x => UInt8.ofNat x.toNat) := by simpa using h
  have h2 := congrArg (List.map fun u : UInt8 => (u.toNat : Int)) h1
  rw [List.map_map, List.map_map] at h2
  have e : ∀ l : List Int, isBy l → l.map ((fun u : UInt8 => (u.toNat : Int)) ∘ fun x => UInt8.ofNat x.toNat) = l := by
    intro l hl
    conv => rhs; rw [← List.map_id l]
    apply List.map_congr_left
    intro x hx
    have := hl x hx
    simp
    omega
  rw [e a ha, e b hb] at h2
  exact h2
theorem Byt.isBy {w : World} {A : Option Addr} {n c : Nat} {l : List Int} (h : Byt w A n c l) : isBy l := by
  intro x hx
  obtain ⟨j, hj, rfl⟩ := List.mem_iff_getElem.1 hx
  have := h.2.2.2.1 j (by rw [h.1]; exact hj)
  simpa [hj] using this
theorem str_conv {w : World} {A : Option Addr} {n c : Nat} {l : List Int} (h : Byt w A n c l) : (convert 35 9 (.slice A n c)).run Tryd.prog w = .ok (.string (strI l)) w := by
  obtain ⟨h1, h2, h3, h0, h4⟩ := h
  by_cases hn : n = 0
  · subst hn
    obtain rfl : l = [] := List.eq_nil_of_length_eq_zero h1.symm
    rw [run_convert_bytes_string w 35 9 5 _ 0 c Tryd.underlying35 Tryd.underlying5 Tryd.underlying9]
    cases A <;> simp [Conv.bytesToString, loadCells]
    all_goals rfl
  · rcases h4 with h4 | ⟨b, off, rfl, h5, h6⟩
    · exact absurd h4 hn
    have := run_convert_bytes_back (P := Tryd.prog) w 35 9 5 ⟨b, off, none⟩ c (l.map fun x => UInt8.ofNat x.toNat) Tryd.underlying35 Tryd.underlying5 Tryd.underlying9 (fun j hjl => by
      have hjl2 : j < l.length := by simpa using hjl
      have g1 := h0 j (by omega)
      have g2 := h6 j (by omega)
      have e : (⟨b, off, none⟩ : Addr).add j = ⟨b, off + j, none⟩ := by
        unfold Addr.add
        split
        · rename_i h0
          simp
        · rfl
      rw [e, g2]
      have el : l[j]! = l[j] := by simp [hjl2]
      rw [el] at g1 ⊢
      simp
      omega)
    rw [List.length_map, ← h1] at this
    exact this
theorem byt_own {w : World} {base : Nat} {v : Value} {l : List Int} (h : w.ownsRow base 5 1 v l.length (byV l)) (hl : isBy l) : ∃ A c, v = .slice A l.length c ∧ Byt w A l.length c l := by
  have h0 := h
  have hj : ∀ j, j < l.length → 0 ≤ l[j]! ∧ l[j]! < 256 := fun j hj => by
    have := hl l[j] (List.getElem_mem hj)
    simpa [hj] using this
  rcases h.2 with ⟨rfl, h1⟩ | ⟨g, cap, cur, rfl, _, hh, h2, h3, _⟩
  · exact ⟨none, 0, by rw [h1], rfl, by omega, by omega, hj, .inl h1⟩
  · refine ⟨_, cap, rfl, rfl, h2, by unfold maxLen at h3; omega, hj, .inr ⟨g, 0, rfl, lt_of_block hh, fun j hjl => ?_⟩⟩
    have := h0.cells (g := g) rfl j (.int .u8 l[j]!) (by simp [byV, hjl])
    have e2 : (⟨g, 0, none⟩ : Addr).add j = ⟨g, 0 + j, none⟩ := by
      unfold Addr.add
      split
      · rename_i h0
        simp
      · simp
    rw [e2] at this
    exact this
theorem get_take {l : List Int} {k j : Nat} (h : j < k) : (l.take k)[j]! = l[j]! := by
  rw [List.getElem!_eq_getElem?_getD, List.getElem!_eq_getElem?_getD, List.getElem?_take, if_pos h]
theorem Byt.take {w : World} {A : Option Addr} {n c : Nat} {l : List Int} (h : Byt w A n c l) {k : Nat} (hk : k ≤ n) : Byt w A k c (l.take k) := by
  obtain ⟨h1, h2, h3, h0, h4⟩ := h
  refine ⟨by rw [List.length_take]; omega, by omega, h3, fun j hj => by rw [get_take hj]; exact h0 j (by omega), ?_⟩
  rcases h4 with h4 | ⟨b, off, h4, h5, h6⟩
  · exact .inl (by omega)
  · exact .inr ⟨b, off, h4, h5, fun j hj => by rw [get_take hj]; exact h6 j (by omega)⟩
theorem str_list {a b : List Int} : ((strI a).toList == (strI b).toList) = decide (strI a = strI b) := by
  rw [ByteArray.toList_eq, ByteArray.toList_eq]
  by_cases h : strI a = strI b
  · rw [h]; simp
  · rw [decide_eq_false h, beq_eq_false_iff_ne]
    intro e
    apply h
    cases ha : strI a
    cases hb : strI b
    rw [ha, hb] at e
    rw [ByteArray.mk.injEq]
    exact Array.toList_inj.1 e
theorem isBy_append {a b : List Int} (ha : isBy a) (hb : isBy b) : isBy (a ++ b) := fun x hx => by
  rcases List.mem_append.1 hx with h | h
  · exact ha x h
  · exact hb x h
theorem byt_take {w : World} {A : Option Addr} {n c k : Nat} {l : List Int} (h : Byt w A n c l) (hk : k ≤ n) : Byt w A k c (l.take k) := by
  obtain ⟨h1, h2, h3, h0, h4⟩ := h
  have e : ∀ j, j < k → (l.take k)[j]! = l[j]! := fun j hj => by
    simp [List.getElem!_eq_getElem?_getD, hj]
  refine ⟨by rw [List.length_take]; omega, by omega, h3, fun j hj => ?_, ?_⟩
  · rw [e j hj]; exact h0 j (by omega)
  · rcases h4 with h4 | ⟨b, off, hA, hb, hc⟩
    · exact .inl (by omega)
    · exact .inr ⟨b, off, hA, hb, fun j hj => by rw [e j hj]; exact hc j (by omega)⟩
theorem byt_news {w : World} {A : Option Addr} {n c : Nat} {l : List Int} (h : Byt w A n c l) (hn : 0 < n) : ∃ ad, A = some ad ∧ ∀ j u, (byV l)[j]? = some u → w.cell? (ad.add j) = some u := by
  obtain ⟨h1, h2, h3, h0, h4 | ⟨b, off, hA, hb, hc⟩⟩ := h
  · omega
  · refine ⟨_, hA, fun j u hu => ?_⟩
    have hj : j < l.length := by
      have := (List.getElem?_eq_some_iff.1 hu).1
      simpa [byV] using this
    rw [Addr.add_lit, hc j (by omega)]
    simp only [byV, List.getElem?_map, List.getElem?_eq_getElem hj, Option.map_some, Option.some.injEq] at hu
    rw [← hu]
    simp [hj]
theorem res2 {fn : Func} {u v : Tmp} {P : Program} (h : fn.results = #[.tmp u, .tmp v]) (tmps : Array Value) (w : World) :
    (results fn tmps).run P w = .ok (.tuple #[tmps.getD u undef, tmps.getD v undef]) w := by
  simp [results, h]
theorem below_one {cur w1 : World} {o : Obj} (hA : cur.alloc o = w1) : Below cur.heap.size cur w1 := hA ▸ (Below.refl _ _).alloc (Nat.le_refl _) o
theorem below_new {W cur w1 : World} {o : Obj} (hA : cur.alloc o = w1) (hb : Below W.heap.size W cur) : Below W.heap.size W w1 := hA ▸ hb.alloc hb.size o
/-- A slice that came in: bytes; nil if it has no address. -/
def Byn (w : World) (A : Option Addr) (n c : Nat) (l : List Int) : Prop := Byt w A n c l ∧ (A = none → c = 0)
theorem wf_byte {n : Int} (h : (Lit.int .u8 n).wf = true) : 0 ≤ n ∧ n ≤ 255 := by
  unfold Lit.wf at h
  simp only [Bool.and_eq_true, decide_eq_true_eq] at h
  exact h
theorem cellsU8 : Tryd.prog.cellsOf 5 = 1 := by kernel_rfl
section
variable {H : Type} {enc : TypeId × Value → H} {W : World} {base b0 : Nat} {held : Bool}
set_option maxRecDepth 100000 in
theorem open_byn {v : Value} {d : DataW H} {p : List MemPlace} (hv : Value.okWide Tryd.prog W .any b0 35 v) (h : DataW.Trod enc Tryd.prog W base (fun _ => true) held 35 v d p) :
    ∃ A n c l, v = .slice A n c ∧ Byn W A n c l := by
  obtain ⟨A, n, c, rfl⟩ := okWide_slice Tryd.underlying35 hv
  obtain ⟨fuel, hf⟩ := h
  rcases open_ints Tryd.underlying35 Tryd.underlying5 cellsU8 hf with ⟨hcs, -⟩ | ⟨a, len, cap, zs, hcs, -, hl, hm, hz, -, hcell, hwz⟩
  · simp [Value.cells] at hcs
    obtain ⟨rfl, rfl, rfl⟩ := hcs
    exact ⟨_, _, _, [], rfl, ⟨rfl, Nat.le_refl _, by omega, fun j hj => by omega, .inl rfl⟩, fun _ => rfl⟩
  · simp [Value.cells] at hcs
    obtain ⟨rfl, rfl, rfl⟩ := hcs
    simp only [if_true] at hz
    unfold maxLen at hm
    refine ⟨_, n, c, zs.take n, rfl, ⟨by simp; omega, hl, by omega, fun j hj => ?_, ?_⟩, fun h => by cases h⟩
    · have e2 : (zs.take n)[j]! = zs[j]'(by omega) := by
        simp [List.getElem!_eq_getElem?_getD, hj, List.getElem?_eq_getElem (show j < zs.length by omega)]
      rw [e2]
      have := wf_byte (hwz (zs[j]'(by omega)) (List.getElem_mem _))
      omega
    · by_cases hn : n = 0
      · exact .inl hn
      · obtain ⟨ab, ao, spot⟩ := a
        have hspot : spot = none := by simpa [Addr.add] using World.cell?_spot (hcell 0 (by omega))
        subst hspot
        have hb : ab < W.heap.size := by
          have h0 := hcell 0 (by omega)
          rw [Addr.add_lit] at h0
          apply Classical.byContradiction
          intro hb
          have : W.heap[ab]? = none := Array.getElem?_eq_none (by omega)
          simp [World.cell?, this] at h0
        refine .inr ⟨ab, ao, rfl, hb, fun j hj => ?_⟩
        have hc := hcell j (by omega)
        rw [Addr.add_lit] at hc
        have e : zs.getD j 0 = zs[j]'(by omega) := by simp [List.getD, List.getElem?_eq_getElem (show j < zs.length by omega)]
        have e2 : (zs.take n)[j]! = zs[j]'(by omega) := by
          simp [List.getElem!_eq_getElem?_getD, hj, List.getElem?_eq_getElem (show j < zs.length by omega)]
        rw [hc, e, e2]
end
/-- The cells of an instruction. -/
def insV (x : Rv) : List Value := [.int .i64 x.op, .int .i64 x.d, .int .i64 x.a, .int .i64 x.b, .int .i64 x.imm]
/-- A stretch of instructions in memory. -/
def LiesI (w : World) (b off : Nat) (zs : List Rv) : Prop := b < w.heap.size ∧ ∀ j, j < zs.length → ∀ i v, (insV zs[j]!)[i]? = some v → w.cell? ⟨b, off + j * 5 + i, none⟩ = some v
theorem LiesI.below {w w' : World} {b off : Nat} {zs : List Rv} (h : LiesI w b off zs) (hb : Below w.heap.size w w') : LiesI w' b off zs :=
  ⟨Nat.lt_of_lt_of_le h.1 hb.size, fun j hj i v hv => (hb.cell (p := ⟨b, off + j * 5 + i, none⟩) h.1).trans (h.2 j hj i v hv)⟩
/-- The five cells of an instruction. -/
def At5 (w : World) (b o : Nat) (x : Rv) : Prop :=
  w.cell? ⟨b, o, none⟩ = some (.int .i64 x.op) ∧ w.cell? ⟨b, o + 1, none⟩ = some (.int .i64 x.d) ∧ w.cell? ⟨b, o + 2, none⟩ = some (.int .i64 x.a) ∧ w.cell? ⟨b, o + 3, none⟩ = some (.int .i64 x.b) ∧ w.cell? ⟨b, o + 4, none⟩ = some (.int .i64 x.imm)
theorem LiesI.at_ {w : World} {b off : Nat} {zs : List Rv} (h : LiesI w b off zs) {j : Nat} (hj : j < zs.length) : At5 w b (off + j * 5) zs[j]! := by
  have h' := h.2 j hj
  generalize zs[j]! = x at *
  exact ⟨h' 0 _ rfl, h' 1 _ rfl, h' 2 _ rfl, h' 3 _ rfl, h' 4 _ rfl⟩
/-- Numbers that a field may hold. -/
def immIn (x : Rv) : Prop := -9223372036854775808 ≤ x.imm ∧ x.imm ≤ 9223372036854775807
/-- A slice of instructions: the places before its length lie in memory. -/
def TabI (w : World) (A : Option Addr) (n c : Nat) (zs : List Rv) : Prop := n = zs.length ∧ n ≤ c ∧ c ≤ 9223372036854775807 ∧ (n = 0 ∨ ∃ b off, A = some ⟨b, off, none⟩ ∧ LiesI w b off zs)
theorem TabI.below {w w' : World} {A : Option Addr} {n c : Nat} {zs : List Rv} (h : TabI w A n c zs) (hb : Below w.heap.size w w') : TabI w' A n c zs := by
  obtain ⟨h1, h2, h3, h4 | ⟨b, off, h4, h5⟩⟩ := h
  · exact ⟨h1, h2, h3, .inl h4⟩
  · exact ⟨h1, h2, h3, .inr ⟨b, off, h4, h5.below hb⟩⟩
theorem TabI.at_ {w : World} {A : Option Addr} {n c : Nat} {zs : List Rv} (h : TabI w A n c zs) {j : Nat} (hj : j < n) : ∃ b off, A = some ⟨b, off, none⟩ ∧ b < w.heap.size ∧ At5 w b (off + j * 5) zs[j]! := by
  obtain ⟨h1, h2, h3, h4 | ⟨b, off, h4, h5⟩⟩ := h
  · omega
  · exact ⟨b, off, h4, h5.1, h5.at_ (by omega)⟩
/-- The number in a cell. -/
def cellI (w : World) (b o : Nat) : Int := match w.cell? ⟨b, o, none⟩ with
  | some v => intOf v
  | none => 0
def insAt (w : World) (b o : Nat) : Rv := ⟨cellI w b o, cellI w b (o + 1), cellI w b (o + 2), cellI w b (o + 3), cellI w b (o + 4)⟩
theorem cellI_of {w : World} {b o : Nat} {k : Int} {q : IntKind} (h : w.cell? ⟨b, o, none⟩ = some (.int q k)) : cellI w b o = k := by
  unfold cellI
  rw [h]
  rfl
section
variable {H : Type} {enc : TypeId × Value → H} {W : World} {base b0 : Nat} {held : Bool}
set_option maxRecDepth 100000 in
/-- The cells of an instruction that reads as data are five numbers. -/
theorem ins_cells {sp : Nat → Bool} {fuel : Nat} {cs : List Value} {x : DataW H × List MemPlace} (h : DataW.trod enc Tryd.prog W base sp held fuel 23 cs = some x) :
    ∃ a z v k n : Int, cs = [.int .i64 a, .int .i64 z, .int .i64 v, .int .i64 k, .int .i64 n] ∧ (Lit.int .i64 n).wf = true := by
  obtain ⟨xs, n, _, hx, hcl, hlen, hg⟩ := DataW.trod_struct Tryd.underlying23 h
  rw [show Tryd.prog.cellsOf 23 = 5 by kernel_rfl] at hcl
  have c1 : Tryd.prog.cellsOf 3 = 1 := by kernel_rfl
  have g0 := hg 0 _ rfl
  have g1 := hg 1 _ rfl
  have g2 := hg 2 _ rfl
  have g3 := hg 3 _ rfl
  have g4 := hg 4 _ rfl
  match cs, hcl, xs, hlen, g0, g1, g2, g3, g4 with
  | [v0, v1, v2, v3, v4], _, [y0, y1, y2, y3, y4], _, g0, g1, g2, g3, g4 =>
    simp [c1] at g0 g1 g2 g3 g4
    obtain ⟨a, e0, -, -⟩ := DataW.trod_int Tryd.underlying3 g0
    obtain ⟨b, e1, -, -⟩ := DataW.trod_int Tryd.underlying3 g1
    obtain ⟨x, e2, -, -⟩ := DataW.trod_int Tryd.underlying3 g2
    obtain ⟨y, e3, -, -⟩ := DataW.trod_int Tryd.underlying3 g3
    obtain ⟨z, e4, -, w4⟩ := DataW.trod_int Tryd.underlying3 g4
    simp at e0 e1 e2 e3 e4
    subst e0 e1 e2 e3 e4
    exact ⟨a, b, x, y, z, rfl, w4⟩
set_option maxRecDepth 100000 in
theorem open_tabI {v : Value} {d : DataW H} {p : List MemPlace} (hv : Value.okWide Tryd.prog W .any b0 34 v) (h : DataW.Trod enc Tryd.prog W base (fun _ => true) held 34 v d p) :
    ∃ A n c zs, v = .slice A n c ∧ TabI W A n c zs ∧ ∀ j, j < n → immIn zs[j]! := by
  obtain ⟨A, n, c, rfl⟩ := okWide_slice Tryd.underlying34 hv
  obtain ⟨fuel, hf⟩ := h
  rcases open_slice Tryd.underlying34 hf with ⟨hcs, -⟩ | ⟨a, len, cap, m, n', D, Pl, hcs, -, hl, hm, hmm, -, hi⟩
  · simp [Value.cells] at hcs
    obtain ⟨rfl, rfl, rfl⟩ := hcs
    exact ⟨_, _, _, [], rfl, ⟨rfl, Nat.le_refl _, by omega, .inl rfl⟩, fun j hj => by omega⟩
  · simp [Value.cells] at hcs
    obtain ⟨rfl, rfl, rfl⟩ := hcs
    simp only [if_true] at hmm
    subst hmm
    unfold maxLen at hm
    rw [show Tryd.prog.cellsOf 23 = 5 by kernel_rfl] at hi
    obtain ⟨b, off, s⟩ := a
    have hall : ∀ i, i < n → ∃ a z v k q : Int, (∀ j, j < 5 → W.cell? ((⟨b, off, s⟩ : Addr).add (i * 5 + j)) = [Value.int .i64 a, .int .i64 z, .int .i64 v, .int .i64 k, .int .i64 q][j]?) ∧ (Lit.int .i64 q).wf = true := by
      intro i hin
      obtain ⟨cs', hc, ht⟩ := hi i (by omega)
      obtain ⟨_, _, hat⟩ := World.cells?_some hc
      obtain ⟨a, z, v, k, q, rfl, hw⟩ := ins_cells ht
      refine ⟨a, z, v, k, q, fun j hj => ?_, hw⟩
      rw [← add_add]
      exact hat j hj
    by_cases hn : n = 0
    · subst hn
      exact ⟨_, _, _, [], rfl, ⟨rfl, hl, by omega, .inl rfl⟩, fun j hj => by omega⟩
    · have hsp : s = none := by
        obtain ⟨a, z, v, k, q, h, -⟩ := hall 0 (by omega)
        have h0 := h 0 (by omega)
        cases s with
        | none => rfl
        | some s0 =>
          simp [Addr.add, World.cell?] at h0
          split at h0 <;> simp at h0
      subst hsp
      have hadd : ∀ k, (⟨b, off, none⟩ : Addr).add k = ⟨b, off + k, none⟩ := fun k => by
        unfold Addr.add
        by_cases hk : k = 0
        · rw [if_pos hk, hk]
          rfl
        · rw [if_neg hk]
      have key : ∀ j, j < n → ∃ a z v' k q : Int, ((List.range n).map fun i => insAt W b (off + i * 5))[j]! = ⟨a, z, v', k, q⟩ ∧ (Lit.int .i64 q).wf = true ∧ At5 W b (off + j * 5) ⟨a, z, v', k, q⟩ := by
        intro j hj
        obtain ⟨a, z, v', k, q, h, hw⟩ := hall j hj
        have h0 := h 0 (by omega)
        have h1 := h 1 (by omega)
        have h2 := h 2 (by omega)
        have h3 := h 3 (by omega)
        have h4 := h 4 (by omega)
        rw [hadd] at h0 h1 h2 h3 h4
        simp only [← Nat.add_assoc, Nat.add_zero] at h0 h1 h2 h3 h4
        refine ⟨a, z, v', k, q, ?_, hw, h0, h1, h2, h3, h4⟩
        have : ((List.range n).map fun i => insAt W b (off + i * 5))[j]! = insAt W b (off + j * 5) := by simp [hj]
        rw [this]
        unfold insAt
        rw [cellI_of h0, cellI_of h1, cellI_of h2, cellI_of h3, cellI_of h4]
      refine ⟨_, _, _, (List.range n).map fun i => insAt W b (off + i * 5), rfl, ⟨by simp, hl, by omega, .inr ⟨b, off, rfl, ?_, ?_⟩⟩, ?_⟩
      · obtain ⟨a, z, v, k, q, h, -⟩ := hall 0 (by omega)
        have h0 := h 0 (by omega)
        rw [hadd] at h0
        apply Classical.byContradiction
        intro hb
        have : W.heap[b]? = none := Array.getElem?_eq_none (by omega)
        simp [World.cell?, this] at h0
      · intro j hj i v hv
        rw [List.length_map, List.length_range] at hj
        obtain ⟨a, z, v', k, q, e, -, h0, h1, h2, h3, h4⟩ := key j hj
        rw [e] at hv
        match i, hv with
        | 0, hv => rw [← hv]; exact h0
        | 1, hv => rw [← hv]; exact h1
        | 2, hv => rw [← hv]; exact h2
        | 3, hv => rw [← hv]; exact h3
        | 4, hv => rw [← hv]; exact h4
      · intro j hj
        obtain ⟨a, z, v', k, q, e, hw, -⟩ := key j hj
        rw [e]
        exact wf_int hw
end
def inssV (ps : List Rv) : List Value := ps.flatMap insV
theorem inssV_append (a b : List Rv) : inssV (a ++ b) = inssV a ++ inssV b := by simp [inssV]
theorem inssV_at : ∀ (ps : List Rv) (j i : Nat) (v : Value), j < ps.length → (insV ps[j]!)[i]? = some v → (inssV ps)[j * 5 + i]? = some v
  | [], j, _, _, h, _ => absurd h (by simp)
  | p :: ps, 0, i, v, _, h => by
    have hi : i < (insV p).length := (List.getElem?_eq_some_iff.1 h).1
    show (insV p ++ inssV ps)[0 * 5 + i]? = some v
    rw [List.getElem?_append_left (by omega), Nat.zero_mul, Nat.zero_add]
    exact h
  | p :: ps, j + 1, i, v, hj, h => by
    show (insV p ++ inssV ps)[(j + 1) * 5 + i]? = some v
    have hl : (insV p).length = 5 := rfl
    rw [List.getElem?_append_right (by omega), hl, show (j + 1) * 5 + i - 5 = j * 5 + i by omega]
    exact inssV_at ps j i v (by simpa using hj) (by simpa using h)
theorem liesI_own {w : World} {base g cap : Nat} {ps : List Rv} (h : w.ownsRow base 23 5 (.slice (some ⟨g, 0, none⟩) ps.length cap) ps.length (inssV ps)) : LiesI w g 0 ps := by
  refine ⟨(h.lt g rfl).2, fun j hj i v hv => ?_⟩
  have := h.cells (g := g) rfl (j * 5 + i) v (inssV_at ps j i v hj hv)
  have e : (⟨g, 0, none⟩ : Addr).add (j * 5 + i) = ⟨g, 0 + j * 5 + i, none⟩ := by
    unfold Addr.add
    split
    · rename_i h0
      simp at h0
      simp
    · simp
  rw [← e]
  exact this
/-- A row of the call's own is a list. -/
theorem tabI_own {w : World} {base : Nat} {v : Value} {ps : List Rv} (h : w.ownsRow base 23 5 v ps.length (inssV ps)) : ∃ A c, v = .slice A ps.length c ∧ TabI w A ps.length c ps := by
  have h0 := h
  rcases h.2 with ⟨rfl, h1⟩ | ⟨g, cap, cur, rfl, _, _, h2, h3, _⟩
  · have hp : ps = [] := List.eq_nil_of_length_eq_zero h1
    subst hp
    exact ⟨none, 0, rfl, rfl, Nat.le_refl _, by omega, .inl rfl⟩
  · exact ⟨_, cap, rfl, rfl, h2, by unfold maxLen at h3; omega, .inr ⟨g, 0, rfl, liesI_own h0⟩⟩
theorem infoIns : (Tryd.prog.info? 23).map (fun i => (i.zero, i.size, i.bytes)) = some (some (.agg #[.int .i64 0, .int .i64 0, .int .i64 0, .int .i64 0, .int .i64 0]), 5, 40) := by kernel_rfl
theorem news5 {W : World} {B : Nat} {a b c d e : Value} {t : TypeId} (h : W.heap[B]? = some (.cells #[a, b, c, d, e] t (0, 0))) : ∀ j u, [a, b, c, d, e][j]? = some u → W.cell? ((⟨B, 0, none⟩ : Addr).add j) = some u := by
  obtain ⟨h0, h1, h2, h3, h4⟩ := cells5r h
  intro j u hj
  match j, hj with
  | 0, hj => simp at hj; subst hj; exact h0
  | 1, hj => simp at hj; subst hj; exact h1
  | 2, hj => simp at hj; subst hj; exact h2
  | 3, hj => simp at hj; subst hj; exact h3
  | 4, hj => simp at hj; subst hj; exact h4
  | n + 5, hj => simp at hj
theorem take_next {xs : List Rv} {k : Nat} (h : k < xs.length) : xs.take (k + 1) = xs.take k ++ [xs[k]!] := by
  rw [List.take_succ_eq_append_getElem h, show xs[k]! = xs[k] by simp [h]]
/-- An append of bytes that are known. -/
theorem append_bytes {w : World} {ops : Array Oper} {rest : List Oper} {o : Oper} {a : Act} {Q : Exit → Act → World → Prop} (hgd : o.guard = none) (s x : Operand)
    (ho : o.op = .call { callee := .builtin .append, args := #[s, x], argTypes := #[35, 35] })
    (base : Nat) (v : Value) (k : Nat) (xs : List Value) (hs : a.eval s = v) (hown : w.ownsRow base 5 1 v k xs) (A : Option Addr) (n c : Nat) (l : List Int) (hx : a.eval x = .slice A n c) (hB : Byt w A n c l) (hp : 0 < n)
    (hk : k ≤ 10000) (hn : n ≤ 10000) (hbase : base ≤ w.heap.size)
    (h : ∀ v' w', w'.ownsRow base 5 1 v' (k + n) (xs ++ byV l) → (∀ w0, Below w0.heap.size w0 w → w0.heap.size ≤ base → Below w0.heap.size w0 w') → wpList Tryd.prog ops Q rest (a.put o.dst v') w') : wpList Tryd.prog ops Q (o :: rest) a w := by
  obtain ⟨i0, hi, hz0, hz1, hz2⟩ := info_parts infoBy
  obtain ⟨ad, hA, hnews⟩ := byt_news hB hp
  subst hA
  refine wpList_append_own w hgd s x 35 ho base 5 i0 (.int .u8 0) 1 1 Tryd.underlying35 hi hz0 hz1 hz2 rfl (by decide) v k xs hs hown ad n c (byV l) hx (by rw [byV_length, Nat.mul_one]; exact hB.1.symm) hnews (byV_one _) (by unfold maxLen; omega) (by omega) hbase ?_
  intro v' w' h1 hgr _
  exact h v' w' h1 (fun w0 hb hle => hb.grown hgr hb.size (fun g hg => Nat.le_trans hle (own_base hown g hg)))
/-- The address of the rest of a slice. -/
def dropA (A : Option Addr) (c k : Nat) : Option Addr := if c = k then A else A.map (·.add k)
theorem slice_from (w : World) (A : Option Addr) (n c k : Nat) (hk : k ≤ n) : (Instr.slice 35 (.slice A n c) (some (.int .i64 k)) none none).run Tryd.prog w = .ok (.slice (dropA A c k) (n - k) (c - k)) w := by
  rw [run_slice_l w 35 A n c (by rw [Tryd.underlying35]; kernel_rfl) .i64 k (by omega) (by omega)]
  have hs : (sizeOf (Tryd.prog.elem 35)).run Tryd.prog w = .ok 1 w := by
    rw [show Tryd.prog.elem 35 = 5 by kernel_rfl]
    obtain ⟨i0, hi, -⟩ := info_parts infoBy
    rw [run_sizeOf _ hi, cellsU8]
  simp [sliced, dropA, Result.andThen, hs]
theorem byt_drop {w : World} {A : Option Addr} {n c k : Nat} {l : List Int} (h : Byt w A n c l) (hk : k ≤ n) : Byt w (dropA A c k) (n - k) (c - k) (l.drop k) := by
  obtain ⟨h1, h2, h3, h0, h4⟩ := h
  have e : ∀ j, j < n - k → (l.drop k)[j]! = l[k + j]! := fun j hj => by
    simp [List.getElem!_eq_getElem?_getD, List.getElem?_drop]
  refine ⟨by rw [List.length_drop]; omega, by omega, by omega, fun j hj => ?_, ?_⟩
  · rw [e j hj]; exact h0 (k + j) (by omega)
  · by_cases hn : n - k = 0
    · exact .inl hn
    · rcases h4 with h4 | ⟨b, off, hA, hb, hc⟩
      · omega
      · refine .inr ⟨b, off + k, ?_, hb, fun j hj => ?_⟩
        · unfold dropA
          rw [if_neg (by omega), hA]
          simp [Addr.add_lit]
        · rw [e j hj, Nat.add_assoc]
          exact hc (k + j) (by omega)
end Go.Proofs.YthkaclmnbahieaaDoor
