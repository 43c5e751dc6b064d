/-
  The registers that an instruction reads.
-/
import Derived.Test.YtjlacdnkncgpaaaTmB
import Derived.Laws.AppendOwn
import Derived.Deep.Cut
import Derived.Lib.RowBridge
import Derived.Shelf.SortG.Plain
import Derived.Shelf.SortG.SortNone
import Derived.Shelf.SlicesG.Cells
import Derived.Shelf.SlGeneric
namespace Go.Proofs.Ytjlacdnkncgpaaa
open Go.RowKit Go.Shelf Go.Lib

def sortI_ren : Go.Shelf.Ren := ⟨fun | 53 => 59 | 64 => 63 | 63 => 62 | 78 => 73 | 79 => 74 | 70 => 64 | 71 => 65 | 72 => 66 | 73 => 67 | 74 => 68 | 75 => 69 | 59 => 70 | 76 => 71 | 77 => 72 | 88 => 75 | 89 => 76 | 90 => 77 | 91 => 78 | 92 => 79 | 68 => 80 | 96 => 81 | n => n, fun | 22 => 25 | 23 => 3 | 3 => 3 | 51 => 74 | 0 => 0 | 67 => 45 | 69 => 86 | 4 => 4 | 61 => 77 | 60 => 76 | 44 => 82 | 5 => 5 | 9 => 9 | 75 => 87 | 79 => 91 | 83 => 93 | 84 => 94 | n => n, fun | n => n⟩
theorem sortI : Go.Proofs.SlLaysN.n53 Try.prog sortI_ren := {
  mixed := by kernel_rfl
  f53 := ⟨Try.f59.name, by decide, Try.func59.trans (congrArg some (by kernel_rfl))⟩
  f59 := ⟨Try.f70.name, by decide, Try.func70.trans (congrArg some (by kernel_rfl))⟩
  f63 := ⟨Try.f62.name, by decide, Try.func62.trans (congrArg some (by kernel_rfl))⟩
  f64 := Try.func63.trans (congrArg some (by kernel_rfl))
  f68 := ⟨Try.f80.name, by decide, Try.func80.trans (congrArg some (by kernel_rfl))⟩
  f70 := ⟨Try.f64.name, by decide, Try.func64.trans (congrArg some (by kernel_rfl))⟩
  f71 := ⟨Try.f65.name, by decide, Try.func65.trans (congrArg some (by kernel_rfl))⟩
  f72 := ⟨Try.f66.name, by decide, Try.func66.trans (congrArg some (by kernel_rfl))⟩
  f73 := ⟨Try.f67.name, by decide, Try.func67.trans (congrArg some (by kernel_rfl))⟩
  f74 := ⟨Try.f68.name, by decide, Try.func68.trans (congrArg some (by kernel_rfl))⟩
  f75 := ⟨Try.f69.name, by decide, Try.func69.trans (congrArg some (by kernel_rfl))⟩
  f76 := ⟨Try.f71.name, by decide, Try.func71.trans (congrArg some (by kernel_rfl))⟩
  f77 := ⟨Try.f72.name, by decide, Try.func72.trans (congrArg some (by kernel_rfl))⟩
  f78 := Try.func73.trans (congrArg some (by kernel_rfl))
  f79 := Try.func74.trans (congrArg some (by kernel_rfl))
  f88 := ⟨Try.f75.name, by decide, Try.func75.trans (congrArg some (by kernel_rfl))⟩
  f89 := Try.func76.trans (congrArg some (by kernel_rfl))
  f90 := Try.func77.trans (congrArg some (by kernel_rfl))
  f91 := ⟨Try.f78.name, by decide, Try.func78.trans (congrArg some (by kernel_rfl))⟩
  f92 := ⟨Try.f79.name, by decide, Try.func79.trans (congrArg some (by kernel_rfl))⟩
  f96 := ⟨Try.f81.name, by decide, Try.func81.trans (congrArg some (by kernel_rfl))⟩
  t0 := Try.underlying0
  a0 := Try.isAgg0
  z0 := Try.sizeOf0
  v0 := Try.zeroValue0
  t3 := Try.underlying3
  a3 := Try.isAgg3
  z3 := Try.sizeOf3
  v3 := Try.zeroValue3
  t4 := Try.underlying4
  a4 := Try.isAgg4
  z4 := Try.sizeOf4
  v4 := Try.zeroValue4
  t5 := Try.underlying5
  a5 := Try.isAgg5
  z5 := Try.sizeOf5
  v5 := Try.zeroValue5
  t9 := Try.underlying9
  a9 := Try.isAgg9
  z9 := Try.sizeOf9
  v9 := Try.zeroValue9
  t22 := Try.underlying25
  a22 := Try.isAgg25
  z22 := Try.sizeOf25
  v22 := Try.zeroValue25
  t23 := Try.underlying3
  a23 := Try.isAgg3
  z23 := Try.sizeOf3
  v23 := Try.zeroValue3
  t44 := Try.underlying82
  a44 := Try.isAgg82
  z44 := Try.sizeOf82
  v44 := Try.zeroValue82
  t51 := Try.underlying74
  a51 := Try.isAgg74
  z51 := Try.sizeOf74
  v51 := Try.zeroValue74
  t60 := Try.underlying76
  a60 := Try.isAgg76
  z60 := Try.sizeOf76
  v60 := Try.zeroValue76
  t61 := Try.underlying77
  a61 := Try.isAgg77
  z61 := Try.sizeOf77
  v61 := Try.zeroValue77
  t67 := Try.underlying45
  a67 := Try.isAgg45
  z67 := Try.sizeOf45
  v67 := Try.zeroValue45
  t69 := Try.underlying86
  a69 := Try.isAgg86
  z69 := Try.sizeOf86
  v69 := Try.zeroValue86
  t75 := Try.underlying87
  a75 := Try.isAgg87
  z75 := Try.sizeOf87
  v75 := Try.zeroValue87
  t79 := Try.underlying91
  a79 := Try.isAgg91
  z79 := Try.sizeOf91
  v79 := Try.zeroValue91
  t83 := Try.underlying93
  a83 := Try.isAgg93
  z83 := Try.sizeOf93
  v83 := Try.zeroValue93
  t84 := Try.underlying94
  a84 := Try.isAgg94
  z84 := Try.sizeOf94
  v84 := Try.zeroValue94 }
def compactI_ren : Go.Shelf.Ren := ⟨fun | 43 => 60 | n => n, fun | 22 => 25 | 23 => 3 | 3 => 3 | 4 => 4 | 0 => 0 | n => n, fun | n => n⟩
theorem compactI : Go.Proofs.SlLaysN.n43 Try.prog compactI_ren := {
  mixed := by kernel_rfl
  f43 := ⟨Try.f60.name, by decide, Try.func60.trans (congrArg some (by kernel_rfl))⟩
  t0 := Try.underlying0
  a0 := Try.isAgg0
  z0 := Try.sizeOf0
  v0 := Try.zeroValue0
  t3 := Try.underlying3
  a3 := Try.isAgg3
  z3 := Try.sizeOf3
  v3 := Try.zeroValue3
  t4 := Try.underlying4
  a4 := Try.isAgg4
  z4 := Try.sizeOf4
  v4 := Try.zeroValue4
  t22 := Try.underlying25
  a22 := Try.isAgg25
  z22 := Try.sizeOf25
  v22 := Try.zeroValue25
  t23 := Try.underlying3
  a23 := Try.isAgg3
  z23 := Try.sizeOf3
  v23 := Try.zeroValue3
  i23 := by kernel_rfl }
abbrev iV (l : List Int) : List Value := l.map (Value.int .i64)
/-- A list of numbers in memory. -/
def IntsAt (w : World) (v : Value) (l : List Int) : Prop := ∃ A c, v = .slice A l.length c ∧ (l.length = 0 ∨ ∃ g, A = some ⟨g, 0, none⟩ ∧ g < w.heap.size ∧ ∀ j, j < l.length → w.cell? ⟨g, j, none⟩ = some (.int .i64 l[j]!))
theorem IntsAt.below {w w' : World} {v : Value} {l : List Int} (h : IntsAt w v l) (hb : Below w.heap.size w w') : IntsAt w' v l := by
  obtain ⟨A, c, rfl, h | ⟨g, rfl, hg, h⟩⟩ := h
  · exact ⟨A, c, rfl, .inl h⟩
  · exact ⟨_, c, rfl, .inr ⟨g, rfl, Nat.lt_of_lt_of_le hg hb.size, fun j hj => (hb.cell (p := ⟨g, j, none⟩) hg).trans (h j hj)⟩⟩
theorem add_lit0 (g j : Nat) : (⟨g, 0, none⟩ : Addr).add j = ⟨g, j, none⟩ := by
  unfold Addr.add
  split
  · rename_i h0
    simp [h0]
  · simp
theorem own_cell {w : World} {base e size g cap n i : Nat} {xs : List Value} {x : Value} (h : w.ownsRow base e size (.slice (some ⟨g, 0, none⟩) n cap) n xs) (hx : xs[i]? = some x) :
    w.cell? ⟨g, i, none⟩ = some x ∧ w.frozen? ⟨g, i, none⟩ = false := by
  have hc := h.cells (g := g) rfl i x hx
  rw [add_lit0] at hc
  refine ⟨hc, ?_⟩
  rcases h.2 with ⟨h2, _⟩ | ⟨g', cap', cur, h2, h3, h4, _⟩
  · cases h2
  · injection h2 with h2 _ _
    injection h2 with h2
    injection h2 with h2 _
    subst h2
    simp [World.frozen?, h4]
theorem own_ints {w : World} {base : Nat} {v : Value} {l : List Int} (h : w.ownsRow base 3 1 v l.length (iV l)) : IntsAt w v l := by
  have h0 := h
  rcases h.2 with ⟨rfl, h1⟩ | ⟨g, cap, cur, rfl, _, hh, _⟩
  · exact ⟨none, 0, by rw [h1], .inl h1⟩
  · exact ⟨_, cap, rfl, .inr ⟨g, rfl, lt_of_block hh, fun j hj => (own_cell h0 (x := .int .i64 l[j]!) (by simp [iV, hj])).1⟩⟩
theorem holds_own {w : World} {base g cap : Nat} {l : List Int} (h : w.ownsRow base 3 1 (.slice (some ⟨g, 0, none⟩) l.length cap) l.length (iV l)) : Sort.Holds (Value.int .i64) w g 0 l.toArray := by
  intro j hj
  have hj' : j < l.length := by simpa using hj
  have := own_cell h (x := .int .i64 l[j]!) (i := j) (by simp [iV, hj'])
  rw [Nat.zero_add]
  simpa [hj'] using this
theorem below_map {B g : Nat} {a w : World} (h : Below B a w) (hg : B ≤ g) (f : Array Value → Array Value) (n : Nat) (os : Array Obj) (hB : B ≤ w.heap.size) : Below B a (Sort.grow (Sort.mapBlock (Sort.ahead w n) g f) os) := by
  refine ⟨h.os, h.tape, h.output, ?_, fun j hj => ?_⟩
  · have := h.size
    simp [Sort.mapBlock]
    omega
  · rw [Sort.heap_grow_old _ _ (by simp [Sort.mapBlock]; omega), ← h.block j hj]
    show ((Sort.ahead w n).heap.modify g (Sort.onCells f))[j]? = _
    rw [Array.getElem?_modify, if_neg (by omega)]
    rfl
def sortL (l : List Int) : List Int := l.mergeSort fun x y => decide (x ≤ y)
theorem sortL_len (l : List Int) : (sortL l).length = l.length := (List.mergeSort_perm _ _).length_eq
theorem sort_own {w : World} {base : Nat} {v : Value} {l : List Int} (h : w.ownsRow base 3 1 v l.length (iV l)) (hl : l.length ≤ 1000) :
    Calls Try.prog 59 #[v] w fun e w' => e = .returned (.tuple #[]) ∧ w'.ownsRow base 3 1 v (sortL l).length (iV (sortL l)) ∧ ∀ a B, Below B a w → B ≤ base → B ≤ a.heap.size → Below B a w' := by
  have h0 := h
  rcases h.2 with ⟨rfl, hn⟩ | ⟨g, cap, cur, rfl, hg, hh, hc, hm, hs, ht⟩
  · have hz : l = [] := List.eq_nil_of_length_eq_zero hn
    subst hz
    refine (AnyG.slices_Sort_int_none sortI none 0 w).mono ?_
    rintro e w' ⟨rfl, rfl⟩
    exact ⟨rfl, by simpa [sortL] using h, fun a B hb _ _ => hb⟩
  · have hgs := lt_of_block hh
    refine (AnyG.slices_Sort_int sortI g 0 cap l w (holds_own h0) hgs (by omega)).mono ?_
    rintro e w' ⟨rfl, n, os, rfl⟩
    show _ ∧ World.ownsRow (Sort.grow (Sort.putRow (Value.int .i64) (Sort.ahead w n) g 0 (sortL l).toArray) os) _ _ _ _ _ _ ∧ _
    rw [sortL_len]
    refine ⟨rfl, ⟨by simp [iV, sortL_len], .inr ⟨g, cap, Sort.putCells (Value.int .i64) 0 (sortL l).toArray cur, rfl, hg, ?_, hc, hm, by simpa [Sort.putCells] using hs, ?_⟩⟩, fun a B hb hB hBa => below_map hb (Nat.le_trans hB hg) _ _ _ (Nat.le_trans hBa hb.size)⟩
    · unfold Sort.putRow
      rw [Sort.heap_grow_old _ _ (by simp [Sort.mapBlock]; omega)]
      simp [Sort.mapBlock, Array.getElem?_modify, hh, Sort.onCells]
    · apply List.ext_getElem?
      intro t
      by_cases hlt2 : t < l.length
      · rw [List.getElem?_take, if_pos (by omega)]
        have hcs : t < cur.size := by omega
        have h5 : t < (sortL l).length := by rw [sortL_len]; omega
        simp [Sort.putCells, hcs, h5, iV]
      · rw [List.getElem?_eq_none (by simp; omega), List.getElem?_eq_none (by simp [iV, sortL_len]; omega)]
theorem compact_own {w : World} {base : Nat} {v : Value} {l : List Int} (h : w.ownsRow base 3 1 v l.length (iV l)) (hl : l.length ≤ 1000) :
    Calls Try.prog 60 #[v] w fun e w' => ∃ v', e = .returned v' ∧ IntsAt w' v' (Lib.compact l) ∧ ∀ a B, Below B a w → B ≤ base → B ≤ a.heap.size → Below B a w' := by
  have h0 := h
  rcases h.2 with ⟨rfl, hn⟩ | ⟨g, cap, cur, rfl, hg, hh, hc, hm, hs, ht⟩
  · have hz : l = [] := List.eq_nil_of_length_eq_zero hn
    subst hz
    refine (AnyG.slices_Compact_int_empty compactI none 0 w).mono ?_
    rintro e w' ⟨rfl, rfl⟩
    exact ⟨_, rfl, ⟨none, 0, rfl, .inl rfl⟩, fun a B hb _ _ => hb⟩
  · have hgs := lt_of_block hh
    have hH := holds_own h0
    refine (AnyG.slices_Compact_int compactI g 0 cap l w hH (by omega) hc).mono ?_
    rintro e w' ⟨rfl, q, rfl⟩
    have hlen : (Lib.compact l).length ≤ l.length := Lib.compact_length_le l
    have hH2 := Sort.holds_putRow (Value.int .i64) (Sort.ahead w q) g 0 l.toArray (Lib.compact l ++ List.replicate (l.length - (Lib.compact l).length) 0).toArray hH (by simp; omega)
    refine ⟨_, rfl, ⟨_, cap, rfl, .inr ⟨g, rfl, by simpa using hgs, fun j hj => ?_⟩⟩, fun a B hb hB hBa => ?_⟩
    · have h2 := (hH2 j (by simp; omega)).1
      rw [Nat.zero_add] at h2
      rw [h2]
      simp [List.getElem?_append_left hj, hj]
    · have := below_map hb (Nat.le_trans hB hg) (Sort.putCells (Value.int .i64) 0 (Lib.compact l ++ List.replicate (l.length - (Lib.compact l).length) 0).toArray) q #[] (Nat.le_trans hBa hb.size)
      simpa [Sort.putRow] using this
theorem mem_compact {l : List Int} {x : Int} : x ∈ Lib.compact l ↔ x ∈ l := by
  unfold Lib.compact Lib.compactUpTo
  rw [List.mem_map]
  constructor
  · rintro ⟨j, hj, rfl⟩
    have hj2 := List.mem_range.1 (List.mem_filter.1 hj).1
    simp [hj2]
  · intro hx
    obtain ⟨j, hj, rfl⟩ := List.mem_iff_getElem.1 hx
    have main : ∀ j, j < l.length → ∃ i, i ∈ List.filter (Lib.keeps l.toArray) (List.range l.length) ∧ l.toArray[i]! = l.toArray[j]! := by
      intro j
      induction j with
      | zero => exact fun h => ⟨0, List.mem_filter.2 ⟨List.mem_range.2 h, by simp [Lib.keeps]⟩, rfl⟩
      | succ j ih =>
        intro h
        cases hk : Lib.keeps l.toArray (j + 1)
        · obtain ⟨i, hi, he⟩ := ih (by omega)
          refine ⟨i, hi, he.trans ?_⟩
          simp [Lib.keeps] at hk
          simpa using hk.symm
        · exact ⟨j + 1, List.mem_filter.2 ⟨List.mem_range.2 h, hk⟩, rfl⟩
    obtain ⟨i, hi, he⟩ := main j hj
    exact ⟨i, hi, by rw [he]; simp [hj]⟩
theorem mem_sortL {l : List Int} {x : Int} : x ∈ sortL l ↔ x ∈ l := (List.mergeSort_perm _ _).mem_iff
/-- The registers read, as they are written down first; and as they are told. -/
def useB (x : Cod) : List Int := (if (shF x.op).a = true ∧ 0 ≤ x.a then [x.a] else []) ++ (if (shF x.op).b then [x.b] else [])
def useL (x : Cod) : List Int := Lib.compact (sortL (useB x))
theorem mem_useL {x : Cod} {r : Int} : r ∈ useL x ↔ r ∈ useB x := mem_compact.trans mem_sortL
theorem useB_len (x : Cod) : (useB x).length ≤ 2 := by
  unfold useB
  rw [List.length_append]
  split <;> split <;> simp
theorem useL_len (x : Cod) : (useL x).length ≤ 2 := by
  have h1 := Lib.compact_length_le (sortL (useB x))
  have h2 := useB_len x
  rw [sortL_len] at h1
  exact Nat.le_trans h1 h2
theorem infoInt : (Try.prog.info? 3).map (fun i => (i.zero, i.size, i.bytes)) = some (some (.int .i64 0), 1, 8) := by kernel_rfl
theorem info_parts {t : TypeId} {z : Value} {s b : Nat} (h : (Try.prog.info? t).map (fun i => (i.zero, i.size, i.bytes)) = some (some z, s, b)) : ∃ i, Try.prog.info? t = some i ∧ i.zero = some z ∧ i.size = s ∧ i.bytes = b := by
  cases hi : Try.prog.info? t with
  | none => rw [hi] at h; cases h
  | some i =>
    rw [hi] at h
    simp at h
    exact ⟨i, rfl, h.1, h.2.1, h.2.2⟩
theorem own_base {w : World} {base e size k : Nat} {v : Value} {xs : List Value} (h : w.ownsRow base e size v k xs) : ∀ g, v.ownBlock = some g → base ≤ g := by
  intro g hg
  rcases h.2 with ⟨rfl, _⟩ | ⟨g', cap, cur, rfl, hb, _⟩
  · simp [Value.ownBlock] at hg
  · have : g' = g := by simpa [Value.ownBlock] using hg
    omega
theorem one_new (w : World) (v : Value) (t : TypeId) : ∀ j u, [v][j]? = some u → (w.alloc (.cells #[v] t)).cell? ((⟨w.heap.size, 0, none⟩ : Addr).add j) = some u := by
  intro j u hj
  have hj0 : j = 0 := by
    have := (List.getElem?_eq_some_iff.1 hj).1
    simpa using this
  subst hj0
  simp at hj
  subst hj
  rw [add_lit0]
  have h := heap_alloc_new w (.cells #[v] t)
  simp only [World.cell?, h]
  rfl
theorem grown_block {w w' : World} {row : Option Nat} {B : Nat} {o : Obj} (h : w.grownBy w' row) (hB : w.heap[B]? = some o) (hne : row ≠ some B) : w'.heap[B]? = some o := (h.block B (lt_of_block hB) (fun e => hne e.symm)).trans hB
set_option maxRecDepth 100000 in
set_option maxHeartbeats 4000000 in
theorem uses_any (x : Cod) (w : World) : Calls Try.prog 49 #[aggC x] w fun e w' => ∃ v, e = .returned v ∧ IntsAt w' v (useL x) ∧ Below w.heap.size w w' := by
  obtain ⟨i0, hi, hz0, hz1, hz2⟩ := info_parts infoInt
  obtain ⟨op, d, a, b, imm, to⟩ := x
  have HS := Lib.hid (fun w1 => shapeOf_any op w1)
  obtain ⟨U, hU⟩ : ∃ U, U = useL ⟨op, d, a, b, imm, to⟩ := ⟨_, rfl⟩
  have HU := Lib.hid (show U = Lib.compact (sortL ((if (shF op).a = true ∧ 0 ≤ a then [a] else []) ++ (if (shF op).b then [b] else []))) from hU)
  rw [← hU]
  clear hU
  generalize shF op = S at HS HU
  obtain ⟨sd, sa, sb, si, st, sp⟩ := S
  simp only at HU
  cases sa
  · cases sb
    · have HU2 := Lib.hid (show U = Lib.compact (sortL ([] : List Int)) from HU.out.trans (by simp))
      clear HU
      go_enter Try.func49, Try.ntmps49
      go_wp2_with fail
      have hb0 : Below w.heap.size w (w.alloc (.cells #[.int .i64 op, .int .i64 d, .int .i64 a, .int .i64 b, .int .u32 imm, .int .i64 to] 47)) := (Below.refl _ _).alloc (Nat.le_refl _) _
      have hx := heap_alloc_new w (.cells #[.int .i64 op, .int .i64 d, .int .i64 a, .int .i64 b, .int .u32 imm, .int .i64 to] 47)
      generalize World.alloc w _ = W0 at hb0 hx ⊢
      refine (HS.out W0).mono ?_
      rintro e w1 ⟨rfl, hb1⟩
      have hx1 := (heap_alloc_old w1 (.cells #[.bool sd, .bool false, .bool false, .bool si, .bool st, .bool sp] 66) (lt_of_block ((hb1.block _ (lt_of_block hx)).trans hx))).trans ((hb1.block _ (lt_of_block hx)).trans hx)
      have hs1 := heap_alloc_new w1 (.cells #[.bool sd, .bool false, .bool false, .bool si, .bool st, .bool sp] 66)
      have hb2 : Below w.heap.size w (w1.alloc (.cells #[.bool sd, .bool false, .bool false, .bool si, .bool st, .bool sp] 66)) := (hb0.trans (hb1.mono hb0.size)).alloc (hb0.trans (hb1.mono hb0.size)).size _
      clear hx hb0 hb1 HS
      obtain ⟨x0, x1, x2, x3, x4, x5⟩ := cells6 hx1
      obtain ⟨s0, s1, s2, s3, s4, s5⟩ := cells6 hs1
      go_wp2_with fail
      generalize World.alloc w1 _ = W2 at hb2 ⊢
      have hown : W2.ownsRow w.heap.size 3 1 (.slice none 0 0) 0 (iV []) := World.ownsRow_nil _ _ _ _
      refine (sort_own (l := []) hown (by simp)).mono ?_
      rintro e wS ⟨rfl, ho, hk⟩
      replace hb2 := hk w _ hb2 (Nat.le_refl _) (Nat.le_refl _)
      clear hk hown
      go_wp2_with fail
      refine (compact_own ho (by rw [sortL_len]; simp)).mono ?_
      rintro e wC ⟨vC, rfl, hI, hk⟩
      replace hb2 := hk w _ hb2 (Nat.le_refl _) (Nat.le_refl _)
      rw [← HU2.out] at hI
      have HI := Lib.hid hI
      clear hk ho hI
      go_wp2
      go_ret
      exact ⟨_, rfl, HI.out, hb2⟩
    · have HU2 := Lib.hid (show U = Lib.compact (sortL ([b] : List Int)) from HU.out.trans (by simp))
      clear HU
      go_enter Try.func49, Try.ntmps49
      go_wp2_with fail
      have hb0 : Below w.heap.size w (w.alloc (.cells #[.int .i64 op, .int .i64 d, .int .i64 a, .int .i64 b, .int .u32 imm, .int .i64 to] 47)) := (Below.refl _ _).alloc (Nat.le_refl _) _
      have hx := heap_alloc_new w (.cells #[.int .i64 op, .int .i64 d, .int .i64 a, .int .i64 b, .int .u32 imm, .int .i64 to] 47)
      generalize World.alloc w _ = W0 at hb0 hx ⊢
      refine (HS.out W0).mono ?_
      rintro e w1 ⟨rfl, hb1⟩
      have hx1 := (heap_alloc_old w1 (.cells #[.bool sd, .bool false, .bool true, .bool si, .bool st, .bool sp] 66) (lt_of_block ((hb1.block _ (lt_of_block hx)).trans hx))).trans ((hb1.block _ (lt_of_block hx)).trans hx)
      have hs1 := heap_alloc_new w1 (.cells #[.bool sd, .bool false, .bool true, .bool si, .bool st, .bool sp] 66)
      have hb2 : Below w.heap.size w (w1.alloc (.cells #[.bool sd, .bool false, .bool true, .bool si, .bool st, .bool sp] 66)) := (hb0.trans (hb1.mono hb0.size)).alloc (hb0.trans (hb1.mono hb0.size)).size _
      clear hx hb0 hb1 HS
      obtain ⟨x0, x1, x2, x3, x4, x5⟩ := cells6 hx1
      obtain ⟨s0, s1, s2, s3, s4, s5⟩ := cells6 hs1
      go_upto_region 6 with fail
      generalize World.alloc w1 _ = W2 at hb2 hx1 hs1 x0 x1 x2 x3 x4 x5 s0 s1 s2 s3 s4 s5 ⊢
      generalize w1.heap.size = BS at hs1 s0 s1 s2 s3 s4 s5 ⊢
      have hown : W2.ownsRow w.heap.size 3 1 (.slice none 0 0) 0 (iV []) := World.ownsRow_nil _ _ _ _
      go_wp2_with (at_builtin; refine wpList_append_own _ rfl _ _ 25 rfl w.heap.size 3 i0 (.int .i64 0) 1 8 Try.underlying25 hi hz0 hz1 hz2 rfl (by decide) _ 0 _ rfl (hown.alloc _) ⟨W2.heap.size, 0, none⟩ 1 1 [.int .i64 b] rfl rfl ?p1 ?p2 ?p3 ?p4 ?p5 ?_)
      case p1 => exact one_new W2 _ _
      case p2 => simp [Value.oneCell']
      case p3 => unfold maxLen; omega
      case p4 => omega
      case p5 => have := hb2.size; simp; omega
      intro v7 w7 hown7 hgrow _
      have hne : ∀ B o, W2.heap[B]? = some o → (Value.slice none 0 0).ownBlock ≠ some B → w7.heap[B]? = some o := fun B o hB hn => grown_block hgrow ((heap_alloc_old W2 _ (lt_of_block hB)).trans hB) hn
      replace hb2 : Below w.heap.size w w7 := (hb2.alloc hb2.size _).grown hgrow (by have := hb2.size; simp; omega) (own_base (hown.alloc (.cells #[.int .i64 b] 3)))
      replace hown : w7.ownsRow w.heap.size 3 1 v7 1 (iV [b]) := hown7
      clear hown7 hgrow hne
      clear x0 x1 x2 x3 x4 x5 s1 s0 s3 s4 s5
      go_wp2_with fail
      refine (sort_own (l := [b]) hown (by simp)).mono ?_
      rintro e wS ⟨rfl, ho, hk⟩
      replace hb2 := hk w _ hb2 (Nat.le_refl _) (Nat.le_refl _)
      clear hk hown
      go_wp2_with fail
      refine (compact_own ho (by rw [sortL_len]; simp)).mono ?_
      rintro e wC ⟨vC, rfl, hI, hk⟩
      replace hb2 := hk w _ hb2 (Nat.le_refl _) (Nat.le_refl _)
      rw [← HU2.out] at hI
      have HI := Lib.hid hI
      clear hk ho hI
      go_wp2
      go_ret
      exact ⟨_, rfl, HI.out, hb2⟩
  · by_cases h1 : 0 ≤ a
    · have d1 : decide (0 ≤ a) = true := decide_eq_true h1
      cases sb
      · have HU2 := Lib.hid (show U = Lib.compact (sortL ([a] : List Int)) from HU.out.trans (by simp [h1]))
        clear HU
        go_enter Try.func49, Try.ntmps49
        go_wp2_with fail
        have hb0 : Below w.heap.size w (w.alloc (.cells #[.int .i64 op, .int .i64 d, .int .i64 a, .int .i64 b, .int .u32 imm, .int .i64 to] 47)) := (Below.refl _ _).alloc (Nat.le_refl _) _
        have hx := heap_alloc_new w (.cells #[.int .i64 op, .int .i64 d, .int .i64 a, .int .i64 b, .int .u32 imm, .int .i64 to] 47)
        generalize World.alloc w _ = W0 at hb0 hx ⊢
        refine (HS.out W0).mono ?_
        rintro e w1 ⟨rfl, hb1⟩
        have hx1 := (heap_alloc_old w1 (.cells #[.bool sd, .bool true, .bool false, .bool si, .bool st, .bool sp] 66) (lt_of_block ((hb1.block _ (lt_of_block hx)).trans hx))).trans ((hb1.block _ (lt_of_block hx)).trans hx)
        have hs1 := heap_alloc_new w1 (.cells #[.bool sd, .bool true, .bool false, .bool si, .bool st, .bool sp] 66)
        have hb2 : Below w.heap.size w (w1.alloc (.cells #[.bool sd, .bool true, .bool false, .bool si, .bool st, .bool sp] 66)) := (hb0.trans (hb1.mono hb0.size)).alloc (hb0.trans (hb1.mono hb0.size)).size _
        clear hx hb0 hb1 HS
        obtain ⟨x0, x1, x2, x3, x4, x5⟩ := cells6 hx1
        obtain ⟨s0, s1, s2, s3, s4, s5⟩ := cells6 hs1
        go_upto_region 4 with fail
        generalize World.alloc w1 _ = W2 at hb2 hx1 hs1 x0 x1 x2 x3 x4 x5 s0 s1 s2 s3 s4 s5 ⊢
        generalize w1.heap.size = BS at hs1 s0 s1 s2 s3 s4 s5 ⊢
        have hown : W2.ownsRow w.heap.size 3 1 (.slice none 0 0) 0 (iV []) := World.ownsRow_nil _ _ _ _
        go_wp2_with (at_builtin; refine wpList_append_own _ rfl _ _ 25 rfl w.heap.size 3 i0 (.int .i64 0) 1 8 Try.underlying25 hi hz0 hz1 hz2 rfl (by decide) _ 0 _ rfl (hown.alloc _) ⟨W2.heap.size, 0, none⟩ 1 1 [.int .i64 a] rfl rfl ?p1 ?p2 ?p3 ?p4 ?p5 ?_)
        case p1 => exact one_new W2 _ _
        case p2 => simp [Value.oneCell']
        case p3 => unfold maxLen; omega
        case p4 => omega
        case p5 => have := hb2.size; simp; omega
        intro v7 w7 hown7 hgrow _
        have hne : ∀ B o, W2.heap[B]? = some o → (Value.slice none 0 0).ownBlock ≠ some B → w7.heap[B]? = some o := fun B o hB hn => grown_block hgrow ((heap_alloc_old W2 _ (lt_of_block hB)).trans hB) hn
        replace hx1 := hne _ _ hx1 (by simp [Value.ownBlock])
        replace hs1 := hne _ _ hs1 (by simp [Value.ownBlock])
        clear x0 x1 x2 x3 x4 x5 s0 s1 s2 s3 s4 s5
        obtain ⟨x0, x1, x2, x3, x4, x5⟩ := cells6 hx1
        obtain ⟨s0, s1, s2, s3, s4, s5⟩ := cells6 hs1
        replace hb2 : Below w.heap.size w w7 := (hb2.alloc hb2.size _).grown hgrow (by have := hb2.size; simp; omega) (own_base (hown.alloc (.cells #[.int .i64 a] 3)))
        replace hown : w7.ownsRow w.heap.size 3 1 v7 1 (iV [a]) := hown7
        clear hown7 hgrow hne
        clear x0 x1 x2 x3 x4 x5 s0 s1 s3 s4 s5
        go_wp2_with fail
        refine (sort_own (l := [a]) hown (by simp)).mono ?_
        rintro e wS ⟨rfl, ho, hk⟩
        replace hb2 := hk w _ hb2 (Nat.le_refl _) (Nat.le_refl _)
        clear hk hown
        go_wp2_with fail
        refine (compact_own ho (by rw [sortL_len]; simp)).mono ?_
        rintro e wC ⟨vC, rfl, hI, hk⟩
        replace hb2 := hk w _ hb2 (Nat.le_refl _) (Nat.le_refl _)
        rw [← HU2.out] at hI
        have HI := Lib.hid hI
        clear hk ho hI
        go_wp2
        go_ret
        exact ⟨_, rfl, HI.out, hb2⟩
      · have HU2 := Lib.hid (show U = Lib.compact (sortL ([a, b] : List Int)) from HU.out.trans (by simp [h1]))
        clear HU
        go_enter Try.func49, Try.ntmps49
        go_wp2_with fail
        have hb0 : Below w.heap.size w (w.alloc (.cells #[.int .i64 op, .int .i64 d, .int .i64 a, .int .i64 b, .int .u32 imm, .int .i64 to] 47)) := (Below.refl _ _).alloc (Nat.le_refl _) _
        have hx := heap_alloc_new w (.cells #[.int .i64 op, .int .i64 d, .int .i64 a, .int .i64 b, .int .u32 imm, .int .i64 to] 47)
        generalize World.alloc w _ = W0 at hb0 hx ⊢
        refine (HS.out W0).mono ?_
        rintro e w1 ⟨rfl, hb1⟩
        have hx1 := (heap_alloc_old w1 (.cells #[.bool sd, .bool true, .bool true, .bool si, .bool st, .bool sp] 66) (lt_of_block ((hb1.block _ (lt_of_block hx)).trans hx))).trans ((hb1.block _ (lt_of_block hx)).trans hx)
        have hs1 := heap_alloc_new w1 (.cells #[.bool sd, .bool true, .bool true, .bool si, .bool st, .bool sp] 66)
        have hb2 : Below w.heap.size w (w1.alloc (.cells #[.bool sd, .bool true, .bool true, .bool si, .bool st, .bool sp] 66)) := (hb0.trans (hb1.mono hb0.size)).alloc (hb0.trans (hb1.mono hb0.size)).size _
        clear hx hb0 hb1 HS
        obtain ⟨x0, x1, x2, x3, x4, x5⟩ := cells6 hx1
        obtain ⟨s0, s1, s2, s3, s4, s5⟩ := cells6 hs1
        go_upto_region 4 with fail
        generalize World.alloc w1 _ = W2 at hb2 hx1 hs1 x0 x1 x2 x3 x4 x5 s0 s1 s2 s3 s4 s5 ⊢
        generalize w1.heap.size = BS at hs1 s0 s1 s2 s3 s4 s5 ⊢
        have hown : W2.ownsRow w.heap.size 3 1 (.slice none 0 0) 0 (iV []) := World.ownsRow_nil _ _ _ _
        go_wp2_with (at_builtin; refine wpList_append_own _ rfl _ _ 25 rfl w.heap.size 3 i0 (.int .i64 0) 1 8 Try.underlying25 hi hz0 hz1 hz2 rfl (by decide) _ 0 _ rfl (hown.alloc _) ⟨W2.heap.size, 0, none⟩ 1 1 [.int .i64 a] rfl rfl ?p1 ?p2 ?p3 ?p4 ?p5 ?_)
        case p1 => exact one_new W2 _ _
        case p2 => simp [Value.oneCell']
        case p3 => unfold maxLen; omega
        case p4 => omega
        case p5 => have := hb2.size; simp; omega
        intro v7 w7 hown7 hgrow _
        have hne : ∀ B o, W2.heap[B]? = some o → (Value.slice none 0 0).ownBlock ≠ some B → w7.heap[B]? = some o := fun B o hB hn => grown_block hgrow ((heap_alloc_old W2 _ (lt_of_block hB)).trans hB) hn
        replace hx1 := hne _ _ hx1 (by simp [Value.ownBlock])
        replace hs1 := hne _ _ hs1 (by simp [Value.ownBlock])
        clear x0 x1 x2 x3 x4 x5 s0 s1 s2 s3 s4 s5
        obtain ⟨x0, x1, x2, x3, x4, x5⟩ := cells6 hx1
        obtain ⟨s0, s1, s2, s3, s4, s5⟩ := cells6 hs1
        replace hb2 : Below w.heap.size w w7 := (hb2.alloc hb2.size _).grown hgrow (by have := hb2.size; simp; omega) (own_base (hown.alloc (.cells #[.int .i64 a] 3)))
        replace hown : w7.ownsRow w.heap.size 3 1 v7 1 (iV [a]) := hown7
        clear hown7 hgrow hne
        go_wp2_with (at_builtin; refine wpList_append_own _ rfl _ _ 25 rfl w.heap.size 3 i0 (.int .i64 0) 1 8 Try.underlying25 hi hz0 hz1 hz2 rfl (by decide) _ 1 _ rfl (hown.alloc _) ⟨w7.heap.size, 0, none⟩ 1 1 [.int .i64 b] rfl rfl ?q1 ?q2 ?q3 ?q4 ?q5 ?_)
        case q1 => exact one_new w7 _ _
        case q2 => simp [Value.oneCell']
        case q3 => unfold maxLen; omega
        case q4 => omega
        case q5 => have := hb2.size; simp; omega
        intro v8 w8 hown7 hgrow _
        have hne : ∀ B o, w7.heap[B]? = some o → v7.ownBlock ≠ some B → w8.heap[B]? = some o := fun B o hB hn => grown_block hgrow ((heap_alloc_old w7 _ (lt_of_block hB)).trans hB) hn
        replace hb2 : Below w.heap.size w w8 := (hb2.alloc hb2.size _).grown hgrow (by have := hb2.size; simp; omega) (own_base (hown.alloc (.cells #[.int .i64 b] 3)))
        replace hown : w8.ownsRow w.heap.size 3 1 v8 2 (iV [a, b]) := hown7
        clear hown7 hgrow hne
        clear x0 x1 x2 x3 x4 x5 s1 s0 s3 s4 s5
        go_wp2_with fail
        refine (sort_own (l := [a, b]) hown (by simp)).mono ?_
        rintro e wS ⟨rfl, ho, hk⟩
        replace hb2 := hk w _ hb2 (Nat.le_refl _) (Nat.le_refl _)
        clear hk hown
        go_wp2_with fail
        refine (compact_own ho (by rw [sortL_len]; simp)).mono ?_
        rintro e wC ⟨vC, rfl, hI, hk⟩
        replace hb2 := hk w _ hb2 (Nat.le_refl _) (Nat.le_refl _)
        rw [← HU2.out] at hI
        have HI := Lib.hid hI
        clear hk ho hI
        go_wp2
        go_ret
        exact ⟨_, rfl, HI.out, hb2⟩
    · have d1 : decide (0 ≤ a) = false := decide_eq_false h1
      cases sb
      · have HU2 := Lib.hid (show U = Lib.compact (sortL ([] : List Int)) from HU.out.trans (by simp [h1]))
        clear HU
        go_enter Try.func49, Try.ntmps49
        go_wp2_with fail
        have hb0 : Below w.heap.size w (w.alloc (.cells #[.int .i64 op, .int .i64 d, .int .i64 a, .int .i64 b, .int .u32 imm, .int .i64 to] 47)) := (Below.refl _ _).alloc (Nat.le_refl _) _
        have hx := heap_alloc_new w (.cells #[.int .i64 op, .int .i64 d, .int .i64 a, .int .i64 b, .int .u32 imm, .int .i64 to] 47)
        generalize World.alloc w _ = W0 at hb0 hx ⊢
        refine (HS.out W0).mono ?_
        rintro e w1 ⟨rfl, hb1⟩
        have hx1 := (heap_alloc_old w1 (.cells #[.bool sd, .bool true, .bool false, .bool si, .bool st, .bool sp] 66) (lt_of_block ((hb1.block _ (lt_of_block hx)).trans hx))).trans ((hb1.block _ (lt_of_block hx)).trans hx)
        have hs1 := heap_alloc_new w1 (.cells #[.bool sd, .bool true, .bool false, .bool si, .bool st, .bool sp] 66)
        have hb2 : Below w.heap.size w (w1.alloc (.cells #[.bool sd, .bool true, .bool false, .bool si, .bool st, .bool sp] 66)) := (hb0.trans (hb1.mono hb0.size)).alloc (hb0.trans (hb1.mono hb0.size)).size _
        clear hx hb0 hb1 HS
        obtain ⟨x0, x1, x2, x3, x4, x5⟩ := cells6 hx1
        obtain ⟨s0, s1, s2, s3, s4, s5⟩ := cells6 hs1
        go_wp2_with fail
        generalize World.alloc w1 _ = W2 at hb2 ⊢
        have hown : W2.ownsRow w.heap.size 3 1 (.slice none 0 0) 0 (iV []) := World.ownsRow_nil _ _ _ _
        refine (sort_own (l := []) hown (by simp)).mono ?_
        rintro e wS ⟨rfl, ho, hk⟩
        replace hb2 := hk w _ hb2 (Nat.le_refl _) (Nat.le_refl _)
        clear hk hown
        go_wp2_with fail
        refine (compact_own ho (by rw [sortL_len]; simp)).mono ?_
        rintro e wC ⟨vC, rfl, hI, hk⟩
        replace hb2 := hk w _ hb2 (Nat.le_refl _) (Nat.le_refl _)
        rw [← HU2.out] at hI
        have HI := Lib.hid hI
        clear hk ho hI
        go_wp2
        go_ret
        exact ⟨_, rfl, HI.out, hb2⟩
      · have HU2 := Lib.hid (show U = Lib.compact (sortL ([b] : List Int)) from HU.out.trans (by simp [h1]))
        clear HU
        go_enter Try.func49, Try.ntmps49
        go_wp2_with fail
        have hb0 : Below w.heap.size w (w.alloc (.cells #[.int .i64 op, .int .i64 d, .int .i64 a, .int .i64 b, .int .u32 imm, .int .i64 to] 47)) := (Below.refl _ _).alloc (Nat.le_refl _) _
        have hx := heap_alloc_new w (.cells #[.int .i64 op, .int .i64 d, .int .i64 a, .int .i64 b, .int .u32 imm, .int .i64 to] 47)
        generalize World.alloc w _ = W0 at hb0 hx ⊢
        refine (HS.out W0).mono ?_
        rintro e w1 ⟨rfl, hb1⟩
        have hx1 := (heap_alloc_old w1 (.cells #[.bool sd, .bool true, .bool true, .bool si, .bool st, .bool sp] 66) (lt_of_block ((hb1.block _ (lt_of_block hx)).trans hx))).trans ((hb1.block _ (lt_of_block hx)).trans hx)
        have hs1 := heap_alloc_new w1 (.cells #[.bool sd, .bool true, .bool true, .bool si, .bool st, .bool sp] 66)
        have hb2 : Below w.heap.size w (w1.alloc (.cells #[.bool sd, .bool true, .bool true, .bool si, .bool st, .bool sp] 66)) := (hb0.trans (hb1.mono hb0.size)).alloc (hb0.trans (hb1.mono hb0.size)).size _
        clear hx hb0 hb1 HS
        obtain ⟨x0, x1, x2, x3, x4, x5⟩ := cells6 hx1
        obtain ⟨s0, s1, s2, s3, s4, s5⟩ := cells6 hs1
        go_upto_region 6 with fail
        generalize World.alloc w1 _ = W2 at hb2 hx1 hs1 x0 x1 x2 x3 x4 x5 s0 s1 s2 s3 s4 s5 ⊢
        generalize w1.heap.size = BS at hs1 s0 s1 s2 s3 s4 s5 ⊢
        have hown : W2.ownsRow w.heap.size 3 1 (.slice none 0 0) 0 (iV []) := World.ownsRow_nil _ _ _ _
        go_wp2_with (at_builtin; refine wpList_append_own _ rfl _ _ 25 rfl w.heap.size 3 i0 (.int .i64 0) 1 8 Try.underlying25 hi hz0 hz1 hz2 rfl (by decide) _ 0 _ rfl (hown.alloc _) ⟨W2.heap.size, 0, none⟩ 1 1 [.int .i64 b] rfl rfl ?p1 ?p2 ?p3 ?p4 ?p5 ?_)
        case p1 => exact one_new W2 _ _
        case p2 => simp [Value.oneCell']
        case p3 => unfold maxLen; omega
        case p4 => omega
        case p5 => have := hb2.size; simp; omega
        intro v7 w7 hown7 hgrow _
        have hne : ∀ B o, W2.heap[B]? = some o → (Value.slice none 0 0).ownBlock ≠ some B → w7.heap[B]? = some o := fun B o hB hn => grown_block hgrow ((heap_alloc_old W2 _ (lt_of_block hB)).trans hB) hn
        replace hb2 : Below w.heap.size w w7 := (hb2.alloc hb2.size _).grown hgrow (by have := hb2.size; simp; omega) (own_base (hown.alloc (.cells #[.int .i64 b] 3)))
        replace hown : w7.ownsRow w.heap.size 3 1 v7 1 (iV [b]) := hown7
        clear hown7 hgrow hne
        clear x0 x1 x2 x3 x4 x5 s1 s0 s3 s4 s5
        go_wp2_with fail
        refine (sort_own (l := [b]) hown (by simp)).mono ?_
        rintro e wS ⟨rfl, ho, hk⟩
        replace hb2 := hk w _ hb2 (Nat.le_refl _) (Nat.le_refl _)
        clear hk hown
        go_wp2_with fail
        refine (compact_own ho (by rw [sortL_len]; simp)).mono ?_
        rintro e wC ⟨vC, rfl, hI, hk⟩
        replace hb2 := hk w _ hb2 (Nat.le_refl _) (Nat.le_refl _)
        rw [← HU2.out] at hI
        have HI := Lib.hid hI
        clear hk ho hI
        go_wp2
        go_ret
        exact ⟨_, rfl, HI.out, hb2⟩
end Go.Proofs.Ytjlacdnkncgpaaa
