/-
  Lists of pairs, SamePairs; what both packages call a dependence is the same.
-/
import Derived.Test.YtjlacdnkncgpaaaTmS
namespace Go.Proofs.Ytjlacdnkncgpaaa
open Go.RowKit

theorem keep_cell {W W' : World} {B o : Nat} {v : Value} (hb : Below W.heap.size W W') (hB : B < W.heap.size) (h : W.cell? ⟨B, o, none⟩ = some v) : W'.cell? ⟨B, o, none⟩ = some v :=
  (hb.cell (p := ⟨B, o, none⟩) hB).trans h
def strV (l : List (Int × Int)) : List Value := l.flatMap fun x => [.int .i64 x.1, .int .i64 x.2]
theorem strV_append (a b : List (Int × Int)) : strV (a ++ b) = strV a ++ strV b := by simp [strV]
theorem strV_one (a b : Int) : strV [(a, b)] = [.int .i64 a, .int .i64 b] := rfl
theorem infoSt : (Try.prog.info? 55).map (fun i => (i.zero, i.size, i.bytes)) = some (some (.agg #[.int .i64 0, .int .i64 0]), 2, 16) := by kernel_rfl
theorem news2 {W : World} {B : Nat} {a b : Value} {t : TypeId} {fr : Nat × Nat} (h : W.heap[B]? = some (.cells #[a, b] t fr)) : ∀ j u, [a, b][j]? = some u → W.cell? ((⟨B, 0, none⟩ : Addr).add j) = some u := by
  intro j u hj
  match j, hj with
  | 0, hj => simp at hj; subst hj; simp [World.cell?, h, Addr.add]
  | 1, hj => simp at hj; subst hj; simp [World.cell?, h, Addr.add]
  | n + 2, hj => simp at hj
/-- A list of pairs in memory. -/
def Strs (w : World) (v : Value) (l : List (Int × Int)) : Prop := ∃ A c, v = .slice A l.length c ∧ l.length ≤ c ∧ (l.length = 0 ∨ ∃ g, A = some ⟨g, 0, none⟩ ∧ g < w.heap.size ∧ ∀ j, j < l.length → w.cell? ⟨g, j * 2, none⟩ = some (.int .i64 l[j]!.1) ∧ w.cell? ⟨g, j * 2 + 1, none⟩ = some (.int .i64 l[j]!.2))
theorem strV_at : ∀ (l : List (Int × Int)) (j : Nat), j < l.length → (strV l)[j * 2]? = some (.int .i64 l[j]!.1) ∧ (strV l)[j * 2 + 1]? = some (.int .i64 l[j]!.2)
  | [], j, h => absurd h (by simp)
  | p :: l, 0, _ => ⟨rfl, rfl⟩
  | p :: l, j + 1, h => by
    have ih := strV_at l j (by simpa using h)
    have e : strV (p :: l) = [.int .i64 p.1, .int .i64 p.2] ++ strV l := rfl
    rw [e, List.getElem!_cons_succ]
    rw [List.getElem?_append_right (by simp; omega), List.getElem?_append_right (by simp; omega)]
    rw [show (j + 1) * 2 - [Value.int .i64 p.1, Value.int .i64 p.2].length = j * 2 by simp; omega, show (j + 1) * 2 + 1 - [Value.int .i64 p.1, Value.int .i64 p.2].length = j * 2 + 1 by simp; omega]
    exact ih
theorem strs_own {w : World} {base : Nat} {v : Value} {l : List (Int × Int)} (h : w.ownsRow base 55 2 v l.length (strV l)) : Strs w v l := by
  have h0 := h
  rcases h.2 with ⟨rfl, h1⟩ | ⟨g, cap, cur, rfl, _, hh, h2, h3, _⟩
  · exact ⟨none, 0, by rw [h1], by omega, .inl h1⟩
  · refine ⟨_, cap, rfl, h2, .inr ⟨g, rfl, lt_of_block hh, fun j hj => ?_⟩⟩
    have e : ∀ q, (⟨g, 0, none⟩ : Addr).add q = ⟨g, q, none⟩ := by
      intro q
      unfold Addr.add
      split
      · rename_i h0
        simp [h0]
      · simp
    obtain ⟨s1, s2⟩ := strV_at l j hj
    have c1 := h0.cells (g := g) rfl _ _ s1
    have c2 := h0.cells (g := g) rfl _ _ s2
    rw [e] at c1 c2
    exact ⟨c1, c2⟩
theorem Strs.below {w w' : World} {v : Value} {l : List (Int × Int)} (h : Strs w v l) (hb : Below w.heap.size w w') : Strs w' v l := by
  obtain ⟨A, c, rfl, hc, h | ⟨g, rfl, hg, h⟩⟩ := h
  · exact ⟨A, c, rfl, hc, .inl h⟩
  · exact ⟨_, c, rfl, hc, .inr ⟨g, rfl, Nat.lt_of_lt_of_le hg hb.size, fun j hj => ⟨keep_cell hb hg (h j hj).1, keep_cell hb hg (h j hj).2⟩⟩⟩
theorem eqSt (a b : Int) (w : World) : (Op.equalIn 10000 55 (.agg #[.int .i64 a, .int .i64 b]) (.agg #[.int .i64 a, .int .i64 b])).run Try.prog w = .ok true w := by
  have u3 := Try.underlying3
  have a3 := Try.isAgg3
  have z3 := Try.sizeOf3
  rw [show (10000 : Nat) = 9999 + 1 from rfl, Op.equalIn]
  simp only [Sem.run_bind, run_underlying Try.underlying55, Result.andThen_ok]
  simp only [Std.Legacy.Range.forIn_eq_forIn_range', Std.Legacy.Range.size, Nat.sub_zero, Nat.add_sub_cancel, Nat.div_one, List.range'_succ, List.range'_zero, List.forIn_cons, List.forIn_nil]
  go_simp
set_option maxRecDepth 100000 in
theorem sameStr_yes {w : World} {v1 v2 : Value} {l : List (Int × Int)} (h1 : Strs w v1 l) (h2 : Strs w v2 l) (hl : l.length ≤ 100000) :
    Calls Try.prog 20 #[v1, v2] w fun e w' => e = .returned (.bool true) ∧ Below w.heap.size w w' := by
  obtain ⟨A1, c1, rfl, hc1, h1⟩ := h1
  obtain ⟨A2, c2, rfl, hc2, h2⟩ := h2
  obtain ⟨n, hn⟩ : ∃ n, n = l.length := ⟨_, rfl⟩
  rw [← hn] at h1 h2 hl hc1 hc2 ⊢
  by_cases h0 : n = 0
  · subst h0
    clear h1 h2 hn hl
    go_enter Try.func20, Try.ntmps20
    go_wp2
    go_loopw [5] (fun zi wr => zi = .int .i64 0 ∧ wr = w) (fun _ _ => 0)
    case atStart => exact ⟨rfl, rfl⟩
    case round =>
      obtain ⟨rfl, rfl⟩ := hrel
      go_wp2
      go_ret
      exact ⟨rfl, Below.refl _ _⟩
  · rcases h1 with h1 | ⟨g1, rfl, hg1, h1⟩
    · exact absurd h1 h0
    rcases h2 with h2 | ⟨g2, rfl, hg2, h2⟩
    · exact absurd h2 h0
    have H1 := Lib.hid h1
    have H2 := Lib.hid h2
    clear h1 h2 h0 hn
    go_enter Try.func20, Try.ntmps20
    go_wp2
    go_loopw [5] (fun zi wr => ∃ i : Nat, i ≤ n ∧ zi = .int .i64 (i : Int) ∧ Below w.heap.size w wr) (fun zi _ => n - (intOf zi).toNat)
    case atStart => exact ⟨0, by omega, rfl, Below.refl _ _⟩
    case round =>
      obtain ⟨i, hi, rfl, hb⟩ := hrel
      by_cases hlt : i < n
      · obtain ⟨a1, a2⟩ := H1.out i hlt
        obtain ⟨b1, b2⟩ := H2.out i hlt
        have x1 := (hb.cell (p := ⟨g1, i * 2, none⟩) hg1).trans a1
        have x2 := (hb.cell (p := ⟨g1, i * 2 + 1, none⟩) hg1).trans a2
        have y1 := (hb.cell (p := ⟨g2, i * 2, none⟩) hg2).trans b1
        have y2 := (hb.cell (p := ⟨g2, i * 2 + 1, none⟩) hg2).trans b2
        clear a1 a2 b1 b2
        generalize l[i]! = p at x1 x2 y1 y2
        obtain ⟨pa, pb⟩ := p
        simp only at x1 x2 y1 y2
        have hi1 : i < c1 := by omega
        have hi2 : i < c2 := by omega
        have heq := fun W => eqSt pa pb W
        go_wp2
        go_region
        go_wp2
        go_roundw
        case rel => exact ⟨i + 1, by omega, by go_num, drewR hb⟩
        case measure => simp [intOf]; omega
      · go_wp2
        go_ret
        exact ⟨rfl, hb⟩
theorem mem_both (op : Int) : inB op 18 23 = (inB op 18 20 || inB op 21 23) := by
  unfold inB
  rw [← Bool.decide_or, decide_eq_decide]
  omega
theorem dep_eq {x y : Cod} (hx : valC x = true) (hy : valC y = true) : depP x y = depR x y := by
  obtain ⟨a1, a2, a3, a4, a5⟩ := use_rd hx
  obtain ⟨b1, b2, b3, b4, b5⟩ := use_rd hy
  have m1 : ∀ r, memB (useL x) r = memB (rdF x) r := fun r => mem_same fun q => by rw [mem_useL, a1]
  have m2 : ∀ r, memB (useL y) r = memB (rdF y) r := fun r => mem_same fun q => by rw [mem_useL, b1]
  have hc : (y.d == x.d) = (x.d == y.d) := by
    rw [Bool.eq_iff_iff]
    simp only [beq_iff_eq]
    exact eq_comm
  unfold depP depR
  rw [m1, m2, mem_both x.op, mem_both y.op]
  generalize inB x.op 21 23 = sx
  generalize inB x.op 18 20 = lx
  generalize inB y.op 21 23 = sy
  generalize inB y.op 18 20 = ly
  cases hp : (shF x.op).d
  · have hwx : wrF x = -1 := by
      rcases a5 with h | ⟨h1, h2⟩
      · exact h
      · exfalso
        have := a3.2 (by omega)
        rw [hp] at this
        cases this
    rw [show decide (0 ≤ wrF x) = false from decide_eq_false (by omega)]
    cases hr : (shF y.op).d
    · have hwy : wrF y = -1 := by
        rcases b5 with h | ⟨h1, h2⟩
        · exact h
        · exfalso
          have := b3.2 (by omega)
          rw [hr] at this
          cases this
      rw [show decide (0 ≤ wrF y) = false from decide_eq_false (by omega)]
      cases sx <;> cases lx <;> cases sy <;> cases ly <;> simp
    · obtain ⟨h1, h2, h3⟩ := b4 hr
      rw [h1, show decide (0 ≤ y.d) = true from decide_eq_true h2]
      generalize memB (rdF x) y.d = s
      cases s <;> cases sx <;> cases lx <;> cases sy <;> cases ly <;> simp
  · obtain ⟨g1, g2, g3⟩ := a4 hp
    rw [g1, show decide (0 ≤ x.d) = true from decide_eq_true g2]
    cases hr : (shF y.op).d
    · have hwy : wrF y = -1 := by
        rcases b5 with h | ⟨h1, h2⟩
        · exact h
        · exfalso
          have := b3.2 (by omega)
          rw [hr] at this
          cases this
      have hne : (wrF y == x.d) = false := beq_false_of_ne (by omega)
      rw [hne, show decide (0 ≤ wrF y) = false from decide_eq_false (by omega)]
      generalize memB (rdF y) x.d = q
      cases q <;> cases sx <;> cases lx <;> cases sy <;> cases ly <;> simp
    · obtain ⟨h1, h2, h3⟩ := b4 hr
      rw [h1, hc, show decide (0 ≤ y.d) = true from decide_eq_true h2]
      generalize memB (rdF x) y.d = s
      generalize memB (rdF y) x.d = q
      generalize (x.d == y.d) = e
      cases e <;> cases q <;> cases s <;> cases sx <;> cases lx <;> cases sy <;> cases ly <;> simp
end Go.Proofs.Ytjlacdnkncgpaaa
