/-
  The law of Holes.
-/
import Derived.Test.YtdpfglpefncigaaTrHd
namespace Go.Proofs.Ytdpfglpefncigaa
open Go.RowKit

/-- A list of stretches in memory. -/
def Strs (w : World) (v : Value) (l : List (Int × Int)) : Prop := ∃ A c, v = .slice A l.length c ∧ l.length ≤ c ∧ (l.length = 0 ∨ ∃ g, A = some ⟨g, 0, none⟩ ∧ g < w.heap.size ∧ ∀ j, j < l.length → w.cell? ⟨g, j * 2, none⟩ = some (.int .i64 l[j]!.1) ∧ w.cell? ⟨g, j * 2 + 1, none⟩ = some (.int .i64 l[j]!.2))
theorem strV_at : ∀ (l : List (Int × Int)) (j : Nat), j < l.length → (strV l)[j * 2]? = some (.int .i64 l[j]!.1) ∧ (strV l)[j * 2 + 1]? = some (.int .i64 l[j]!.2)
  | [], j, h => absurd h (by simp)
  | p :: l, 0, _ => ⟨rfl, rfl⟩
  | p :: l, j + 1, h => by
    have ih := strV_at l j (by simpa using h)
    have e : strV (p :: l) = [.int .i64 p.1, .int .i64 p.2] ++ strV l := rfl
    rw [e, List.getElem!_cons_succ]
    rw [List.getElem?_append_right (by simp; omega), List.getElem?_append_right (by simp; omega)]
    rw [show (j + 1) * 2 - [Value.int .i64 p.1, Value.int .i64 p.2].length = j * 2 by simp; omega, show (j + 1) * 2 + 1 - [Value.int .i64 p.1, Value.int .i64 p.2].length = j * 2 + 1 by simp; omega]
    exact ih
theorem strs_own {w : World} {base : Nat} {v : Value} {l : List (Int × Int)} (h : w.ownsRow base 57 2 v l.length (strV l)) : Strs w v l := by
  have h0 := h
  rcases h.2 with ⟨rfl, h1⟩ | ⟨g, cap, cur, rfl, _, hh, h2, h3, _⟩
  · exact ⟨none, 0, by rw [h1], by omega, .inl h1⟩
  · refine ⟨_, cap, rfl, h2, .inr ⟨g, rfl, lt_of_block hh, fun j hj => ?_⟩⟩
    have e : ∀ q, (⟨g, 0, none⟩ : Addr).add q = ⟨g, q, none⟩ := by
      intro q
      unfold Addr.add
      split
      · rename_i h0
        simp [h0]
      · simp
    obtain ⟨s1, s2⟩ := strV_at l j hj
    have c1 := h0.cells (g := g) rfl _ _ s1
    have c2 := h0.cells (g := g) rfl _ _ s2
    rw [e] at c1 c2
    exact ⟨c1, c2⟩
theorem Strs.below {w w' : World} {v : Value} {l : List (Int × Int)} (h : Strs w v l) (hb : Below w.heap.size w w') : Strs w' v l := by
  obtain ⟨A, c, rfl, hc, h | ⟨g, rfl, hg, h⟩⟩ := h
  · exact ⟨A, c, rfl, hc, .inl h⟩
  · exact ⟨_, c, rfl, hc, .inr ⟨g, rfl, Nat.lt_of_lt_of_le hg hb.size, fun j hj => ⟨keep_cell hb hg (h j hj).1, keep_cell hb hg (h j hj).2⟩⟩⟩
theorem eqSt (a b : Int) (w : World) : (Op.equalIn 10000 57 (.agg #[.int .i64 a, .int .i64 b]) (.agg #[.int .i64 a, .int .i64 b])).run Try.prog w = .ok true w := by
  have u3 := Try.underlying3
  have a3 := Try.isAgg3
  have z3 := Try.sizeOf3
  rw [show (10000 : Nat) = 9999 + 1 from rfl, Op.equalIn]
  simp only [Sem.run_bind, run_underlying Try.underlying57, Result.andThen_ok]
  simp only [Std.Legacy.Range.forIn_eq_forIn_range', Std.Legacy.Range.size, Nat.sub_zero, Nat.add_sub_cancel, Nat.div_one, List.range'_succ, List.range'_zero, List.forIn_cons, List.forIn_nil]
  go_simp
set_option maxRecDepth 100000 in
theorem sameStr_yes {w : World} {v1 v2 : Value} {l : List (Int × Int)} (h1 : Strs w v1 l) (h2 : Strs w v2 l) (hl : l.length ≤ 100000) :
    Calls Try.prog 38 #[v1, v2] w fun e w' => e = .returned (.bool true) ∧ Below w.heap.size w w' := by
  obtain ⟨A1, c1, rfl, hc1, h1⟩ := h1
  obtain ⟨A2, c2, rfl, hc2, h2⟩ := h2
  obtain ⟨n, hn⟩ : ∃ n, n = l.length := ⟨_, rfl⟩
  rw [← hn] at h1 h2 hl hc1 hc2 ⊢
  by_cases h0 : n = 0
  · subst h0
    clear h1 h2 hn hl
    go_enter Try.func38, Try.ntmps38
    go_wp2
    go_loopw [5] (fun zi wr => zi = .int .i64 0 ∧ wr = w) (fun _ _ => 0)
    case atStart => exact ⟨rfl, rfl⟩
    case round =>
      obtain ⟨rfl, rfl⟩ := hrel
      go_wp2
      go_ret
      exact ⟨rfl, Below.refl _ _⟩
  · rcases h1 with h1 | ⟨g1, rfl, hg1, h1⟩
    · exact absurd h1 h0
    rcases h2 with h2 | ⟨g2, rfl, hg2, h2⟩
    · exact absurd h2 h0
    have H1 := Lib.hid h1
    have H2 := Lib.hid h2
    clear h1 h2 h0 hn
    go_enter Try.func38, Try.ntmps38
    go_wp2
    go_loopw [5] (fun zi wr => ∃ i : Nat, i ≤ n ∧ zi = .int .i64 (i : Int) ∧ Below w.heap.size w wr) (fun zi _ => n - (intOf zi).toNat)
    case atStart => exact ⟨0, by omega, rfl, Below.refl _ _⟩
    case round =>
      obtain ⟨i, hi, rfl, hb⟩ := hrel
      by_cases hlt : i < n
      · obtain ⟨a1, a2⟩ := H1.out i hlt
        obtain ⟨b1, b2⟩ := H2.out i hlt
        have x1 := (hb.cell (p := ⟨g1, i * 2, none⟩) hg1).trans a1
        have x2 := (hb.cell (p := ⟨g1, i * 2 + 1, none⟩) hg1).trans a2
        have y1 := (hb.cell (p := ⟨g2, i * 2, none⟩) hg2).trans b1
        have y2 := (hb.cell (p := ⟨g2, i * 2 + 1, none⟩) hg2).trans b2
        clear a1 a2 b1 b2
        generalize l[i]! = p at x1 x2 y1 y2
        obtain ⟨pa, pb⟩ := p
        simp only at x1 x2 y1 y2
        have hi1 : i < c1 := by omega
        have hi2 : i < c2 := by omega
        have heq := fun W => eqSt pa pb W
        go_wp2
        go_region
        go_wp2
        go_roundw
        case rel => exact ⟨i + 1, by omega, by go_num, drewR hb⟩
        case measure => simp [intOf]; omega
      · go_wp2
        go_ret
        exact ⟨rfl, hb⟩
theorem refHoles_tab {w : World} {A : Option Addr} {n c : Nat} {zs : List Plc} (h : Tab w A n c zs) (v f t : Int) : Calls Try.prog 37 #[.slice A n c, .int .i64 v, .int .i64 f, .int .i64 t] w fun e w' => ∃ V, e = .returned (.tuple #[V, .int .i64 (chkF zs v f t)]) ∧ w'.ownsRow w.heap.size 57 2 V (holesL zs v f t).length (strV (holesL zs v f t)) ∧ Below w.heap.size w w' := by
  by_cases hX : chkF zs v f t = 0
  · rw [hX]
    exact refHoles_good h v f t hX
  · have hL : holesL zs v f t = [] := if_neg hX
    rw [hL]
    exact (refHoles_bad h v f t hX).mono fun e w' ⟨h1, h2⟩ => ⟨_, h1, World.ownsRow_nil _ _ _ _, h2⟩
theorem holesL_len {w : World} {A : Option Addr} {n c : Nat} {zs : List Plc} (h : Tab w A n c zs) (hn : n ≤ 100) (v f t : Int) : (holesL zs v f t).length ≤ 100000 := by
  have := h.shape
  unfold holesL
  split
  · have h2 := hp_len zs v f t zs.length
    unfold hpEnd
    split
    · rw [List.length_append, List.length_singleton]
      omega
    · omega
  · simp
set_option maxRecDepth 100000 in
set_option maxHeartbeats 1000000 in
theorem holes_walk {w : World} {A : Option Addr} {n c : Nat} {zs : List Plc} (h : Tab w A n c zs) (v x y : Int) :
    Calls Try.prog 12 #[.slice A n c, .int .i64 v, .agg #[.int .i64 x, .int .i64 y]] w fun e w' => e = .returned (.bool true) ∧ Below w.heap.size w w' := by
  by_cases hn : 100 < n
  · clear h
    have HN := Lib.hid hn
    clear hn
    go_enter Try.func12, Try.ntmps12
    go_wp2_with (first | (go_at_call 14; ((with_reducible refine (long_yes _ _ _ _ HN.out).mono ?_); rintro e w' ⟨rfl, rfl⟩)))
    refine (calls_known ((Below.refl _ _).alloc (Nat.le_refl _) _)).mono ?_
    rintro e w' ⟨rfl, hb⟩
    go_wp2
    go_ret
    exact ⟨rfl, hb⟩
  · have HF := Lib.hid (fun w1 (hb : Below w.heap.size w w1) => holes_tab (h.below hb) v x y)
    have HR := Lib.hid (fun w1 (hb : Below w.heap.size w w1) => refHoles_tab (h.below hb) v x y)
    have HN := Lib.hid hn
    have HL := Lib.hid (holesL_len h (by omega) v x y)
    generalize holesL zs v x y = L at HF HR HL
    generalize chkF zs v x y = X at HF HR
    clear hn h
    go_enter Try.func12, Try.ntmps12
    go_wp2_with (first | (go_at_call 14; ((with_reducible refine (long_no _ _ _ _ HN.out).mono ?_); rintro e w' ⟨rfl, rfl⟩)))
    have hb0 : Below w.heap.size w (w.alloc (.cells #[.int .i64 x, .int .i64 y] 57)) := (Below.refl _ _).alloc (Nat.le_refl _) _
    have hx := heap_alloc_new w (.cells #[.int .i64 x, .int .i64 y] 57)
    generalize World.alloc w _ = W0 at hb0 hx ⊢
    have HX := Lib.hid hx
    clear hx
    refine (HF.out _ hb0).mono ?_
    rintro e w1 ⟨v1, rfl, h1, hb1⟩
    have hx1 := (hb1.block _ (lt_of_block HX.out)).trans HX.out
    have H1 := Lib.hid (strs_own h1)
    have hc1 := hb0.trans (hb1.mono hb0.size)
    have HX1 := Lib.hid hx1
    obtain ⟨x0, x1, -, -⟩ := cells2 hx1
    clear h1 hb1 hb0 HX hx1
    go_wp2_with fail
    clear x0 x1
    refine (HR.out _ hc1).mono ?_
    rintro e w2 ⟨v2, rfl, h2, hb2⟩
    have H2 := Lib.hid (strs_own h2)
    have H1' := Lib.hid (H1.out.below hb2)
    have hc2 := hc1.trans (hb2.mono hc1.size)
    clear h2 hb2 hc1 H1 HX1
    go_wp2_with fail
    refine (sameStr_yes H1'.out H2.out HL.out).mono ?_
    rintro e w3 ⟨rfl, hb3⟩
    have hc3 := hc2.trans (hb3.mono hc2.size)
    clear hb3 hc2 H1' H2
    go_wp2_with fail
    refine (calls_known hc3).mono ?_
    rintro e w' ⟨rfl, hb⟩
    go_wp2
    go_ret
    exact ⟨rfl, hb⟩
end Go.Proofs.Ytdpfglpefncigaa
