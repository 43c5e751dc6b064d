/-
  SameInts, and known of the laws of time.
-/
import Derived.Test.YtjlacdnkncgpaaaTmK
import Derived.Deep.RegionHeld3
namespace Go.Proofs.Ytjlacdnkncgpaaa
open Go.RowKit

theorem drewR {B : Nat} {a w : World} (h : Below B a w) : Below B a w.drew := ⟨h.os, h.tape, h.output, h.size, h.block⟩
theorem codV_at : ∀ (zs : List Cod) (j i : Nat) (v : Value), j < zs.length → (encC zs[j]!)[i]? = some v → (zs.flatMap encC)[j * 6 + i]? = some v
  | [], j, _, _, h, _ => absurd h (by simp)
  | x :: l, 0, i, v, _, h => by
    have hi : i < (encC x).length := (List.getElem?_eq_some_iff.1 h).1
    rw [List.flatMap_cons, Nat.zero_mul, Nat.zero_add, List.getElem?_append_left hi]
    exact h
  | x :: l, j + 1, i, v, hj, h => by
    have e6 : (encC x).length = 6 := rfl
    rw [List.flatMap_cons, List.getElem?_append_right (by omega)]
    rw [show (j + 1) * 6 + i - (encC x).length = j * 6 + i by omega]
    exact codV_at l j i v (by simpa using hj) (by simpa using h)
theorem lies_block {W : World} {B : Nat} {cs : Array Value} {t : TypeId} {fr : Nat × Nat} {ps : List Cod} (h : W.heap[B]? = some (.cells cs t fr)) (hc : cs.toList = ps.flatMap encC) : Lies W B 0 ps := by
  refine ⟨lt_of_block h, fun j hj i v hv => ?_⟩
  have := codV_at ps j i v hj hv
  rw [← hc] at this
  simpa [World.cell?, h] using this
theorem ints_block {W : World} {B : Nat} {cs : Array Value} {t : TypeId} {fr : Nat × Nat} {l : List Int} {n c : Nat} (h : W.heap[B]? = some (.cells cs t fr)) (hn : n = l.length) (hc : cs.toList = iV l) : IntsAt W (.slice (some ⟨B, 0, none⟩) n c) l := by
  subst hn
  refine ⟨_, c, rfl, .inr ⟨B, rfl, lt_of_block h, fun j hj => ?_⟩⟩
  have : cs.toList[j]? = some (.int .i64 l[j]!) := by
    rw [hc]
    simp [iV, hj]
  simpa [World.cell?, h] using this
theorem blk_cell {W : World} {B i : Nat} {cs : Array Value} {t : TypeId} {fr : Nat × Nat} {v : Value} (h : W.heap[B]? = some (.cells cs t fr)) (hc : cs[i]? = some v) : W.cell? ⟨B, i, none⟩ = some v := by
  simp only [World.cell?, h]
  exact hc
theorem IntsAt.cell {w : World} {g n c : Nat} {l : List Int} (h : IntsAt w (.slice (some ⟨g, 0, none⟩) n c) l) {j : Nat} (hj : j < n) : w.cell? ⟨g, j, none⟩ = some (.int .i64 l[j]!) := by
  obtain ⟨A, c', h1, h2⟩ := h
  injection h1 with h1 h3 h4
  rcases h2 with h2 | ⟨g', h2, hg, h5⟩
  · omega
  · subst h2
    injection h1 with h1
    injection h1 with h1
    subst h1
    exact h5 j (by omega)
set_option maxRecDepth 100000 in
theorem sameInts_yes {w : World} {v1 v2 : Value} {l : List Int} (h1 : IntsAt w v1 l) (h2 : IntsAt w v2 l) (hl : l.length ≤ 100000) :
    Calls Try.prog 17 #[v1, v2] w fun e w' => e = .returned (.bool true) ∧ Below w.heap.size w w' := by
  obtain ⟨A1, c1, rfl, h1⟩ := h1
  obtain ⟨A2, c2, rfl, h2⟩ := h2
  obtain ⟨n, hn⟩ : ∃ n, n = l.length := ⟨_, rfl⟩
  rw [← hn] at h1 h2 hl ⊢
  by_cases h0 : n = 0
  · subst h0
    clear h1 h2 hn hl
    go_enter Try.func17, Try.ntmps17
    go_wp2
    go_loopw [5] (fun zi wr => zi = .int .i64 0 ∧ wr = w) (fun _ _ => 0)
    case atStart => exact ⟨rfl, rfl⟩
    case round =>
      obtain ⟨rfl, rfl⟩ := hrel
      go_wp2
      go_ret
      exact ⟨rfl, Below.refl _ _⟩
  · rcases h1 with h1 | ⟨g1, rfl, hg1, h1⟩
    · exact absurd h1 h0
    rcases h2 with h2 | ⟨g2, rfl, hg2, h2⟩
    · exact absurd h2 h0
    have H1 := Lib.hid h1
    have H2 := Lib.hid h2
    clear h1 h2 h0 hn
    go_enter Try.func17, Try.ntmps17
    go_wp2
    go_loopw [5] (fun zi wr => ∃ i : Nat, i ≤ n ∧ zi = .int .i64 (i : Int) ∧ Below w.heap.size w wr) (fun zi _ => n - (intOf zi).toNat)
    case atStart => exact ⟨0, by omega, rfl, Below.refl _ _⟩
    case round =>
      obtain ⟨i, hi, rfl, hb⟩ := hrel
      by_cases hlt : i < n
      · have x1 := (hb.cell (p := ⟨g1, i, none⟩) hg1).trans (H1.out i hlt)
        have y1 := (hb.cell (p := ⟨g2, i, none⟩) hg2).trans (H2.out i hlt)
        generalize l[i]! = p at x1 y1
        have hpp : (p == p) = true := beq_self_eq_true p
        go_wp2
        go_region
        go_wp2
        go_roundw
        case rel => exact ⟨i + 1, by omega, by go_num, drewR hb⟩
        case measure => simp [intOf]; omega
      · go_wp2
        go_ret
        exact ⟨rfl, hb⟩
theorem long_yes (A : Option Addr) (n c : Nat) (w : World) (h : 100 < n) : Calls Try.prog 7 #[.slice A n c] w fun e w' => e = .returned (.bool true) ∧ w = w' := by
  have e1 : (100 : Int) < (n : Int) := by omega
  go_enter Try.func7, Try.ntmps7
  go_wp2
  go_ret
  exact ⟨rfl, rfl⟩
theorem long_no (A : Option Addr) (n c : Nat) (w : World) (h : ¬ 100 < n) : Calls Try.prog 7 #[.slice A n c] w fun e w' => e = .returned (.bool false) ∧ w = w' := by
  have e1 : ¬ (100 : Int) < (n : Int) := by omega
  go_enter Try.func7, Try.ntmps7
  go_wp2
  go_ret
  exact ⟨rfl, rfl⟩
theorem val_k1 : valF [⟨4, 1, 0, 0, 0, 0⟩, ⟨2, 2, 1, 1, 0, 0⟩, ⟨0, 3, 0, 0, 0, 0⟩] = 0 := by decide
theorem val_k2 : valF [⟨4, 1, 0, 0, 0, 0⟩, ⟨0, 3, 0, 0, 0, 0⟩, ⟨2, 2, 1, 1, 0, 0⟩] = 0 := by decide
theorem res_k1 : resL [⟨4, 1, 0, 0, 0, 0⟩, ⟨2, 2, 1, 1, 0, 0⟩, ⟨0, 3, 0, 0, 0, 0⟩] = [0, 3, 4] := by decide
theorem res_k2 : resC [⟨4, 1, 0, 0, 0, 0⟩, ⟨0, 3, 0, 0, 0, 0⟩, ⟨2, 2, 1, 1, 0, 0⟩] = 4 := by decide
set_option maxRecDepth 100000 in
set_option maxHeartbeats 2000000 in
theorem known_any (w : World) : Calls Try.prog 8 #[] w fun e w' => e = .returned (.bool true) ∧ Below w.heap.size w w' := by
  go_enter Try.func8, Try.ntmps8
  go_wp2_with fail
  have hA : (w.alloc (.cells #[.int .i64 4, .int .i64 1, .int .i64 0, .int .i64 0, .int .u32 0, .int .i64 0, .int .i64 2, .int .i64 2, .int .i64 1, .int .i64 1, .int .u32 0, .int .i64 0, .int .i64 0, .int .i64 3, .int .i64 0, .int .i64 0, .int .u32 0, .int .i64 0] 47)).heap[w.heap.size]? = some (.cells #[.int .i64 4, .int .i64 1, .int .i64 0, .int .i64 0, .int .u32 0, .int .i64 0, .int .i64 2, .int .i64 2, .int .i64 1, .int .i64 1, .int .u32 0, .int .i64 0, .int .i64 0, .int .i64 3, .int .i64 0, .int .i64 0, .int .u32 0, .int .i64 0] 47 (0, 0)) := heap_alloc_new w _
  have hb0 : Below w.heap.size w (w.alloc (.cells #[.int .i64 4, .int .i64 1, .int .i64 0, .int .i64 0, .int .u32 0, .int .i64 0, .int .i64 2, .int .i64 2, .int .i64 1, .int .i64 1, .int .u32 0, .int .i64 0, .int .i64 0, .int .i64 3, .int .i64 0, .int .i64 0, .int .u32 0, .int .i64 0] 47)) := (Below.refl _ _).alloc (Nat.le_refl _) _
  have hL := lies_block (ps := [⟨4, 1, 0, 0, 0, 0⟩, ⟨2, 2, 1, 1, 0, 0⟩, ⟨0, 3, 0, 0, 0, 0⟩]) hA rfl
  generalize World.alloc w _ = W0 at hA hL hb0 ⊢
  obtain ⟨g, hg⟩ : ∃ g, g = w.heap.size := ⟨_, rfl⟩
  rw [← hg] at hA hL ⊢
  have hT : Tab W0 (some ⟨g, 0, none⟩) 3 3 [⟨4, 1, 0, 0, 0, 0⟩, ⟨2, 2, 1, 1, 0, 0⟩, ⟨0, 3, 0, 0, 0, 0⟩] := ⟨rfl, by omega, by omega, .inr ⟨g, 0, rfl, hL⟩⟩
  refine (Issue_tab hT).mono ?_
  rw [val_k1, res_k1]
  rintro e w1 ⟨v1, rfl, hI, hb1⟩
  replace hA := (hb1.block _ (lt_of_block hA)).trans hA
  have hc1 := hb0.trans (hb1.mono hb0.size)
  have HI := Lib.hid hI
  have HG := Lib.hid hg
  clear hL hb0 hb1 hT hI hg
  have y0 : w1.cell? ⟨g, 0, none⟩ = some (.int .i64 4) := blk_cell hA rfl
  have y1 : w1.cell? ⟨g, 1, none⟩ = some (.int .i64 1) := blk_cell hA rfl
  have y2 : w1.cell? ⟨g, 2, none⟩ = some (.int .i64 0) := blk_cell hA rfl
  have y3 : w1.cell? ⟨g, 3, none⟩ = some (.int .i64 0) := blk_cell hA rfl
  have y4 : w1.cell? ⟨g, 4, none⟩ = some (.int .u32 0) := blk_cell hA rfl
  have y5 : w1.cell? ⟨g, 5, none⟩ = some (.int .i64 0) := blk_cell hA rfl
  have y6 : w1.cell? ⟨g, 6, none⟩ = some (.int .i64 2) := blk_cell hA rfl
  have y7 : w1.cell? ⟨g, 7, none⟩ = some (.int .i64 2) := blk_cell hA rfl
  have y8 : w1.cell? ⟨g, 8, none⟩ = some (.int .i64 1) := blk_cell hA rfl
  have y9 : w1.cell? ⟨g, 9, none⟩ = some (.int .i64 1) := blk_cell hA rfl
  have y10 : w1.cell? ⟨g, 10, none⟩ = some (.int .u32 0) := blk_cell hA rfl
  have y11 : w1.cell? ⟨g, 11, none⟩ = some (.int .i64 0) := blk_cell hA rfl
  have y12 : w1.cell? ⟨g, 12, none⟩ = some (.int .i64 0) := blk_cell hA rfl
  have y13 : w1.cell? ⟨g, 13, none⟩ = some (.int .i64 3) := blk_cell hA rfl
  have y14 : w1.cell? ⟨g, 14, none⟩ = some (.int .i64 0) := blk_cell hA rfl
  have y15 : w1.cell? ⟨g, 15, none⟩ = some (.int .i64 0) := blk_cell hA rfl
  have y16 : w1.cell? ⟨g, 16, none⟩ = some (.int .u32 0) := blk_cell hA rfl
  have y17 : w1.cell? ⟨g, 17, none⟩ = some (.int .i64 0) := blk_cell hA rfl
  have hgl : g < w1.heap.size := lt_of_block hA
  have HS := Lib.hid (show ∀ W, Below w1.heap.size w1 W → W.cell? ⟨g, 0, none⟩ = some (.int .i64 4) ∧ W.cell? ⟨g, 1, none⟩ = some (.int .i64 1) ∧ W.cell? ⟨g, 2, none⟩ = some (.int .i64 0) ∧ W.cell? ⟨g, 3, none⟩ = some (.int .i64 0) ∧ W.cell? ⟨g, 4, none⟩ = some (.int .u32 0) ∧ W.cell? ⟨g, 5, none⟩ = some (.int .i64 0) ∧ W.cell? ⟨g, 6, none⟩ = some (.int .i64 2) ∧ W.cell? ⟨g, 7, none⟩ = some (.int .i64 2) ∧ W.cell? ⟨g, 8, none⟩ = some (.int .i64 1) ∧ W.cell? ⟨g, 9, none⟩ = some (.int .i64 1) ∧ W.cell? ⟨g, 10, none⟩ = some (.int .u32 0) ∧ W.cell? ⟨g, 11, none⟩ = some (.int .i64 0) ∧ W.cell? ⟨g, 12, none⟩ = some (.int .i64 0) ∧ W.cell? ⟨g, 13, none⟩ = some (.int .i64 3) ∧ W.cell? ⟨g, 14, none⟩ = some (.int .i64 0) ∧ W.cell? ⟨g, 15, none⟩ = some (.int .i64 0) ∧ W.cell? ⟨g, 16, none⟩ = some (.int .u32 0) ∧ W.cell? ⟨g, 17, none⟩ = some (.int .i64 0) from fun W h => ⟨(h.cell (p := ⟨g, 0, none⟩) hgl).trans y0, (h.cell (p := ⟨g, 1, none⟩) hgl).trans y1, (h.cell (p := ⟨g, 2, none⟩) hgl).trans y2, (h.cell (p := ⟨g, 3, none⟩) hgl).trans y3, (h.cell (p := ⟨g, 4, none⟩) hgl).trans y4, (h.cell (p := ⟨g, 5, none⟩) hgl).trans y5, (h.cell (p := ⟨g, 6, none⟩) hgl).trans y6, (h.cell (p := ⟨g, 7, none⟩) hgl).trans y7, (h.cell (p := ⟨g, 8, none⟩) hgl).trans y8, (h.cell (p := ⟨g, 9, none⟩) hgl).trans y9, (h.cell (p := ⟨g, 10, none⟩) hgl).trans y10, (h.cell (p := ⟨g, 11, none⟩) hgl).trans y11, (h.cell (p := ⟨g, 12, none⟩) hgl).trans y12, (h.cell (p := ⟨g, 13, none⟩) hgl).trans y13, (h.cell (p := ⟨g, 14, none⟩) hgl).trans y14, (h.cell (p := ⟨g, 15, none⟩) hgl).trans y15, (h.cell (p := ⟨g, 16, none⟩) hgl).trans y16, (h.cell (p := ⟨g, 17, none⟩) hgl).trans y17⟩)
  have HC := Lib.hid (show Calls Try.prog 11 #[.slice (some ⟨w1.heap.size, 0, none⟩) 3 3] (w1.alloc (.cells #[.int .i64 4, .int .i64 1, .int .i64 0, .int .i64 0, .int .u32 0, .int .i64 0, .int .i64 0, .int .i64 3, .int .i64 0, .int .i64 0, .int .u32 0, .int .i64 0, .int .i64 2, .int .i64 2, .int .i64 1, .int .i64 1, .int .u32 0, .int .i64 0] 47)).drew fun e w' => e = .returned (.tuple #[.int .i64 4, .int .i64 0]) ∧ Below w1.heap.size w1 w' by
    have hB : (w1.alloc (.cells #[.int .i64 4, .int .i64 1, .int .i64 0, .int .i64 0, .int .u32 0, .int .i64 0, .int .i64 0, .int .i64 3, .int .i64 0, .int .i64 0, .int .u32 0, .int .i64 0, .int .i64 2, .int .i64 2, .int .i64 1, .int .i64 1, .int .u32 0, .int .i64 0] 47)).drew.heap[w1.heap.size]? = some (.cells #[.int .i64 4, .int .i64 1, .int .i64 0, .int .i64 0, .int .u32 0, .int .i64 0, .int .i64 0, .int .i64 3, .int .i64 0, .int .i64 0, .int .u32 0, .int .i64 0, .int .i64 2, .int .i64 2, .int .i64 1, .int .i64 1, .int .u32 0, .int .i64 0] 47 (0, 0)) := heap_alloc_new w1 _
    have hb0 : Below w1.heap.size w1 (w1.alloc (.cells #[.int .i64 4, .int .i64 1, .int .i64 0, .int .i64 0, .int .u32 0, .int .i64 0, .int .i64 0, .int .i64 3, .int .i64 0, .int .i64 0, .int .u32 0, .int .i64 0, .int .i64 2, .int .i64 2, .int .i64 1, .int .i64 1, .int .u32 0, .int .i64 0] 47)).drew := drewR ((Below.refl _ _).alloc (Nat.le_refl _) _)
    have hL := lies_block (ps := [⟨4, 1, 0, 0, 0, 0⟩, ⟨0, 3, 0, 0, 0, 0⟩, ⟨2, 2, 1, 1, 0, 0⟩]) hB rfl
    generalize World.drew _ = W2 at hL hb0 ⊢
    have hT : Tab W2 (some ⟨w1.heap.size, 0, none⟩) 3 3 [⟨4, 1, 0, 0, 0, 0⟩, ⟨0, 3, 0, 0, 0, 0⟩, ⟨2, 2, 1, 1, 0, 0⟩] := ⟨rfl, by omega, by omega, .inr ⟨_, 0, rfl, hL⟩⟩
    have hc := Cost_tab hT
    rw [val_k2, res_k2] at hc
    exact hc.mono fun e w' ⟨h1, h2⟩ => ⟨h1, hb0.trans (h2.mono hb0.size)⟩)
  clear hA
  go_wp2_with fail
  go_region_held3 (fun W => W.cell? ⟨g, 0, none⟩ = some (.int .i64 4) ∧ W.cell? ⟨g, 1, none⟩ = some (.int .i64 1) ∧ W.cell? ⟨g, 2, none⟩ = some (.int .i64 0) ∧ W.cell? ⟨g, 3, none⟩ = some (.int .i64 0) ∧ W.cell? ⟨g, 4, none⟩ = some (.int .u32 0) ∧ W.cell? ⟨g, 5, none⟩ = some (.int .i64 0) ∧ W.cell? ⟨g, 6, none⟩ = some (.int .i64 2) ∧ W.cell? ⟨g, 7, none⟩ = some (.int .i64 2) ∧ W.cell? ⟨g, 8, none⟩ = some (.int .i64 1) ∧ W.cell? ⟨g, 9, none⟩ = some (.int .i64 1) ∧ W.cell? ⟨g, 10, none⟩ = some (.int .u32 0) ∧ W.cell? ⟨g, 11, none⟩ = some (.int .i64 0) ∧ W.cell? ⟨g, 12, none⟩ = some (.int .i64 0) ∧ W.cell? ⟨g, 13, none⟩ = some (.int .i64 3) ∧ W.cell? ⟨g, 14, none⟩ = some (.int .i64 0) ∧ W.cell? ⟨g, 15, none⟩ = some (.int .i64 0) ∧ W.cell? ⟨g, 16, none⟩ = some (.int .u32 0) ∧ W.cell? ⟨g, 17, none⟩ = some (.int .i64 0)) (first | exact HS.out _ (Below.refl _ _) | exact HS.out _ (drewR (Below.refl _ _)) | exact HS.out _ ((Below.refl _ _).alloc (Nat.le_refl _) _) | exact HS.out _ (drewR ((Below.refl _ _).alloc (Nat.le_refl _) _)) | exact HS.out _ (by assumption)) (first | (go_at_call 11; refine (HC.out).mono ?_; rintro e w3 ⟨rfl, hb3⟩))
  have HI3 := Lib.hid (HI.out.below hb3)
  have hc3 := hc1.trans (hb3.mono hc1.size)
  clear y0 y1 y2 y3 y4 y5 y6 y7 y8 y9 y10 y11 y12 y13 y14 y15 y16 y17 hc1 HI HS HC hb3
  go_wp2_with fail
  have hA : (w3.alloc (.cells #[.int .i64 0, .int .i64 3, .int .i64 4] 3)).heap[w3.heap.size]? = some (.cells #[.int .i64 0, .int .i64 3, .int .i64 4] 3 (0, 0)) := heap_alloc_new w3 _
  have hb0 : Below w3.heap.size w3 (w3.alloc (.cells #[.int .i64 0, .int .i64 3, .int .i64 4] 3)) := (Below.refl _ _).alloc (Nat.le_refl _) _
  have hI4 := HI3.out.below hb0
  have hJ := ints_block (l := [0, 3, 4]) (n := 3) (c := 3) hA rfl rfl
  generalize World.alloc w3 _ = W3 at hJ hb0 hI4 ⊢
  clear hA HI3
  refine (sameInts_yes hI4 hJ (by decide)).mono ?_
  rintro e w4 ⟨rfl, hb4⟩
  have hd := hb0.trans (hb4.mono hb0.size)
  have hc4 := hc3.trans (hd.mono hc3.size)
  clear hI4 hJ hb0 hb4 hd hc3
  go_wp2
  go_ret
  exact ⟨rfl, hc4⟩
end Go.Proofs.Ytjlacdnkncgpaaa
