/-
  Merge of two places that go on.
-/
import Derived.Test.YtdpfglpefncigaaTrMc
import Derived.Deep.RegionWith
namespace Go.Proofs.Ytdpfglpefncigaa
open Go.RowKit

/-- What has been merged so far. -/
def MergedSt (p q : Plc) (base i : Nat) (v : Value) (w : World) : Prop :=
  (i = 0 ∧ v = .slice none 0 0) ∨ (i = 1 ∧ w.ownsRow base 33 5 v 1 (placesV [p])) ∨ (i = 2 ∧ w.ownsRow base 33 5 v 1 (placesV [joinP p q]))
set_option maxRecDepth 100000 in
set_option maxHeartbeats 4000000 in
theorem merge_two (p q : Plc) (b off c : Nat) (w : World) (hL : Lies w b off [p, q]) (hc : 2 ≤ c) (hm : c ≤ 9223372036854775807) (hv : valF [p, q] = 0) (hg : goesOn q p = true) :
    Calls Try.prog 34 #[.slice (some ⟨b, off, none⟩) 2 c] w fun e w' => ∃ v, e = .returned (.tuple #[v, .int .i64 0]) ∧ Below w.heap.size w w' ∧ w'.ownsRow w.heap.size 33 5 v 1 (placesV [joinP p q]) := by
  obtain ⟨i0, hi, hz0, hz1, hz2⟩ := info_parts infoPl
  have HL := Lib.hid hL
  have HV := Lib.hid (hv ▸ validate_any b off 2 c [p, q] w hL rfl hc hm)
  clear hL hv
  go_enter Try.func34, Try.ntmps34
  go_wp2_with fail
  refine (HV.out).mono ?_
  rintro e w1 ⟨rfl, hb1⟩
  go_wp2
  go_loopw [5, 16] (fun v zi wr => ∃ i : Nat, i ≤ 2 ∧ zi = .int .i64 (i : Int) ∧ MergedSt p q w.heap.size i v wr ∧ Below w.heap.size w wr) (fun _ zi _ => 2 - (intOf zi).toNat)
  case atStart => exact ⟨0, by omega, rfl, .inl ⟨rfl, rfl⟩, hb1⟩
  case round =>
    clear hb1
    obtain ⟨i, hi', rfl, hst, hb⟩ := hrel
    rcases hst with ⟨rfl, rfl⟩ | ⟨rfl, hown⟩ | ⟨rfl, hown⟩
    · have ht := (HL.out.below hb).at_ (j := 0) (by simp)
      obtain ⟨c0, c1, c2, c3, c4⟩ := ht
      simp only [List.getElem!_cons_zero, Nat.zero_mul, Nat.add_zero] at c0 c1 c2 c3 c4
      rw [show (((0 : Nat)) : Int) = 0 from rfl]
      go_wp2_with fail
      clear c0 c1 c2 c3 c4
      have hP : (wr.alloc (.cells #[.int .i64 p.a, .int .i64 p.z, .int .i64 p.v, .int .i64 p.k, .int .i64 p.n] 33)).heap[wr.heap.size]? = some (.cells #[.int .i64 p.a, .int .i64 p.z, .int .i64 p.v, .int .i64 p.k, .int .i64 p.n] 33 (0, 0)) := heap_alloc_new wr _
      have hb2 : Below w.heap.size w (wr.alloc (.cells #[.int .i64 p.a, .int .i64 p.z, .int .i64 p.v, .int .i64 p.k, .int .i64 p.n] 33)) := hb.alloc hb.size _
      generalize World.alloc wr _ = W2 at hP hb2 ⊢
      generalize wr.heap.size = P at hP ⊢
      refine (indexFunc_empty none 0 _ W2).mono ?_
      rintro e w3 ⟨rfl, rfl⟩
      obtain ⟨d0, d1, d2, d3, d4⟩ := cells5 hP
      have hown : w3.ownsRow w.heap.size 33 5 (.slice none 0 0) 0 [] := World.ownsRow_nil _ _ _ _
      go_wp2_with (at_builtin; refine wpList_append_own _ rfl _ _ 22 rfl w.heap.size 33 i0 (.agg #[.int .i64 0, .int .i64 0, .int .i64 0, .int .i64 0, .int .i64 0]) 5 40 Try.underlying22 hi hz0 hz1 hz2 rfl (by decide) _ 0 _ rfl (hown.alloc _) ⟨w3.heap.size, 0, none⟩ 1 1 [.int .i64 p.a, .int .i64 p.z, .int .i64 p.v, .int .i64 p.k, .int .i64 p.n] rfl rfl ?c1 ?c2 ?c3 ?c4 ?c5 ?_)
      case c1 => exact news5 (heap_alloc_new w3 _)
      case c2 => intro u hu; simp at hu; rcases hu with rfl | rfl | rfl | rfl | rfl <;> rfl
      case c3 => unfold maxLen; omega
      case c4 => omega
      case c5 => have := hb2.size; simp; omega
      intro v2 w4 hown4 hgrow _
      have hs : w.heap.size ≤ (w3.alloc (.cells #[.int .i64 p.a, .int .i64 p.z, .int .i64 p.v, .int .i64 p.k, .int .i64 p.n] 33)).heap.size := by have := hb2.size; simp; omega
      have hb4 := (hb2.alloc hb2.size _).grown hgrow hs (own_base (hown.alloc (.cells #[.int .i64 p.a, .int .i64 p.z, .int .i64 p.v, .int .i64 p.k, .int .i64 p.n] 33)))
      clear d0 d1 d2 d3 d4 hgrow hown hb hb2 hP hs
      go_wp2
      go_roundw
      case rel => exact ⟨1, by omega, by go_num, .inr (.inl ⟨rfl, hown4⟩), hb4⟩
      case measure => simp [intOf]
    · have ht := (HL.out.below hb).at_ (j := 1) (by simp)
      obtain ⟨c0, c1, c2, c3, c4⟩ := ht
      simp only [List.getElem!_cons_succ, List.getElem!_cons_zero, Nat.one_mul, Nat.add_assoc] at c0 c1 c2 c3 c4
      simp only [Nat.reduceAdd, ← Nat.add_assoc] at c0 c1 c2 c3 c4
      rw [show (((1 : Nat)) : Int) = 1 from rfl]
      obtain ⟨g, cap, rfl⟩ := own_shape hown
      have HO := Lib.hid hown
      clear hown
      go_wp2_with fail
      clear c0 c1 c2 c3 c4
      have hP : (wr.alloc (.cells #[.int .i64 q.a, .int .i64 q.z, .int .i64 q.v, .int .i64 q.k, .int .i64 q.n] 33)).heap[wr.heap.size]? = some (.cells #[.int .i64 q.a, .int .i64 q.z, .int .i64 q.v, .int .i64 q.k, .int .i64 q.n] 33 (0, 0)) := heap_alloc_new wr _
      have hb2 : Below w.heap.size w (wr.alloc (.cells #[.int .i64 q.a, .int .i64 q.z, .int .i64 q.v, .int .i64 q.k, .int .i64 q.n] 33)) := hb.alloc hb.size _
      have ho2 := HO.out.alloc (.cells #[.int .i64 q.a, .int .i64 q.z, .int .i64 q.v, .int .i64 q.k, .int .i64 q.n] 33)
      generalize World.alloc wr _ = W2 at hP hb2 ho2 ⊢
      generalize wr.heap.size = P at hP ⊢
      have hpp : PredOk 57 #[.pointer (some ⟨P, 0, none⟩)] (goesOn q) W2 := by
        obtain ⟨d0, d1, d2, d3, d4⟩ := cells5 hP
        exact pred_merge P q W2 (lt_of_block hP) ⟨d0, d1, d2, d3, d4⟩
      refine (indexFunc_any (goesOn q) 57 #[.pointer (some ⟨P, 0, none⟩)] (enters_of Try.func57 (by kernel_rfl) rfl) g 0 1 cap [p] W2 hpp (by simp) (by omega) (lies_own ho2)).mono ?_
      rintro e w3 ⟨rfl, hb3⟩
      have hi0 : idxF (goesOn q) [p] 0 1 = 0 := if_pos hg
      rw [hi0]
      have hP3 := (hb3.block P (lt_of_block hP)).trans hP
      have ho3 := own_below ho2 hb3
      have hb4 := hb2.trans (hb3.mono hb2.size)
      have HO3 := Lib.hid ho3
      have HP3 := Lib.hid hP3
      clear hpp hP hb2 ho2 hb3 hP3 ho3 hi0 hb HO
      go_wp2_with fail
      have hs : sameB ⟨p.a, p.z, p.v, p.k, p.n⟩ ⟨q.a, q.z, q.v, q.k, q.n⟩ = true := by
        have := hg
        unfold goesOn at this
        exact (Bool.and_eq_true _ _ ▸ this).1
      have HS := Lib.hid hs
      have HG := Lib.hid hg
      clear hs hg
      have g0 : w3.cell? ⟨g, 0, none⟩ = some (.int .i64 p.a) := HO3.out.cells rfl 0 _ rfl
      have g1 : w3.cell? ⟨g, 1, none⟩ = some (.int .i64 p.z) := HO3.out.cells rfl 1 _ rfl
      have g2 : w3.cell? ⟨g, 2, none⟩ = some (.int .i64 p.v) := HO3.out.cells rfl 2 _ rfl
      have g3 : w3.cell? ⟨g, 3, none⟩ = some (.int .i64 p.k) := HO3.out.cells rfl 3 _ rfl
      have g4 : w3.cell? ⟨g, 4, none⟩ = some (.int .i64 p.n) := HO3.out.cells rfl 4 _ rfl
      have gl : g < w3.heap.size := (HO3.out.lt g rfl).2
      have gf : ∀ j, w3.frozen? ⟨g, j, none⟩ = false := fun j => HO3.out.frozenAt j
      have GF := Lib.hid gf
      clear gf
      obtain ⟨d0, d1, d2, d3, d4⟩ := cells5 HP3.out
      go_region_with (go_at_call 58; refine (joined_at p.a p.z p.v p.k p.n q.a q.z q.v q.k q.n true _ HS.out).mono ?_; rintro e w5 ⟨rfl, hb5⟩; have y0 := (hb5.cell (p := ⟨g, 0, none⟩) gl).trans g0; have y1 := (hb5.cell (p := ⟨g, 1, none⟩) gl).trans g1; have y2 := (hb5.cell (p := ⟨g, 2, none⟩) gl).trans g2; have y3 := (hb5.cell (p := ⟨g, 3, none⟩) gl).trans g3; have y4 := (hb5.cell (p := ⟨g, 4, none⟩) gl).trans g4; have z0 := (hb5.frozen (p := ⟨g, 0, none⟩) gl).trans (GF.out 0); have z1 := (hb5.frozen (p := ⟨g, 1, none⟩) gl).trans (GF.out 1); have z2 := (hb5.frozen (p := ⟨g, 2, none⟩) gl).trans (GF.out 2); have z3 := (hb5.frozen (p := ⟨g, 3, none⟩) gl).trans (GF.out 3); have z4 := (hb5.frozen (p := ⟨g, 4, none⟩) gl).trans (GF.out 4))
      all_goals
        have k0 := own_below (w' := w5) HO3.out.drew hb5
        have k5 := (((((k0.stored 0 (.int .i64 p.a)).1.stored 1 (.int .i64 q.z)).1.stored 2 (.int .i64 p.v)).1.stored 3 (.int .i64 p.k)).1.stored 4 (.int .i64 p.n)).1
        have hgb : w.heap.size ≤ g := (HO3.out.lt g rfl).1
        have hb6 : Below w.heap.size w w5 := (drewR hb4).trans (hb5.mono hb4.size)
        have hb7 : Below w.heap.size w (((((w5.setCell ⟨g, 0, none⟩ (.int .i64 p.a)).setCell ⟨g, 1, none⟩ (.int .i64 q.z)).setCell ⟨g, 2, none⟩ (.int .i64 p.v)).setCell ⟨g, 3, none⟩ (.int .i64 p.k)).setCell ⟨g, 4, none⟩ (.int .i64 p.n)) := ((((hb6.setCell hgb _).setCell hgb _).setCell hgb _).setCell hgb _).setCell hgb _
        generalize World.setCell _ ⟨g, 4, none⟩ _ = W9 at k5 hb7 ⊢
        clear y0 y1 y2 y3 y4 z0 z1 z2 z3 z4 g0 g1 g2 g3 g4 d0 d1 d2 d3 d4 hb5 hb6 k0 hb4
        go_wp2
        go_roundw
      all_goals first
        | (case rel => exact ⟨2, by omega, by go_num, .inr (.inr ⟨rfl, k5⟩), hb7⟩)
        | (case measure => simp [intOf])
        | skip
      all_goals trace_state
    · rw [show (((2 : Nat)) : Int) = 2 from rfl]
      obtain ⟨g, cap, rfl⟩ := own_shape hown
      have HO := Lib.hid hown
      clear hown
      go_wp2_with fail
      refine (sort_one _ _ _ _).mono ?_
      rintro e w3 ⟨rfl, hb3⟩
      have HO3 := own_below HO.out hb3
      have hb4 := hb.trans (hb3.mono hb.size)
      clear hb3
      go_wp2
      refine bodyPost_ret (results_tmp2 rfl _ _ _) rfl ?_
      exact ⟨_, rfl, hb4, HO3⟩
end Go.Proofs.Ytdpfglpefncigaa
