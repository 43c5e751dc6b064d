/-
  Merge of package trace, at every table.
-/
import Derived.Test.YtdpfglpefncigaaTrMe
import Derived.Test.YtdpfglpefncigaaTrCe
import Derived.Deep.RegionWith
namespace Go.Proofs.Ytdpfglpefncigaa
open Go.RowKit

/-- What Merge answers. -/
def mrgT (zs : List Plc) : List Plc := if valF zs = 0 then srt (mrgL zs) else []
theorem idx_own {w : World} {base : Nat} {v : Value} {M : List Plc} (h : w.ownsRow base 33 5 v M.length (placesV M)) (hl : M.length ≤ 1000) (p : Plc → Bool) (g : Nat) (lb : Array Value) (eg : ∀ args w, (callFunc g args).run Try.prog w = .ok (.enter g args) w) (hp : PredOk g lb p w) :
    Calls Try.prog 56 #[v, .func (.func g) #[] lb] w fun e w' => e = .returned (.int .i64 (idxF p M 0 M.length)) ∧ Below w.heap.size w w' := by
  rcases h.2 with ⟨rfl, h0⟩ | ⟨b, cap, cur, rfl, _⟩
  · refine (indexFunc_empty none 0 _ w).mono ?_
    rintro e w' ⟨rfl, rfl⟩
    rw [h0]
    exact ⟨rfl, Below.refl _ _⟩
  · exact indexFunc_any p g lb eg b 0 M.length cap M w hp (Nat.le_refl _) hl (lies_own h)
section
variable {w : World} {A : Option Addr} {n c : Nat} {zs : List Plc}
set_option maxRecDepth 100000 in
set_option maxHeartbeats 8000000 in
theorem merge_tab (h : Tab w A n c zs) : Calls Try.prog 34 #[.slice A n c] w fun e w' => ∃ V, e = .returned (.tuple #[V, .int .i64 (valF zs)]) ∧ w'.ownsRow w.heap.size 33 5 V (mrgT zs).length (placesV (mrgT zs)) ∧ Below w.heap.size w w' := by
  obtain ⟨i0, hi, hz0, hz1, hz2⟩ := info_parts infoPl
  have HC := Lib.hid (fun w1 (hb : Below w.heap.size w w1) => validate_tab (h.below hb))
  have HT := Lib.hid h
  by_cases hv : valF zs = 0
  · have hn : n = zs.length := h.shape
    have h64 := (valF_ok hv).1
    rw [hv] at HC
    rw [hv, show mrgT zs = srt (mrgL zs) from if_pos hv]
    have HNN := Lib.hid hn
    have n64 : n ≤ 64 := by omega
    clear hv hn h64 h
    go_enter Try.func34, Try.ntmps34
    go_wp2_with fail
    refine (HC.out _ (Below.refl _ _)).mono ?_
    rintro e w1 ⟨rfl, hb1⟩
    clear HC
    go_wp2
    go_loopw [5, 16] (fun vl zi wr => ∃ i : Nat, i ≤ n ∧ zi = .int .i64 (i : Int) ∧ wr.ownsRow w.heap.size 33 5 vl (mrgU zs i).length (placesV (mrgU zs i)) ∧ Below w.heap.size w wr) (fun _ zi _ => n - (intOf zi).toNat)
    case atStart => exact ⟨0, by omega, rfl, World.ownsRow_nil _ _ _ _, hb1⟩
    case round =>
      clear hb1
      obtain ⟨i, hi', rfl, hown, hb⟩ := hrel
      have hlen := mrg_len (zs := zs) i
      by_cases hlt : i < n
      · have hilt : i < zs.length := by have := HNN.out; omega
        rcases HT.out.parts with ⟨h0, -⟩ | ⟨-, hnc, hcm, bb, oo, rfl, hL⟩
        · omega
        have ht := (hL.below hb).at_ hilt
        have HU := Lib.hid (show mrgU zs (i + 1) = mstep (mrgU zs i) zs[i]! from rfl)
        generalize zs[i]! = p at ht HU
        generalize mrgU zs i = M at HU hown hlen
        obtain ⟨P, Z, V, K, N⟩ := p
        clear hL
        obtain ⟨c0, c1, c2, c3, c4⟩ := ht
        simp only at c0 c1 c2 c3 c4
        go_wp2_with fail
        clear c0 c1 c2 c3 c4
        have hP : (wr.alloc (.cells #[.int .i64 P, .int .i64 Z, .int .i64 V, .int .i64 K, .int .i64 N] 33)).heap[wr.heap.size]? = some (.cells #[.int .i64 P, .int .i64 Z, .int .i64 V, .int .i64 K, .int .i64 N] 33 (0, 0)) := heap_alloc_new wr _
        have hb2 : Below w.heap.size w (wr.alloc (.cells #[.int .i64 P, .int .i64 Z, .int .i64 V, .int .i64 K, .int .i64 N] 33)) := hb.alloc hb.size _
        have ho2 := hown.alloc (.cells #[.int .i64 P, .int .i64 Z, .int .i64 V, .int .i64 K, .int .i64 N] 33)
        have hneB : u5.ownBlock ≠ some wr.heap.size := fun h => by have := hown.lt _ h; omega
        generalize World.alloc wr _ = W2 at hP hb2 ho2 ⊢
        generalize wr.heap.size = B at hP hneB ⊢
        clear hown hb
        have hpp : PredOk 57 #[.pointer (some ⟨B, 0, none⟩)] (goesOn ⟨P, Z, V, K, N⟩) W2 := by
          obtain ⟨d0, d1, d2, d3, d4⟩ := cells5 hP
          exact pred_merge B ⟨P, Z, V, K, N⟩ W2 (lt_of_block hP) ⟨d0, d1, d2, d3, d4⟩
        have HI := Lib.hid (idx_own ho2 (by omega) (goesOn ⟨P, Z, V, K, N⟩) 57 #[.pointer (some ⟨B, 0, none⟩)] (enters_of Try.func57 (by kernel_rfl) rfl) hpp)
        clear hpp
        rcases mstep_cases M ⟨P, Z, V, K, N⟩ with ⟨k, hk, hg, hix, hst, -⟩ | ⟨hix, hst, -⟩
        · rw [hix] at HI
          rw [hst] at HU
          refine HI.out.mono ?_
          rintro e w3 ⟨rfl, hb3⟩
          have hP3 := (hb3.block B (lt_of_block hP)).trans hP
          have ho3 := own_below ho2 hb3
          have hb4 := hb2.trans (hb3.mono hb2.size)
          obtain ⟨g, cap, rfl⟩ : ∃ g cap, u5 = .slice (some ⟨g, 0, none⟩) M.length cap := by
            rcases ho3.2 with ⟨_, h0⟩ | ⟨g, cap, cur, h0, _⟩
            · omega
            · exact ⟨g, cap, h0⟩
          have HO3 := Lib.hid ho3
          have HP3 := Lib.hid hP3
          clear hP hb2 ho2 hb3 hP3 ho3 hix hst HI
          go_wp2_with fail
          obtain ⟨am, ⟨f0, f1, f2, f3, f4⟩, hgb, gl⟩ := own_at5 HO3.out hk
          obtain ⟨m, hm⟩ : ∃ m, m = M[k]! := ⟨_, rfl⟩
          rw [← hm] at am HU hg
          have HM := Lib.hid hm
          have hs : sameB m ⟨P, Z, V, K, N⟩ = true := by
            have := hg
            unfold goesOn at this
            exact (Bool.and_eq_true _ _ ▸ this).1
          have HS := Lib.hid hs
          clear hs hg hm
          obtain ⟨ma, mz, mv, mk, mn⟩ := m
          obtain ⟨g0, g1, g2, g3, g4⟩ := am
          simp only at g0 g1 g2 g3 g4
          obtain ⟨d0, d1, d2, d3, d4⟩ := cells5 HP3.out
          go_region_with (go_at_call 58; refine (joined_at ma mz mv mk mn P Z V K N true _ HS.out).mono ?_; rintro e w5 ⟨rfl, hb5⟩; have z0 := (hb5.frozen (p := ⟨g, k * 5, none⟩) gl).trans f0; have z1 := (hb5.frozen (p := ⟨g, k * 5 + 1, none⟩) gl).trans f1; have z2 := (hb5.frozen (p := ⟨g, k * 5 + 2, none⟩) gl).trans f2; have z3 := (hb5.frozen (p := ⟨g, k * 5 + 3, none⟩) gl).trans f3; have z4 := (hb5.frozen (p := ⟨g, k * 5 + 4, none⟩) gl).trans f4; have y0 := (hb5.cell (p := ⟨g, k * 5, none⟩) gl).trans g0; have y1 := (hb5.cell (p := ⟨g, k * 5 + 1, none⟩) gl).trans g1; have y2 := (hb5.cell (p := ⟨g, k * 5 + 2, none⟩) gl).trans g2; have y3 := (hb5.cell (p := ⟨g, k * 5 + 3, none⟩) gl).trans g3; have y4 := (hb5.cell (p := ⟨g, k * 5 + 4, none⟩) gl).trans g4)
          all_goals
            have k0 := own_put5 (own_below (w' := w5) HO3.out.drew hb5) hk ⟨ma, Z, mv, mk, mn⟩
            have hb6 : Below w.heap.size w w5 := (drewR hb4).trans (hb5.mono hb4.size)
            have hb7 := putAt_below hb6 hgb (k * 5) ⟨ma, Z, mv, mk, mn⟩
            have HO2 := Lib.hid (show (putAt w5 g (k * 5) ⟨ma, Z, mv, mk, mn⟩).ownsRow w.heap.size 33 5 (.slice (some ⟨g, 0, none⟩) M.length cap) (mrgU zs (i + 1)).length (placesV (mrgU zs (i + 1))) by
              rw [HU.out, List.length_set]
              exact k0)
            have HB7 := Lib.hid hb7
            unfold putAt at HO2 HB7
            clear k0 hb7 hb6
            generalize World.setCell _ ⟨g, k * 5 + 4, none⟩ _ = W9 at HO2 HB7 ⊢
            clear y0 y1 y2 y3 y4 z0 z1 z2 z3 z4 g0 g1 g2 g3 g4 d0 d1 d2 d3 d4 f0 f1 f2 f3 f4 hb5 hb4
            go_wp2
            go_roundw
          all_goals first
            | (case rel => exact ⟨i + 1, by omega, by go_num, HO2.out, HB7.out⟩)
            | (case measure => simp [intOf]; omega)
            | skip
          all_goals trace_state
        · rw [hix] at HI
          rw [hst] at HU
          refine HI.out.mono ?_
          rintro e w3 ⟨rfl, hb3⟩
          have hP3 := (hb3.block B (lt_of_block hP)).trans hP
          have ho3 := own_below ho2 hb3
          have hb4 := hb2.trans (hb3.mono hb2.size)
          obtain ⟨d0, d1, d2, d3, d4⟩ := cells5 hP3
          clear hP hb2 ho2 hb3 hix hst HI
          go_wp2_with (at_builtin; refine wpList_append_own _ rfl _ _ 22 rfl w.heap.size 33 i0 (.agg #[.int .i64 0, .int .i64 0, .int .i64 0, .int .i64 0, .int .i64 0]) 5 40 Try.underlying22 hi hz0 hz1 hz2 rfl (by decide) _ _ _ rfl (ho3.alloc _) ⟨w3.heap.size, 0, none⟩ 1 1 [.int .i64 P, .int .i64 Z, .int .i64 V, .int .i64 K, .int .i64 N] rfl rfl ?c1 ?c2 ?c3 ?c4 ?c5 ?_)
          case c1 => exact news5 (heap_alloc_new w3 _)
          case c2 => intro u hu; simp at hu; rcases hu with rfl | rfl | rfl | rfl | rfl <;> rfl
          case c3 => unfold maxLen; omega
          case c4 => omega
          case c5 => have := hb4.size; simp; omega
          intro v2 w7 hown7 hgrow _
          have hb5 : Below w.heap.size w w7 := (hb4.alloc hb4.size _).grown hgrow (by have := hb4.size; simp; omega) (own_base (ho3.alloc (.cells #[.int .i64 P, .int .i64 Z, .int .i64 V, .int .i64 K, .int .i64 N] 33)))
          have HO2 := Lib.hid (show w7.ownsRow w.heap.size 33 5 v2 (mrgU zs (i + 1)).length (placesV (mrgU zs (i + 1))) by
            rw [HU.out, placesV_append, List.length_append]
            exact hown7)
          clear ho3 hown7 hgrow hb4 HU d0 d1 d2 d3 d4 hP3
          go_wp2
          go_roundw
          case rel => exact ⟨i + 1, by omega, by go_num, HO2.out, hb5⟩
          case measure => simp [intOf]; omega
      · obtain rfl : i = n := by omega
        have hown' : wr.ownsRow w.heap.size 33 5 u5 (mrgL zs).length (placesV (mrgL zs)) := by
          unfold mrgL
          rw [← HNN.out]
          exact hown
        have HSO := Lib.hid (sort_own hown' (by have h2 := mrg_len (zs := zs) zs.length; unfold mrgL; have := HNN.out; omega))
        clear hown hown'
        go_wp2_with fail
        refine HSO.out.mono ?_
        rintro e w2 ⟨rfl, ho, hk⟩
        have hb2 := hk w _ hb (Nat.le_refl _) (Nat.le_refl _)
        have HO := Lib.hid (show w2.ownsRow w.heap.size 33 5 u5 (srt (mrgL zs)).length (placesV (srt (mrgL zs))) by rw [(srt_perm _).length_eq]; exact ho)
        clear ho hk hb
        go_wp2
        refine bodyPost_ret (results_tmp2 rfl _ _ _) rfl ?_
        exact ⟨_, rfl, HO.out, hb2⟩
  · rw [show mrgT zs = [] from if_neg hv]
    generalize valF zs = X at HC hv
    have dX : (X != 0) = true := by simp [hv]
    clear h HT hv
    go_enter Try.func34, Try.ntmps34
    go_wp2_with fail
    refine (HC.out _ (Below.refl _ _)).mono ?_
    rintro e w1 ⟨rfl, hb1⟩
    go_wp2
    refine bodyPost_ret (results_tmp2 rfl _ _ _) rfl ?_
    exact ⟨_, rfl, World.ownsRow_nil _ _ _ _, hb1⟩
end
end Go.Proofs.Ytdpfglpefncigaa
