/-
  slices.SortFunc at a table's own row.
-/
import Derived.Test.YtdpfglpefncigaaTrCb
import Derived.Shelf.SlSortCmp.NoneTotal
namespace Go.Proofs.Ytdpfglpefncigaa
open Go.RowKit Go.Shelf Go.Lib Go.Sort

def sortPl_ren : Go.Shelf.Ren := ⟨fun | 6 => 53 | 15 => 64 | 14 => 63 | 28 => 74 | 29 => 75 | 20 => 66 | 21 => 67 | 22 => 68 | 23 => 69 | 24 => 70 | 25 => 71 | 26 => 72 | 27 => 73 | 46 => 76 | 47 => 77 | 48 => 78 | 49 => 79 | 50 => 80 | 57 => 81 | n => n, fun | 22 => 22 | 24 => 33 | 25 => 69 | 3 => 3 | 39 => 51 | 0 => 0 | 53 => 37 | 55 => 100 | 4 => 4 | 46 => 92 | 45 => 91 | 50 => 96 | 5 => 5 | 9 => 9 | 66 => 101 | 70 => 105 | 76 => 107 | 77 => 108 | n => n, fun | n => n⟩
theorem sortPl : Go.Proofs.SlLaysF0.n6 Try.prog sortPl_ren := {
  mixed := by kernel_rfl
  f6 := ⟨Try.f53.name, by decide, Try.func53.trans (congrArg some (by kernel_rfl))⟩
  f14 := ⟨Try.f63.name, by decide, Try.func63.trans (congrArg some (by kernel_rfl))⟩
  f15 := Try.func64.trans (congrArg some (by kernel_rfl))
  f20 := ⟨Try.f66.name, by decide, Try.func66.trans (congrArg some (by kernel_rfl))⟩
  f21 := ⟨Try.f67.name, by decide, Try.func67.trans (congrArg some (by kernel_rfl))⟩
  f22 := ⟨Try.f68.name, by decide, Try.func68.trans (congrArg some (by kernel_rfl))⟩
  f23 := ⟨Try.f69.name, by decide, Try.func69.trans (congrArg some (by kernel_rfl))⟩
  f24 := ⟨Try.f70.name, by decide, Try.func70.trans (congrArg some (by kernel_rfl))⟩
  f25 := ⟨Try.f71.name, by decide, Try.func71.trans (congrArg some (by kernel_rfl))⟩
  f26 := ⟨Try.f72.name, by decide, Try.func72.trans (congrArg some (by kernel_rfl))⟩
  f27 := ⟨Try.f73.name, by decide, Try.func73.trans (congrArg some (by kernel_rfl))⟩
  f28 := Try.func74.trans (congrArg some (by kernel_rfl))
  f29 := Try.func75.trans (congrArg some (by kernel_rfl))
  f46 := ⟨Try.f76.name, by decide, Try.func76.trans (congrArg some (by kernel_rfl))⟩
  f47 := Try.func77.trans (congrArg some (by kernel_rfl))
  f48 := Try.func78.trans (congrArg some (by kernel_rfl))
  f49 := ⟨Try.f79.name, by decide, Try.func79.trans (congrArg some (by kernel_rfl))⟩
  f50 := ⟨Try.f80.name, by decide, Try.func80.trans (congrArg some (by kernel_rfl))⟩
  f57 := ⟨Try.f81.name, by decide, Try.func81.trans (congrArg some (by kernel_rfl))⟩
  t0 := Try.underlying0
  a0 := Try.isAgg0
  z0 := Try.sizeOf0
  v0 := Try.zeroValue0
  t3 := Try.underlying3
  a3 := Try.isAgg3
  z3 := Try.sizeOf3
  v3 := Try.zeroValue3
  t4 := Try.underlying4
  a4 := Try.isAgg4
  z4 := Try.sizeOf4
  v4 := Try.zeroValue4
  t5 := Try.underlying5
  a5 := Try.isAgg5
  z5 := Try.sizeOf5
  v5 := Try.zeroValue5
  t9 := Try.underlying9
  a9 := Try.isAgg9
  z9 := Try.sizeOf9
  v9 := Try.zeroValue9
  t22 := Try.underlying22
  a22 := Try.isAgg22
  z22 := Try.sizeOf22
  v22 := Try.zeroValue22
  t25 := Try.underlying69
  a25 := Try.isAgg69
  z25 := Try.sizeOf69
  v25 := Try.zeroValue69
  t39 := Try.underlying51
  a39 := Try.isAgg51
  z39 := Try.sizeOf51
  v39 := Try.zeroValue51
  t45 := Try.underlying91
  a45 := Try.isAgg91
  z45 := Try.sizeOf91
  v45 := Try.zeroValue91
  t46 := Try.underlying92
  a46 := Try.isAgg92
  z46 := Try.sizeOf92
  v46 := Try.zeroValue92
  t50 := Try.underlying96
  a50 := Try.isAgg96
  z50 := Try.sizeOf96
  v50 := Try.zeroValue96
  t53 := Try.underlying37
  a53 := Try.isAgg37
  z53 := Try.sizeOf37
  v53 := Try.zeroValue37
  t55 := Try.underlying100
  a55 := Try.isAgg100
  z55 := Try.sizeOf100
  v55 := Try.zeroValue100
  t66 := Try.underlying101
  a66 := Try.isAgg101
  z66 := Try.sizeOf101
  v66 := Try.zeroValue101
  t70 := Try.underlying105
  a70 := Try.isAgg105
  z70 := Try.sizeOf105
  v70 := Try.zeroValue105
  t76 := Try.underlying107
  a76 := Try.isAgg107
  z76 := Try.sizeOf107
  v76 := Try.zeroValue107
  t77 := Try.underlying108
  a77 := Try.isAgg108
  z77 := Try.sizeOf108
  v77 := Try.zeroValue108 }
set_option maxRecDepth 100000 in
set_option maxHeartbeats 1000000 in
theorem compare_grow (p q : Plc) (w : World) : Calls Try.prog 44 #[aggP p, aggP q] w fun e w' => e = .returned (.int .i64 (cmpP p q)) ∧ ∃ q os', w' = grow (w.drewN q) os' := by
  obtain ⟨a, z, v, k, n⟩ := p
  obtain ⟨b, y, u, l, m⟩ := q
  go_enter Try.func44, Try.ntmps44
  go_wp2
  generalize hW : World.alloc (World.alloc w _) _ = W2
  have c0 : W2.cell? ⟨w.heap.size, 0, none⟩ = some (.int .i64 a) := by rw [← hW]; simp [go_sem]
  have c1 : W2.cell? ⟨w.heap.size, 1, none⟩ = some (.int .i64 z) := by rw [← hW]; simp [go_sem]
  have c2 : W2.cell? ⟨w.heap.size, 2, none⟩ = some (.int .i64 v) := by rw [← hW]; simp [go_sem]
  have c3 : W2.cell? ⟨w.heap.size, 3, none⟩ = some (.int .i64 k) := by rw [← hW]; simp [go_sem]
  have c4 : W2.cell? ⟨w.heap.size, 4, none⟩ = some (.int .i64 n) := by rw [← hW]; simp [go_sem]
  have d0 : W2.cell? ⟨w.heap.size + 1, 0, none⟩ = some (.int .i64 b) := by rw [← hW]; simp [go_sem]
  have d1 : W2.cell? ⟨w.heap.size + 1, 1, none⟩ = some (.int .i64 y) := by rw [← hW]; simp [go_sem]
  have d2 : W2.cell? ⟨w.heap.size + 1, 2, none⟩ = some (.int .i64 u) := by rw [← hW]; simp [go_sem]
  have d3 : W2.cell? ⟨w.heap.size + 1, 3, none⟩ = some (.int .i64 l) := by rw [← hW]; simp [go_sem]
  have d4 : W2.cell? ⟨w.heap.size + 1, 4, none⟩ = some (.int .i64 m) := by rw [← hW]; simp [go_sem]
  have hb : ∃ os', W2 = grow w os' := ⟨_, by rw [← hW, alloc_eq_grow, alloc_eq_grow, grow_grow]⟩
  clear hW
  refine wp_region_still_tail 25 (by kernel_rfl) (by kernel_rfl) ?_
  simp only [List.take_succ_cons, List.take_zero, List.drop_succ_cons, List.drop_zero]
  iterate 4 still_step
  still_call (cmp_any a b _)
  iterate 4 still_step
  still_call (cmp_any z y _)
  iterate 4 still_step
  still_call (cmp_any v u _)
  iterate 4 still_step
  still_call (cmp_any k l _)
  iterate 4 still_step
  still_call (cmp_any n m _)
  refine wpStill_nil ?_
  have hb3 : ∃ os', W2.drew = grow (w.drewN 1) os' := by
    obtain ⟨os', rfl⟩ := hb
    exact ⟨os', rfl⟩
  change wpList _ _ _ _ _ W2.drew
  generalize W2.drew = W3 at hb3
  clear c0 c1 c2 c3 c4 d0 d1 d2 d3 d4 hb
  go_wp2_with fail
  refine (or_any _ 5 (fun i => if i = 0 then cmpI a b else if i = 1 then cmpI z y else if i = 2 then cmpI v u else if i = 3 then cmpI k l else cmpI n m) _ (by omega) (five_cells W3 _ _ _ _ _ _ _ rfl rfl rfl rfl rfl)).mono ?_
  rintro e w' ⟨rfl, rfl⟩
  go_wp2
  go_ret
  obtain ⟨os', rfl⟩ := hb3
  exact ⟨rfl, 1, _, by rw [alloc_eq_grow, grow_grow]⟩
theorem lt_bef (p q : Plc) : ltOf cmpP p q = befB p q := by
  unfold ltOf
  have h := cmpP_bef p q
  by_cases h0 : cmpP p q < 0
  · rw [decide_eq_true h0]
    rw [decide_eq_false (show ¬ 0 ≤ cmpP p q by omega)] at h
    cases hb : befB p q
    · rw [hb] at h
      cases h
    · rfl
  · rw [decide_eq_false h0]
    rw [decide_eq_true (show 0 ≤ cmpP p q by omega)] at h
    cases hb : befB p q
    · rfl
    · rw [hb] at h
      cases h
theorem lt_fun : (ltOf cmpP : Plc → Plc → Bool) = befB := funext fun p => funext fun q => lt_bef p q
theorem swoPl : SWO (ltOf cmpP : Plc → Plc → Bool) := by
  rw [lt_fun]
  exact ⟨bef_irr, fun x y z h1 h2 => bef_trans h1 h2, fun x y z h1 h2 => bef_nt h2 h1⟩
theorem agg_enc (p : Plc) : Value.agg (encP p).toArray = aggP p := rfl
theorem cmpLays_pl (blk off size : Nat) (w : World) : CmpLays Try.prog 44 #[] encP 5 cmpP blk off size w :=
  fun _ _ _ _ x y => compare_grow x y _
theorem flat_places (l : List Plc) : flatK encP 5 l.toArray = (placesV l).toArray := by
  apply Array.ext
  · simp [placesV_length]
  · intro t h1 h2
    have h3 : t < l.length * 5 := by simpa using h1
    have g := get_flatK encP 5 l.toArray t (by simpa using h1)
    rw [show (flatK encP 5 l.toArray)[t]! = (flatK encP 5 l.toArray)[t] by simp only [getElem!_pos, h1]] at g
    rw [g]
    have hl : (encP l.toArray[t / 5]!).length = 5 := rfl
    have hp := placesV_at l (t / 5) (t % 5) (encP l[t / 5]!)[t % 5]! (by omega) (by
      have hl2 : (encP l[t / 5]!).length = 5 := rfl
      rw [List.getElem?_eq_getElem (by omega)]
      simp only [getElem!_pos, show t % 5 < (encP l[t / 5]!).length by omega])
    rw [show t / 5 * 5 + t % 5 = t by omega] at hp
    have h4 : t < (placesV l).length := by rw [placesV_length]; exact h3
    rw [List.getElem?_eq_getElem h4] at hp
    injection hp with hp
    simp only [List.getElem_toArray]
    rw [hp]
    simp
theorem below_map {B g : Nat} {a w : World} (h : Go.RowKit.Below B a w) (hg : B ≤ g) (f : Array Value → Array Value) (n : Nat) (os : Array Obj) (hB : B ≤ w.heap.size) : Go.RowKit.Below B a (grow (mapBlock (Sort.ahead w n) g f) os) := by
  refine ⟨h.os, h.tape, h.output, ?_, fun j hj => ?_⟩
  · have := h.size
    simp [mapBlock]
    omega
  · rw [heap_grow_old _ _ (by simp [mapBlock]; omega), ← h.block j hj]
    show ((Sort.ahead w n).heap.modify g (onCells f))[j]? = _
    rw [Array.getElem?_modify, if_neg (by omega)]
    rfl
theorem sort_own {w : World} {base : Nat} {v : Value} {ps : List Plc} (h : w.ownsRow base 33 5 v ps.length (placesV ps)) (hl : ps.length ≤ 1000) :
    Calls Try.prog 53 #[v, .func (.func 44) #[] #[]] w fun e w' => e = .returned (.tuple #[]) ∧ w'.ownsRow base 33 5 v ps.length (placesV (srt ps)) ∧ ∀ a B, Go.RowKit.Below B a w → B ≤ base → B ≤ a.heap.size → Go.RowKit.Below B a w' := by
  have h0 := h
  rcases h.2 with ⟨rfl, hn⟩ | ⟨g, cap, cur, rfl, hg, hh, hc, hm, hs, ht⟩
  · have hz : ps = [] := List.eq_nil_of_length_eq_zero hn
    subst hz
    refine (AnyF.slices_SortFunc_none { sortPl with } none 0 _ w).mono ?_
    rintro e w' ⟨rfl, rfl⟩
    exact ⟨rfl, by simpa [srt] using h, fun a B hb _ _ => hb⟩
  · have hcell : ∀ t, t < (placesV ps).length → w.cell? ⟨g, t, none⟩ = some (placesV ps)[t]! ∧ w.frozen? ⟨g, t, none⟩ = false := fun t ht => by
      have := own_set h0 (i := t) (x := (placesV ps)[t]!) (by rw [List.getElem?_eq_getElem ht]; simp [ht]) (.int .i64 0)
      exact ⟨this.1, this.2.1⟩
    have hH : HoldsK encP 5 w g 0 ps.toArray := by
      unfold HoldsK
      rw [flat_places]
      intro t ht
      have := hcell t (by simpa using ht)
      rw [Nat.zero_add]
      simpa using this
    have hgs := lt_of_block hh
    have hcon := AnyQ.slices_SortFunc_total sortPl 5 Try.isAgg33 Try.sizeOf33 encP (fun _ => rfl) (fun x v hv => by simp [encP] at hv; rcases hv with rfl | rfl | rfl | rfl | rfl <;> rfl) cmpP swoPl 44 #[] g 0 cap ps.toArray w (enters_of Try.func44 (by kernel_rfl) rfl) (cmpLays_pl g 0 _ w) hH hgs (by simp; omega) (fun x y h1 h2 => by rw [lt_fun] at h1 h2; exact bef_tot x y h1 h2)
    refine Calls.mono hcon ?_
    rintro e w' ⟨rfl, n, os, rfl⟩
    have e1 : (ps.toArray.toList.mergeSort fun x y => !(ltOf cmpP) y x) = srt ps := by rw [lt_fun]; rfl
    rw [e1]
    unfold sortWorldK putRowK putRow
    rw [flat_places]
    have hlen : (placesV (srt ps)).length = (placesV ps).length := by rw [placesV_length, placesV_length, (srt_perm ps).length_eq]
    refine ⟨rfl, ⟨by rw [hlen]; exact h0.1, .inr ⟨g, cap, putCells id 0 (placesV (srt ps)).toArray cur, rfl, hg, ?_, hc, hm, by simpa [putCells] using hs, ?_⟩⟩, fun a B hb hB hBa => below_map hb (Nat.le_trans hB hg) _ _ _ (Nat.le_trans hBa hb.size)⟩
    · rw [heap_grow_old _ _ (by simp [mapBlock]; omega)]
      simp [mapBlock, Array.getElem?_modify, hh, onCells]
    · apply List.ext_getElem?
      intro t
      have hlt := h0.1
      by_cases hlt2 : t < ps.length * 5
      · rw [List.getElem?_take, if_pos hlt2]
        have hcs : t < cur.size := by
          have : ps.length * 5 ≤ cap * 5 := Nat.mul_le_mul_right _ hc
          omega
        have h5 : t < (placesV (srt ps)).length := by rw [hlen]; omega
        simp [putCells, hcs, h5]
      · rw [List.getElem?_eq_none (by simp; omega), List.getElem?_eq_none (by rw [hlen]; omega)]
end Go.Proofs.Ytdpfglpefncigaa
