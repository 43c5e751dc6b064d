/-
  reach of the reference.
-/
import Derived.Test.YtchkckflpmepkaaFwH
namespace Go.Proofs.Ytchkckflpmepkaa
open Go.RowKit

section
variable {w : World} {A : Option Addr} {n c : Nat} {G : List (List Nat)}
set_option maxRecDepth 100000 in
set_option maxHeartbeats 8000000 in
theorem reach_any (hG : okG G) (h : MG w A n c G) (a : Nat) (ha : a < n) (x : Int) : Calls Try.prog 44 #[.slice A n c, .int .i64 (a : Int), .int .i64 x] w fun e w' => ∃ g, e = .returned (.slice (some ⟨g, 0, none⟩) n n) ∧ BoolB w' g n (wy G x a) ∧ w.heap.size ≤ g ∧ Below w.heap.size w w' := by
  obtain ⟨i0, hi, hz0, hz1, hz2⟩ := info_parts infoB
  obtain ⟨i1, ki, kz0, kz1, kz2⟩ := info_parts infoI
  have hcap := h.2.1
  have hmax := h.2.2.1
  have hn10 : n ≤ 10 := by rw [h.1]; exact hG.2.1
  have haG : a < G.length := by rw [← h.1]; exact ha
  have H := Lib.hid h
  have HN := Lib.hid h.1
  have HGK := Lib.hid hG
  clear h
  by_cases hax : (a : Int) = x
  · have HW := Lib.hid (show wy G x a = non by rw [← hax, wy_self])
    have d1 : ((a : Int) == x) = true := by rw [hax]; exact beq_self_eq_true x
    clear hax hG haG
    go_enter Try.func44, Try.ntmps44
    go_wp2_with (refine wpList_make_row _ rfl _ _ 56 rfl 4 i0 (.bool false) Try.underlying56 hi hz0 hz1 rfl .i64 .i64 n rfl rfl (by rw [hz2]; omega) (by omega) ?_)
    have hb0 : Below w.heap.size w (w.alloc (.cells (madeCells #[.bool false] n) 4)) := (Below.refl _ _).alloc (Nat.le_refl _) _
    have hB := BoolB.made w n
    go_ret
    exact ⟨w.heap.size, rfl, by rw [HW.out]; exact hB, Nat.le_refl _, hb0⟩
  · have d1 : ((a : Int) == x) = false := beq_false_of_ne hax
    have HB := Lib.hid (Bfs.begin hG haG hax)
    have HF := Lib.hid (fun T s (hh : Bfs G x a T T.length 0 s) => Bfs.fin hG haG hh)
    clear hax
    generalize wy G x a = Z at HF ⊢
    go_enter Try.func44, Try.ntmps44
    go_upto_region 2 with (refine wpList_make_row _ rfl _ _ 56 rfl 4 i0 (.bool false) Try.underlying56 hi hz0 hz1 rfl .i64 .i64 n rfl rfl (by rw [hz2]; omega) (by omega) ?_)
    have hb0 : Below w.heap.size w (w.alloc (.cells (madeCells #[.bool false] n) 4)) := (Below.refl _ _).alloc (Nat.le_refl _) _
    have hB := BoolB.made w n
    generalize World.alloc w _ = W0 at hb0 hB ⊢
    obtain ⟨hcell, hfree⟩ := hB.cell ha
    rw [show non a = false from rfl] at hcell
    have hB2 := hB.put a
    have hb2 := hb0.setCell (p := ⟨w.heap.size, a, none⟩) (Nat.le_refl _) (.bool true)
    go_upto_region 5 with fail
    generalize World.setCell W0 _ _ = W1 at hB2 hb2 ⊢
    clear hB hb0 hcell hfree
    go_upto_region 7 with fail
    have hb3 := hb2.alloc hb2.size (.cells #[.int .i64 (a : Int)] 3)
    have hB3 := hB2.block (heap_alloc_old W1 (.cells #[.int .i64 (a : Int)] 3) hB2.lt)
    have hT3 : (W1.alloc (.cells #[.int .i64 (a : Int)] 3)).ownsRow w.heap.size 3 1 (.slice (some ⟨W1.heap.size, 0, none⟩) 1 1) 1 (nV [a]) := World.ownsRow_lit W1 #[.int .i64 (a : Int)] 1 hb2.size (by decide) rfl
    generalize World.alloc W1 _ = W2 at hb3 hB3 hT3 ⊢
    clear hB2 hb2
    go_loopw [8, 9] (fun zT zk wr => ∃ (T : List Nat) (k : Nat) (s : NS), k ≤ T.length ∧ zk = .int .i64 (k : Int) ∧ wr.ownsRow w.heap.size 3 1 zT T.length (nV T) ∧ BoolB wr w.heap.size n s ∧ Below w.heap.size w wr ∧ Hid (Bfs G x a T k 0 s)) (fun _ zk _ => 10 - (intOf zk).toNat)
    case atStart => exact ⟨[a], 0, _, by omega, rfl, hT3, hB3, hb3, HB⟩
    case round =>
      clear hb3 hB3 hT3 HB
      obtain ⟨T, k, s, hkT, rfl, hown, hB, hb, HI⟩ := hrel
      have hT10 : T.length ≤ 10 := by have := HI.out.len; have := HN.out; omega
      obtain ⟨AT, cT, rfl, hNT⟩ := own_nats hown
      have hcT := hNT.2.1
      have hmT := hNT.2.2.1
      by_cases hlt : k < T.length
      · obtain ⟨bT, oT, rfl, hbT, hcT1⟩ := hNT.at_ hlt
        have hv : T[k]! < n := by rw [HN.out]; exact HI.out.lt _ (at_get hlt)
        have HV := Lib.hid hv
        obtain ⟨v, hvE⟩ : ∃ v, T[k]! = v := ⟨_, rfl⟩
        rw [hvE] at hcT1 hv
        have HVE := Lib.hid hvE
        obtain ⟨b0, off, A', n', c', rfl, hb00, hc0, hr⟩ := H.out.at_ hv
        have HC0 := Lib.hid hc0
        have hc := (hb.cell (p := ⟨b0, off + v, none⟩) hb00).trans hc0
        have hbs := Nat.lt_of_lt_of_le hb00 hb.size
        clear hc0
        have hr1 := hr.1
        have hcap' := hr.2.1
        have hmax' := hr.2.2.1
        have HR := Lib.hid hr
        have HR1 := Lib.hid hr1
        have HNEXT := Lib.hid (fun T s (e : T[k]! = v) (hh : Bfs G x a T k n' s) (hk : k < T.length) => Bfs.next (G := G) (x := x) (a := a) (T := T) (k := k) (s := s) (by rw [e, ← hr1]; exact hh) hk)
        have HSKIP := Lib.hid (fun T s i (e : T[k]! = v) (hh : Bfs G x a T k i s) (hk : k < T.length) (hi : i < n') => fun hs => Bfs.skip (i := i) hh hk (by rw [e, ← hr1]; exact hi) (by rw [e]; exact hs))
        have HMORE := Lib.hid (fun T s i (e : T[k]! = v) (hh : Bfs G x a T k i s) (hk : k < T.length) (hi : i < n') => fun u hu hux hs => Bfs.more (i := i) (u := u) HGK.out hh hk (by rw [e, ← hr1]; exact hi) (by rw [e]; exact hu) hux hs)
        clear hr hr1 hvE hNT HV
        go_upto_region 11 with fail
        clear hcT1 hbT hcT hmT
        go_loopw [8, 11] (fun zT zi wr => ∃ (T : List Nat) (i : Nat) (s : NS), i ≤ n' ∧ zi = .int .i64 (i : Int) ∧ wr.ownsRow w.heap.size 3 1 zT T.length (nV T) ∧ BoolB wr w.heap.size n s ∧ Below w.heap.size w wr ∧ k < T.length ∧ Hid (T[k]! = v) ∧ Hid (Bfs G x a T k i s)) (fun _ zi _ => n' - (intOf zi).toNat)
        case atStart => exact ⟨T, 0, s, by omega, rfl, hown, hB, hb, hlt, HVE, HI⟩
        case round =>
          clear hown hB hb hlt HVE HI hc hbs hkT hT10
          obtain ⟨T, i, s, hin, rfl, hown, hB, hb, hlt, HVE, HI⟩ := hrel
          have hT10 : T.length ≤ 10 := by have := HI.out.len; have := HN.out; omega
          have hc := (hb.cell (p := ⟨b0, off + v, none⟩) hb00).trans HC0.out
          have hbs := Nat.lt_of_lt_of_le hb00 hb.size
          by_cases hin' : i < n'
          · obtain ⟨b', off', rfl, hbs', hc'⟩ := HR.out.get hb hin'
            have hun : (suc G v)[i]! < n := by
              rw [HN.out]
              exact HGK.out.2.2.2 v _ (at_get (by rw [← HR1.out]; exact hin'))
            obtain ⟨u, huE⟩ : ∃ u, (suc G v)[i]! = u := ⟨_, rfl⟩
            rw [huE] at hc' hun
            have HUE := Lib.hid huE
            clear huE
            by_cases hux : (u : Int) = x
            · have HI2 := Lib.hid (HSKIP.out T s i HVE.out HI.out hlt hin' (.inl (by rw [HUE.out]; exact hux)))
              have e1 : ((u : Int) != x) = false := by rw [hux]; simp
              clear hux HI
              go_wp2
              go_roundw
              case rel => exact ⟨T, i + 1, s, by omega, by go_num, hown, hB, hb, hlt, HVE, HI2⟩
              case measure => simp [intOf]; omega
            · have e1 : ((u : Int) != x) = true := by simp [hux]
              obtain ⟨hcell, hfree⟩ := hB.cell hun
              cases hs : s u
              · have HI2 := Lib.hid (HMORE.out T s i HVE.out HI.out hlt hin' u HUE.out hux hs)
                rw [hs] at hcell
                have hne := own_neB hown hB (by decide)
                have hown2 := ownsRow_setCell_other hown (a := ⟨w.heap.size, u, none⟩) hne (.bool true)
                have hB2 := hB.put u
                have hb2 := hb.setCell (p := ⟨w.heap.size, u, none⟩) (Nat.le_refl _) (.bool true)
                clear hux HI hs hne
                go_upto_region 16 with fail
                generalize World.setCell wr _ _ = W3 at hown2 hB2 hb2 ⊢
                clear hown hB hb hcell hfree hc hc' hbs hbs'
                go_wp2_with (at_builtin; refine wpList_append_own _ rfl _ _ 25 rfl w.heap.size 3 i1 (.int .i64 0) 1 8 Try.underlying25 ki kz0 kz1 kz2 rfl (by decide) _ _ _ rfl (hown2.alloc _) ⟨W3.heap.size, 0, none⟩ 1 1 [.int .i64 (u : Int)] rfl rfl ?k1 ?k2 ?k3 ?k4 ?k5 ?_)
                case k1 => exact one_new W3 _ _
                case k2 => simp [Value.oneCell']
                case k3 => unfold maxLen; omega
                case k4 => omega
                case k5 => have := hb2.size; simp; omega
                intro v2 w7 hown7 hgrow _
                have hb5 : Below w.heap.size w w7 := (hb2.alloc hb2.size _).grown hgrow (by have := hb2.size; simp; omega) (own_base (hown2.alloc (.cells #[.int .i64 (u : Int)] 3)))
                have hB5 := (hB2.block (heap_alloc_old W3 (.cells #[.int .i64 (u : Int)] 3) hB2.lt)).grown hgrow (own_neB (hown2.alloc (.cells #[.int .i64 (u : Int)] 3)) (hB2.block (heap_alloc_old W3 (.cells #[.int .i64 (u : Int)] 3) hB2.lt)) (by decide))
                have HO8 := Lib.hid (show w7.ownsRow w.heap.size 3 1 v2 (T ++ [u]).length (nV (T ++ [u])) by
                  rw [List.length_append, nV_app]
                  exact hown7)
                have hl2 : k < (T ++ [u]).length := by rw [List.length_append]; omega
                have HVE2 := Lib.hid (show (T ++ [u])[k]! = v by rw [get_app hlt]; exact HVE.out)
                clear hown2 hown7 hgrow hb2 hB2
                go_wp2
                go_roundw
                case rel => exact ⟨T ++ [u], i + 1, _, by omega, by go_num, HO8.out, hB5, hb5, hl2, HVE2, HI2⟩
                case measure => simp [intOf]; omega
              · have HI2 := Lib.hid (HSKIP.out T s i HVE.out HI.out hlt hin' (.inr ((HI.out.mem _ (by rw [← HN.out, HUE.out]; exact hun)).1 (by rw [HUE.out]; exact hs))))
                rw [hs] at hcell
                clear hux HI hs
                go_wp2
                go_roundw
                case rel => exact ⟨T, i + 1, s, by omega, by go_num, hown, hB, hb, hlt, HVE, HI2⟩
                case measure => simp [intOf]; omega
          · obtain rfl : i = n' := by omega
            have HI2 := Lib.hid (HNEXT.out T s HVE.out HI.out hlt)
            go_wp2
            go_roundw
            case rel => exact ⟨T, k + 1, s, by omega, by go_num, hown, hB, hb, HI2⟩
            case measure => simp [intOf]; omega
      · obtain rfl : k = T.length := by omega
        have hB2 := hB.congr (fun j hj => HF.out T s HI.out j (by rw [← HN.out]; exact hj))
        clear hNT hown
        go_wp2
        go_ret
        exact ⟨w.heap.size, rfl, hB2, Nat.le_refl _, hb⟩
end
end Go.Proofs.Ytchkckflpmepkaa
