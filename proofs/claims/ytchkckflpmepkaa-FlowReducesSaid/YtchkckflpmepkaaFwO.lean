/-
  The closure of Order.
-/
import Derived.Test.YtchkckflpmepkaaFwN
namespace Go.Proofs.Ytchkckflpmepkaa
open Go.RowKit

/-- The blocks around the closure of Order. -/
structure OrdW (w0 : World) (A : Option Addr) (n c : Nat) (S Gb V L : Nat) (p : NS × List Nat) (w : World) : Prop where
  below : Below w0.heap.size w0 w
  seen : SetB w S p.1
  graph : w.heap[Gb]? = some (.cells #[.slice A n c] 22 (0, 0))
  visit : w.heap[V]? = some (.cells #[fnV 49 #[ptr S, ptr Gb, ptr V, ptr L]] 60 (0, 0))
  left : ∃ vl, w.heap[L]? = some (.cells #[vl] 25 (0, 0)) ∧ w.ownsRow w0.heap.size 3 1 vl p.2.length (nV p.2)
section
variable {w0 : World} {A : Option Addr} {n c : Nat} {G : List (List Nat)} {S Gb V L : Nat} {p : NS × List Nat} {w : World}
theorem OrdW.put (h : OrdW w0 A n c S Gb V L p w) (hS : w0.heap.size ≤ S) (hg : Gb ≠ S) (hv : V ≠ S) (hl : L ≠ S) {v : Nat} (hv10 : v < 10) : OrdW w0 A n c S Gb V L (put p.1 v, p.2) (w.setCell ⟨S, v, none⟩ (.bool true)) := by
  obtain ⟨vl, h1, h2⟩ := h.left
  refine ⟨h.below.setCell (p := ⟨S, v, none⟩) hS _, h.seen.put hv10, (heap_setCell_other w ⟨S, v, none⟩ Gb _ hg).trans h.graph, (heap_setCell_other w ⟨S, v, none⟩ V _ hv).trans h.visit, vl, (heap_setCell_other w ⟨S, v, none⟩ L _ hl).trans h1, ?_⟩
  refine ownsRow_setCell_other h2 (a := ⟨S, v, none⟩) ?_ _
  have := h.seen
  unfold SetB at this
  exact own_ne h2 this (by decide)
set_option maxRecDepth 100000 in
set_option maxHeartbeats 8000000 in
theorem orderVisit_any (hG : okG G) (h0 : MG w0 A n c G) (hS : w0.heap.size ≤ S) (hL0 : w0.heap.size ≤ L) (hg : Gb ≠ S) (hvS : V ≠ S) (hlS : L ≠ S) (hgL : Gb ≠ L) (hvL : V ≠ L) :
    ∀ (f v : Nat) (p : NS × List Nat) (w : World), v < n → p.1 v = false → free p.1 n ≤ f → p.2.length + free p.1 n ≤ 10 → OrdW w0 A n c S Gb V L p w →
      Calls Try.prog 49 #[.int .i64 (v : Int), ptr S, ptr Gb, ptr V, ptr L] w fun e w' => e = .returned (.tuple #[]) ∧ OrdW w0 A n c S Gb V L (ordF G f v p) w'
  | 0, v, p, _, hv, hs, hf, _, _ => by
    have := free_put hs n hv
    omega
  | f + 1, v, p, w, hv, hs, hf, hl, hW => by
    obtain ⟨i0, hi, hz0, hz1, hz2⟩ := info_parts infoI
    have hfr := free_put hs n hv
    have hcap := h0.2.1
    have hmax := h0.2.2.1
    have hn10 : n ≤ 10 := by rw [h0.1]; exact hG.2.1
    have HF := Lib.hid (ord_succ G f v p)
    obtain ⟨hcell, hfree⟩ := hW.seen.cell (show v < 10 by omega)
    rw [hs] at hcell
    have hW1 := hW.put hS hg hvS hlS (show v < 10 by omega)
    have HSL := Lib.hid (show ∀ u ∈ suc G v, u < G.length from fun u hu => hG.2.2.2 v u hu)
    have HLEN := Lib.hid (fun i (hi : i ≤ (suc G v).length) => show (ordU G f (put p.1 v, p.2) (suc G v) i).2.length + free (ordU G f (put p.1 v, p.2) (suc G v) i).1 n ≤ 10 from by
      have := ordU_len hG (f := f) (p := (put p.1 v, p.2)) HSL.out i hi
      rw [← h0.1] at this
      simp only at this
      omega)
    have HFR := Lib.hid (fun i (hi : i ≤ (suc G v).length) => show free (ordU G f (put p.1 v, p.2) (suc G v) i).1 n ≤ f from by
      have := free_mono (s := put p.1 v) (t := (ordU G f (put p.1 v, p.2) (suc G v) i).1) (fun j hj => ordU_mono (p := (put p.1 v, p.2)) hj i hi) n
      omega)
    have IH := Lib.hid (orderVisit_any hG h0 hS hL0 hg hvS hlS hgL hvL f)
    generalize (put p.1 v, p.2) = p1 at HF HLEN HFR hW1
    obtain ⟨b0, off, A', n', c', rfl, hb00, hc0, hr⟩ := h0.at_ hv
    have HC0 := Lib.hid hc0
    have hr1 := hr.1
    have hcap' := hr.2.1
    have hmax' := hr.2.2.1
    have HR := Lib.hid hr
    have HN := Lib.hid hr1
    rw [← hr1] at HF
    obtain ⟨R, hR⟩ : ∃ R, R = ordF G (f + 1) v p := ⟨_, rfl⟩
    rw [← hR] at HF ⊢
    have HQ := Lib.hid (show ∀ q, q < n' → (suc G v)[q]! < n from fun q hq => by rw [h0.1]; exact HSL.out _ (at_get (by rw [← HN.out]; exact hq)))
    clear hc0 hr hr1 hR hfr hl hf hs hW
    go_enter Try.func49, Try.ntmps49
    go_upto_region 1 with fail
    generalize World.setCell w _ _ = W1 at hW1 ⊢
    clear hcell hfree
    have hG0 := cell_of_one hW1.graph
    have hc := (hW1.below.cell (p := ⟨b0, off + v, none⟩) hb00).trans HC0.out
    have hbs := Nat.lt_of_lt_of_le hb00 hW1.below.size
    go_wp2
    clear hG0 hc hbs
    go_loopw [15] (fun zi wr => ∃ (i : Nat) (q : NS × List Nat), i ≤ n' ∧ zi = .int .i64 (i : Int) ∧ OrdW w0 (some ⟨b0, off, none⟩) n c S Gb V L q wr ∧ Hid (q = ordU G f p1 (suc G v) i)) (fun zi _ => n' - (intOf zi).toNat)
    case atStart => exact ⟨0, p1, by omega, rfl, hW1, Lib.hid rfl⟩
    case round =>
      clear hW1
      obtain ⟨i, q, hin, rfl, hW, HE⟩ := hrel
      have hl10 := HLEN.out i (by rw [← HN.out]; exact hin)
      have hfr := HFR.out i (by rw [← HN.out]; exact hin)
      rw [← HE.out] at hl10 hfr
      by_cases hlt : i < n'
      · obtain ⟨b', off', rfl, hbs', hc'⟩ := HR.out.get hW.below hlt
        have hun := HQ.out i hlt
        have HY := Lib.hid (fun hs => ordU_yes (G := G) (f := f) (p := p1) (l := suc G v) (i := i) (by rw [← HN.out]; exact hlt) hs)
        have HX := Lib.hid (fun hs => ordU_no (G := G) (f := f) (p := p1) (l := suc G v) (i := i) (by rw [← HN.out]; exact hlt) hs)
        rw [← HE.out] at HY HX
        generalize (suc G v)[i]! = u at hc' hun HY HX
        obtain ⟨hcell, hfree⟩ := hW.seen.cell (show u < 10 by omega)
        cases hs : q.1 u
        · have HC := Lib.hid (IH.out u q wr hun hs hfr hl10 hW)
          have HX2 := Lib.hid (HX.out hs)
          rw [← HX2.out] at HC
          rw [hs] at hcell
          have hV0 := cell_of_one hW.visit
          clear HY HX hs hW
          go_wp2_with fail
          refine HC.out.mono ?_
          rintro e w2 ⟨rfl, hW2⟩
          clear hc' hcell hfree hbs' hV0
          go_wp2
          go_roundw
          case rel => exact ⟨i + 1, _, by omega, by go_num, hW2, Lib.hid rfl⟩
          case measure => simp [intOf]; omega
        · have HY2 := Lib.hid (HY.out hs)
          rw [hs] at hcell
          clear HX HY hs
          go_wp2
          go_roundw
          case rel => exact ⟨i + 1, q, by omega, by go_num, hW, Lib.hid HY2.out.symm⟩
          case measure => simp [intOf]; omega
      · obtain rfl : i = n' := by omega
        have HR2 := Lib.hid (show R = (q.1, q.2 ++ [v]) by rw [HF.out, HE.out])
        obtain ⟨vl, hLc, hown⟩ := hW.left
        have hL1 := cell_of_one hLc
        have hL2 := free_of_one hLc
        have hb := hW.below
        have HW := Lib.hid hW
        have HLc := Lib.hid hLc
        clear hW hLc
        go_wp2_with (at_builtin; refine wpList_append_own _ rfl _ _ 25 rfl w0.heap.size 3 i0 (.int .i64 0) 1 8 Try.underlying25 hi hz0 hz1 hz2 rfl (by decide) _ _ _ rfl (hown.alloc _) ⟨wr.heap.size, 0, none⟩ 1 1 [.int .i64 (v : Int)] rfl rfl (one_new wr _ _) ?k2 ?k3 ?k4 ?k5 ?_)
        case k2 => simp [Value.oneCell']
        case k3 => unfold maxLen; omega
        case k4 => omega
        case k5 => have := hb.size; simp; omega
        intro v2 w7 hown7 hgrow _
        have hb5 : Below w0.heap.size w0 w7 := (hb.alloc hb.size _).grown hgrow (by have := hb.size; simp; omega) (own_base (hown.alloc (.cells #[.int .i64 (v : Int)] 3)))
        have hkeep : ∀ (B : Nat) (us : Array Value) (t : TypeId), 3 ≠ t → wr.heap[B]? = some (.cells us t (0, 0)) → w7.heap[B]? = some (.cells us t (0, 0)) := fun B us t ht h => grown_block hgrow ((heap_alloc_old wr (.cells #[.int .i64 (v : Int)] 3) (lt_of_block h)).trans h) (own_ne (hown.alloc (.cells #[.int .i64 (v : Int)] 3)) ((heap_alloc_old wr (.cells #[.int .i64 (v : Int)] 3) (lt_of_block h)).trans h) ht)
        have hS7 := hkeep _ _ _ (by decide) HW.out.seen
        have hG7 := hkeep _ _ _ (by decide) HW.out.graph
        have hV7 := hkeep _ _ _ (by decide) HW.out.visit
        have hL7 := hkeep _ _ _ (by decide) HLc.out
        have HO8 : w7.ownsRow w0.heap.size 3 1 v2 (q.2 ++ [v]).length (nV (q.2 ++ [v])) := by
          rw [List.length_append, nV_app]
          exact hown7
        have HFIN := Lib.hid (show OrdW w0 (some ⟨b0, off, none⟩) n c S Gb V L R (w7.setCell ⟨L, 0, none⟩ v2) by
          rw [HR2.out]
          exact ⟨hb5.setCell (p := ⟨L, 0, none⟩) hL0 _, (heap_setCell_other w7 ⟨L, 0, none⟩ S _ (fun e => hlS e.symm)).trans hS7, (heap_setCell_other w7 ⟨L, 0, none⟩ Gb _ hgL).trans hG7, (heap_setCell_other w7 ⟨L, 0, none⟩ V _ hvL).trans hV7,
            v2, one_setCell hL7, ownsRow_setCell_other HO8 (a := ⟨L, 0, none⟩) (own_ne HO8 hL7 (by decide)) _⟩)
        have hL8 := cell_of_one hL7
        have hL9 := free_of_one hL7
        obtain ⟨AV, cV, rfl, -⟩ := own_nats (n := q.2.length + 1) (l := q.2 ++ [v]) (by rw [nV_app]; exact hown7)
        clear hkeep hS7 hG7 hV7 hL7 HO8 hown7 hgrow hown hb hb5 hL1 hL2
        go_wp2
        exact bodyPost_end (results_none rfl _ _ _) rfl ⟨rfl, HFIN.out⟩
end
end Go.Proofs.Ytchkckflpmepkaa
