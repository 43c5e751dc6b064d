/-
  The visits of Order, in both packages.
-/
import Derived.Test.YtchkckflpmepkaaFwL
namespace Go.Proofs.Ytchkckflpmepkaa
open Go.RowKit

/-- Where a visit stands behind some successors. -/
def ordU (G : List (List Nat)) (f : Nat) (p : NS × List Nat) (l : List Nat) (i : Nat) : NS × List Nat := (l.take i).foldl (fun p u => if p.1 u then p else ordF G f u p) p
theorem ordU_yes {G : List (List Nat)} {f : Nat} {p : NS × List Nat} {l : List Nat} {i : Nat} (h : i < l.length) (hs : (ordU G f p l i).1 l[i]! = true) : ordU G f p l (i + 1) = ordU G f p l i := by
  conv => lhs; unfold ordU
  rw [take_succ h, List.foldl_append]
  show (if (ordU G f p l i).1 l[i]! then _ else _) = _
  rw [if_pos hs]
  rfl
theorem ordU_no {G : List (List Nat)} {f : Nat} {p : NS × List Nat} {l : List Nat} {i : Nat} (h : i < l.length) (hs : (ordU G f p l i).1 l[i]! = false) : ordU G f p l (i + 1) = ordF G f l[i]! (ordU G f p l i) := by
  conv => lhs; unfold ordU
  rw [take_succ h, List.foldl_append]
  show (if (ordU G f p l i).1 l[i]! then _ else _) = _
  rw [hs]
  rfl
theorem ordU_len {G : List (List Nat)} (hG : okG G) {f : Nat} {p : NS × List Nat} {l : List Nat} (hl : ∀ u ∈ l, u < G.length) : ∀ i, i ≤ l.length → (ordU G f p l i).2.length + free (ordU G f p l i).1 G.length = p.2.length + free p.1 G.length
  | 0, _ => rfl
  | i + 1, hi => by
    have ih := ordU_len hG (f := f) (p := p) hl i (by omega)
    cases hs : (ordU G f p l i).1 l[i]!
    · rw [ordU_no (by omega) hs, ord_len hG f _ _ (hl _ (at_get (by omega))) hs, ih]
    · rw [ordU_yes (by omega) hs, ih]
theorem ordU_mono {G : List (List Nat)} {f : Nat} {p : NS × List Nat} {l : List Nat} {j : Nat} (h : p.1 j = true) : ∀ i, i ≤ l.length → (ordU G f p l i).1 j = true
  | 0, _ => h
  | i + 1, hi => by
    have ih := ordU_mono (G := G) (f := f) (l := l) h i (by omega)
    cases hs : (ordU G f p l i).1 l[i]!
    · rw [ordU_no (by omega) hs, ord_vis _ _ _ hs]
      exact vis_mono _ _ _ _ ih
    · rw [ordU_yes (by omega) hs]
      exact ih
theorem ord_succ (G : List (List Nat)) (f v : Nat) (p : NS × List Nat) : ordF G (f + 1) v p = ((ordU G f (put p.1 v, p.2) (suc G v) (suc G v).length).1, (ordU G f (put p.1 v, p.2) (suc G v) (suc G v).length).2 ++ [v]) := by
  unfold ordU
  rw [List.take_length]
  rfl
section
variable {w0 : World} {A : Option Addr} {n c : Nat} {G : List (List Nat)}
set_option maxRecDepth 100000 in
set_option maxHeartbeats 8000000 in
theorem refVisit_any (hG : okG G) (h0 : MG w0 A n c G) {B : Nat} (hB0 : w0.heap.size ≤ B) :
    ∀ (f v : Nat) (p : NS × List Nat) (vl : Value) (w : World), v < n → p.1 v = false → free p.1 n ≤ f → p.2.length + free p.1 n ≤ 10 → Below w0.heap.size w0 w → BoolB w B n p.1 → w.ownsRow w0.heap.size 3 1 vl p.2.length (nV p.2) →
      Calls Try.prog 50 #[.slice A n c, .int .i64 (v : Int), .slice (some ⟨B, 0, none⟩) n n, vl] w fun e w' => ∃ v', e = .returned v' ∧ w'.ownsRow w0.heap.size 3 1 v' (ordF G f v p).2.length (nV (ordF G f v p).2) ∧ BoolB w' B n (ordF G f v p).1 ∧ Below w0.heap.size w0 w'
  | 0, v, p, _, _, hv, hs, hf, _, _, _, _ => by
    have := free_put hs n hv
    omega
  | f + 1, v, p, vl, w, hv, hs, hf, hl, hb, hB, hown => by
    obtain ⟨i0, hi, hz0, hz1, hz2⟩ := info_parts infoI
    have hfr := free_put hs n hv
    have hcap := h0.2.1
    have hmax := h0.2.2.1
    have hn10 : n ≤ 10 := by rw [h0.1]; exact hG.2.1
    have HF := Lib.hid (ord_succ G f v p)
    obtain ⟨hcell, hfree⟩ := hB.cell hv
    rw [hs] at hcell
    have hB1 := hB.put v
    have hne := own_neB hown hB (by decide)
    have hown1 := ownsRow_setCell_other hown (a := ⟨B, v, none⟩) hne (.bool true)
    have hb1 := hb.setCell (p := ⟨B, v, none⟩) hB0 (.bool true)
    have HSL := Lib.hid (show ∀ u ∈ suc G v, u < G.length from fun u hu => hG.2.2.2 v u hu)
    have HLEN := Lib.hid (fun i (hi : i ≤ (suc G v).length) => show (ordU G f (put p.1 v, p.2) (suc G v) i).2.length + free (ordU G f (put p.1 v, p.2) (suc G v) i).1 n ≤ 10 from by
      have := ordU_len hG (f := f) (p := (put p.1 v, p.2)) HSL.out i hi
      rw [← h0.1] at this
      simp only at this
      omega)
    have HFR := Lib.hid (fun i (hi : i ≤ (suc G v).length) => show free (ordU G f (put p.1 v, p.2) (suc G v) i).1 n ≤ f from by
      have := free_mono (s := put p.1 v) (t := (ordU G f (put p.1 v, p.2) (suc G v) i).1) (fun j hj => ordU_mono (p := (put p.1 v, p.2)) hj i hi) n
      omega)
    have IH := Lib.hid (refVisit_any hG h0 hB0 f)
    have H0 := Lib.hid h0
    obtain ⟨p1, hp1⟩ : ∃ p1 : NS × List Nat, p1 = (put p.1 v, p.2) := ⟨_, rfl⟩
    rw [← hp1] at HF HLEN HFR
    have e1 : put p.1 v = p1.1 := by rw [hp1]
    have e2 : p.2 = p1.2 := by rw [hp1]
    rw [e1] at hB1
    rw [e2] at hown1
    obtain ⟨b0, off, A', n', c', rfl, hb00, hc0, hr⟩ := h0.at_ hv
    have HC0 := Lib.hid hc0
    have hr1 := hr.1
    have hcap' := hr.2.1
    have hmax' := hr.2.2.1
    have HR := Lib.hid hr
    have HN := Lib.hid hr1
    rw [← hr1] at HF
    obtain ⟨R, hR⟩ : ∃ R, R = ordF G (f + 1) v p := ⟨_, rfl⟩
    rw [← hR] at HF ⊢
    have HQ := Lib.hid (show ∀ q, q < n' → (suc G v)[q]! < n from fun q hq => by rw [h0.1]; exact HSL.out _ (at_get (by rw [← HN.out]; exact hq)))
    clear hc0 hr hr1 hp1 e1 e2 hR hfr hl hf hs hne hown hB hb
    go_enter Try.func50, Try.ntmps50
    go_upto_region 2 with fail
    generalize World.setCell w _ _ = W1 at hB1 hown1 hb1 ⊢
    clear hcell hfree
    go_wp2
    go_loopw [3, 9] (fun zl zi wr => ∃ (i : Nat) (q : NS × List Nat), i ≤ n' ∧ zi = .int .i64 (i : Int) ∧ wr.ownsRow w0.heap.size 3 1 zl q.2.length (nV q.2) ∧ BoolB wr B n q.1 ∧ Below w0.heap.size w0 wr ∧ Hid (q = ordU G f p1 (suc G v) i)) (fun _ zi _ => n' - (intOf zi).toNat)
    case atStart => exact ⟨0, p1, by omega, rfl, hown1, hB1, hb1, Lib.hid rfl⟩
    case round =>
      clear hown1 hB1 hb1
      obtain ⟨i, q, hin, rfl, hown, hB, hb, HE⟩ := hrel
      have hc := (hb.cell (p := ⟨b0, off + v, none⟩) hb00).trans HC0.out
      have hbs := Nat.lt_of_lt_of_le hb00 hb.size
      have hl10 := HLEN.out i (by rw [← HN.out]; exact hin)
      have hfr := HFR.out i (by rw [← HN.out]; exact hin)
      rw [← HE.out] at hl10 hfr
      by_cases hlt : i < n'
      · obtain ⟨b', off', rfl, hbs', hc'⟩ := HR.out.get hb hlt
        have hun := HQ.out i hlt
        have HY := Lib.hid (fun hs => ordU_yes (G := G) (f := f) (p := p1) (l := suc G v) (i := i) (by rw [← HN.out]; exact hlt) hs)
        have HX := Lib.hid (fun hs => ordU_no (G := G) (f := f) (p := p1) (l := suc G v) (i := i) (by rw [← HN.out]; exact hlt) hs)
        rw [← HE.out] at HY HX
        generalize (suc G v)[i]! = u at hc' hun HY HX
        obtain ⟨hcell, hfree⟩ := hB.cell hun
        cases hs : q.1 u
        · have HC := Lib.hid (IH.out u q _ wr hun hs hfr hl10 hb hB hown)
          have HX2 := Lib.hid (HX.out hs)
          rw [← HX2.out] at HC
          rw [hs] at hcell
          clear HY HX hs hB hown
          go_wp2_with fail
          refine HC.out.mono ?_
          rintro e w2 ⟨v2, rfl, hown2, hB2, hb2⟩
          clear hc hc' hcell hfree hb hbs hbs'
          go_wp2
          go_roundw
          case rel => exact ⟨i + 1, _, by omega, by go_num, hown2, hB2, hb2, Lib.hid rfl⟩
          case measure => simp [intOf]; omega
        · have HY2 := Lib.hid (HY.out hs)
          rw [hs] at hcell
          clear HX HY hs
          go_wp2
          go_roundw
          case rel => exact ⟨i + 1, q, by omega, by go_num, hown, hB, hb, Lib.hid HY2.out.symm⟩
          case measure => simp [intOf]; omega
      · obtain rfl : i = n' := by omega
        have HR2 := Lib.hid (show R = (q.1, q.2 ++ [v]) by rw [HF.out, HE.out])
        go_wp2_with (at_builtin; refine wpList_append_own _ rfl _ _ 25 rfl w0.heap.size 3 i0 (.int .i64 0) 1 8 Try.underlying25 hi hz0 hz1 hz2 rfl (by decide) _ _ _ rfl (hown.alloc _) ⟨wr.heap.size, 0, none⟩ 1 1 [.int .i64 (v : Int)] rfl rfl (one_new wr _ _) ?k2 ?k3 ?k4 ?k5 ?_)
        case k2 => simp [Value.oneCell']
        case k3 => unfold maxLen; omega
        case k4 => omega
        case k5 => have := hb.size; simp; omega
        intro v2 w7 hown7 hgrow _
        have hb5 : Below w0.heap.size w0 w7 := (hb.alloc hb.size _).grown hgrow (by have := hb.size; simp; omega) (own_base (hown.alloc (.cells #[.int .i64 (v : Int)] 3)))
        have hB5 := (hB.block (heap_alloc_old wr (.cells #[.int .i64 (v : Int)] 3) hB.lt)).grown hgrow (own_neB (hown.alloc (.cells #[.int .i64 (v : Int)] 3)) (hB.block (heap_alloc_old wr (.cells #[.int .i64 (v : Int)] 3) hB.lt)) (by decide))
        have HO8 : w7.ownsRow w0.heap.size 3 1 v2 (q.2 ++ [v]).length (nV (q.2 ++ [v])) := by
          rw [List.length_append, nV_app]
          exact hown7
        have HO9 := Lib.hid (show w7.ownsRow w0.heap.size 3 1 v2 R.2.length (nV R.2) by rw [HR2.out]; exact HO8)
        have HB9 := Lib.hid (show BoolB w7 B n R.1 by rw [HR2.out]; exact hB5)
        clear hown hown7 hgrow hb hc HO8 hB5 hB
        go_wp2
        go_ret
        exact ⟨_, rfl, HO9.out, HB9.out, hb5⟩
end
end Go.Proofs.Ytchkckflpmepkaa
