/-
  IsReducible of the program.
-/
import Derived.Test.YtchkckflpmepkaaFwX
namespace Go.Proofs.Ytchkckflpmepkaa
open Go.RowKit

def frL (F : Nat → NS × NS → Bool × (NS × NS)) (sk : Nat → Bool) : List Nat → NS × NS → Bool × (NS × NS)
  | [], p => (true, p)
  | u :: l, p => if sk u = true then frL F sk l p else if (F u p).1 = true then frL F sk l (F u p).2 else (false, (F u p).2)
def finF (v : Nat) (r : Bool × (NS × NS)) : Bool × (NS × NS) := if r.1 = true then (true, (r.2.1, put r.2.2 v)) else (false, r.2)
/-- What isFree answers, and the open and the done nodes behind it. -/
def freF (G : List (List Nat)) : Nat → Nat → NS × NS → Bool × (NS × NS)
  | 0, _, p => (true, p)
  | f + 1, v, p => if p.1 v = true ∨ p.2 v = true then (p.2 v, p) else finF v (frL (fun u q => freF G f u q) (fun u => domB G u v) (suc G v) (put p.1 v, p.2))
theorem frL_mono {F : Nat → NS × NS → Bool × (NS × NS)} {sk : Nat → Bool} {j : Nat} (hF : ∀ u p, p.1 j = true → (F u p).2.1 j = true) : ∀ (l : List Nat) (p : NS × NS), p.1 j = true → (frL F sk l p).2.1 j = true
  | [], _, h => h
  | u :: l, p, h => by
    unfold frL
    split
    · exact frL_mono hF l p h
    · split
      · exact frL_mono hF l _ (hF u p h)
      · exact hF u p h
theorem fre_mono {G : List (List Nat)} {j : Nat} : ∀ f v p, p.1 j = true → (freF G f v p).2.1 j = true
  | 0, _, _, h => h
  | f + 1, v, p, h => by
    unfold freF
    split
    · exact h
    · have := frL_mono (F := fun u q => freF G f u q) (sk := fun u => domB G u v) (fun u q hq => fre_mono f u q hq) (suc G v) (put p.1 v, p.2) (put_true h)
      unfold finF
      split
      · exact this
      · exact this
theorem drop_at {l : List Nat} {i : Nat} (h : i < l.length) : l.drop i = l[i]! :: l.drop (i + 1) := by
  rw [List.drop_eq_getElem_cons h, show l[i]! = l[i] by simp [h]]
structure RedW (w0 : World) (A : Option Addr) (n c : Nat) (O D Gb V : Nat) (p : NS × NS) (w : World) : Prop where
  below : Below w0.heap.size w0 w
  open_ : SetB w O p.1
  done : SetB w D p.2
  graph : w.heap[Gb]? = some (.cells #[.slice A n c] 22 (0, 0))
  visit : w.heap[V]? = some (.cells #[fnV 52 #[ptr O, ptr D, ptr Gb, ptr V]] 63 (0, 0))
section
variable {w0 : World} {A : Option Addr} {n c : Nat} {G : List (List Nat)} {O D Gb V : Nat} {p : NS × NS} {w : World}
theorem RedW.putO (h : RedW w0 A n c O D Gb V p w) (hO : w0.heap.size ≤ O) (hd : D ≠ O) (hg : Gb ≠ O) (hv : V ≠ O) {v : Nat} (hv10 : v < 10) : RedW w0 A n c O D Gb V (put p.1 v, p.2) (w.setCell ⟨O, v, none⟩ (.bool true)) :=
  ⟨h.below.setCell (p := ⟨O, v, none⟩) hO _, h.open_.put hv10, h.done.ne hd, (heap_setCell_other w ⟨O, v, none⟩ Gb _ hg).trans h.graph, (heap_setCell_other w ⟨O, v, none⟩ V _ hv).trans h.visit⟩
theorem RedW.putD (h : RedW w0 A n c O D Gb V p w) (hD : w0.heap.size ≤ D) (hd : D ≠ O) (hg : Gb ≠ D) (hv : V ≠ D) {v : Nat} (hv10 : v < 10) : RedW w0 A n c O D Gb V (p.1, put p.2 v) (w.setCell ⟨D, v, none⟩ (.bool true)) :=
  ⟨h.below.setCell (p := ⟨D, v, none⟩) hD _, h.open_.ne (fun e => hd e.symm), h.done.put hv10, (heap_setCell_other w ⟨D, v, none⟩ Gb _ hg).trans h.graph, (heap_setCell_other w ⟨D, v, none⟩ V _ hv).trans h.visit⟩
theorem RedW.more (h : RedW w0 A n c O D Gb V p w) {w' : World} (hb : Below w.heap.size w w') : RedW w0 A n c O D Gb V p w' :=
  ⟨h.below.trans (hb.mono h.below.size), h.open_.below hb, h.done.below hb, (hb.block _ (lt_of_block h.graph)).trans h.graph, (hb.block _ (lt_of_block h.visit)).trans h.visit⟩
set_option maxRecDepth 100000 in
set_option maxHeartbeats 8000000 in
theorem isFree_any (hG : okG G) (h0 : MG w0 A n c G) (hO : w0.heap.size ≤ O) (hD : w0.heap.size ≤ D) (hdo : D ≠ O) (hgO : Gb ≠ O) (hvO : V ≠ O) (hgD : Gb ≠ D) (hvD : V ≠ D) :
    ∀ (f v : Nat) (p : NS × NS) (w : World), v < n → free p.1 n < f → RedW w0 A n c O D Gb V p w →
      Calls Try.prog 52 #[.int .i64 (v : Int), ptr O, ptr D, ptr Gb, ptr V] w fun e w' => e = .returned (.bool (freF G f v p).1) ∧ RedW w0 A n c O D Gb V (freF G f v p).2 w'
  | 0, _, _, _, _, h, _ => absurd h (by omega)
  | f + 1, v, p, w, hvn, hf, hW => by
    have hn10 : n ≤ 10 := by rw [h0.1]; exact hG.2.1
    have hcap := h0.2.1
    have hmax := h0.2.2.1
    obtain ⟨hs0, hs1⟩ := hW.open_.cell (show v < 10 by omega)
    obtain ⟨hq0, -⟩ := hW.done.cell (show v < 10 by omega)
    cases e1 : p.1 v
    · cases e2 : p.2 v
      · rw [e1] at hs0
        rw [e2] at hq0
        have HF := Lib.hid (show freF G (f + 1) v p = finF v (frL (fun u q => freF G f u q) (fun u => domB G u v) (suc G v) (put p.1 v, p.2)) by
          conv => lhs; unfold freF
          rw [if_neg (by rw [e1, e2]; simp)])
        have hfr := free_put e1 n hvn
        have hW1 := hW.putO hO hdo hgO hvO (show v < 10 by omega)
        have hf1 : free (put p.1 v, p.2).1 n < f := by show free (put p.1 v) n < f; omega
        have HDO := Lib.hid (fun w1 (hb : Below w0.heap.size w0 w1) u B (hB : domB G u v = B) => hB ▸ dominates_any hG (h0.below hb) u v (by omega))
        have IH := Lib.hid (isFree_any hG h0 hO hD hdo hgO hvO hgD hvD f)
        have HM := Lib.hid (fun u (q : NS × NS) (hq : free q.1 n < f) => show free (freF G f u q).2.1 n < f from Nat.lt_of_le_of_lt (free_mono (fun j hj => fre_mono f u q hj) n) hq)
        generalize (put p.1 v, p.2) = p1 at HF hW1 hf1
        generalize freF G (f + 1) v p = Z at HF ⊢
        have H0 := Lib.hid h0
        obtain ⟨b0, off, A', n', c', rfl, hb00, hc0, hr⟩ := h0.at_ hvn
        have HC0 := Lib.hid hc0
        have hr1 := hr.1
        have hcap' := hr.2.1
        have hmax' := hr.2.2.1
        have HR := Lib.hid hr
        have HN := Lib.hid hr1
        have HQ := Lib.hid (show ∀ q, q < n' → (suc G v)[q]! < n from fun q hq => by rw [h0.1]; exact hG.2.2.2 v _ (at_get (by rw [← HN.out]; exact hq)))
        clear hc0 hr hr1 hW e1 e2 hfr hf
        go_enter Try.func52, Try.ntmps52
        go_upto_region 4 with fail
        generalize World.setCell w _ _ = W1 at hW1 ⊢
        clear hs0 hs1 hq0
        have hG0 := cell_of_one hW1.graph
        have hc := (hW1.below.cell (p := ⟨b0, off + v, none⟩) hb00).trans HC0.out
        have hbs := Nat.lt_of_lt_of_le hb00 hW1.below.size
        go_wp2
        clear hG0 hc hbs
        go_loopw [27] (fun zi wr => ∃ (i : Nat) (q : NS × NS), i ≤ n' ∧ zi = .int .i64 (i : Int) ∧ RedW w0 (some ⟨b0, off, none⟩) n c O D Gb V q wr ∧ free q.1 n < f ∧ Hid (Z = finF v (frL (fun u q => freF G f u q) (fun u => domB G u v) ((suc G v).drop i) q))) (fun zi _ => n' - (intOf zi).toNat)
        case atStart => exact ⟨0, p1, by omega, rfl, hW1, hf1, HF⟩
        case round =>
          clear hW1 hf1 HF
          obtain ⟨i, q, hin, rfl, hW, hfq, HE⟩ := hrel
          by_cases hlt : i < n'
          · obtain ⟨b', off', rfl, hbs', hc'⟩ := HR.out.get hW.below hlt
            have hun := HQ.out i hlt
            have HDR := Lib.hid (drop_at (l := suc G v) (i := i) (by rw [← HN.out]; exact hlt))
            rw [HDR.out] at HE
            generalize (suc G v)[i]! = u at hc' hun HE
            have hG0 := cell_of_one hW.graph
            cases hdom : domB G u v
            · have HD1 := Lib.hid (HDO.out wr hW.below u false hdom)
              have HIH := Lib.hid (fun w1 hW1 => IH.out u q w1 hun hfq hW1)
              have hfq2 := HM.out u q hfq
              have HE2 := Lib.hid (show Z = finF v (if (freF G f u q).1 = true then frL (fun u q => freF G f u q) (fun u => domB G u v) ((suc G v).drop (i + 1)) (freF G f u q).2 else (false, (freF G f u q).2)) by
                rw [HE.out]
                conv => lhs; unfold frL
                rw [if_neg (by rw [hdom]; simp)])
              generalize freF G f u q = r at HIH hfq2 HE2
              clear HE hdom
              go_wp2_with fail
              refine HD1.out.mono ?_
              rintro e w2 ⟨rfl, hb2⟩
              have hW2 := hW.more hb2
              have hV0 := cell_of_one hW2.visit
              clear hW hb2 hG0 hc' hbs'
              obtain ⟨B, q2⟩ := r
              cases B
              · have HE3 := Lib.hid (show Z = (false, q2) by rw [HE2.out]; rfl)
                clear HE2
                go_wp2_with fail
                refine (HIH.out w2 hW2).mono ?_
                rintro e w3 ⟨rfl, hW3⟩
                clear hV0 hW2
                go_wp2
                go_ret
                exact ⟨by rw [HE3.out]; rfl, by rw [HE3.out]; exact hW3⟩
              · have HE3 := Lib.hid (show Z = finF v (frL (fun u q => freF G f u q) (fun u => domB G u v) ((suc G v).drop (i + 1)) q2) by rw [HE2.out]; rfl)
                clear HE2
                go_wp2_with fail
                refine (HIH.out w2 hW2).mono ?_
                rintro e w3 ⟨rfl, hW3⟩
                clear hV0 hW2
                go_wp2
                go_roundw
                case rel => exact ⟨i + 1, q2, by omega, by go_num, hW3, hfq2, HE3⟩
                case measure => simp [intOf]; omega
            · have HD1 := Lib.hid (HDO.out wr hW.below u true hdom)
              have HE2 := Lib.hid (show Z = finF v (frL (fun u q => freF G f u q) (fun u => domB G u v) ((suc G v).drop (i + 1)) q) by
                rw [HE.out]
                conv => lhs; unfold frL
                rw [if_pos hdom])
              clear HE hdom
              go_wp2_with fail
              refine HD1.out.mono ?_
              rintro e w2 ⟨rfl, hb2⟩
              have hW2 := hW.more hb2
              clear hW hb2 hG0 hc' hbs'
              go_wp2
              go_roundw
              case rel => exact ⟨i + 1, q, by omega, by go_num, hW2, hfq, HE2⟩
              case measure => simp [intOf]; omega
          · obtain rfl : i = n' := by omega
            have HE2 := Lib.hid (show Z = (true, (q.1, put q.2 v)) by
              rw [HE.out, HN.out, List.drop_length]
              rfl)
            have hW5 := Lib.hid (hW.putD hD hdo hgD hvD (show v < 10 by omega))
            obtain ⟨hcell, hfree⟩ := hW.done.cell (show v < 10 by omega)
            generalize q.2 v = cb at hcell
            clear hW HE
            go_wp2
            go_ret
            exact ⟨by rw [HE2.out]; rfl, by rw [HE2.out]; exact hW5.out⟩
      · have HR := Lib.hid (show freF G (f + 1) v p = (true, p) by unfold freF; rw [if_pos (.inr e2), e2])
        rw [e1] at hs0
        rw [e2] at hq0
        clear e1 e2
        go_enter Try.func52, Try.ntmps52
        go_wp2
        go_ret
        exact ⟨by rw [HR.out]; rfl, by rw [HR.out]; exact hW⟩
    · have HR := Lib.hid (show freF G (f + 1) v p = (p.2 v, p) by unfold freF; rw [if_pos (.inl e1)])
      rw [e1] at hs0
      generalize p.2 v = cb at hq0 HR
      clear e1
      go_enter Try.func52, Try.ntmps52
      go_wp2
      go_ret
      exact ⟨by rw [HR.out]; rfl, by rw [HR.out]; exact hW⟩
end
end Go.Proofs.Ytchkckflpmepkaa
