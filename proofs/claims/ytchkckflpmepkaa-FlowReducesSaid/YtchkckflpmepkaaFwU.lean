/-
  The closure of loop.
-/
import Derived.Test.YtchkckflpmepkaaFwT
namespace Go.Proofs.Ytchkckflpmepkaa
open Go.RowKit

/-- The blocks around the closure of loop. -/
structure LopW (w0 : World) (A : Option Addr) (n c : Nat) (S Q Gb V : Nat) (T s : NS) (w : World) : Prop where
  below : Below w0.heap.size w0 w
  in_ : SetB w S s
  seen : SetB w Q T
  graph : w.heap[Gb]? = some (.cells #[.slice A n c] 22 (0, 0))
  visit : w.heap[V]? = some (.cells #[fnV 64 #[ptr S, ptr Q, ptr Gb, ptr V]] 60 (0, 0))
def lvU (G : List (List Nat)) (T : NS) (f : Nat) (s : NS) (l : List Nat) (i : Nat) : NS := (l.take i).foldl (fun s u => lvF G T f u s) s
theorem lvU_succ {G : List (List Nat)} {T : NS} {f : Nat} {s : NS} {l : List Nat} {i : Nat} (h : i < l.length) : lvU G T f s l (i + 1) = lvF G T f l[i]! (lvU G T f s l i) := by
  unfold lvU
  rw [take_succ h, List.foldl_append]
  rfl
theorem lv_stop {G : List (List Nat)} {T : NS} {f v : Nat} {s : NS} (h : s v = true ∨ T v = false) : lvF G T (f + 1) v s = s := by
  unfold lvF
  rw [if_pos h]
theorem lv_go {G : List (List Nat)} {T : NS} {f v : Nat} {s : NS} (h : ¬ (s v = true ∨ T v = false)) : lvF G T (f + 1) v s = lvU G T f (put s v) (befL G v) (befL G v).length := by
  conv => lhs; unfold lvF
  rw [if_neg h]
  unfold lvU
  rw [List.take_length]
theorem Nats.keep {S : Nat} {w w' : World} {A : Option Addr} {n c : Nat} {l : List Nat} (h : Nats w A n c l) (hS : ∀ b off, A = some ⟨b, off, none⟩ → b ≠ S) (hk : KeepS S w w') : Nats w' A n c l := by
  obtain ⟨h1, h2, h3, h4 | ⟨b, off, h4, h5, h6⟩⟩ := h
  · exact ⟨h1, h2, h3, .inl h4⟩
  · refine ⟨h1, h2, h3, .inr ⟨b, off, h4, Nat.lt_of_lt_of_le h5 hk.size, fun j hj => ?_⟩⟩
    rw [World.cell?_of_block (w := w) (hk.block b h5 (hS b off h4))]
    exact h6 j hj
section
variable {w0 : World} {A : Option Addr} {n c : Nat} {G : List (List Nat)} {S Q Gb V : Nat} {T s : NS} {w : World}
theorem LopW.put (h : LopW w0 A n c S Q Gb V T s w) (hS : w0.heap.size ≤ S) (hq : Q ≠ S) (hg : Gb ≠ S) (hv : V ≠ S) {v : Nat} (hv10 : v < 10) : LopW w0 A n c S Q Gb V T (put s v) (w.setCell ⟨S, v, none⟩ (.bool true)) :=
  ⟨h.below.setCell (p := ⟨S, v, none⟩) hS _, h.in_.put hv10, h.seen.ne hq, (heap_setCell_other w ⟨S, v, none⟩ Gb _ hg).trans h.graph, (heap_setCell_other w ⟨S, v, none⟩ V _ hv).trans h.visit⟩
theorem LopW.more (h : LopW w0 A n c S Q Gb V T s w) {w' : World} (hb : Below w.heap.size w w') : LopW w0 A n c S Q Gb V T s w' :=
  ⟨h.below.trans (hb.mono h.below.size), h.in_.below hb, h.seen.below hb, (hb.block _ (lt_of_block h.graph)).trans h.graph, (hb.block _ (lt_of_block h.visit)).trans h.visit⟩
set_option maxRecDepth 100000 in
set_option maxHeartbeats 8000000 in
theorem loopVisit_any (hG : okG G) (h0 : MG w0 A n c G) (hS : w0.heap.size ≤ S) (hq : Q ≠ S) (hg : Gb ≠ S) (hvS : V ≠ S) :
    ∀ (f v : Nat) (s : NS) (w : World), v < n → free s n < f → LopW w0 A n c S Q Gb V T s w →
      Calls Try.prog 64 #[.int .i64 (v : Int), ptr S, ptr Q, ptr Gb, ptr V] w fun e w' => e = .returned (.tuple #[]) ∧ KeepS S w w' ∧ LopW w0 A n c S Q Gb V T (lvF G T f v s) w'
  | 0, _, _, _, _, h, _ => absurd h (by omega)
  | f + 1, v, s, w, hvn, hf, hW => by
    have hn10 : n ≤ 10 := by rw [h0.1]; exact hG.2.1
    have hcap := h0.2.1
    have hmax := h0.2.2.1
    obtain ⟨hs0, hs1⟩ := hW.in_.cell (show v < 10 by omega)
    obtain ⟨hq0, -⟩ := hW.seen.cell (show v < 10 by omega)
    cases e1 : s v
    · rw [e1] at hs0
      cases e2 : T v
      · have HR := Lib.hid (show LopW w0 A n c S Q Gb V T (lvF G T (f + 1) v s) w by rw [lv_stop (.inr e2)]; exact hW)
        rw [e2] at hq0
        clear e1 hW e2
        go_enter Try.func64, Try.ntmps64
        go_wp2
        exact bodyPost_ret (by simp [results, Try.results64, go_sem]) rfl ⟨rfl, KeepS.refl _ _, HR.out⟩
      · rw [e2] at hq0
        have HF := Lib.hid (lv_go (G := G) (T := T) (f := f) (v := v) (s := s) (by rw [e1, e2]; simp))
        have hfr := free_put e1 n hvn
        have hW1 := hW.put hS hq hg hvS (show v < 10 by omega)
        have hK1 := (KeepS.refl S w).set v (.bool true)
        have hfl : ∀ q, q < (befL G v).length → (befL G v)[q]! < n := fun q hq => by
          rw [h0.1]
          exact befS_lt (mem_setL.1 (at_get hq)).2
        have hmono : ∀ i, free (lvU G T f (put s v) (befL G v) i) n < f := fun i => Nat.lt_of_le_of_lt (free_mono (fun j hj => lvfold_mono f j _ _ hj) n) (by omega)
        have IH := Lib.hid (loopVisit_any hG h0 hS hq hg hvS f)
        have HB := Lib.hid (fun w1 (hb : Below w0.heap.size w0 w1) => before_any hG (h0.below hb) v)
        have HL := Lib.hid (fun w1 => list_any (befS G v) w1)
        have HQ := Lib.hid hfl
        have HM := Lib.hid hmono
        have hl10 := setL_le (befS G v) 10
        have HSU := Lib.hid (fun i (hi : i < (befL G v).length) => lvU_succ (G := G) (T := T) (f := f) (s := put s v) hi)
        rw [show setL (befS G v) 10 = befL G v from rfl] at HL hl10
        generalize lvF G T (f + 1) v s = R at HF ⊢
        have hU0 : lvU G T f (put s v) (befL G v) 0 = put s v := rfl
        generalize lvU G T f (put s v) (befL G v) = U at HF HM HSU hU0
        have HU0 := Lib.hid hU0
        generalize put s v = s1 at hW1 HU0
        generalize befL G v = L at HF HQ HL hl10 HSU
        clear hW e1 e2 hfl hmono hfr hf
        go_enter Try.func64, Try.ntmps64
        go_upto_region 2 with fail
        generalize World.setCell w _ _ = W1 at hW1 hK1 ⊢
        clear hs0 hs1 hq0
        have hG0 := cell_of_one hW1.graph
        go_wp2_with fail
        refine (HB.out W1 hW1.below).mono ?_
        rintro e w2 ⟨rfl, hb2⟩
        have hW2 := hW1.more hb2
        have hK2 := hK1.trans (KeepS.of_below hb2)
        clear hW1 hK1 hb2 hG0
        go_wp2_with fail
        refine (HL.out w2).mono ?_
        rintro e w3 ⟨vL, rfl, hown, hb3⟩
        have hW3 := hW2.more hb3
        have hK3 := hK2.trans (KeepS.of_below hb3)
        have hne : ∀ b, vL.ownBlock = some b → b ≠ S := fun b hb => by
          have h1 := own_base hown b hb
          have h2 := lt_of_block hW2.in_
          omega
        obtain ⟨AL, cL, rfl, hNL⟩ := own_nats hown
        have hne2 : ∀ b off, AL = some ⟨b, off, none⟩ → b ≠ S := fun b off hb => hne b (by rw [hb]; rfl)
        have hcL := hNL.2.1
        have hmL := hNL.2.2.1
        have HNE := Lib.hid hne2
        have hNL := Lib.hid hNL
        clear hown hW2 hK2 hb3 hne hne2
        go_wp2
        go_loopw [24] (fun zi wr => ∃ i : Nat, i ≤ L.length ∧ zi = .int .i64 (i : Int) ∧ KeepS S w wr ∧ LopW w0 A n c S Q Gb V T (U i) wr ∧ Hid (Nats wr AL L.length cL L)) (fun zi _ => L.length - (intOf zi).toNat)
        case atStart => exact ⟨0, by omega, rfl, hK3, by rw [HU0.out]; exact hW3, hNL⟩
        case round =>
          clear hK3 hW3 hNL
          obtain ⟨i, hi, rfl, hK, hW, hNL⟩ := hrel
          by_cases hlt : i < L.length
          · obtain ⟨b', off', rfl, hbs', hc'⟩ := hNL.out.at_ hlt
            have HC := Lib.hid (IH.out _ _ wr (HQ.out i hlt) (HM.out i) hW)
            have HU := Lib.hid (HSU.out i hlt)
            rw [← HU.out] at HC
            generalize L[i]! = u at hc' HC
            have hV0 := cell_of_one hW.visit
            clear HU hW
            go_wp2_with fail
            refine HC.out.mono ?_
            rintro e w4 ⟨rfl, hK4, hW4⟩
            have hK5 := hK.trans hK4
            have hNL5 := Lib.hid (hNL.out.keep HNE.out hK4)
            clear hK hK4 hNL hV0 hc' hbs'
            go_wp2
            go_roundw
            case rel => exact ⟨i + 1, by omega, by go_num, hK5, hW4, hNL5⟩
            case measure => simp [intOf]; omega
          · obtain rfl : i = L.length := by omega
            rw [← HF.out] at hW
            clear hNL
            go_wp2
            exact bodyPost_end (results_none rfl _ _ _) rfl ⟨rfl, hK, hW⟩
    · have HR := Lib.hid (show LopW w0 A n c S Q Gb V T (lvF G T (f + 1) v s) w by rw [lv_stop (.inl e1)]; exact hW)
      rw [e1] at hs0
      clear e1 hW hq0
      go_enter Try.func64, Try.ntmps64
      go_wp2
      exact bodyPost_ret (by simp [results, Try.results64, go_sem]) rfl ⟨rfl, KeepS.refl _ _, HR.out⟩
end
end Go.Proofs.Ytchkckflpmepkaa
