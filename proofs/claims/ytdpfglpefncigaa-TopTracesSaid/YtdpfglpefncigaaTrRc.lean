/-
  Decode of package trace, at every bytes.
-/
import Derived.Test.YtdpfglpefncigaaTrRb
namespace Go.Proofs.Ytdpfglpefncigaa
open Go.RowKit

theorem own_but {w w' : World} {base e s k R : Nat} {v : Value} {xs : List Value} (h : w.ownsRow base e s v k xs) (hne : v.ownBlock ≠ some R) (hb : ∀ P, P ≠ R → w'.heap[P]? = w.heap[P]?) : w'.ownsRow base e s v k xs := by
  refine ⟨h.1, ?_⟩
  rcases h.2 with ⟨rfl, h0⟩ | ⟨g, cap, cur, rfl, hg, hh, r⟩
  · exact .inl ⟨rfl, h0⟩
  · refine .inr ⟨g, cap, cur, rfl, hg, (hb g ?_).trans hh, r⟩
    intro e
    subst e
    exact hne rfl
theorem news5 {W : World} {B : Nat} {a b c d e : Value} {t : TypeId} {fr : Nat × Nat} (h : W.heap[B]? = some (.cells #[a, b, c, d, e] t fr)) : ∀ j u, [a, b, c, d, e][j]? = some u → W.cell? ((⟨B, 0, none⟩ : Addr).add j) = some u := by
  obtain ⟨h0, h1, h2, h3, h4⟩ := cells5 h
  intro j u hj
  match j, hj with
  | 0, hj => simp at hj; subst hj; exact h0
  | 1, hj => simp at hj; subst hj; exact h1
  | 2, hj => simp at hj; subst hj; exact h2
  | 3, hj => simp at hj; subst hj; exact h3
  | 4, hj => simp at hj; subst hj; exact h4
  | n + 5, hj => simp at hj
/-- What five numbers' block holds when some are read. -/
def fiveA (s : RdS) (m : Nat) : Array Value :=
  #[.int .i64 (if 0 < m then (num s : Int) else 0), .int .i64 (if 1 < m then (num (stN 1 s) : Int) else 0), .int .i64 (if 2 < m then (num (stN 2 s) : Int) else 0), .int .i64 (if 3 < m then (num (stN 3 s) : Int) else 0), .int .i64 (if 4 < m then (num (stN 4 s) : Int) else 0)]
/-- What a reader's block and its bytes are. -/
def Reads (D R : Nat) (s : RdS) (w : World) : Prop := ∃ v, w.heap[R]? = some (.cells #[v, .bool s.2] 78 (0, 0)) ∧ BytesAt w D v s.1
theorem next_st {D R : Nat} (hD : D ≤ R) {s : RdS} {w : World} (h : Reads D R s w) :
    Calls Try.prog 52 #[.pointer (some ⟨R, 0, none⟩)] w fun e w' => e = .returned (.int .i64 (num s : Int)) ∧ But R w w' ∧ Reads D R (nxt s) w' := by
  obtain ⟨v, h1, h2⟩ := h
  refine (next_any D R hD v s.1 s.2 w h1 h2).mono ?_
  rintro e w' ⟨rfl, hb, v', h1', h2'⟩
  exact ⟨rfl, hb, v', h1', h2'⟩
set_option maxRecDepth 100000 in
set_option maxHeartbeats 8000000 in
theorem decode_any (v : Value) (l : List Nat) (w : World) (hv : BytesAt w w.heap.size v l) :
    Calls Try.prog 27 #[v] w fun e w' => Below w.heap.size w w' ∧ match decP l with
      | none => e = .returned (.tuple #[.slice none 0 0, .int .i64 2])
      | some ps => ∃ v', e = .returned (.tuple #[v', .int .i64 0]) ∧ w'.ownsRow w.heap.size 33 5 v' ps.length (placesV ps) := by
  obtain ⟨i0, hi, hz0, hz1, hz2⟩ := info_parts infoPl
  obtain ⟨A0, c0, rfl⟩ := hv.form
  have HV := Lib.hid hv
  clear hv
  obtain ⟨Q, hQ⟩ : ∃ Q, Q = decP l := ⟨_, rfl⟩
  rw [← hQ]
  have HQ := Lib.hid hQ
  clear hQ
  go_enter Try.func27, Try.ntmps27
  go_wp2_with fail
  have hR : Reads w.heap.size w.heap.size (l, false) (w.alloc (.cells #[.slice A0 l.length c0, .bool false] 78)) := ⟨_, heap_alloc_new w _, HV.out.below ((Below.refl _ _).alloc (Nat.le_refl _) _)⟩
  have hb1 : Below w.heap.size w (w.alloc (.cells #[.slice A0 l.length c0, .bool false] 78)) := (Below.refl _ _).alloc (Nat.le_refl _) _
  generalize World.alloc w _ = W1 at hR hb1 ⊢
  refine (next_st (Nat.le_refl _) hR).mono ?_
  rintro e w2 ⟨rfl, hbut, hR2⟩
  have hb2 := hb1.trans hbut.below
  clear hR hb1 hbut
  obtain ⟨s1, hs1⟩ : ∃ s1, s1 = nxt (l, false) := ⟨_, rfl⟩
  obtain ⟨c, hc⟩ : ∃ c, c = num (l, false) := ⟨_, rfl⟩
  rw [← hs1] at hR2
  rw [← hc]
  have HS1 := Lib.hid hs1
  have HC := Lib.hid hc
  clear hs1 hc
  obtain ⟨v2, h2, h3⟩ := hR2
  obtain ⟨c0', c1', -, -⟩ := cells2 h2
  have H2 := Lib.hid h2
  have H3 := Lib.hid h3
  clear h2 h3 c0'
  obtain ⟨l1, bad⟩ := s1
  simp only at c1'
  have hQ2 : decP l = if bad || decide (64 < c) then none else if (rowS (l1, bad) c).2 || decide (0 < (rowS (l1, bad) c).1.length) || decide (valF (rowsS (l1, bad) c) ≠ 0) then none else some (rowsS (l1, bad) c) := by
    show (if (nxt (l, false)).2 || decide (64 < num (l, false)) then none else if (rowS (nxt (l, false)) (num (l, false))).2 || decide (0 < (rowS (nxt (l, false)) (num (l, false))).1.length) || decide (valF (rowsS (nxt (l, false)) (num (l, false))) ≠ 0) then none else some (rowsS (nxt (l, false)) (num (l, false)))) = _
    rw [← HS1.out, ← HC.out]
  have HQ2 := Lib.hid (HQ.out.trans hQ2)
  clear hQ2
  have clt : c < 4398046511104 := by rw [HC.out]; exact num_lt _
  cases bad
  · by_cases h64 : 64 < c
    · have e : Q = none := by rw [HQ2.out]; simp [h64]
      subst e
      have d64 : decide (64 < c) = true := by simp [h64]
      go_wp2
      refine bodyPost_ret (results_tmp2 rfl _ _ _) rfl ?_
      exact ⟨hb2, rfl⟩
    · have d64 : decide (64 < c) = false := by simp [h64]
      have h0 : w2.ownsRow w.heap.size 33 5 (.slice none 0 0) 0 (placesV (rowsS (l1, false) 0)) := World.ownsRow_nil _ _ _ _
      have hR0 : Reads w.heap.size w.heap.size (rowS (l1, false) 0) w2 := ⟨v2, H2.out, H3.out⟩
      clear H2 H3
      have H0 := Lib.hid h0
      have HR0 := Lib.hid hR0
      clear h0 hR0
      obtain ⟨s, hs⟩ : ∃ s : RdS, s = (l1, false) := ⟨_, rfl⟩
      rw [← hs] at H0 HR0 HQ2
      clear hs
      go_wp2
      clear c1'
      go_loopw [6, 7, 24] (fun vl zf zi wr => ∃ i : Nat, i ≤ c ∧ zi = .int .i64 (i : Int) ∧ zf = .int .i64 (fromS s i : Int) ∧ Reads w.heap.size w.heap.size (rowS s i) wr ∧ wr.ownsRow w.heap.size 33 5 vl i (placesV (rowsS s i)) ∧ Below w.heap.size w wr) (fun _ _ zi _ => c - (intOf zi).toNat)
      case atStart => exact ⟨0, by omega, rfl, rfl, HR0.out, H0.out, hb2⟩
      case round =>
        clear hb2 H0 HR0
        obtain ⟨i, hi', rfl, rfl, hRd, hown, hb⟩ := hrel
        by_cases hlt : i < c
        · have flt := fromS_lt s i
          obtain ⟨f, hf⟩ : ∃ f, f = fromS s i := ⟨_, rfl⟩
          rw [← hf] at flt ⊢
          have HF := Lib.hid hf
          clear hf
          go_wp2
          have hNR : wr.heap.size ≠ w.heap.size := by
            obtain ⟨_, h, _⟩ := hRd
            have := lt_of_block h
            omega
          have hNR2 : w.heap.size ≤ wr.heap.size := hb.size
          obtain ⟨S, hS⟩ : ∃ S, S = rowS s i := ⟨_, rfl⟩
          have HSS := Lib.hid hS
          have hRd1 : Reads w.heap.size w.heap.size (stN 0 S) (wr.alloc (.cells #[.int .i64 0, .int .i64 0, .int .i64 0, .int .i64 0, .int .i64 0] 74)) := by
            obtain ⟨v, h1, h2⟩ := hRd
            rw [hS]
            exact ⟨v, (heap_alloc_old wr _ (lt_of_block h1)).trans h1, h2.below ((Below.refl _ _).alloc hb.size _)⟩
          have hN1 : (wr.alloc (.cells #[.int .i64 0, .int .i64 0, .int .i64 0, .int .i64 0, .int .i64 0] 74)).heap[wr.heap.size]? = some (.cells (fiveA S 0) 74 (0, 0)) := heap_alloc_new wr _
          have hown1 := hown.alloc (.cells #[.int .i64 0, .int .i64 0, .int .i64 0, .int .i64 0, .int .i64 0] 74)
          have hb1 : Below w.heap.size w (wr.alloc (.cells #[.int .i64 0, .int .i64 0, .int .i64 0, .int .i64 0, .int .i64 0] 74)) := hb.alloc hb.size _
          clear hS hRd hown hb
          generalize wr.heap.size = N at hN1 hNR hNR2 ⊢
          generalize World.alloc wr _ = W5 at hRd1 hN1 hown1 hb1 ⊢
          go_loopw [26] (fun z wr => ∃ m : Nat, m ≤ 5 ∧ z = .int .i64 (m : Int) ∧ wr.heap[N]? = some (.cells (fiveA S m) 74 (0, 0)) ∧ Reads w.heap.size w.heap.size (stN m S) wr ∧ wr.ownsRow w.heap.size 33 5 u6 i (placesV (rowsS s i)) ∧ Below w.heap.size w wr) (fun z _ => 5 - (intOf z).toNat)
          case atStart => exact ⟨0, by omega, rfl, hN1, hRd1, hown1, hb1⟩
          case round =>
            clear hRd1 hN1 hown1 hb1
            obtain ⟨m, hm, rfl, hN, hRd, hown, hb⟩ := hrel
            have hm6 : m = 0 ∨ m = 1 ∨ m = 2 ∨ m = 3 ∨ m = 4 ∨ m = 5 := by omega
            clear hm
            rcases hm6 with rfl | rfl | rfl | rfl | rfl | rfl
            · rw [show (((0 : Nat)) : Int) = 0 from rfl]
              have HRd := Lib.hid hRd
              have HN := Lib.hid hN
              have HO := Lib.hid hown
              clear hRd hN hown
              go_wp2_with fail
              refine (next_st (Nat.le_refl _) HRd.out).mono ?_
              rintro e w6 ⟨rfl, hbut, hRd6⟩
              have hN6 := (hbut.block N hNR).trans HN.out
              have cN : w6.cell? ⟨N, 0, none⟩ = some (.int .i64 0) := by simp [World.cell?, hN6, fiveA]
              have fN : w6.frozen? ⟨N, 0, none⟩ = false := by simp [World.frozen?, hN6]
              have HK := Lib.hid (show Reads w.heap.size w.heap.size (stN 1 S) (w6.setCell ⟨N, 0, none⟩ (.int .i64 (num (stN 0 S)))) ∧ (w6.setCell ⟨N, 0, none⟩ (.int .i64 (num (stN 0 S)))).heap[N]? = some (.cells (fiveA S 1) 74 (0, 0)) ∧ (w6.setCell ⟨N, 0, none⟩ (.int .i64 (num (stN 0 S)))).ownsRow w.heap.size 33 5 u6 i (placesV (rowsS s i)) ∧ Below w.heap.size w (w6.setCell ⟨N, 0, none⟩ (.int .i64 (num (stN 0 S)))) by
                obtain ⟨v6, h1, h2⟩ := hRd6
                obtain ⟨v5, h0, _⟩ := HRd.out
                have ho := own_but HO.out (own_ne HO.out h0 (by decide)) hbut.block
                refine ⟨⟨v6, (heap_setCell_other w6 ⟨N, 0, none⟩ _ _ hNR.symm).trans h1, h2.below ((Below.refl _ _).setCell hNR2 _)⟩, (heap_setCell_same w6 N 0 _ _ _ hN6).trans rfl, ownsRow_setCell_other ho (own_ne ho hN6 (by decide)) _, ((hb.trans hbut.below).setCell hNR2 _)⟩)
              clear hRd6 hN6 hbut HRd HN HO hb
              obtain ⟨xm, hxm⟩ : ∃ xm, xm = num (stN 0 S) := ⟨_, rfl⟩
              rw [← hxm] at HK ⊢
              have HXM := Lib.hid hxm
              clear hxm
              go_wp2
              go_roundw
              case rel => exact ⟨1, by omega, by go_num, HK.out.2.1, HK.out.1, HK.out.2.2.1, HK.out.2.2.2⟩
              case measure => simp [intOf]
            · rw [show (((1 : Nat)) : Int) = 1 from rfl]
              have HRd := Lib.hid hRd
              have HN := Lib.hid hN
              have HO := Lib.hid hown
              clear hRd hN hown
              go_wp2_with fail
              refine (next_st (Nat.le_refl _) HRd.out).mono ?_
              rintro e w6 ⟨rfl, hbut, hRd6⟩
              have hN6 := (hbut.block N hNR).trans HN.out
              have cN : w6.cell? ⟨N, 1, none⟩ = some (.int .i64 0) := by simp [World.cell?, hN6, fiveA]
              have fN : w6.frozen? ⟨N, 1, none⟩ = false := by simp [World.frozen?, hN6]
              have HK := Lib.hid (show Reads w.heap.size w.heap.size (stN 2 S) (w6.setCell ⟨N, 1, none⟩ (.int .i64 (num (stN 1 S)))) ∧ (w6.setCell ⟨N, 1, none⟩ (.int .i64 (num (stN 1 S)))).heap[N]? = some (.cells (fiveA S 2) 74 (0, 0)) ∧ (w6.setCell ⟨N, 1, none⟩ (.int .i64 (num (stN 1 S)))).ownsRow w.heap.size 33 5 u6 i (placesV (rowsS s i)) ∧ Below w.heap.size w (w6.setCell ⟨N, 1, none⟩ (.int .i64 (num (stN 1 S)))) by
                obtain ⟨v6, h1, h2⟩ := hRd6
                obtain ⟨v5, h0, _⟩ := HRd.out
                have ho := own_but HO.out (own_ne HO.out h0 (by decide)) hbut.block
                refine ⟨⟨v6, (heap_setCell_other w6 ⟨N, 1, none⟩ _ _ hNR.symm).trans h1, h2.below ((Below.refl _ _).setCell hNR2 _)⟩, (heap_setCell_same w6 N 1 _ _ _ hN6).trans rfl, ownsRow_setCell_other ho (own_ne ho hN6 (by decide)) _, ((hb.trans hbut.below).setCell hNR2 _)⟩)
              clear hRd6 hN6 hbut HRd HN HO hb
              obtain ⟨xm, hxm⟩ : ∃ xm, xm = num (stN 1 S) := ⟨_, rfl⟩
              rw [← hxm] at HK ⊢
              have HXM := Lib.hid hxm
              clear hxm
              go_wp2
              go_roundw
              case rel => exact ⟨2, by omega, by go_num, HK.out.2.1, HK.out.1, HK.out.2.2.1, HK.out.2.2.2⟩
              case measure => simp [intOf]
            · rw [show (((2 : Nat)) : Int) = 2 from rfl]
              have HRd := Lib.hid hRd
              have HN := Lib.hid hN
              have HO := Lib.hid hown
              clear hRd hN hown
              go_wp2_with fail
              refine (next_st (Nat.le_refl _) HRd.out).mono ?_
              rintro e w6 ⟨rfl, hbut, hRd6⟩
              have hN6 := (hbut.block N hNR).trans HN.out
              have cN : w6.cell? ⟨N, 2, none⟩ = some (.int .i64 0) := by simp [World.cell?, hN6, fiveA]
              have fN : w6.frozen? ⟨N, 2, none⟩ = false := by simp [World.frozen?, hN6]
              have HK := Lib.hid (show Reads w.heap.size w.heap.size (stN 3 S) (w6.setCell ⟨N, 2, none⟩ (.int .i64 (num (stN 2 S)))) ∧ (w6.setCell ⟨N, 2, none⟩ (.int .i64 (num (stN 2 S)))).heap[N]? = some (.cells (fiveA S 3) 74 (0, 0)) ∧ (w6.setCell ⟨N, 2, none⟩ (.int .i64 (num (stN 2 S)))).ownsRow w.heap.size 33 5 u6 i (placesV (rowsS s i)) ∧ Below w.heap.size w (w6.setCell ⟨N, 2, none⟩ (.int .i64 (num (stN 2 S)))) by
                obtain ⟨v6, h1, h2⟩ := hRd6
                obtain ⟨v5, h0, _⟩ := HRd.out
                have ho := own_but HO.out (own_ne HO.out h0 (by decide)) hbut.block
                refine ⟨⟨v6, (heap_setCell_other w6 ⟨N, 2, none⟩ _ _ hNR.symm).trans h1, h2.below ((Below.refl _ _).setCell hNR2 _)⟩, (heap_setCell_same w6 N 2 _ _ _ hN6).trans rfl, ownsRow_setCell_other ho (own_ne ho hN6 (by decide)) _, ((hb.trans hbut.below).setCell hNR2 _)⟩)
              clear hRd6 hN6 hbut HRd HN HO hb
              obtain ⟨xm, hxm⟩ : ∃ xm, xm = num (stN 2 S) := ⟨_, rfl⟩
              rw [← hxm] at HK ⊢
              have HXM := Lib.hid hxm
              clear hxm
              go_wp2
              go_roundw
              case rel => exact ⟨3, by omega, by go_num, HK.out.2.1, HK.out.1, HK.out.2.2.1, HK.out.2.2.2⟩
              case measure => simp [intOf]
            · rw [show (((3 : Nat)) : Int) = 3 from rfl]
              have HRd := Lib.hid hRd
              have HN := Lib.hid hN
              have HO := Lib.hid hown
              clear hRd hN hown
              go_wp2_with fail
              refine (next_st (Nat.le_refl _) HRd.out).mono ?_
              rintro e w6 ⟨rfl, hbut, hRd6⟩
              have hN6 := (hbut.block N hNR).trans HN.out
              have cN : w6.cell? ⟨N, 3, none⟩ = some (.int .i64 0) := by simp [World.cell?, hN6, fiveA]
              have fN : w6.frozen? ⟨N, 3, none⟩ = false := by simp [World.frozen?, hN6]
              have HK := Lib.hid (show Reads w.heap.size w.heap.size (stN 4 S) (w6.setCell ⟨N, 3, none⟩ (.int .i64 (num (stN 3 S)))) ∧ (w6.setCell ⟨N, 3, none⟩ (.int .i64 (num (stN 3 S)))).heap[N]? = some (.cells (fiveA S 4) 74 (0, 0)) ∧ (w6.setCell ⟨N, 3, none⟩ (.int .i64 (num (stN 3 S)))).ownsRow w.heap.size 33 5 u6 i (placesV (rowsS s i)) ∧ Below w.heap.size w (w6.setCell ⟨N, 3, none⟩ (.int .i64 (num (stN 3 S)))) by
                obtain ⟨v6, h1, h2⟩ := hRd6
                obtain ⟨v5, h0, _⟩ := HRd.out
                have ho := own_but HO.out (own_ne HO.out h0 (by decide)) hbut.block
                refine ⟨⟨v6, (heap_setCell_other w6 ⟨N, 3, none⟩ _ _ hNR.symm).trans h1, h2.below ((Below.refl _ _).setCell hNR2 _)⟩, (heap_setCell_same w6 N 3 _ _ _ hN6).trans rfl, ownsRow_setCell_other ho (own_ne ho hN6 (by decide)) _, ((hb.trans hbut.below).setCell hNR2 _)⟩)
              clear hRd6 hN6 hbut HRd HN HO hb
              obtain ⟨xm, hxm⟩ : ∃ xm, xm = num (stN 3 S) := ⟨_, rfl⟩
              rw [← hxm] at HK ⊢
              have HXM := Lib.hid hxm
              clear hxm
              go_wp2
              go_roundw
              case rel => exact ⟨4, by omega, by go_num, HK.out.2.1, HK.out.1, HK.out.2.2.1, HK.out.2.2.2⟩
              case measure => simp [intOf]
            · rw [show (((4 : Nat)) : Int) = 4 from rfl]
              have HRd := Lib.hid hRd
              have HN := Lib.hid hN
              have HO := Lib.hid hown
              clear hRd hN hown
              go_wp2_with fail
              refine (next_st (Nat.le_refl _) HRd.out).mono ?_
              rintro e w6 ⟨rfl, hbut, hRd6⟩
              have hN6 := (hbut.block N hNR).trans HN.out
              have cN : w6.cell? ⟨N, 4, none⟩ = some (.int .i64 0) := by simp [World.cell?, hN6, fiveA]
              have fN : w6.frozen? ⟨N, 4, none⟩ = false := by simp [World.frozen?, hN6]
              have HK := Lib.hid (show Reads w.heap.size w.heap.size (stN 5 S) (w6.setCell ⟨N, 4, none⟩ (.int .i64 (num (stN 4 S)))) ∧ (w6.setCell ⟨N, 4, none⟩ (.int .i64 (num (stN 4 S)))).heap[N]? = some (.cells (fiveA S 5) 74 (0, 0)) ∧ (w6.setCell ⟨N, 4, none⟩ (.int .i64 (num (stN 4 S)))).ownsRow w.heap.size 33 5 u6 i (placesV (rowsS s i)) ∧ Below w.heap.size w (w6.setCell ⟨N, 4, none⟩ (.int .i64 (num (stN 4 S)))) by
                obtain ⟨v6, h1, h2⟩ := hRd6
                obtain ⟨v5, h0, _⟩ := HRd.out
                have ho := own_but HO.out (own_ne HO.out h0 (by decide)) hbut.block
                refine ⟨⟨v6, (heap_setCell_other w6 ⟨N, 4, none⟩ _ _ hNR.symm).trans h1, h2.below ((Below.refl _ _).setCell hNR2 _)⟩, (heap_setCell_same w6 N 4 _ _ _ hN6).trans rfl, ownsRow_setCell_other ho (own_ne ho hN6 (by decide)) _, ((hb.trans hbut.below).setCell hNR2 _)⟩)
              clear hRd6 hN6 hbut HRd HN HO hb
              obtain ⟨xm, hxm⟩ : ∃ xm, xm = num (stN 4 S) := ⟨_, rfl⟩
              rw [← hxm] at HK ⊢
              have HXM := Lib.hid hxm
              clear hxm
              go_wp2
              go_roundw
              case rel => exact ⟨5, by omega, by go_num, HK.out.2.1, HK.out.1, HK.out.2.2.1, HK.out.2.2.2⟩
              case measure => simp [intOf]
            · rw [show (((5 : Nat)) : Int) = 5 from rfl]
              obtain ⟨x0, h0⟩ : ∃ x, x = num S := ⟨_, rfl⟩
              obtain ⟨x1, h1⟩ : ∃ x, x = num (stN 1 S) := ⟨_, rfl⟩
              obtain ⟨x2, h2⟩ : ∃ x, x = num (stN 2 S) := ⟨_, rfl⟩
              obtain ⟨x3, h3⟩ : ∃ x, x = num (stN 3 S) := ⟨_, rfl⟩
              obtain ⟨x4, h4⟩ : ∃ x, x = num (stN 4 S) := ⟨_, rfl⟩
              have hN : wr.heap[N]? = some (.cells #[.int .i64 x0, .int .i64 x1, .int .i64 x2, .int .i64 x3, .int .i64 x4] 74 (0, 0)) := by rw [h0, h1, h2, h3, h4]; exact hN
              have hrow : placesV (rowsS s i) ++ [.int .i64 ((f : Int) + x0), .int .i64 ((f : Int) + x0 + x1), .int .i64 (x2 : Int), .int .i64 (x3 : Int), .int .i64 (x4 : Int)] = placesV (rowsS s (i + 1)) := by
                rw [rowsS_succ, placesV_append]
                congr 1
                show _ = encP (rowOf s i) ++ []
                unfold rowOf encP
                rw [← HSS.out, show fromS s (i + 1) = f + x0 by unfold fromS; rw [← HSS.out, ← HF.out, h0], ← h1, ← h2, ← h3, ← h4]
                simp
              have hfr : fromS s (i + 1) = f + x0 := by unfold fromS; rw [← HSS.out, ← HF.out, h0]
              have b0 : x0 < 4398046511104 := by rw [h0]; exact num_lt _
              have b1 : x1 < 4398046511104 := by rw [h1]; exact num_lt _
              have HROW := Lib.hid hrow
              have HFR := Lib.hid hfr
              have HRd := Lib.hid hRd
              clear h0 h1 h2 h3 h4 hrow hfr hRd
              obtain ⟨d0, d1, d2, d3, d4⟩ := cells5 hN
              clear hN
              go_wp2_with (at_builtin; refine wpList_append_own _ rfl _ _ 22 rfl w.heap.size 33 i0 (.agg #[.int .i64 0, .int .i64 0, .int .i64 0, .int .i64 0, .int .i64 0]) 5 40 Try.underlying22 hi hz0 hz1 hz2 rfl (by decide) _ i _ rfl (hown.alloc _) ⟨wr.heap.size, 0, none⟩ 1 1 [.int .i64 ((f : Int) + x0), .int .i64 ((f : Int) + x0 + x1), .int .i64 (x2 : Int), .int .i64 (x3 : Int), .int .i64 (x4 : Int)] rfl rfl ?c1 ?c2 ?c3 ?c4 ?c5 ?_)
              case c1 => exact news5 (heap_alloc_new wr _)
              case c2 => intro u hu; simp at hu; rcases hu with rfl | rfl | rfl | rfl | rfl <;> rfl
              case c3 => unfold maxLen; omega
              case c4 => omega
              case c5 => have := hb.size; simp; omega
              intro v2' w7 hown7 hgrow _
              have HK := Lib.hid (show Reads w.heap.size w.heap.size (stN 5 S) w7 ∧ Below w.heap.size w w7 by
                obtain ⟨v, h1, h2⟩ := HRd.out
                have e1 := (heap_alloc_old wr (.cells #[.int .i64 ((f : Int) + x0), .int .i64 ((f : Int) + x0 + x1), .int .i64 (x2 : Int), .int .i64 (x3 : Int), .int .i64 (x4 : Int)] 33) (lt_of_block h1)).trans h1
                have hs : w.heap.size ≤ (wr.alloc (.cells #[.int .i64 ((f : Int) + x0), .int .i64 ((f : Int) + x0 + x1), .int .i64 (x2 : Int), .int .i64 (x3 : Int), .int .i64 (x4 : Int)] 33)).heap.size := by have := hb.size; simp; omega
                have e2 := own_base (hown.alloc (.cells #[.int .i64 ((f : Int) + x0), .int .i64 ((f : Int) + x0 + x1), .int .i64 (x2 : Int), .int .i64 (x3 : Int), .int .i64 (x4 : Int)] 33))
                exact ⟨⟨v, grown_block hgrow e1 (own_ne (hown.alloc (.cells #[.int .i64 ((f : Int) + x0), .int .i64 ((f : Int) + x0 + x1), .int .i64 (x2 : Int), .int .i64 (x3 : Int), .int .i64 (x4 : Int)] 33)) e1 (by decide)), h2.below (((Below.refl _ _).alloc hb.size _).grown hgrow hs e2)⟩, (hb.alloc hb.size _).grown hgrow hs e2⟩)
              rw [HROW.out] at hown7
              have HO := Lib.hid hown7
              clear hown7 hgrow hown hb HRd d0 d1 d2 d3 d4
              go_wp2
              go_roundw
              case rel => exact ⟨i + 1, by omega, by go_num, by rw [HFR.out]; go_num, by show Reads _ _ (stN 5 (rowS s i)) _; rw [← HSS.out]; exact HK.out.1, HO.out, HK.out.2⟩
              case measure => simp [intOf]; omega
        · obtain rfl : i = c := by omega
          have HVal : ∀ W, Below wr.heap.size wr W → Calls Try.prog 18 #[u6] W fun e w' => e = .returned (.int .i64 (valF (rowsS s i))) ∧ Below W.heap.size W w' := by
            intro W hbW
            have ho := own_below hown hbW
            have hl := rowsS_length s i
            rcases ho.2 with ⟨rfl, h0⟩ | ⟨g, cap, cur, rfl, hg, hh, hcap, hmax, _⟩
            · subst h0
              exact validate_empty none 0 W
            · rw [show Value.slice (some ⟨g, 0, none⟩) i cap = .slice (some ⟨g, 0, none⟩) (rowsS s i).length cap by rw [hl]] at ho ⊢
              have ho2 : W.ownsRow w.heap.size 33 5 (.slice (some ⟨g, 0, none⟩) (rowsS s i).length cap) (rowsS s i).length (placesV (rowsS s i)) := by rw [hl] at ho ⊢; exact ho
              exact validate_any g 0 (rowsS s i).length cap (rowsS s i) W (lies_own ho2) rfl (by omega) (by unfold maxLen at hmax; omega)
          have HVL := Lib.hid HVal
          obtain ⟨v3, h1, h2⟩ := hRd
          obtain ⟨c0', c1', -, -⟩ := cells2 h1
          obtain ⟨A3, c3, rfl⟩ := h2.form
          obtain ⟨T, hT⟩ : ∃ T, T = rowS s i := ⟨_, rfl⟩
          rw [← hT] at c0' c1' HQ2
          clear h1 h2 hT HVal
          obtain ⟨l3, bad3⟩ := T
          simp only at c0' c1'
          obtain ⟨X, hX⟩ : ∃ X, X = valF (rowsS s i) := ⟨_, rfl⟩
          rw [← hX] at HVL HQ2
          have HXX := Lib.hid hX
          have HO := Lib.hid hown
          clear hX hown
          cases bad3
          · by_cases hl3 : 0 < l3.length
            · have e : Q = none := by rw [HQ2.out]; simp [h64, hl3]
              subst e
              have dl : decide (0 < l3.length) = true := by simp [hl3]
              go_wp2
              refine bodyPost_ret (results_tmp2 rfl _ _ _) rfl ?_
              exact ⟨hb, rfl⟩
            · have e0 : l3.length = 0 := by omega
              rw [e0] at c0'
              have HQ3 := Lib.hid (show Q = if decide (X ≠ 0) then none else some (rowsS s i) by rw [HQ2.out]; simp [h64, e0])
              clear HQ2
              go_wp2_with fail
              refine (HVL.out wr (Below.refl _ _)).mono ?_
              rintro e w3 ⟨rfl, hb3⟩
              have HO3 := Lib.hid (own_below HO.out hb3)
              have hb4 := hb.trans (hb3.mono hb.size)
              clear hb3
              by_cases hX0 : X = 0
              · have e : Q = some (rowsS s i) := by rw [HQ3.out]; simp [hX0]
                subst e hX0
                go_wp2
                refine bodyPost_ret (results_tmp2 rfl _ _ _) rfl ?_
                refine ⟨hb4, u6, rfl, ?_⟩
                rw [rowsS_length]
                exact HO3.out
              · have e : Q = none := by rw [HQ3.out]; simp [hX0]
                subst e
                go_wp2
                refine bodyPost_ret (results_tmp2 rfl _ _ _) rfl ?_
                exact ⟨hb4, rfl⟩
          · have e : Q = none := by rw [HQ2.out]; simp
            subst e
            go_wp2
            refine bodyPost_ret (results_tmp2 rfl _ _ _) rfl ?_
            exact ⟨hb, rfl⟩
  · have e : Q = none := by rw [HQ2.out]; simp
    subst e
    go_wp2
    refine bodyPost_ret (results_tmp2 rfl _ _ _) rfl ?_
    exact ⟨hb2, rfl⟩
end Go.Proofs.Ytdpfglpefncigaa
