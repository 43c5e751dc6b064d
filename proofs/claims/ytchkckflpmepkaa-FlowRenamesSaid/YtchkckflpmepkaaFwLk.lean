/-
  Rename of the reference.
-/
import Derived.Test.YtchkckflpmepkaaFwLi
import Derived.Test.YtchkckflpmepkaaFwX
namespace Go.Proofs.Ytchkckflpmepkaa
open Go.RowKit

theorem drewD {B : Nat} {a w : World} (h : Below B a w) : Below B a w.drew := ⟨h.os, h.tape, h.output, h.size, h.block⟩
theorem KeepS.then {I : Nat} {a b c : World} (h : KeepS I a b) (h2 : Below a.heap.size b c) : KeepS I a c := ⟨h2.os.trans h.os, h2.tape.trans h.tape, h2.output.trans h.output, Nat.le_trans h.size h2.size, fun k hk hn => (h2.block k hk).trans (h.block k hk hn)⟩
theorem Ints.keep {w w' : World} {A : Option Addr} {n c B : Nat} {l : List Int} (h : Ints w A n c l) (hq : ∀ q off, A = some ⟨q, off, none⟩ → q ≠ B) (hK : KeepS B w w') : Ints w' A n c l := by
  obtain ⟨h1, h2, h3, h4 | ⟨b, off, h4, h5, h6⟩⟩ := h
  · exact ⟨h1, h2, h3, .inl h4⟩
  · refine ⟨h1, h2, h3, .inr ⟨b, off, h4, Nat.lt_of_lt_of_le h5 hK.size, fun j hj => ?_⟩⟩
    rw [← h6 j hj]
    simp only [World.cell?, hK.block b h5 (hq b off h4)]
/-- The rows while they are filled: those not met are nil. -/
def RowsN (w : World) (B n : Nat) (u : NS) (r : Nat → List Int) (arr : Array Value) : Prop := w.heap[B]? = some (.cells arr 25 (0, 0)) ∧ arr.size = n ∧ (∀ j, j < n → ∃ A' n' c', arr[j]? = some (.slice A' n' c') ∧ Ints w A' n' c' (r j) ∧ ∀ q off, A' = some ⟨q, off, none⟩ → q ≠ B) ∧ ∀ j, j < n → u j = false → arr[j]? = some (.slice none 0 0)
theorem RowsN.rows {w : World} {B n : Nat} {u : NS} {r : Nat → List Int} {arr : Array Value} (h : RowsN w B n u r arr) : RowsB w B n r := ⟨arr, h.1, h.2.1, h.2.2.1⟩
theorem RowsN.done {w w' : World} {B n D m : Nat} {u : NS} {r t : Nat → List Int} {arr : Array Value} {vl : Value} {l : List Int} (h : RowsN w B n u r arr) (hB : w'.heap[B]? = some (.cells (arr.setIfInBounds D vl) 25 (0, 0))) (hown : w'.ownsRow w.heap.size 3 1 vl m (iV l)) (hK : KeepS B w w') (ht : ∀ j, j < n → t j = if j = D then l else r j) : RowsN w' B n (put u D) t (arr.setIfInBounds D vl) := by
  have hlt := lt_of_block h.1
  obtain ⟨h1, h2, h3, h4⟩ := h
  refine ⟨hB, by simpa using h2, fun j hj => ?_, fun j hj hu => ?_⟩
  · rw [ht j hj, Array.getElem?_setIfInBounds]
    by_cases hD : j = D
    · subst hD
      obtain ⟨A, c, rfl, hI, hq⟩ := own_ints hown
      exact ⟨A, m, c, by simp [h2, hj], by rw [if_pos rfl]; exact hI, fun q off e => by have := hq q off e; omega⟩
    · rw [if_neg (fun e => hD e.symm), if_neg hD]
      obtain ⟨A', n', c', h5, h6, h7⟩ := h3 j hj
      exact ⟨A', n', c', h5, h6.keep h7 hK, h7⟩
  · by_cases hD : j = D
    · subst hD
      rw [put_same] at hu
      cases hu
    · rw [put_ne hD] at hu
      rw [Array.getElem?_setIfInBounds, if_neg (fun e => hD e.symm)]
      exact h4 j hj hu
theorem RowsN.made {w : World} {B n : Nat} (h : w.heap[B]? = some (.cells (madeCells #[.slice none 0 0] n) 25 (0, 0))) (u : NS) : RowsN w B n u (fun _ => []) (madeCells #[.slice none 0 0] n) :=
  ⟨h, size_madeCells _ _, fun j hj => ⟨none, 0, 0, by simp [madeCells, hj, Nat.mod_one], ⟨rfl, Nat.le_refl _, by omega, .inl rfl⟩, fun _ _ e => by cases e⟩, fun j hj _ => by simp [madeCells, hj, Nat.mod_one]⟩
theorem RowsN.congr {w : World} {B n : Nat} {u u' : NS} {r t : Nat → List Int} {arr : Array Value} (h : RowsN w B n u r arr) (e : ∀ j, j < n → u j = u' j) (e' : ∀ j, j < n → r j = t j) : RowsN w B n u' t arr := by
  obtain ⟨h1, h2, h3, h4⟩ := h
  exact ⟨h1, h2, fun j hj => by rw [← e' j hj]; exact h3 j hj, fun j hj hu => h4 j hj (by rw [e j hj]; exact hu)⟩
theorem good_range {g : List (List Int)} {to : List Int} {i : Nat} (h : to[i]! < 0 ∨ (g.length : Int) ≤ to[i]!) : ¬ goodTo g to i := fun hg => by
  have := of_decide_eq_true hg.1
  omega
section
variable {w : World} {A : Option Addr} {n c : Nat} {g : List (List Int)}
set_option maxRecDepth 100000 in
set_option maxHeartbeats 8000000 in
theorem refRename_any (h : RG w A n c g) {T : Option Addr} {m k : Nat} {to : List Int} (ht : Ints w T m k to) : Calls Try.prog 39 #[.slice A n c, .slice T m k] w fun e w' => ∃ v, e = .returned (.tuple #[v, .int .i64 (errR g to)]) ∧ RGV w' v (resRn g to) ∧ Below w.heap.size w w' := by
  have HV := Lib.hid (refValidate_any h)
  by_cases hv : valF g = 0
  · obtain ⟨i0, hi, hz0, hz1, hz2⟩ := info_parts infoI
    obtain ⟨i1, ki, kz0, kz1, kz2⟩ := info_parts infoL
    obtain ⟨i2, li, lz0, lz1, lz2⟩ := info_parts infoB
    rw [hv] at HV
    have HBAD := Lib.hid (fun hp => ren_bad (to := to) hv hp)
    have hcap := h.2.1
    have hmax := h.2.2.1
    have hcapT := ht.2.1
    have hmaxT := ht.2.2.1
    obtain ⟨h1, h10, -, hin⟩ := val_zero hv
    have hn := h.1
    have hm := ht.1
    by_cases hlen : m = n
    · obtain rfl : n = m := hlen.symm
      obtain ⟨bT, oT, rfl, hbT, hcT⟩ := ht.at_ (j := 0) (by omega)
      by_cases h0 : to[0]! = 0
      · rw [h0, Nat.add_zero] at hcT
        have HNT := Lib.hid (fun q (hq : q < n) hb => good_not (g := g) (to := to) (i := q) hb (by rw [← hm]; exact hq))
        have HALL := Lib.hid (fun (hh : ∀ q, q < n → goodTo g to q) => per_iff.2 ⟨by rw [← hm, ← hn], h0, fun i hi => hh i (by rw [hm]; exact hi)⟩)
        have HT := Lib.hid ht
        have HG := Lib.hid h
        have HN := Lib.hid hn
        have n10 : n ≤ 10 := by omega
        have n1 : 1 ≤ n := by omega
        have HIN := Lib.hid (show ∀ v, v < n → ∀ q, q < g[v]!.length → ∃ p : Nat, g[v]![q]! = (p : Int) ∧ p < n from fun v hv' q hq => by
          have := hin v (by omega) q hq
          exact ⟨g[v]![q]!.toNat, by omega, by omega⟩)
        have HGOOD := Lib.hid (fun hp => ren_good (g := g) (to := to) hv hp)
        have HL2 := Lib.hid (show ∀ v, v < n → g[v]!.length ≤ 10 from fun v hv' => by
          have := (val_zero hv).2.2.1 v (by omega)
          omega)
        clear h ht hn hm h1 h10 hin hv h0
        go_enter Try.func39, Try.ntmps39
        go_wp2_with fail
        refine HV.out.mono ?_
        rintro e w1 ⟨rfl, rfl⟩
        clear HV
        go_upto_region 7 with (refine wpList_make_row _ rfl _ _ 22 rfl 25 i1 (.slice none 0 0) Try.underlying22 ki kz0 kz1 rfl .i64 .i64 n rfl rfl (by rw [kz2]; omega) (by omega) ?_)
        have hb1 : Below w.heap.size w (w.alloc (.cells (madeCells #[.slice none 0 0] n) 25)) := (Below.refl _ _).alloc (Nat.le_refl _) _
        have hR := heap_alloc_new w (.cells (madeCells #[.slice none 0 0] n) 25)
        have hz : (w.alloc (.cells (madeCells #[.slice none 0 0] n) 25)).heap.size = w.heap.size + 1 := by simp
        have hE := Lib.hid hcT
        clear hcT
        generalize World.alloc w _ = W1 at hb1 hR hz ⊢
        go_upto_region 8 with (refine wpList_make_row _ rfl _ _ 56 rfl 4 i2 (.bool false) Try.underlying56 li lz0 lz1 rfl .i64 .i64 n rfl rfl (by rw [lz2]; omega) (by omega) ?_)
        replace hR := (heap_alloc_old W1 (.cells (madeCells #[.bool false] n) 4) (lt_of_block hR)).trans hR
        replace hb1 := hb1.alloc hb1.size (.cells (madeCells #[.bool false] n) 4)
        have hS := BoolB.made W1 n
        rw [hz] at hS
        generalize World.alloc W1 _ = W2 at hb1 hR hS ⊢
        clear hz hE
        go_wp2
        go_loopw [9] (fun zi wr => ∃ i : Nat, i ≤ n ∧ zi = .int .i64 (i : Int) ∧ Below w.heap.size w wr ∧ wr.heap[w.heap.size]? = some (.cells (madeCells #[.slice none 0 0] n) 25 (0, 0)) ∧ BoolB wr (w.heap.size + 1) n (ranU to i) ∧ Hid (∀ q, q < i → goodTo g to q)) (fun zi _ => n - (intOf zi).toNat)
        case atStart => exact ⟨0, by omega, rfl, hb1, hR, hS.congr (fun j _ => (ranU_zero (to := to) j).symm), Lib.hid fun q hq => absurd hq (by omega)⟩
        case round =>
          clear hb1 hR hS
          obtain ⟨i, hi', rfl, hb, hR, hS, HJ⟩ := hrel
          by_cases hlt : i < n
          · obtain ⟨b', o', q1, hbT', hcT⟩ := (HT.out.below hb).at_ hlt
            injection q1 with q1
            injection q1 with q1 q2 _
            subst q1 q2
            have HB := Lib.hid (fun hb => HBAD.out (HNT.out i hlt hb))
            have HGR := Lib.hid (fun hh => good_range (g := g) (to := to) (i := i) hh)
            have HGN := Lib.hid (fun p (hp : to[i]! = ((p : Nat) : Int)) hs => good_seen (g := g) (i := i) hp hs)
            have HGW := Lib.hid (fun p (hp : to[i]! = ((p : Nat) : Int)) hn' hs => good_new (g := g) (i := i) hp hn' hs)
            have HPU := Lib.hid (fun p (hp : to[i]! = ((p : Nat) : Int)) => ranU_put (k := i) hp)
            have HJ2 := Lib.hid (show goodTo g to i → ∀ q, q < i + 1 → goodTo g to q from fun h q hq => by
              by_cases hqi : q = i
              · rw [hqi]; exact h
              · exact HJ.out q (by omega))
            by_cases z0 : to[i]! < 0
            · have HE := Lib.hid (HB.out (HGR.out (.inl z0)))
              have d0 : decide (to[i]! < 0) = true := decide_eq_true z0
              generalize to[i]! = z at hcT d0
              clear HGR HB HGN HGW HPU HJ2 hS hR z0
              go_wp2
              exact bodyPost_ret (results_tmp2 rfl _ _ _) rfl ⟨_, ret_t HE.out.1, rgv_nil HE.out.2, hb⟩
            · by_cases z1 : (n : Int) ≤ to[i]!
              · have HE := Lib.hid (HB.out (HGR.out (.inr (by rw [← HN.out]; exact z1))))
                have d0 : decide (to[i]! < 0) = false := decide_eq_false z0
                have d1 : decide ((n : Int) ≤ to[i]!) = true := decide_eq_true z1
                generalize to[i]! = z at hcT d0 d1
                clear HGR HB HGN HGW HPU HJ2 hS hR z0 z1
                go_wp2
                exact bodyPost_ret (results_tmp2 rfl _ _ _) rfl ⟨_, ret_t HE.out.1, rgv_nil HE.out.2, hb⟩
              · obtain ⟨p, hp⟩ : ∃ p : Nat, to[i]! = (p : Int) := ⟨to[i]!.toNat, by omega⟩
                have hpn : p < n := by omega
                have HND := Lib.hid (show nodeB to[i]! g.length = true by rw [← HN.out]; exact decide_eq_true (by omega))
                rw [hp] at hcT z0 z1
                have d0 : decide ((p : Int) < 0) = false := decide_eq_false z0
                have d1 : decide ((n : Int) ≤ (p : Int)) = false := decide_eq_false z1
                obtain ⟨hcell, hfree⟩ := hS.cell hpn
                cases hs : ranU to i p
                · have HJ3 := Lib.hid (HJ2.out (HGW.out p hp HND.out hs))
                  have hS2 := (hS.put p).congr (fun j _ => HPU.out p hp j)
                  have hb2 := hb.setCell (p := ⟨w.heap.size + 1, p, none⟩) (show w.heap.size ≤ w.heap.size + 1 by omega) (.bool true)
                  have hR2 := (heap_setCell_other wr ⟨w.heap.size + 1, p, none⟩ w.heap.size (.bool true) (by simp)).trans hR
                  rw [hs] at hcell
                  clear HGR HB HGN HGW HPU HJ2 hS hR hb hp hs z0 z1 HND
                  go_wp2
                  go_roundw
                  case rel => exact ⟨i + 1, by omega, by go_num, hb2, hR2, hS2, HJ3⟩
                  case measure => simp [intOf]; omega
                · have HE := Lib.hid (HB.out (HGN.out p hp hs))
                  rw [hs] at hcell
                  clear HGR HB HGN HGW HPU HJ2 hS hR hp hs z0 z1 HND
                  go_wp2
                  exact bodyPost_ret (results_tmp2 rfl _ _ _) rfl ⟨_, ret_t HE.out.1, rgv_nil HE.out.2, hb⟩
          · obtain rfl : i = n := by omega
            have HP := Lib.hid (HALL.out HJ.out)
            have HD := Lib.hid (HGOOD.out HP.out)
            have HU := Lib.hid (fun v (hv : v < i) => node_nat (HJ.out v hv).1)
            have HUN := Lib.hid (fun v (hv : v < i) => (HJ.out v hv).2)
            have hRN := RowsN.made hR (ranU to 0)
            clear HALL HJ HNT HBAD HGOOD hS hR hi' hlt
            go_wp2
            go_loopw [10] (fun zv wv => ∃ (v : Nat) (arr : Array Value), v ≤ i ∧ zv = .int .i64 (v : Int) ∧ Below w.heap.size w wv ∧ RowsN wv w.heap.size i (ranU to v) (rnP g to v) arr) (fun zv _ => i - (intOf zv).toNat)
            case atStart => exact ⟨0, _, by omega, rfl, hb, hRN.congr (fun _ _ => rfl) (fun j _ => rfl)⟩
            case round =>
              clear hb hRN
              obtain ⟨v, arr, hv', rfl, hb, hR⟩ := hrel
              rename World => wv
              by_cases hvl : v < i
              · obtain ⟨b, off, A', n', c', rfl, hbs, hc, hr⟩ := HG.out.at_ hvl
                obtain ⟨bT', oT', q1, hbT2, hcT⟩ := HT.out.at_ hvl
                injection q1 with q1
                injection q1 with q1 q2 _
                subst q1 q2
                obtain ⟨D, hD, hDn⟩ := HU.out v hvl
                have HDD := Lib.hid hD
                have hRD : ranU to v D = false := Bool.eq_false_iff.2 fun hh => by
                  obtain ⟨q, h1, h2⟩ := ranU_iff.1 hh
                  exact HUN.out v hvl q h1 (h2.trans hD.symm)
                rw [hD] at hcT
                rw [← HN.out] at hDn
                have HRS := Lib.hid (fun j => rnP_succ HP.out (k := v) (by rw [← HN.out]; exact hvl) hD j)
                have HRU := Lib.hid (fun j => ranU_put (k := v) hD j)
                have hr1 := hr.1
                have hr10 := HL2.out v hvl
                rw [← hr1] at hr10
                have hcap' := hr.2.1
                have hmax' := hr.2.2.1
                have HR := Lib.hid hr
                have HR1 := Lib.hid hr1
                obtain ⟨Z, hZ⟩ : ∃ Z, Z = renR g to v := ⟨_, rfl⟩
                have HZ := Lib.hid hZ
                have HZL := Lib.hid (show Z.length = n' by rw [hZ, renR_len, hr1])
                rw [← hZ] at HRS
                have HB2 := Lib.hid hb
                have HRW := Lib.hid hR
                have HCT := Lib.hid hcT
                have HCG := Lib.hid hc
                have hA0 : arr.setIfInBounds D (.slice none 0 0) = arr := by
                  have h5 := hR.2.2.2 D hDn hRD
                  apply Array.ext_getElem?
                  intro j
                  rw [Array.getElem?_setIfInBounds]
                  split
                  · rename_i e
                    subst e
                    rw [if_pos (by rw [hR.2.1]; exact hDn), h5]
                  · rfl
                have hst : wv.heap[w.heap.size]? = some (.cells (arr.setIfInBounds D (.slice none 0 0)) 25 (0, 0)) := by
                  rw [hA0]
                  exact hR.1
                have hsz : arr.size = i := hR.2.1
                clear hr hr1 hD hZ hcT hR hRD hA0
                go_wp2
                go_loopw [11] (fun zq wq => ∃ (q : Nat) (vl : Value), q ≤ n' ∧ zq = .int .i64 (q : Int) ∧ wq.heap[w.heap.size]? = some (.cells (arr.setIfInBounds D vl) 25 (0, 0)) ∧ wq.ownsRow wv.heap.size 3 1 vl q (iV (Z.take q)) ∧ KeepS w.heap.size wv wq) (fun zq _ => n' - (intOf zq).toNat)
                case atStart => exact ⟨0, _, by omega, rfl, hst, World.ownsRow_nil _ _ _ _, KeepS.refl _ _⟩
                case round =>
                  clear hb hst hc
                  obtain ⟨q, vl, hq, rfl, hst, hown, hK⟩ := hrel
                  have hlB := lt_of_block HRW.out.1
                  have hbw : Below w.heap.size w wr := HB2.out.trans (hK.below (Nat.le_refl _) HB2.out.size)
                  have hcX := (hbw.cell (p := ⟨b, off + v, none⟩) hbs).trans HCG.out
                  by_cases hql : q < n'
                  · obtain ⟨b', off', rfl, hbs', hc'⟩ := HR.out.at_ hql
                    obtain ⟨p, hp, hpn⟩ := HIN.out v hvl q (by rw [← HR1.out]; exact hql)
                    rw [hp] at hc'
                    obtain ⟨bT', oT', q1, hbT3, hcY⟩ := HT.out.at_ hpn
                    injection q1 with q1
                    injection q1 with q1 q2 _
                    subst q1 q2
                    have HSZ := Lib.hid (show Z.take (q + 1) = Z.take q ++ [to[p]!] by
                      rw [HZ.out]
                      exact renR_take (by rw [← HR1.out]; exact hql) hp)
                    generalize to[p]! = y at hcY HSZ
                    have hwz := HB2.out.size
                    have hws : w.heap.size ≤ wv.heap.size := HB2.out.size
                    obtain ⟨hcD, hfD⟩ : wr.cell? ⟨w.heap.size, D, none⟩ = some vl ∧ wr.frozen? ⟨w.heap.size, D, none⟩ = false := by
                      refine ⟨?_, by simp [World.frozen?, hst]⟩
                      simp only [World.cell?, hst]
                      simp [hsz, hDn]
                    have HS := Lib.hid (show ∀ W, Below w.heap.size wr W → W.cell? ⟨bT, oT + v, none⟩ = some (.int .i64 (D : Int)) ∧ W.cell? ⟨b, off + v, none⟩ = some (.slice (some ⟨b', off', none⟩) n' c') ∧ W.cell? ⟨b', off' + q, none⟩ = some (.int .i64 (p : Int)) ∧ W.cell? ⟨bT, oT + p, none⟩ = some (.int .i64 y) from fun W h => by
                      refine ⟨?_, ?_, ?_, ?_⟩
                      · exact (h.cell (p := ⟨bT, oT + v, none⟩) (by assumption)).trans ((hbw.cell (p := ⟨bT, oT + v, none⟩) hbT).trans HCT.out)
                      · exact (h.cell (p := ⟨b, off + v, none⟩) (by assumption)).trans hcX
                      · exact (h.cell (p := ⟨b', off' + q, none⟩) (by assumption)).trans ((hbw.cell (p := ⟨b', off' + q, none⟩) hbs').trans hc')
                      · exact (h.cell (p := ⟨bT, oT + p, none⟩) (by assumption)).trans ((hbw.cell (p := ⟨bT, oT + p, none⟩) hbT).trans hcY))
                    go_wp2
                    have hownA := hown.alloc (.cells #[.int .i64 y] 3)
                    have hbA : Below wv.heap.size wr (wr.alloc (.cells #[.int .i64 y] 3)) := (Below.refl _ _).alloc hK.size _
                    have hcDA := (hbA.cell (p := ⟨w.heap.size, D, none⟩) (show w.heap.size < _ by omega)).trans hcD
                    refine wp_region_held_drew (S := (fun W => W.cell? ⟨bT, oT + v, none⟩ = some (.int .i64 (D : Int)) ∧ W.cell? ⟨b, off + v, none⟩ = some (.slice (some ⟨b', off', none⟩) n' c') ∧ W.cell? ⟨b', off' + q, none⟩ = some (.int .i64 (p : Int)) ∧ W.cell? ⟨bT, oT + p, none⟩ = some (.int .i64 y))) (by kernel_rfl) ?_ (fun hHeld => ?_)
                    · exact HS.out _ (drewR (Below.refl _ _))
                    refine wpAnyH_take (i := 0) (oi := ({ dst := some 84, op := Op.move (Operand.tmp 7), type := 22, pos := "ref.go:330", after := #[], guard := none } : Oper)) (v := ?av0) rfl (by kernel_rfl) (by kernel_rfl) (by kernel_rfl) (fun _ _ _ h => h) (Or.inl ⟨by rfl, ?ay0⟩) (by assumption) ?ar0
                    case ay0 =>
                      intro w hSw
                      (try dsimp only at hSw)
                      go_simp
                      (try with_reducible rfl)
                    try simp only [Act.put, List.setIfInBounds_toArray, List.set_cons_zero, List.set_cons_succ]
                    refine wpAnyH_take (i := 1) (oi := ({ dst := some 85, op := Op.move (Operand.tmp 1), type := 25, pos := "ref.go:330", after := #[], guard := none } : Oper)) (v := ?av1) rfl (by kernel_rfl) (by kernel_rfl) (by kernel_rfl) (fun _ _ _ h => h) (Or.inl ⟨by rfl, ?ay1⟩) (by assumption) ?ar1
                    case ay1 =>
                      intro w hSw
                      (try dsimp only at hSw)
                      go_simp
                      (try with_reducible rfl)
                    try simp only [Act.put, List.setIfInBounds_toArray, List.set_cons_zero, List.set_cons_succ]
                    refine wpAnyH_take (i := 2) (oi := ({ dst := some 86, op := Op.move (Operand.tmp 10), type := 3, pos := "ref.go:330", after := #[], guard := none } : Oper)) (v := ?av2) rfl (by kernel_rfl) (by kernel_rfl) (by kernel_rfl) (fun _ _ _ h => h) (Or.inl ⟨by rfl, ?ay2⟩) (by assumption) ?ar2
                    case ay2 =>
                      intro w hSw
                      (try dsimp only at hSw)
                      go_simp
                      (try with_reducible rfl)
                    try simp only [Act.put, List.setIfInBounds_toArray, List.set_cons_zero, List.set_cons_succ]
                    refine wpAnyH_take (i := 3) (oi := ({ dst := some 87, op := Op.indexAddr 25 (Operand.tmp 85) (Operand.tmp 86), type := 0, pos := "ref.go:330", after := #[{ on := 1, ground := Ground.data }, { on := 2, ground := Ground.data }], guard := none } : Oper)) (v := ?av3) rfl (by kernel_rfl) (by kernel_rfl) (by kernel_rfl) (fun _ _ _ h => h) (Or.inl ⟨by rfl, ?ay3⟩) (by assumption) ?ar3
                    case ay3 =>
                      intro w hSw
                      (try dsimp only at hSw)
                      go_simp
                      (try with_reducible rfl)
                    try simp only [Act.put, List.setIfInBounds_toArray, List.set_cons_zero, List.set_cons_succ]
                    refine wpAnyH_take (i := 4) (oi := ({ dst := some 88, op := Op.load 3 (Operand.tmp 87), type := 3, pos := "ref.go:330", after := #[{ on := 3, ground := Ground.data }], guard := none } : Oper)) (v := ?av4) rfl (by kernel_rfl) (by kernel_rfl) (by kernel_rfl) (fun _ _ _ h => h) (Or.inl ⟨by rfl, ?ay4⟩) (by assumption) ?ar4
                    case ay4 =>
                      intro w hSw
                      (try dsimp only at hSw)
                      go_simp
                      (try with_reducible rfl)
                    try simp only [Act.put, List.setIfInBounds_toArray, List.set_cons_zero, List.set_cons_succ]
                    refine wpAnyH_take (i := 5) (oi := ({ dst := some 89, op := Op.move (Operand.tmp 7), type := 22, pos := "ref.go:330", after := #[], guard := none } : Oper)) (v := ?av5) rfl (by kernel_rfl) (by kernel_rfl) (by kernel_rfl) (fun _ _ _ h => h) (Or.inl ⟨by rfl, ?ay5⟩) (by assumption) ?ar5
                    case ay5 =>
                      intro w hSw
                      (try dsimp only at hSw)
                      go_simp
                      (try with_reducible rfl)
                    try simp only [Act.put, List.setIfInBounds_toArray, List.set_cons_zero, List.set_cons_succ]
                    refine wpAnyH_take (i := 6) (oi := ({ dst := some 90, op := Op.move (Operand.tmp 1), type := 25, pos := "ref.go:330", after := #[], guard := none } : Oper)) (v := ?av6) rfl (by kernel_rfl) (by kernel_rfl) (by kernel_rfl) (fun _ _ _ h => h) (Or.inl ⟨by rfl, ?ay6⟩) (by assumption) ?ar6
                    case ay6 =>
                      intro w hSw
                      (try dsimp only at hSw)
                      go_simp
                      (try with_reducible rfl)
                    try simp only [Act.put, List.setIfInBounds_toArray, List.set_cons_zero, List.set_cons_succ]
                    refine wpAnyH_take (i := 7) (oi := ({ dst := some 91, op := Op.move (Operand.tmp 10), type := 3, pos := "ref.go:330", after := #[], guard := none } : Oper)) (v := ?av7) rfl (by kernel_rfl) (by kernel_rfl) (by kernel_rfl) (fun _ _ _ h => h) (Or.inl ⟨by rfl, ?ay7⟩) (by assumption) ?ar7
                    case ay7 =>
                      intro w hSw
                      (try dsimp only at hSw)
                      go_simp
                      (try with_reducible rfl)
                    try simp only [Act.put, List.setIfInBounds_toArray, List.set_cons_zero, List.set_cons_succ]
                    refine wpAnyH_take (i := 8) (oi := ({ dst := some 92, op := Op.indexAddr 25 (Operand.tmp 90) (Operand.tmp 91), type := 0, pos := "ref.go:330", after := #[{ on := 6, ground := Ground.data }, { on := 7, ground := Ground.data }], guard := none } : Oper)) (v := ?av8) rfl (by kernel_rfl) (by kernel_rfl) (by kernel_rfl) (fun _ _ _ h => h) (Or.inl ⟨by rfl, ?ay8⟩) (by assumption) ?ar8
                    case ay8 =>
                      intro w hSw
                      (try dsimp only at hSw)
                      go_simp
                      (try with_reducible rfl)
                    try simp only [Act.put, List.setIfInBounds_toArray, List.set_cons_zero, List.set_cons_succ]
                    refine wpAnyH_take (i := 9) (oi := ({ dst := some 93, op := Op.load 3 (Operand.tmp 92), type := 3, pos := "ref.go:330", after := #[{ on := 8, ground := Ground.data }], guard := none } : Oper)) (v := ?av9) rfl (by kernel_rfl) (by kernel_rfl) (by kernel_rfl) (fun _ _ _ h => h) (Or.inl ⟨by rfl, ?ay9⟩) (by assumption) ?ar9
                    case ay9 =>
                      intro w hSw
                      (try dsimp only at hSw)
                      go_simp
                      (try with_reducible rfl)
                    try simp only [Act.put, List.setIfInBounds_toArray, List.set_cons_zero, List.set_cons_succ]
                    refine wpAnyH_take (i := 10) (oi := ({ dst := some 94, op := Op.indexAddr 22 (Operand.tmp 89) (Operand.tmp 93), type := 0, pos := "ref.go:330", after := #[{ on := 5, ground := Ground.data }, { on := 9, ground := Ground.data }], guard := none } : Oper)) (v := ?av10) rfl (by kernel_rfl) (by kernel_rfl) (by kernel_rfl) (fun _ _ _ h => h) (Or.inl ⟨by rfl, ?ay10⟩) (by assumption) ?ar10
                    case ay10 =>
                      intro w hSw
                      (try dsimp only at hSw)
                      go_simp
                      (try with_reducible rfl)
                    try simp only [Act.put, List.setIfInBounds_toArray, List.set_cons_zero, List.set_cons_succ]
                    refine wpAnyH_take (i := 12) (oi := ({ dst := some 96, op := Op.move (Operand.tmp 1), type := 25, pos := "ref.go:330", after := #[], guard := none } : Oper)) (v := ?av12) rfl (by kernel_rfl) (by kernel_rfl) (by kernel_rfl) (fun _ _ _ h => h) (Or.inl ⟨by rfl, ?ay12⟩) (by assumption) ?ar12
                    case ay12 =>
                      intro w hSw
                      (try dsimp only at hSw)
                      go_simp
                      (try with_reducible rfl)
                    try simp only [Act.put, List.setIfInBounds_toArray, List.set_cons_zero, List.set_cons_succ]
                    refine wpAnyH_take (i := 13) (oi := ({ dst := some 97, op := Op.move (Operand.tmp 0), type := 22, pos := "ref.go:330", after := #[], guard := none } : Oper)) (v := ?av13) rfl (by kernel_rfl) (by kernel_rfl) (by kernel_rfl) (fun _ _ _ h => h) (Or.inl ⟨by rfl, ?ay13⟩) (by assumption) ?ar13
                    case ay13 =>
                      intro w hSw
                      (try dsimp only at hSw)
                      go_simp
                      (try with_reducible rfl)
                    try simp only [Act.put, List.setIfInBounds_toArray, List.set_cons_zero, List.set_cons_succ]
                    refine wpAnyH_take (i := 14) (oi := ({ dst := some 98, op := Op.move (Operand.tmp 10), type := 3, pos := "ref.go:330", after := #[], guard := none } : Oper)) (v := ?av14) rfl (by kernel_rfl) (by kernel_rfl) (by kernel_rfl) (fun _ _ _ h => h) (Or.inl ⟨by rfl, ?ay14⟩) (by assumption) ?ar14
                    case ay14 =>
                      intro w hSw
                      (try dsimp only at hSw)
                      go_simp
                      (try with_reducible rfl)
                    try simp only [Act.put, List.setIfInBounds_toArray, List.set_cons_zero, List.set_cons_succ]
                    refine wpAnyH_take (i := 15) (oi := ({ dst := some 99, op := Op.indexAddr 22 (Operand.tmp 97) (Operand.tmp 98), type := 0, pos := "ref.go:330", after := #[{ on := 13, ground := Ground.data }, { on := 14, ground := Ground.data }], guard := none } : Oper)) (v := ?av15) rfl (by kernel_rfl) (by kernel_rfl) (by kernel_rfl) (fun _ _ _ h => h) (Or.inl ⟨by rfl, ?ay15⟩) (by assumption) ?ar15
                    case ay15 =>
                      intro w hSw
                      (try dsimp only at hSw)
                      go_simp
                      (try with_reducible rfl)
                    try simp only [Act.put, List.setIfInBounds_toArray, List.set_cons_zero, List.set_cons_succ]
                    refine wpAnyH_take (i := 16) (oi := ({ dst := some 100, op := Op.load 25 (Operand.tmp 99), type := 25, pos := "ref.go:330", after := #[{ on := 15, ground := Ground.data }], guard := none } : Oper)) (v := ?av16) rfl (by kernel_rfl) (by kernel_rfl) (by kernel_rfl) (fun _ _ _ h => h) (Or.inl ⟨by rfl, ?ay16⟩) (by assumption) ?ar16
                    case ay16 =>
                      intro w hSw
                      (try dsimp only at hSw)
                      go_simp
                      (try with_reducible rfl)
                    try simp only [Act.put, List.setIfInBounds_toArray, List.set_cons_zero, List.set_cons_succ]
                    refine wpAnyH_take (i := 17) (oi := ({ dst := some 101, op := Op.move (Operand.tmp 11), type := 3, pos := "ref.go:330", after := #[], guard := none } : Oper)) (v := ?av17) rfl (by kernel_rfl) (by kernel_rfl) (by kernel_rfl) (fun _ _ _ h => h) (Or.inl ⟨by rfl, ?ay17⟩) (by assumption) ?ar17
                    case ay17 =>
                      intro w hSw
                      (try dsimp only at hSw)
                      go_simp
                      (try with_reducible rfl)
                    try simp only [Act.put, List.setIfInBounds_toArray, List.set_cons_zero, List.set_cons_succ]
                    refine wpAnyH_take (i := 18) (oi := ({ dst := some 102, op := Op.indexAddr 25 (Operand.tmp 100) (Operand.tmp 101), type := 0, pos := "ref.go:330", after := #[{ on := 16, ground := Ground.data }, { on := 17, ground := Ground.data }], guard := none } : Oper)) (v := ?av18) rfl (by kernel_rfl) (by kernel_rfl) (by kernel_rfl) (fun _ _ _ h => h) (Or.inl ⟨by rfl, ?ay18⟩) (by assumption) ?ar18
                    case ay18 =>
                      intro w hSw
                      (try dsimp only at hSw)
                      go_simp
                      (try with_reducible rfl)
                    try simp only [Act.put, List.setIfInBounds_toArray, List.set_cons_zero, List.set_cons_succ]
                    refine wpAnyH_take (i := 19) (oi := ({ dst := some 103, op := Op.load 3 (Operand.tmp 102), type := 3, pos := "ref.go:330", after := #[{ on := 18, ground := Ground.data }], guard := none } : Oper)) (v := ?av19) rfl (by kernel_rfl) (by kernel_rfl) (by kernel_rfl) (fun _ _ _ h => h) (Or.inl ⟨by rfl, ?ay19⟩) (by assumption) ?ar19
                    case ay19 =>
                      intro w hSw
                      (try dsimp only at hSw)
                      go_simp
                      (try with_reducible rfl)
                    try simp only [Act.put, List.setIfInBounds_toArray, List.set_cons_zero, List.set_cons_succ]
                    refine wpAnyH_take (i := 20) (oi := ({ dst := some 104, op := Op.indexAddr 25 (Operand.tmp 96) (Operand.tmp 103), type := 0, pos := "ref.go:330", after := #[{ on := 12, ground := Ground.data }, { on := 19, ground := Ground.data }], guard := none } : Oper)) (v := ?av20) rfl (by kernel_rfl) (by kernel_rfl) (by kernel_rfl) (fun _ _ _ h => h) (Or.inl ⟨by rfl, ?ay20⟩) (by assumption) ?ar20
                    case ay20 =>
                      intro w hSw
                      (try dsimp only at hSw)
                      go_simp
                      (try with_reducible rfl)
                    try simp only [Act.put, List.setIfInBounds_toArray, List.set_cons_zero, List.set_cons_succ]
                    refine wpAnyH_take (i := 21) (oi := ({ dst := some 105, op := Op.load 3 (Operand.tmp 104), type := 3, pos := "ref.go:330", after := #[{ on := 20, ground := Ground.data }], guard := none } : Oper)) (v := ?av21) rfl (by kernel_rfl) (by kernel_rfl) (by kernel_rfl) (fun _ _ _ h => h) (Or.inl ⟨by rfl, ?ay21⟩) (by assumption) ?ar21
                    case ay21 =>
                      intro w hSw
                      (try dsimp only at hSw)
                      go_simp
                      (try with_reducible rfl)
                    try simp only [Act.put, List.setIfInBounds_toArray, List.set_cons_zero, List.set_cons_succ]
                    refine wpAnyH_ready (rs := [11, 22]) (by kernel_rfl) (by simp) ?_
                    refine AllReadyH.cons (o := ({ dst := some 95, op := Op.load 25 (Operand.tmp 94), type := 25, pos := "ref.go:330", after := #[{ on := 10, ground := Ground.data }], guard := none } : Oper)) rfl (fun K hKK => ?eA) (AllReadyH.cons (o := ({ dst := some 106, op := Op.buildSlice 25 1 #[(0, Operand.tmp 105)], type := 25, pos := "ref.go:330", after := #[{ on := 21, ground := Ground.data }], guard := none } : Oper)) rfl (fun K hKK => ?eB) AllReadyH.nil)
                    case eA =>
                      go_simp
                      refine hKK.out _ _ (HS.out _ (by first | exact (Below.refl wv.heap.size wr).mono hws | exact (drewD (Below.refl wv.heap.size wr)).mono hws | exact (drewD (drewD (Below.refl wv.heap.size wr))).mono hws)) (fun hS11 => ?_)
                      try simp only [Act.put, List.setIfInBounds_toArray, List.set_cons_zero, List.set_cons_succ]
                      refine wpAnyH_ready (rs := [22]) (by kernel_rfl) (by simp) ?_
                      refine AllReadyH.cons (o := ({ dst := some 106, op := Op.buildSlice 25 1 #[(0, Operand.tmp 105)], type := 25, pos := "ref.go:330", after := #[{ on := 21, ground := Ground.data }], guard := none } : Oper)) rfl (fun K hKK => ?_) AllReadyH.nil
                      go_simp
                      refine hKK.out _ _ (HS.out _ (by first | exact hbA.mono hws | exact (drewD hbA).mono hws | exact (drewD (drewD hbA)).mono hws)) (fun hS22 => ?_)
                      try simp only [Act.put, List.setIfInBounds_toArray, List.set_cons_zero, List.set_cons_succ]
                      refine wpAnyH_ready (rs := [23]) (by kernel_rfl) (by simp) ?_
                      refine AllReadyH.cons (o := ({ dst := some 107, op := Op.call { callee := Callee.builtin Builtin.append, args := #[Operand.tmp 95, Operand.tmp 106], argTypes := #[25, 25] }, type := 25, pos := "ref.go:330", after := #[{ on := 11, ground := Ground.data }, { on := 22, ground := Ground.data }], guard := none } : Oper)) rfl (fun K hKK => ?_) AllReadyH.nil
                      rw [if_pos (by kernel_rfl)]
                      refine wp_append_own _ (.tmp 95) (.tmp 106) 25 rfl wv.heap.size 3 i0 (.int .i64 0) 1 8 Try.underlying25 hi hz0 hz1 hz2 rfl (by decide) vl q (iV (Z.take q)) rfl (hown.alloc (.cells #[.int .i64 y] 3)) ⟨wr.heap.size, 0, none⟩ 1 1 [.int .i64 y] rfl rfl (one_new wr _ _) ?k2 ?k3 ?k4 ?k5 ?_
                      case k2 => simp [Value.oneCell']
                      case k3 => unfold maxLen; omega
                      case k4 => omega
                      case k5 => first | exact Nat.le_trans hK.size (by simp) | (simp; have := hK.size; omega)
                      intro v2 w7 hown7 hgrow _
                      have hb7 : Below wv.heap.size wr w7 := by
                        refine Below.grown (by first | exact drewD hbA | exact drewD (drewD hbA)) hgrow ?_ (own_base hownA)
                        exact Nat.le_trans hK.size (by simp)
                      refine hKK.out _ _ (HS.out _ (hb7.mono hws)) (fun hS23 => ?_)
                      try simp only [Act.put, List.setIfInBounds_toArray, List.set_cons_zero, List.set_cons_succ]
                      have hst7 := (hb7.block _ hlB).trans hst
                      have hcD7 := (hb7.cell (p := ⟨w.heap.size, D, none⟩) hlB).trans hcD
                      have hfD7 : w7.frozen? ⟨w.heap.size, D, none⟩ = false := by simp [World.frozen?, hst7]
                      have HO8 := Lib.hid (show (w7.setCell ⟨w.heap.size, D, none⟩ v2).ownsRow wv.heap.size 3 1 v2 (q + 1) (iV (Z.take (q + 1))) by
                        rw [HSZ.out, iV_app]
                        exact ownsRow_setCell_other hown7 (a := ⟨w.heap.size, D, none⟩) (fun e => by have := own_base hown7 _ e; simp at this; omega) v2)
                      have HK8 := Lib.hid ((hK.then hb7).set D v2)
                      have HS8 := Lib.hid (show (w7.setCell ⟨w.heap.size, D, none⟩ v2).heap[w.heap.size]? = some (.cells (arr.setIfInBounds D v2) 25 (0, 0)) by rw [heap_setCell_same w7 w.heap.size D _ _ _ hst7, Array.setIfInBounds_setIfInBounds])
                      have hb8 := (hb7.mono hws).setCell (p := ⟨w.heap.size, D, none⟩) (Nat.le_refl _) v2
                      clear hown7 hgrow hst7
                      obtain ⟨A2, c2, rfl, -⟩ := own_ints HO8.out
                      refine wpAnyH_take (i := 24) (oi := ({ dst := some 108, op := Op.indexAddr 22 (Operand.tmp 84) (Operand.tmp 88), type := 0, pos := "ref.go:330", after := #[{ on := 0, ground := Ground.data }, { on := 4, ground := Ground.data }, { on := 0, ground := Ground.phase }, { on := 1, ground := Ground.phase }, { on := 2, ground := Ground.phase }, { on := 3, ground := Ground.phase }, { on := 4, ground := Ground.phase }, { on := 5, ground := Ground.phase }, { on := 6, ground := Ground.phase }, { on := 7, ground := Ground.phase }, { on := 8, ground := Ground.phase }, { on := 9, ground := Ground.phase }, { on := 10, ground := Ground.phase }, { on := 11, ground := Ground.phase }, { on := 12, ground := Ground.phase }, { on := 13, ground := Ground.phase }, { on := 14, ground := Ground.phase }, { on := 15, ground := Ground.phase }, { on := 16, ground := Ground.phase }, { on := 17, ground := Ground.phase }, { on := 18, ground := Ground.phase }, { on := 19, ground := Ground.phase }, { on := 20, ground := Ground.phase }, { on := 21, ground := Ground.phase }, { on := 22, ground := Ground.phase }, { on := 23, ground := Ground.phase }], guard := none } : Oper)) (v := ?pv24) rfl (by kernel_rfl) (by kernel_rfl) (by kernel_rfl) (fun _ _ _ h => h) (Or.inl ⟨by rfl, ?py24⟩) (by assumption) ?pr24
                      case py24 =>
                        intro w hSw
                        (try dsimp only at hSw)
                        go_simp
                        (try with_reducible rfl)
                      try simp only [Act.put, List.setIfInBounds_toArray, List.set_cons_zero, List.set_cons_succ]
                      refine wpAnyH_ready (rs := [25]) (by kernel_rfl) (by simp) ?_
                      refine AllReadyH.cons (o := ({ dst := none, op := Op.store 25 (Operand.tmp 108) (Operand.tmp 107), type := 0, pos := "ref.go:330", after := #[{ on := 24, ground := Ground.data }, { on := 23, ground := Ground.data }, { on := 23, ground := Ground.chain }, { on := 0, ground := Ground.phase }, { on := 1, ground := Ground.phase }, { on := 2, ground := Ground.phase }, { on := 3, ground := Ground.phase }, { on := 4, ground := Ground.phase }, { on := 5, ground := Ground.phase }, { on := 6, ground := Ground.phase }, { on := 7, ground := Ground.phase }, { on := 8, ground := Ground.phase }, { on := 9, ground := Ground.phase }, { on := 10, ground := Ground.phase }, { on := 11, ground := Ground.phase }, { on := 12, ground := Ground.phase }, { on := 13, ground := Ground.phase }, { on := 14, ground := Ground.phase }, { on := 15, ground := Ground.phase }, { on := 16, ground := Ground.phase }, { on := 17, ground := Ground.phase }, { on := 18, ground := Ground.phase }, { on := 19, ground := Ground.phase }, { on := 20, ground := Ground.phase }, { on := 21, ground := Ground.phase }, { on := 22, ground := Ground.phase }, { on := 23, ground := Ground.phase }], guard := none } : Oper)) rfl (fun K hKK => ?_) AllReadyH.nil
                      go_simp
                      refine hKK.out _ _ (HS.out _ (by first | exact hb8 | exact drewD hb8)) (fun hS25 => ?_)
                      try simp only [Act.put, List.setIfInBounds_toArray, List.set_cons_zero, List.set_cons_succ]
                      refine wpAnyH_done (by kernel_rfl) ?_ _
                      clear hcD7 hfD7 hb7 hst hown hK hcD hfD hcDA hownA hbA hbw hcX
                      go_wp2
                      go_roundw
                      case rel => exact ⟨q + 1, _, by omega, by go_num, HS8.out, HO8.out, HK8.out⟩
                      case measure => simp [intOf]; omega
                    case eB =>
                      go_simp
                      refine hKK.out _ _ (HS.out _ (by first | exact hbA.mono hws | exact (drewD hbA).mono hws | exact (drewD (drewD hbA)).mono hws)) (fun hS22 => ?_)
                      try simp only [Act.put, List.setIfInBounds_toArray, List.set_cons_zero, List.set_cons_succ]
                      refine wpAnyH_ready (rs := [11]) (by kernel_rfl) (by simp) ?_
                      refine AllReadyH.cons (o := ({ dst := some 95, op := Op.load 25 (Operand.tmp 94), type := 25, pos := "ref.go:330", after := #[{ on := 10, ground := Ground.data }], guard := none } : Oper)) rfl (fun K hKK => ?_) AllReadyH.nil
                      go_simp
                      refine hKK.out _ _ (HS.out _ (by first | exact hbA.mono hws | exact (drewD hbA).mono hws | exact (drewD (drewD hbA)).mono hws)) (fun hS11 => ?_)
                      try simp only [Act.put, List.setIfInBounds_toArray, List.set_cons_zero, List.set_cons_succ]
                      refine wpAnyH_ready (rs := [23]) (by kernel_rfl) (by simp) ?_
                      refine AllReadyH.cons (o := ({ dst := some 107, op := Op.call { callee := Callee.builtin Builtin.append, args := #[Operand.tmp 95, Operand.tmp 106], argTypes := #[25, 25] }, type := 25, pos := "ref.go:330", after := #[{ on := 11, ground := Ground.data }, { on := 22, ground := Ground.data }], guard := none } : Oper)) rfl (fun K hKK => ?_) AllReadyH.nil
                      rw [if_pos (by kernel_rfl)]
                      refine wp_append_own _ (.tmp 95) (.tmp 106) 25 rfl wv.heap.size 3 i0 (.int .i64 0) 1 8 Try.underlying25 hi hz0 hz1 hz2 rfl (by decide) vl q (iV (Z.take q)) rfl (hown.alloc (.cells #[.int .i64 y] 3)) ⟨wr.heap.size, 0, none⟩ 1 1 [.int .i64 y] rfl rfl (one_new wr _ _) ?k2 ?k3 ?k4 ?k5 ?_
                      case k2 => simp [Value.oneCell']
                      case k3 => unfold maxLen; omega
                      case k4 => omega
                      case k5 => first | exact Nat.le_trans hK.size (by simp) | (simp; have := hK.size; omega)
                      intro v2 w7 hown7 hgrow _
                      have hb7 : Below wv.heap.size wr w7 := by
                        refine Below.grown (by first | exact drewD hbA | exact drewD (drewD hbA)) hgrow ?_ (own_base hownA)
                        exact Nat.le_trans hK.size (by simp)
                      refine hKK.out _ _ (HS.out _ (hb7.mono hws)) (fun hS23 => ?_)
                      try simp only [Act.put, List.setIfInBounds_toArray, List.set_cons_zero, List.set_cons_succ]
                      have hst7 := (hb7.block _ hlB).trans hst
                      have hcD7 := (hb7.cell (p := ⟨w.heap.size, D, none⟩) hlB).trans hcD
                      have hfD7 : w7.frozen? ⟨w.heap.size, D, none⟩ = false := by simp [World.frozen?, hst7]
                      have HO8 := Lib.hid (show (w7.setCell ⟨w.heap.size, D, none⟩ v2).ownsRow wv.heap.size 3 1 v2 (q + 1) (iV (Z.take (q + 1))) by
                        rw [HSZ.out, iV_app]
                        exact ownsRow_setCell_other hown7 (a := ⟨w.heap.size, D, none⟩) (fun e => by have := own_base hown7 _ e; simp at this; omega) v2)
                      have HK8 := Lib.hid ((hK.then hb7).set D v2)
                      have HS8 := Lib.hid (show (w7.setCell ⟨w.heap.size, D, none⟩ v2).heap[w.heap.size]? = some (.cells (arr.setIfInBounds D v2) 25 (0, 0)) by rw [heap_setCell_same w7 w.heap.size D _ _ _ hst7, Array.setIfInBounds_setIfInBounds])
                      have hb8 := (hb7.mono hws).setCell (p := ⟨w.heap.size, D, none⟩) (Nat.le_refl _) v2
                      clear hown7 hgrow hst7
                      obtain ⟨A2, c2, rfl, -⟩ := own_ints HO8.out
                      refine wpAnyH_take (i := 24) (oi := ({ dst := some 108, op := Op.indexAddr 22 (Operand.tmp 84) (Operand.tmp 88), type := 0, pos := "ref.go:330", after := #[{ on := 0, ground := Ground.data }, { on := 4, ground := Ground.data }, { on := 0, ground := Ground.phase }, { on := 1, ground := Ground.phase }, { on := 2, ground := Ground.phase }, { on := 3, ground := Ground.phase }, { on := 4, ground := Ground.phase }, { on := 5, ground := Ground.phase }, { on := 6, ground := Ground.phase }, { on := 7, ground := Ground.phase }, { on := 8, ground := Ground.phase }, { on := 9, ground := Ground.phase }, { on := 10, ground := Ground.phase }, { on := 11, ground := Ground.phase }, { on := 12, ground := Ground.phase }, { on := 13, ground := Ground.phase }, { on := 14, ground := Ground.phase }, { on := 15, ground := Ground.phase }, { on := 16, ground := Ground.phase }, { on := 17, ground := Ground.phase }, { on := 18, ground := Ground.phase }, { on := 19, ground := Ground.phase }, { on := 20, ground := Ground.phase }, { on := 21, ground := Ground.phase }, { on := 22, ground := Ground.phase }, { on := 23, ground := Ground.phase }], guard := none } : Oper)) (v := ?qv24) rfl (by kernel_rfl) (by kernel_rfl) (by kernel_rfl) (fun _ _ _ h => h) (Or.inl ⟨by rfl, ?qy24⟩) (by assumption) ?qr24
                      case qy24 =>
                        intro w hSw
                        (try dsimp only at hSw)
                        go_simp
                        (try with_reducible rfl)
                      try simp only [Act.put, List.setIfInBounds_toArray, List.set_cons_zero, List.set_cons_succ]
                      refine wpAnyH_ready (rs := [25]) (by kernel_rfl) (by simp) ?_
                      refine AllReadyH.cons (o := ({ dst := none, op := Op.store 25 (Operand.tmp 108) (Operand.tmp 107), type := 0, pos := "ref.go:330", after := #[{ on := 24, ground := Ground.data }, { on := 23, ground := Ground.data }, { on := 23, ground := Ground.chain }, { on := 0, ground := Ground.phase }, { on := 1, ground := Ground.phase }, { on := 2, ground := Ground.phase }, { on := 3, ground := Ground.phase }, { on := 4, ground := Ground.phase }, { on := 5, ground := Ground.phase }, { on := 6, ground := Ground.phase }, { on := 7, ground := Ground.phase }, { on := 8, ground := Ground.phase }, { on := 9, ground := Ground.phase }, { on := 10, ground := Ground.phase }, { on := 11, ground := Ground.phase }, { on := 12, ground := Ground.phase }, { on := 13, ground := Ground.phase }, { on := 14, ground := Ground.phase }, { on := 15, ground := Ground.phase }, { on := 16, ground := Ground.phase }, { on := 17, ground := Ground.phase }, { on := 18, ground := Ground.phase }, { on := 19, ground := Ground.phase }, { on := 20, ground := Ground.phase }, { on := 21, ground := Ground.phase }, { on := 22, ground := Ground.phase }, { on := 23, ground := Ground.phase }], guard := none } : Oper)) rfl (fun K hKK => ?_) AllReadyH.nil
                      go_simp
                      refine hKK.out _ _ (HS.out _ (by first | exact hb8 | exact drewD hb8)) (fun hS25 => ?_)
                      try simp only [Act.put, List.setIfInBounds_toArray, List.set_cons_zero, List.set_cons_succ]
                      refine wpAnyH_done (by kernel_rfl) ?_ _
                      clear hcD7 hfD7 hb7 hst hown hK hcD hfD hcDA hownA hbA hbw hcX
                      go_wp2
                      go_roundw
                      case rel => exact ⟨q + 1, _, by omega, by go_num, HS8.out, HO8.out, HK8.out⟩
                      case measure => simp [intOf]; omega
                  · obtain rfl : q = n' := by omega
                    rw [← HZL.out, List.take_length, HZL.out] at hown
                    have hRN := (HRW.out.done hst hown hK (t := rnP g to (v + 1)) (fun j _ => HRS.out j)).congr (fun j _ => HRU.out j) (fun _ _ => rfl)
                    clear hown hst hK
                    go_wp2
                    go_roundw
                    case rel => exact ⟨v + 1, _, by omega, by go_num, hbw, hRN⟩
                    case measure => simp [intOf]; omega
              · obtain rfl : v = i := by omega
                have hG2 := hR.rows.graph n10
                have hE : resRn g to = (List.range v).map (rnP g to v) := by
                  rw [HD.out.2, ← HN.out]
                go_wp2
                exact bodyPost_ret (results_tmp2 rfl _ _ _) rfl ⟨_, ret_t HD.out.1, ⟨_, _, _, rfl, by rw [hE]; exact hG2⟩, hb⟩
      · have HE := Lib.hid (HBAD.out fun hp => h0 (per_iff.1 hp).2.1)
        rw [Nat.add_zero] at hcT
        generalize to[0]! = z at hcT h0
        have d0 : (z != 0) = true := by simp [h0]
        have n1 : 0 < n := by omega
        clear h ht hn hm h1 h10 hin hv h0 HBAD
        go_enter Try.func39, Try.ntmps39
        go_wp2_with fail
        refine HV.out.mono ?_
        rintro e w1 ⟨rfl, rfl⟩
        go_wp2
        exact bodyPost_ret (results_tmp2 rfl _ _ _) rfl ⟨_, ret_t HE.out.1, rgv_nil HE.out.2, Below.refl _ _⟩
    · have HE := Lib.hid (HBAD.out fun hp => hlen (by rw [hm, (per_iff.1 hp).1, hn]))
      have d0 : ((m : Int) != (n : Int)) = true := by simp; omega
      clear h ht hn hm h1 h10 hin hv HBAD
      go_enter Try.func39, Try.ntmps39
      go_wp2_with fail
      refine HV.out.mono ?_
      rintro e w1 ⟨rfl, rfl⟩
      go_wp2
      exact bodyPost_ret (results_tmp2 rfl _ _ _) rfl ⟨_, ret_t HE.out.1, rgv_nil HE.out.2, Below.refl _ _⟩
  · have HE := Lib.hid (ren_val1 (to := to) hv)
    generalize valF g = X at HV HE hv
    have dX : (X != 0) = true := by simp [hv]
    clear h ht hv
    go_enter Try.func39, Try.ntmps39
    go_wp2_with fail
    refine HV.out.mono ?_
    rintro e w1 ⟨rfl, rfl⟩
    go_wp2
    exact bodyPost_ret (results_tmp2 rfl _ _ _) rfl ⟨_, ret_t HE.out.1, rgv_nil HE.out.2, Below.refl _ _⟩
end
end Go.Proofs.Ytchkckflpmepkaa
