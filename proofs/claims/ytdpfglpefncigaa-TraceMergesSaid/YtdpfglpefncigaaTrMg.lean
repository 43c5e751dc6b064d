/-
  Merge of the reference.
-/
import Derived.Test.YtdpfglpefncigaaTrMf
import Derived.BigQuiet
namespace Go.Proofs.Ytdpfglpefncigaa
open Go.RowKit

theorem placesV_setz : ∀ (l : List Plc) (j : Nat) (z : Int), j < l.length → (placesV l).set (j * 5 + 1) (.int .i64 z) = placesV (l.set j ⟨l[j]!.a, z, l[j]!.v, l[j]!.k, l[j]!.n⟩)
  | [], j, _, h => absurd h (by simp)
  | q :: l, 0, z, _ => by
    have e : placesV (q :: l) = encP q ++ placesV l := rfl
    obtain ⟨a, y, v, k, n⟩ := q
    rw [e]
    rfl
  | q :: l, j + 1, z, h => by
    have ih := placesV_setz l j z (by simpa using h)
    have e : placesV (q :: l) = encP q ++ placesV l := rfl
    have e2 : ∀ p, placesV ((q :: l).set (j + 1) p) = encP q ++ placesV (l.set j p) := fun _ => rfl
    have hl : (encP q).length = 5 := rfl
    rw [List.getElem!_cons_succ, e, e2, ← ih, List.set_append_right _ _ (by omega), hl, show (j + 1) * 5 + 1 - 5 = j * 5 + 1 by omega]
/-- How far the reference is with one place. -/
def MSt (M : List Plc) (q : Plc) (k : Nat) (D : Bool) (M' : List Plc) : Prop :=
  (D = false ∧ M' = M ∧ ∀ j, j < k → goesOn q M[j]! = false) ∨ (D = true ∧ ∃ k0, k0 < k ∧ k0 < M.length ∧ goesOn q M[k0]! = true ∧ M' = M.set k0 (joinP M[k0]! q))
theorem goes_one {zs M : List Plc} {i : Nat} (h : Inv zs M i) {q : Plc} {j l : Nat} (hj : j < M.length) (hl : l < M.length) (h1 : goesOn q M[j]! = true) (h2 : goesOn q M[l]! = true) : j = l := by
  by_cases hjl : j = l
  · exact hjl
  · obtain ⟨a1, -, -, a4⟩ := goes_iff.1 h1
    obtain ⟨b1, -, -, b4⟩ := goes_iff.1 h2
    have pj := pl_lt (h.pls j hj)
    have pl := pl_lt (h.pls l hl)
    exact (h.dis j l hj hl hjl (a1.trans b1.symm) (q.a - 1) (by omega) (by omega) (by omega) (by omega)).elim
theorem mst_skip {zs M M' : List Plc} {i k : Nat} {D : Bool} {q : Plc} (h : Inv zs M i) (hk : k < M.length) (hs : MSt M q k D M') (hg : goesOn q M'[k]! = false) : MSt M q (k + 1) D M' := by
  rcases hs with ⟨rfl, rfl, hs⟩ | ⟨rfl, k0, h0, h1, h2, rfl⟩
  · refine .inl ⟨rfl, rfl, fun j hj => ?_⟩
    by_cases hjk : j = k
    · rw [hjk]; exact hg
    · exact hs j (by omega)
  · exact .inr ⟨rfl, k0, by omega, h1, h2, rfl⟩
theorem mst_hit {zs M M' : List Plc} {i k : Nat} {D : Bool} {q : Plc} (h : Inv zs M i) (hk : k < M.length) (hs : MSt M q k D M') (hg : goesOn q M'[k]! = true) : M' = M ∧ MSt M q (k + 1) true (M.set k (joinP M[k]! q)) := by
  rcases hs with ⟨rfl, rfl, hs⟩ | ⟨rfl, k0, h0, h1, h2, rfl⟩
  · exact ⟨rfl, .inr ⟨rfl, k, by omega, hk, hg, rfl⟩⟩
  · rw [set_at_ M k0 _ h1 k hk, if_neg (by omega)] at hg
    have := goes_one h hk h1 hg h2
    omega
theorem mst_end {zs M M' : List Plc} {i : Nat} {D : Bool} {q : Plc} (h : Inv zs M i) (hs : MSt M q M.length D M') : (D = false ∧ M' = M ∧ mstep M q = M ++ [q]) ∨ (D = true ∧ M' = mstep M q) := by
  rcases hs with ⟨rfl, rfl, hs⟩ | ⟨rfl, k0, h0, h1, h2, rfl⟩
  · rcases mstep_cases M' q with ⟨k, hk, hg, -⟩ | ⟨-, he, -⟩
    · rw [hs k hk] at hg
      cases hg
    · exact .inl ⟨rfl, rfl, he⟩
  · rcases mstep_cases M q with ⟨k, hk, hg, -, he, -⟩ | ⟨-, -, hno⟩
    · have := goes_one h hk h1 hg h2
      subst this
      exact .inr ⟨rfl, he.symm⟩
    · rw [hno k0 h1] at h2
      cases h2
theorem mst_len {M M' : List Plc} {k : Nat} {D : Bool} {q : Plc} (hs : MSt M q k D M') : M'.length = M.length := by
  rcases hs with ⟨-, rfl, -⟩ | ⟨-, k0, -, -, -, rfl⟩
  · rfl
  · rw [List.length_set]
section
variable {w : World} {A : Option Addr} {n c : Nat} {zs : List Plc}
set_option maxRecDepth 100000 in
set_option maxHeartbeats 8000000 in
theorem refMerge_tab (h : Tab w A n c zs) : Calls Try.prog 35 #[.slice A n c] w fun e w' => ∃ V, e = .returned (.tuple #[V, .int .i64 (valF zs)]) ∧ w'.ownsRow w.heap.size 33 5 V (mrgT zs).length (placesV (mrgT zs)) ∧ Below w.heap.size w w' := by
  obtain ⟨i0, hi, hz0, hz1, hz2⟩ := info_parts infoPl
  have HC := Lib.hid (fun w1 (hb : Below w.heap.size w w1) => refValidate_tab (h.below hb))
  have HT := Lib.hid h
  by_cases hv : valF zs = 0
  · have hn : n = zs.length := h.shape
    have h64 := (valF_ok hv).1
    have HIV := Lib.hid (inv_all hv)
    rw [hv] at HC
    rw [hv, show mrgT zs = srt (mrgL zs) from if_pos hv]
    have HNN := Lib.hid hn
    have n64 : n ≤ 64 := by omega
    clear hv hn h64 h
    go_enter Try.func35, Try.ntmps35
    go_wp2_with fail
    refine (HC.out _ (Below.refl _ _)).mono ?_
    rintro e w1 ⟨rfl, hb1⟩
    clear HC
    go_wp2
    go_loopw [5, 6] (fun vl zi wr => ∃ i : Nat, i ≤ n ∧ zi = .int .i64 (i : Int) ∧ wr.ownsRow w.heap.size 33 5 vl (mrgU zs i).length (placesV (mrgU zs i)) ∧ Below w.heap.size w wr) (fun _ zi _ => n - (intOf zi).toNat)
    case atStart => exact ⟨0, by omega, rfl, World.ownsRow_nil _ _ _ _, hb1⟩
    case round =>
      clear hb1
      obtain ⟨i, hi', rfl, hown, hb⟩ := hrel
      have hlen := mrg_len (zs := zs) i
      by_cases hlt : i < n
      · have hilt : i < zs.length := by have := HNN.out; omega
        rcases HT.out.parts with ⟨h0, -⟩ | ⟨-, hnc, hcm, bb, oo, rfl, hL⟩
        · omega
        have hAT := Lib.hid (hL.at_ hilt)
        have hbb : bb < w.heap.size := hL.1
        have HU := Lib.hid (show mrgU zs (i + 1) = mstep (mrgU zs i) zs[i]! from rfl)
        have HI := Lib.hid (HIV.out i (by omega))
        generalize zs[i]! = p at hAT HU
        generalize mrgU zs i = M at HU hown hlen HI
        obtain ⟨P, Z, V, K, N⟩ := p
        clear hL
        obtain ⟨A', c', rfl⟩ : ∃ A' c', u5 = .slice A' M.length c' := by
          rcases hown.2 with ⟨h1, h0⟩ | ⟨g, cap, cur, h0, _⟩
          · exact ⟨none, 0, by rw [h1, h0]⟩
          · exact ⟨_, cap, h0⟩
        obtain ⟨ML, hML⟩ : ∃ ML, ML = M.length := ⟨_, rfl⟩
        have HML := Lib.hid hML
        rw [← hML] at hown hlen ⊢
        clear hML
        go_wp2
        go_loopw [7, 8] (fun zd zk wr => ∃ (k : Nat) (D : Bool) (M' : List Plc), k ≤ ML ∧ zk = .int .i64 (k : Int) ∧ zd = .bool D ∧ wr.ownsRow w.heap.size 33 5 (.slice A' ML c') ML (placesV M') ∧ Below w.heap.size w wr ∧ Hid (MSt M ⟨P, Z, V, K, N⟩ k D M')) (fun _ zk _ => ML - (intOf zk).toNat)
        case atStart => exact ⟨0, false, M, by omega, rfl, rfl, hown, hb, Lib.hid (.inl ⟨rfl, rfl, fun j hj => absurd hj (by omega)⟩)⟩
        case round =>
          clear hown hb
          obtain ⟨k, D, M', hk, rfl, rfl, hown, hb, HS⟩ := hrel
          by_cases hkl : k < ML
          · obtain ⟨g, rfl⟩ : ∃ g, A' = some ⟨g, 0, none⟩ := by
              rcases hown.2 with ⟨_, h0⟩ | ⟨g, cap, cur, h0, _⟩
              · omega
              · injection h0 with h1 h2 h3
                exact ⟨g, h1⟩
            have hml : M'.length = ML := (mst_len HS.out).trans HML.out.symm
            have hkM : k < M.length := by have := HML.out; omega
            obtain ⟨am, ⟨-, f1, -, -, -⟩, hgb, gl⟩ := own_at5 hown (j := k) (by omega)
            have HSK := Lib.hid (fun hg => mst_skip HI.out hkM HS.out hg)
            have HHT := Lib.hid (fun hg => mst_hit HI.out hkM HS.out hg)
            have HGI := Lib.hid (goes_iff (q := ⟨P, Z, V, K, N⟩) (p := M'[k]!))
            have hca : k < c' := by
              rcases hown.2 with ⟨h1, h0⟩ | ⟨g2, cap, cur, h0, -, -, hc, _⟩
              · omega
              · injection h0 with _ _ h3
                omega
            obtain ⟨r, hr⟩ : ∃ r, r = M'[k]! := ⟨_, rfl⟩
            rw [← hr] at am HSK HHT HGI
            have HR := Lib.hid hr
            clear hr
            obtain ⟨ra, rz, rv, rk, rn⟩ := r
            obtain ⟨g0, g1, g2, g3, g4⟩ := am
            obtain ⟨a0, a1, a2, a3, a4⟩ := hAT.out
            simp only at g0 g1 g2 g3 g4 a0 a1 a2 a3 a4
            have x0 := keep_cell hb hbb a0
            have x1 := keep_cell hb hbb a1
            have x2 := keep_cell hb hbb a2
            have x3 := keep_cell hb hbb a3
            have x4 := keep_cell hb hbb a4
            have HO := Lib.hid hown
            have HM1 := Lib.hid hml
            clear a0 a1 a2 a3 a4 hown hml hkM
            go_wp2
            by_cases e1 : rv = V
            · by_cases e2 : rk = K
              · by_cases e3 : rn = N
                · by_cases e4 : rz = P
                  · have d1 : (rv == V) = true := by simp [e1]
                    have d2 : (rk == K) = true := by simp [e2]
                    have d3 : (rn == N) = true := by simp [e3]
                    have d4 : (rz == P) = true := by simp [e4]
                    have hg : goesOn ⟨P, Z, V, K, N⟩ ⟨ra, rz, rv, rk, rn⟩ = true := goes_iff.2 ⟨e1, e2, e3, e4⟩
                    obtain ⟨hMM, hst⟩ := HHT.out hg
                    have HST := Lib.hid hst
                    have HMM := Lib.hid hMM
                    clear e1 e2 e3 e4 hg hst hMM HSK HHT HGI
                    go_quiet (fail)
                    have q1 : (wr.drewN nq).cell? ⟨g, k * 5 + 1, none⟩ = some (.int .i64 rz) := g1
                    have q2 : (wr.drewN nq).frozen? ⟨g, k * 5 + 1, none⟩ = false := f1
                    have q3 : (wr.drewN nq).cell? ⟨bb, oo + i * 5 + 1, none⟩ = some (.int .i64 Z) := x1
                    have ho5 := own_below HO.out (drewNR (Below.refl _ _) nq)
                    have hb5 := drewNR hb nq
                    clear g0 g1 g2 g3 g4 x0 x1 x2 x3 x4 f1
                    generalize wr.drewN nq = W5 at q1 q2 q3 ho5 hb5 ⊢
                    have HO2 := Lib.hid (show (W5.setCell ⟨g, k * 5 + 1, none⟩ (.int .i64 Z)).ownsRow w.heap.size 33 5 (.slice (some ⟨g, 0, none⟩) ML c') ML (placesV (M.set k (joinP M[k]! ⟨P, Z, V, K, N⟩))) by
                      have s := (own_set ho5 (placesV_at M' k 1 _ (by rw [HM1.out]; exact hkl) rfl) (.int .i64 Z)).2.2.2
                      rw [placesV_setz M' k Z (by rw [HM1.out]; exact hkl), HMM.out] at s
                      exact s)
                    clear ho5
                    go_wp2
                    go_roundw
                    case rel => exact ⟨k + 1, true, M.set k (joinP M[k]! ⟨P, Z, V, K, N⟩), by omega, by go_num, rfl, HO2.out, hb5.setCell hgb _, HST⟩
                    case measure => simp [intOf]; omega
                  · have d1 : (rv == V) = true := by simp [e1]
                    have d2 : (rk == K) = true := by simp [e2]
                    have d3 : (rn == N) = true := by simp [e3]
                    have d4 : (rz == P) = false := by simp [e4]
                    have hg : goesOn ⟨P, Z, V, K, N⟩ ⟨ra, rz, rv, rk, rn⟩ = false := by
                      cases hgg : goesOn (⟨P, Z, V, K, N⟩ : Plc) ⟨ra, rz, rv, rk, rn⟩
                      · rfl
                      · exact absurd (goes_iff.1 hgg).2.2.2 e4
                    have HS2 := Lib.hid (HSK.out hg)
                    clear e1 e2 e3 e4 hg HSK HHT HGI f1
                    go_quiet (fail)
                    go_wp2
                    go_roundw
                    case rel => exact ⟨k + 1, D, M', by omega, by go_num, rfl, own_below HO.out (drewNR (Below.refl _ _) nq), drewNR hb nq, HS2⟩
                    case measure => simp [intOf]; omega
                · have d1 : (rv == V) = true := by simp [e1]
                  have d2 : (rk == K) = true := by simp [e2]
                  have d3 : (rn == N) = false := by simp [e3]
                  have hg : goesOn ⟨P, Z, V, K, N⟩ ⟨ra, rz, rv, rk, rn⟩ = false := by
                    cases hgg : goesOn (⟨P, Z, V, K, N⟩ : Plc) ⟨ra, rz, rv, rk, rn⟩
                    · rfl
                    · exact absurd (goes_iff.1 hgg).2.2.1 e3
                  have HS2 := Lib.hid (HSK.out hg)
                  clear e1 e2 e3 hg HSK HHT HGI f1
                  go_quiet (fail)
                  go_wp2
                  go_roundw
                  case rel => exact ⟨k + 1, D, M', by omega, by go_num, rfl, own_below HO.out (drewNR (Below.refl _ _) nq), drewNR hb nq, HS2⟩
                  case measure => simp [intOf]; omega
              · have d1 : (rv == V) = true := by simp [e1]
                have d2 : (rk == K) = false := by simp [e2]
                have hg : goesOn ⟨P, Z, V, K, N⟩ ⟨ra, rz, rv, rk, rn⟩ = false := by
                  cases hgg : goesOn (⟨P, Z, V, K, N⟩ : Plc) ⟨ra, rz, rv, rk, rn⟩
                  · rfl
                  · exact absurd (goes_iff.1 hgg).2.1 e2
                have HS2 := Lib.hid (HSK.out hg)
                clear e1 e2 hg HSK HHT HGI f1
                go_quiet (fail)
                go_wp2
                go_roundw
                case rel => exact ⟨k + 1, D, M', by omega, by go_num, rfl, own_below HO.out (drewNR (Below.refl _ _) nq), drewNR hb nq, HS2⟩
                case measure => simp [intOf]; omega
            · have d1 : (rv == V) = false := by simp [e1]
              have hg : goesOn ⟨P, Z, V, K, N⟩ ⟨ra, rz, rv, rk, rn⟩ = false := by
                cases hgg : goesOn (⟨P, Z, V, K, N⟩ : Plc) ⟨ra, rz, rv, rk, rn⟩
                · rfl
                · exact absurd (goes_iff.1 hgg).1 e1
              have HS2 := Lib.hid (HSK.out hg)
              clear e1 hg HSK HHT HGI f1
              go_quiet (fail)
              go_wp2
              go_roundw
              case rel => exact ⟨k + 1, D, M', by omega, by go_num, rfl, own_below HO.out (drewNR (Below.refl _ _) nq), drewNR hb nq, HS2⟩
              case measure => simp [intOf]; omega
          · obtain rfl : k = ML := by omega
            have hs := HS.out
            rw [HML.out] at hs
            have hml : M'.length = k := (mst_len HS.out).trans HML.out.symm
            rcases mst_end HI.out hs with ⟨rfl, rfl, he⟩ | ⟨rfl, he⟩
            · rw [he] at HU
              obtain ⟨a0, a1, a2, a3, a4⟩ := hAT.out
              simp only at a0 a1 a2 a3 a4
              have x0 := keep_cell hb hbb a0
              have x1 := keep_cell hb hbb a1
              have x2 := keep_cell hb hbb a2
              have x3 := keep_cell hb hbb a3
              have x4 := keep_cell hb hbb a4
              clear a0 a1 a2 a3 a4 hs he
              go_wp2_with (at_builtin; refine wpList_append_own _ rfl _ _ 22 rfl w.heap.size 33 i0 (.agg #[.int .i64 0, .int .i64 0, .int .i64 0, .int .i64 0, .int .i64 0]) 5 40 Try.underlying22 hi hz0 hz1 hz2 rfl (by decide) _ _ _ rfl (hown.alloc _) ⟨wr.heap.size, 0, none⟩ 1 1 [.int .i64 P, .int .i64 Z, .int .i64 V, .int .i64 K, .int .i64 N] rfl rfl ?c1 ?c2 ?c3 ?c4 ?c5 ?_)
              case c1 => exact news5 (heap_alloc_new wr _)
              case c2 => intro u hu; simp at hu; rcases hu with rfl | rfl | rfl | rfl | rfl <;> rfl
              case c3 => unfold maxLen; omega
              case c4 => omega
              case c5 => have := hb.size; simp; omega
              intro v2 w7 hown7 hgrow _
              have hb5 : Below w.heap.size w w7 := (hb.alloc hb.size _).grown hgrow (by have := hb.size; simp; omega) (own_base (hown.alloc (.cells #[.int .i64 P, .int .i64 Z, .int .i64 V, .int .i64 K, .int .i64 N] 33)))
              have HO2 := Lib.hid (show w7.ownsRow w.heap.size 33 5 v2 (mrgU zs (i + 1)).length (placesV (mrgU zs (i + 1))) by
                rw [HU.out, placesV_append, List.length_append, hml]
                exact hown7)
              clear hown hown7 hgrow hb HU x0 x1 x2 x3 x4
              go_wp2
              go_roundw
              case rel => exact ⟨i + 1, by omega, by go_num, HO2.out, hb5⟩
              case measure => simp [intOf]; omega
            · have HO2 := Lib.hid (show wr.ownsRow w.heap.size 33 5 (.slice A' k c') (mrgU zs (i + 1)).length (placesV (mrgU zs (i + 1))) by
                rw [HU.out, ← he, hml]
                exact hown)
              clear hown hs he HU
              go_wp2
              go_roundw
              case rel => exact ⟨i + 1, by omega, by go_num, HO2.out, hb⟩
              case measure => simp [intOf]; omega
      · obtain rfl : i = n := by omega
        have hown' : wr.ownsRow w.heap.size 33 5 u5 (mrgL zs).length (placesV (mrgL zs)) := by
          unfold mrgL
          rw [← HNN.out]
          exact hown
        obtain ⟨A', c', rfl, hT⟩ := tab_own hown'
        have HSO := Lib.hid (refSorted_tab hT (by have h2 := mrg_len (zs := zs) zs.length; unfold mrgL; have := HNN.out; omega))
        clear hown hown' hT
        go_wp2_with fail
        refine HSO.out.mono ?_
        rintro e w2 ⟨v2, rfl, ho, hb2⟩
        have hb3 := hb.trans (hb2.mono hb.size)
        have HO := Lib.hid (own_lower ho hb.size)
        clear ho hb hb2
        go_wp2
        refine bodyPost_ret (results_tmp2 rfl _ _ _) rfl ?_
        exact ⟨_, rfl, HO.out, hb3⟩
  · rw [show mrgT zs = [] from if_neg hv]
    generalize valF zs = X at HC hv
    have dX : (X != 0) = true := by simp [hv]
    clear h HT hv
    go_enter Try.func35, Try.ntmps35
    go_wp2_with fail
    refine (HC.out _ (Below.refl _ _)).mono ?_
    rintro e w1 ⟨rfl, hb1⟩
    go_wp2
    refine bodyPost_ret (results_tmp2 rfl _ _ _) rfl ?_
    exact ⟨_, rfl, World.ownsRow_nil _ _ _ _, hb1⟩
end
end Go.Proofs.Ytdpfglpefncigaa
