/-
  Lists of edges; the back edges of the program.
-/
import Derived.Test.YtchkckflpmepkaaFwQ
namespace Go.Proofs.Ytchkckflpmepkaa
open Go.RowKit

abbrev Edg := Nat × Nat
abbrev eV (l : List Edg) : List Value := l.flatMap fun e => [Value.int .i64 (e.1 : Int), Value.int .i64 (e.2 : Int)]
theorem eV_app (a b : List Edg) : eV (a ++ b) = eV a ++ eV b := by simp [eV]
theorem eV_at : ∀ (l : List Edg) (j i : Nat) (v : Value), j < l.length → [Value.int .i64 ((l[j]!).1 : Int), Value.int .i64 ((l[j]!).2 : Int)][i]? = some v → (eV l)[j * 2 + i]? = some v
  | [], j, _, _, h, _ => absurd h (by simp)
  | e :: l, 0, i, v, _, h => by
    have hi : i < 2 := (List.getElem?_eq_some_iff.1 h).1
    show ([Value.int .i64 (e.1 : Int), Value.int .i64 (e.2 : Int)] ++ eV l)[0 * 2 + i]? = some v
    rw [List.getElem?_append_left (by simp; omega), Nat.zero_mul, Nat.zero_add]
    exact h
  | e :: l, j + 1, i, v, hj, h => by
    show ([Value.int .i64 (e.1 : Int), Value.int .i64 (e.2 : Int)] ++ eV l)[(j + 1) * 2 + i]? = some v
    rw [List.getElem?_append_right (by simp; omega), show (j + 1) * 2 + i - [Value.int .i64 (e.1 : Int), Value.int .i64 (e.2 : Int)].length = j * 2 + i by simp; omega]
    exact eV_at l j i v (by simpa using hj) (by simpa using h)
/-- A slice of edges. -/
def EdgV (w : World) (v : Value) (l : List Edg) : Prop := ∃ A n c, v = .slice A n c ∧ n = l.length ∧ n ≤ c ∧ c ≤ 9223372036854775807 ∧ (n = 0 ∨ ∃ b off, A = some ⟨b, off, none⟩ ∧ b < w.heap.size ∧ ∀ j, j < n → w.cell? ⟨b, off + j * 2, none⟩ = some (.int .i64 ((l[j]!).1 : Int)) ∧ w.cell? ⟨b, off + j * 2 + 1, none⟩ = some (.int .i64 ((l[j]!).2 : Int)))
theorem EdgV.below {w w' : World} {v : Value} {l : List Edg} (h : EdgV w v l) (hb : Below w.heap.size w w') : EdgV w' v l := by
  obtain ⟨A, n, c, h0, h1, h2, h3, h4 | ⟨b, off, h4, h5, h6⟩⟩ := h
  · exact ⟨A, n, c, h0, h1, h2, h3, .inl h4⟩
  · exact ⟨A, n, c, h0, h1, h2, h3, .inr ⟨b, off, h4, Nat.lt_of_lt_of_le h5 hb.size, fun j hj => ⟨(hb.cell (p := ⟨b, off + j * 2, none⟩) h5).trans (h6 j hj).1, (hb.cell (p := ⟨b, off + j * 2 + 1, none⟩) h5).trans (h6 j hj).2⟩⟩⟩
theorem EdgV.nil (w : World) : EdgV w (.slice none 0 0) [] := ⟨none, 0, 0, rfl, rfl, Nat.le_refl _, by omega, .inl rfl⟩
theorem own_cell2 {w : World} {base e size g cap n i : Nat} {xs : List Value} {x : Value} (h : w.ownsRow base e size (.slice (some ⟨g, 0, none⟩) n cap) n xs) (hx : xs[i]? = some x) : w.cell? ⟨g, i, none⟩ = some x := (own_cell h hx).1
theorem EdgV.own {w : World} {base n : Nat} {v : Value} {l : List Edg} (hn : n = l.length) (h : w.ownsRow base 50 2 v n (eV l)) : EdgV w v l := by
  have h0 := h
  rcases h.2 with ⟨rfl, h1⟩ | ⟨g, cap, cur, rfl, _, hh, h2, h3, _⟩
  · subst h1
    exact ⟨none, 0, 0, rfl, hn, Nat.le_refl _, by omega, .inl rfl⟩
  · refine ⟨_, n, cap, rfl, hn, h2, by unfold maxLen at h3; omega, .inr ⟨g, 0, rfl, lt_of_block hh, fun j hj => ?_⟩⟩
    rw [Nat.zero_add]
    exact ⟨own_cell2 h0 (eV_at l j 0 _ (by omega) rfl), own_cell2 h0 (eV_at l j 1 _ (by omega) rfl)⟩
theorem infoE : (Try.prog.info? 50).map (fun i => (i.zero, i.size, i.bytes)) = some (some (.agg #[.int .i64 0, .int .i64 0]), 2, 16) := by kernel_rfl
theorem two_new (w : World) (a b : Value) (t : TypeId) : ∀ j u, [a, b][j]? = some u → (w.alloc (.cells #[a, b] t)).cell? ((⟨w.heap.size, 0, none⟩ : Addr).add j) = some u := by
  intro j u hj
  have h := two_cells (heap_alloc_new w (.cells #[a, b] t))
  match j, hj with
  | 0, hj =>
    simp at hj
    subst hj
    exact h.1
  | 1, hj =>
    simp at hj
    subst hj
    exact h.2
  | j + 2, hj => simp at hj
/-- An own row stays while another one, of other elements, grows. -/
theorem own_keep {w w' : World} {b1 b2 s1 s2 k1 k2 : Nat} {e1 e2 : TypeId} {v1 v2 : Value} {x1 x2 : List Value} (h1 : w.ownsRow b1 e1 s1 v1 k1 x1) (h2 : w.ownsRow b2 e2 s2 v2 k2 x2) (hne : e2 ≠ e1) (hg : w.grownBy w' v2.ownBlock) : w'.ownsRow b1 e1 s1 v1 k1 x1 := by
  refine ⟨h1.1, ?_⟩
  rcases h1.2 with h | ⟨g, cap, cur, q1, q2, q3, q4⟩
  · exact .inl h
  · exact .inr ⟨g, cap, cur, q1, q2, grown_block hg q3 (own_ne h2 q3 hne), q4⟩
/-- The back edges from a node. -/
def bkF (G : List (List Nat)) (a : Nat) : List Edg := ((setL (sucS G a) 10).filter fun b => domB G b a).map fun b => (a, b)
def bkL (G : List (List Nat)) : List Edg := (setL (wy G (-1) 0) 10).flatMap (bkF G)
/-- The back edges found so far. -/
def bkP (G : List (List Nat)) (i : Nat) : List Edg := ((setL (wy G (-1) 0) 10).take i).flatMap (bkF G)
def bkQ (G : List (List Nat)) (a k : Nat) : List Edg := (((setL (sucS G a) 10).take k).filter fun b => domB G b a).map fun b => (a, b)
theorem bkP_succ {G : List (List Nat)} {i : Nat} (h : i < (setL (wy G (-1) 0) 10).length) : bkP G (i + 1) = bkP G i ++ bkF G (setL (wy G (-1) 0) 10)[i]! := by
  unfold bkP
  rw [take_succ h, List.flatMap_append]
  simp
theorem bkQ_succ {G : List (List Nat)} {a k : Nat} (h : k < (setL (sucS G a) 10).length) : bkQ G a (k + 1) = bkQ G a k ++ (if domB G (setL (sucS G a) 10)[k]! a then [(a, (setL (sucS G a) 10)[k]!)] else []) := by
  unfold bkQ
  rw [take_succ h, List.filter_append, List.map_append]
  congr 1
  cases hh : domB G (setL (sucS G a) 10)[k]! a
  · rw [List.filter_cons, hh]; rfl
  · rw [List.filter_cons, hh]; rfl
theorem bkQ_len (G : List (List Nat)) (a k : Nat) : (bkQ G a k).length ≤ 10 := by
  unfold bkQ
  rw [List.length_map]
  have h1 := List.length_filter_le (fun b => domB G b a) ((setL (sucS G a) 10).take k)
  have h2 := List.length_take_le' k (setL (sucS G a) 10)
  have h3 := setL_le (sucS G a) 10
  omega
theorem bkP_len (G : List (List Nat)) : ∀ i, i ≤ (setL (wy G (-1) 0) 10).length → (bkP G i).length ≤ 10 * i
  | 0, _ => by simp [bkP]
  | i + 1, hi => by
    have := bkP_len G i (by omega)
    rw [bkP_succ (by omega), List.length_append]
    have h2 := bkQ_len G (setL (wy G (-1) 0) 10)[i]! (setL (sucS G (setL (wy G (-1) 0) 10)[i]!) 10).length
    unfold bkQ at h2
    rw [List.take_length] at h2
    have : (bkF G (setL (wy G (-1) 0) 10)[i]!).length ≤ 10 := h2
    omega
section
variable {w : World} {A : Option Addr} {n c : Nat} {G : List (List Nat)}
set_option maxRecDepth 100000 in
set_option maxHeartbeats 8000000 in
theorem backs_any (hG : okG G) (h : MG w A n c G) : Calls Try.prog 51 #[.slice A n c] w fun e w' => ∃ v, e = .returned v ∧ EdgV w' v (bkL G) ∧ Below w.heap.size w w' := by
  obtain ⟨i0, hi, hz0, hz1, hz2⟩ := info_parts infoE
  have HC := Lib.hid (fun w1 (hb : Below w.heap.size w w1) => reached_any hG (h.below hb))
  have HS := Lib.hid (fun w1 (hb : Below w.heap.size w w1) a ha => successors_any hG (h.below hb) a ha)
  have HD := Lib.hid (fun w1 (hb : Below w.heap.size w w1) a b hb10 B (hB : domB G a b = B) => hB ▸ dominates_any hG (h.below hb) a b hb10)
  have HRN := Lib.hid (fun i (hi : i < (setL (wy G (-1) 0) 10).length) => show (setL (wy G (-1) 0) 10)[i]! < n by
    have := (mem_setL.1 (at_get hi)).2
    rw [h.1]
    exact wy_lt hG hG.1 this)
  have HSN := Lib.hid (fun a k (hk : k < (setL (sucS G a) 10).length) => show (setL (sucS G a) 10)[k]! < 10 from (mem_setL.1 (at_get hk)).1)
  have HP := Lib.hid (fun i hi => bkP_succ (G := G) (i := i) hi)
  have HQ := Lib.hid (fun a k hk => bkQ_succ (G := G) (a := a) (k := k) hk)
  have HPL := Lib.hid (bkP_len G)
  have HQL := Lib.hid (bkQ_len G)
  have HF := Lib.hid (show ∀ a, bkQ G a (setL (sucS G a) 10).length = bkF G a from fun a => by unfold bkQ bkF; rw [List.take_length])
  have HE := Lib.hid (show bkL G = bkP G (setL (wy G (-1) 0) 10).length by unfold bkL bkP; rw [List.take_length])
  have hR10 := setL_le (wy G (-1) 0) 10
  have n10 : n ≤ 10 := by rw [h.1]; exact hG.2.1
  have hP0 : bkP G 0 = [] := by simp [bkP]
  have hQ0 : ∀ a, bkQ G a 0 = [] := fun a => by simp [bkQ]
  generalize bkL G = Z at HE ⊢
  generalize bkP G = P at HP HPL HE hP0
  generalize bkQ G = Q at HQ HF HQL hQ0
  have HP0 := Lib.hid hP0
  have HQ0 := Lib.hid hQ0
  have HTN := Lib.hid (fun w1 => list_any (wy G (-1) 0) w1)
  generalize wy G (-1) 0 = T at HC HRN HP HPL HE hR10 HTN
  generalize setL T 10 = R at HRN HP HPL HE hR10 HTN
  have HTS := Lib.hid (fun a w1 => list_any (sucS G a) w1)
  have hS10 := fun a => setL_le (sucS G a) 10
  have HS10 := Lib.hid hS10
  generalize sucS G = SU at HS HSN HQ HF HTS HS10
  clear h hG hP0 hQ0 hS10
  go_enter Try.func51, Try.ntmps51
  go_wp2_with fail
  refine (HC.out w (Below.refl _ _)).mono ?_
  rintro e w1 ⟨rfl, hb1⟩
  go_wp2_with fail
  refine (HTN.out w1).mono ?_
  rintro e w2 ⟨v, rfl, hownR, hb2⟩
  have hb := hb1.trans (hb2.mono hb1.size)
  obtain ⟨AR, cR, rfl, hNR⟩ := own_nats hownR
  have hcR := hNR.2.1
  have hmR := hNR.2.2.1
  have HNR := Lib.hid hNR
  clear hownR hNR hb1 hb2
  go_wp2
  go_loopw [3, 12] (fun zl zi wr => ∃ i : Nat, i ≤ R.length ∧ zi = .int .i64 (i : Int) ∧ wr.ownsRow w2.heap.size 50 2 zl (P i).length (eV (P i)) ∧ Below w2.heap.size w2 wr) (fun _ zi _ => R.length - (intOf zi).toNat)
  case atStart => exact ⟨0, by omega, rfl, by rw [HP0.out]; exact World.ownsRow_nil _ _ _ _, Below.refl _ _⟩
  case round =>
    obtain ⟨i, hi2, rfl, hown, hb3⟩ := hrel
    by_cases hlt : i < R.length
    · obtain ⟨bR, oR, rfl, hbs, hc⟩ := HNR.out.get hb3 hlt
      have hRn := HRN.out i hlt
      have HP1 := Lib.hid (HP.out i hlt)
      have hPl := HPL.out i hi2
      generalize R[i]! = a at hc hRn HP1
      generalize P i = E0 at hown HP1 hPl
      have HS1 := Lib.hid (HS.out wr (hb.trans (hb3.mono hb.size)) a hRn)
      go_wp2_with fail
      refine HS1.out.mono ?_
      rintro e w3 ⟨rfl, hb4⟩
      have hown4 := own_below hown hb4
      have hb5 := hb3.trans (hb4.mono hb3.size)
      clear hown hc hbs hb4 HS1 hb3
      go_wp2_with fail
      refine (HTS.out a w3).mono ?_
      rintro e w4 ⟨vS, rfl, hownS, hb6⟩
      have hown6 := own_below hown4 hb6
      have hb7 := hb5.trans (hb6.mono hb5.size)
      have hownS : w4.ownsRow w2.heap.size 3 1 vS (setL (SU a) 10).length (nV (setL (SU a) 10)) := by
        refine ⟨hownS.1, ?_⟩
        rcases hownS.2 with h | ⟨g, cap, cur, q1, q2, q3⟩
        · exact .inl h
        · exact .inr ⟨g, cap, cur, q1, Nat.le_trans hb5.size q2, q3⟩
      obtain ⟨AS, cS, rfl, hNS⟩ := own_nats hownS
      have hcS := hNS.2.1
      have hmS := hNS.2.2.1
      have hSl := HS10.out a
      have HSN1 := Lib.hid (HSN.out a)
      have HQ1 := Lib.hid (HQ.out a)
      have HF1 := Lib.hid (HF.out a)
      have HQ2 := Lib.hid (HQ0.out a)
      have HQL1 := Lib.hid (HQL.out a)
      generalize Q a = Qa at HQ1 HF1 HQ2 HQL1
      generalize setL (SU a) 10 = L at hownS hNS hcS HSN1 HQ1 HF1 hSl
      clear hown4 hb5 hb6 hNS
      go_wp2
      go_loopw [3, 21] (fun zl zi wr => ∃ k : Nat, k ≤ L.length ∧ zi = .int .i64 (k : Int) ∧ wr.ownsRow w2.heap.size 50 2 zl (E0 ++ Qa k).length (eV (E0 ++ Qa k)) ∧ wr.ownsRow w2.heap.size 3 1 (.slice AS L.length cS) L.length (nV L) ∧ Below w2.heap.size w2 wr) (fun _ zi _ => L.length - (intOf zi).toNat)
      case atStart => exact ⟨0, by omega, rfl, by rw [HQ2.out, List.append_nil]; exact hown6, hownS, hb7⟩
      case round =>
        clear hown6 hownS hb7
        obtain ⟨k, hk, rfl, hown, hownS, hb8⟩ := hrel
        by_cases hkl : k < L.length
        · obtain ⟨A9, c9, q9, hNS⟩ := own_nats hownS
          injection q9 with q9 _ q10
          subst q9 q10
          obtain ⟨bS, oS, rfl, hbs, hc⟩ := hNS.at_ hkl
          have hb10 := HSN1.out k hkl
          have HQ3 := Lib.hid (HQ1.out k hkl)
          have hQl := HQL1.out k
          generalize L[k]! = b at hc hb10 HQ3
          have HD1 := Lib.hid (HD.out wr (hb.trans (hb8.mono hb.size)) b a (by omega))
          clear hNS
          cases hdom : domB G b a
          · have HD2 := Lib.hid (HD1.out false hdom)
            have HQ4 := Lib.hid (show Qa (k + 1) = Qa k by rw [HQ3.out, hdom]; exact List.append_nil _)
            clear HD1 HQ3 hdom
            go_wp2_with fail
            refine HD2.out.mono ?_
            rintro e w5 ⟨rfl, hb9⟩
            have hown9 := own_below hown hb9
            have hownS9 := own_below hownS hb9
            have hb11 := hb8.trans (hb9.mono hb8.size)
            clear hown hownS hb8 hb9 hc hbs
            go_wp2
            go_roundw
            case rel => exact ⟨k + 1, by omega, by go_num, by rw [HQ4.out]; exact hown9, hownS9, hb11⟩
            case measure => simp [intOf]; omega
          · have HD2 := Lib.hid (HD1.out true hdom)
            have HQ4 := Lib.hid (show Qa (k + 1) = Qa k ++ [(a, b)] by rw [HQ3.out, hdom]; rfl)
            clear HD1 HQ3 hdom
            go_wp2_with fail
            refine HD2.out.mono ?_
            rintro e w5 ⟨rfl, hb9⟩
            have hown9 := own_below hown hb9
            have hownS9 := own_below hownS hb9
            have hb11 := hb8.trans (hb9.mono hb8.size)
            clear hown hownS hb8 hb9 hc hbs
            have hEl : (E0 ++ Qa k).length ≤ 1000 := by rw [List.length_append]; omega
            have HEQ := Lib.hid (show E0 ++ Qa (k + 1) = (E0 ++ Qa k) ++ [(a, b)] by rw [HQ4.out, List.append_assoc])
            generalize E0 ++ Qa k = E1 at hown9 hEl HEQ
            go_wp2_with (at_builtin; refine wpList_append_own _ rfl _ _ 33 rfl w2.heap.size 50 i0 (.agg #[.int .i64 0, .int .i64 0]) 2 16 Try.underlying33 hi hz0 hz1 hz2 rfl (by decide) _ _ _ rfl (hown9.alloc _) ⟨w5.heap.size, 0, none⟩ 1 1 [.int .i64 (a : Int), .int .i64 (b : Int)] rfl rfl (two_new w5 _ _ _) ?k2 ?k3 ?k4 ?k5 ?_)
            case k2 => intro u hu; simp at hu; rcases hu with rfl | rfl <;> rfl
            case k3 => unfold maxLen; omega
            case k4 => omega
            case k5 => have := hb11.size; simp; omega
            intro v2 w7 hown7 hgrow _
            have hb12 : Below w2.heap.size w2 w7 := (hb11.alloc hb11.size _).grown hgrow (by have := hb11.size; simp; omega) (own_base (hown9.alloc (.cells #[.int .i64 (a : Int), .int .i64 (b : Int)] 50)))
            have hownS12 := own_keep (hownS9.alloc (.cells #[.int .i64 (a : Int), .int .i64 (b : Int)] 50)) (hown9.alloc (.cells #[.int .i64 (a : Int), .int .i64 (b : Int)] 50)) (by decide) hgrow
            have HO8 := Lib.hid (show w7.ownsRow w2.heap.size 50 2 v2 (E0 ++ Qa (k + 1)).length (eV (E0 ++ Qa (k + 1))) by
              rw [HEQ.out, List.length_append, eV_app]
              exact hown7)
            clear hown9 hownS9 hb11 hown7 hgrow
            go_wp2
            go_roundw
            case rel => exact ⟨k + 1, by omega, by go_num, HO8.out, hownS12, hb12⟩
            case measure => simp [intOf]; omega
        · obtain rfl : k = L.length := by omega
          have HO8 := Lib.hid (show wr.ownsRow w2.heap.size 50 2 _ (P (i + 1)).length (eV (P (i + 1))) by
            rw [HP1.out, ← HF1.out]
            exact hown)
          clear hown hownS
          go_wp2
          go_roundw
          case rel => exact ⟨i + 1, by omega, by go_num, HO8.out, hb8⟩
          case measure => simp [intOf]; omega
    · obtain rfl : i = R.length := by omega
      rw [← HE.out] at hown
      have hV := EdgV.own rfl hown
      have hb4 := hb.trans (hb3.mono hb.size)
      clear hown
      go_wp2
      go_ret
      exact ⟨_, rfl, hV, hb4⟩
end
end Go.Proofs.Ytchkckflpmepkaa
