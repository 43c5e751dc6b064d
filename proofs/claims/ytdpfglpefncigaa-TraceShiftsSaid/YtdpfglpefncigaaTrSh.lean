/-
  Shift of both packages.
-/
import Derived.Test.YtdpfglpefncigaaTrEn
import Derived.Test.YtdpfglpefncigaaTrW
namespace Go.Proofs.Ytdpfglpefncigaa
open Go.RowKit

def shP (t : Int) (p : Plc) : Plc := ⟨p.a + t, p.z + t, p.v, p.k, p.n⟩
def shOk (t : Int) (p : Plc) : Bool := inB t (-p.a) (32768 - p.z)
/-- The first places, shifted. -/
def shUp (zs : List Plc) (t : Int) (i : Nat) : List Plc := (List.range i).map fun j => shP t zs[j]!
theorem shUp_succ (zs : List Plc) (t : Int) (i : Nat) : shUp zs t (i + 1) = shUp zs t i ++ [shP t zs[i]!] := by
  unfold shUp
  rw [List.range_succ, List.map_append]
  rfl
theorem shUp_length (zs : List Plc) (t : Int) (i : Nat) : (shUp zs t i).length = i := by simp [shUp]
theorem shUp_at {zs : List Plc} {t : Int} {i j : Nat} (h : j < i) : (shUp zs t i)[j]! = shP t zs[j]! := by simp [shUp, h]
def shAll (zs : List Plc) (t : Int) : Bool := (List.range zs.length).all fun j => shOk t zs[j]!
theorem shAll_no {zs : List Plc} {t : Int} {i : Nat} (hi : i < zs.length) (h : shOk t zs[i]! = false) : shAll zs t = false := by
  unfold shAll
  apply Bool.eq_false_iff.2
  intro h2
  have := List.all_eq_true.1 h2 i (by simpa using hi)
  rw [h] at this
  cases this
theorem shAll_yes {zs : List Plc} {t : Int} (h : ∀ j, j < zs.length → shOk t zs[j]! = true) : shAll zs t = true := by
  unfold shAll
  apply List.all_eq_true.2
  intro j hj
  exact h j (by simpa using hj)
theorem shAll_at {zs : List Plc} {t : Int} (h : shAll zs t = true) {j : Nat} (hj : j < zs.length) : shOk t zs[j]! = true := by
  unfold shAll at h
  exact List.all_eq_true.1 h j (by simpa using hj)
/-- The error of Shift, and its table. -/
def shX (zs : List Plc) (t : Int) : Int := if valF zs = 0 then (if shAll zs t = true then 0 else 1) else valF zs
def shT (zs : List Plc) (t : Int) : List Plc := if valF zs = 0 ∧ shAll zs t = true then shUp zs t zs.length else []
theorem sh_place {A Z V K N : Nat} (h : isPlB ⟨A, Z, V, K, N⟩ = true) (hAZ : A < Z) (hZ : Z ≤ 32768) {t : Int} : isPlB ⟨(A : Int) + t, (Z : Int) + t, V, K, N⟩ = inB t (-(A : Int)) (32768 - (Z : Int)) := by
  unfold isPlB at h ⊢
  simp only [Bool.and_eq_true] at h
  obtain ⟨⟨⟨⟨⟨_, _⟩, _⟩, h4⟩, h5⟩, h6⟩ := h
  simp only [h4, h5, h6, Bool.and_true]
  by_cases h1 : -(A : Int) ≤ t
  · by_cases h2 : t ≤ 32768 - (Z : Int)
    · rw [inB_yes h1 h2, inB_yes (n := (A : Int) + t) (by omega) (by omega), inB_yes (n := (Z : Int) + t) (by omega) (by omega), decide_eq_true (by omega)]
      rfl
    · rw [inB_no (n := t) (.inr (by omega)), inB_no (n := (Z : Int) + t) (.inr (by omega))]
      simp
  · rw [inB_no (n := t) (.inl (by omega)), inB_no (n := (A : Int) + t) (.inl (by omega))]
    simp
theorem covB_sh (p q : Plc) (t : Int) : covB (shP t p) (shP t q).a = covB p q.a := by
  unfold covB shP
  apply decide_eq_decide.2
  simp only
  omega
theorem befB_sh (p q : Plc) (t : Int) : befB (shP t p) (shP t q) = befB p q := by
  unfold befB shP
  simp only
  by_cases h1 : p.a = q.a
  · by_cases h2 : p.z = q.z
    · simp [h1, h2]
    · have : ¬ p.z + t = q.z + t := by omega
      simp only [h1, this, h2, ne_eq, not_true_eq_false, not_false_eq_true, if_true, if_false]
      apply decide_eq_decide.2
      omega
  · have : ¬ p.a + t = q.a + t := by omega
    simp only [this, h1, ne_eq, not_false_eq_true, if_true]
    apply decide_eq_decide.2
    omega
/-- A table shifted is a table. -/
theorem sh_valid {zs : List Plc} {t : Int} (hv : valF zs = 0) (ha : shAll zs t = true) : valF (shUp zs t zs.length) = 0 := by
  obtain ⟨h64, hok⟩ := valF_ok hv
  have hov : ovAny zs = false := by
    cases h : ovAny zs
    · rfl
    · unfold valF at hv
      rw [if_neg (by omega), if_neg (by simp [hok]), h] at hv
      simp at hv
  unfold valF
  rw [shUp_length, if_neg (by omega)]
  have h1 : okAll (shUp zs t zs.length) = true := by
    apply okAll_yes
    intro j hj
    rw [shUp_length] at hj
    have hj' := okAll_at hok hj
    unfold okAt at hj' ⊢
    rw [shUp_at hj]
    have hp : isPlB (shP t zs[j]!) = true := by
      obtain ⟨A, Z, V, K, N, hp, hAZ, hZ, hV, hK, hN⟩ := place_nums (okAt_place (okAll_at hok hj))
      have hs := shAll_at ha hj
      have hi := okAt_place (okAll_at hok hj)
      rw [hp] at hs hi ⊢
      exact (sh_place hi hAZ hZ).trans hs
    rw [hp]
    by_cases h0 : j = 0
    · subst h0
      rfl
    · rw [shUp_at (show j - 1 < zs.length by omega), befB_sh]
      simp only [Bool.and_eq_true] at hj'
      simp only [Bool.true_and]
      exact hj'.2
  have h2 : ovAny (shUp zs t zs.length) = false := by
    apply ovAny_no
    intro j hj
    rw [shUp_length] at hj
    have : ovAt zs j = false := by
      cases h : ovAt zs j
      · rfl
      · rw [ovAny_yes hj h] at hov
        cases hov
    rw [← this]
    unfold ovAt
    rw [shUp_at hj]
    apply Bool.eq_iff_iff.2
    rw [List.any_eq_true, List.any_eq_true]
    have e : ∀ x, x ∈ List.range j → (decide ((shUp zs t zs.length)[x]!.v = (shP t zs[j]!).v) && covB (shUp zs t zs.length)[x]! (shP t zs[j]!).a) = (decide (zs[x]!.v = zs[j]!.v) && covB zs[x]! zs[j]!.a) := by
      intro x hx
      rw [shUp_at (show x < zs.length by have := List.mem_range.1 hx; omega), covB_sh]
      rfl
    constructor
    · rintro ⟨x, hx, h⟩
      exact ⟨x, hx, (e x hx) ▸ h⟩
    · rintro ⟨x, hx, h⟩
      exact ⟨x, hx, (e x hx).symm ▸ h⟩
  rw [if_neg (by simp [h1]), h2]
  rfl
theorem sh_bound {zs : List Plc} {t : Int} (hv : valF zs = 0) (ha : shAll zs t = true) (h0 : 0 < zs.length) : -32768 ≤ t ∧ t ≤ 32768 := by
  obtain ⟨A, Z, V, K, N, hp, hAZ, hZ, hV, hK, hN⟩ := place_nums (okAt_place (okAll_at (valF_ok hv).2 h0))
  have hs := shAll_at ha h0
  rw [hp] at hs
  obtain ⟨h1, h2⟩ := inB_iff.1 hs
  simp only at h1 h2
  omega
/-- Shifted back. -/
theorem sh_back {zs : List Plc} {t : Int} (hX : shX zs t = 0) : shX (shT zs t) (wrap64 (-t)) = 0 ∧ shT (shT zs t) (wrap64 (-t)) = zs := by
  have hv : valF zs = 0 := by
    apply Classical.byContradiction
    intro h
    unfold shX at hX
    rw [if_neg h] at hX
    exact h hX
  have ha : shAll zs t = true := by
    unfold shX at hX
    rw [if_pos hv] at hX
    cases h : shAll zs t
    · rw [h] at hX
      simp at hX
    · rfl
  have e : shT zs t = shUp zs t zs.length := if_pos ⟨hv, ha⟩
  rw [e]
  by_cases h0 : zs.length = 0
  · obtain rfl := List.eq_nil_of_length_eq_zero h0
    exact ⟨rfl, rfl⟩
  · have hb := sh_bound hv ha (by omega)
    have ew : wrap64 (-t) = -t := by unfold wrap64; omega
    rw [ew]
    have hv2 := sh_valid hv ha
    have ha2 : shAll (shUp zs t zs.length) (-t) = true := by
      apply shAll_yes
      intro j hj
      rw [shUp_length] at hj
      rw [shUp_at hj]
      obtain ⟨A, Z, V, K, N, hp, hAZ, hZ, hV, hK, hN⟩ := place_nums (okAt_place (okAll_at (valF_ok hv).2 hj))
      rw [hp]
      unfold shOk shP
      apply inB_yes
      · simp only
        omega
      · simp only
        omega
    refine ⟨by unfold shX; rw [if_pos hv2, if_pos ha2], ?_⟩
    unfold shT
    rw [if_pos ⟨hv2, ha2⟩, shUp_length]
    apply List.ext_getElem
    · rw [shUp_length]
    · intro j h1 h2
      have := shUp_at (zs := shUp zs t zs.length) (t := -t) h2
      rw [shUp_at (zs := zs) (t := t) h2] at this
      have e1 : (shUp (shUp zs t zs.length) (-t) zs.length)[j] = (shUp (shUp zs t zs.length) (-t) zs.length)[j]! := by simp [h1]
      rw [e1, this]
      have e2 : zs[j]! = zs[j] := by simp [h2]
      rw [e2]
      generalize zs[j] = p
      obtain ⟨a, z, v, k, n⟩ := p
      unfold shP
      simp only
      congr 1 <;> omega
section
variable {w : World} {A : Option Addr} {n c : Nat} {zs : List Plc}
set_option maxRecDepth 100000 in
set_option maxHeartbeats 4000000 in
theorem shift_tab (h : Tab w A n c zs) (t : Int) : Calls Try.prog 32 #[.slice A n c, .int .i64 t] w fun e w' => ∃ A' n' c', e = .returned (.tuple #[.slice A' n' c', .int .i64 (shX zs t)]) ∧ Tab w' A' n' c' (shT zs t) ∧ Below w.heap.size w w' := by
  obtain ⟨i0, hi, hz0, hz1, hz2⟩ := info_parts infoPl
  have HC := Lib.hid (fun w1 (hb : Below w.heap.size w w1) => validate_tab (h.below hb))
  have HT := Lib.hid h
  by_cases hv : valF zs = 0
  · obtain ⟨h64, hok⟩ := valF_ok hv
    have hn : n = zs.length := h.shape
    rw [hv] at HC
    have HN := Lib.hid (fun i (hi : i < zs.length) (h : shOk t zs[i]! = false) => (show shX zs t = 1 ∧ shT zs t = [] by
      have := shAll_no hi h
      unfold shX shT
      rw [if_pos hv, this]
      simp))
    have HY := Lib.hid (fun (h : ∀ j, j < zs.length → shOk t zs[j]! = true) => (show shX zs t = 0 ∧ shT zs t = shUp zs t zs.length by
      have := shAll_yes h
      unfold shX shT
      rw [if_pos hv, this]
      simp [hv]))
    generalize shX zs t = X at HN HY ⊢
    generalize shT zs t = T at HN HY ⊢
    have HOK := Lib.hid hok
    have HNN := Lib.hid hn
    have n64 : n ≤ 64 := by omega
    clear hv hok hn h64 h
    go_enter Try.func32, Try.ntmps32
    go_wp2_with fail
    refine (HC.out _ (Below.refl _ _)).mono ?_
    rintro e w1 ⟨rfl, hb1⟩
    clear HC
    go_wp2
    go_loopw [7, 17] (fun vl zi wr => ∃ i : Nat, i ≤ n ∧ zi = .int .i64 (i : Int) ∧ wr.ownsRow w.heap.size 33 5 vl i (placesV (shUp zs t i)) ∧ Below w.heap.size w wr ∧ Hid (∀ j, j < i → shOk t zs[j]! = true)) (fun _ zi _ => n - (intOf zi).toNat)
    case atStart => exact ⟨0, by omega, rfl, World.ownsRow_nil _ _ _ _, hb1, Lib.hid (fun j hj => absurd hj (by omega))⟩
    case round =>
      clear hb1
      obtain ⟨i, hi', rfl, hown, hb, HJ⟩ := hrel
      by_cases hlt : i < n
      · have hilt : i < zs.length := by have := HNN.out; omega
        rcases HT.out.parts with ⟨h0, -⟩ | ⟨-, hnc, hcm, bb, oo, rfl, hL⟩
        · omega
        have ht := (hL.below hb).at_ hilt
        obtain ⟨P, Z, V, K, N, hp, hAZ, hZ, hV, hK, hN⟩ := place_nums (okAt_place (okAll_at HOK.out hilt))
        have hpl := okAt_place (okAll_at HOK.out hilt)
        have HNi := Lib.hid (HN.out i hilt)
        have HUS := Lib.hid (shUp_succ zs t i)
        have HJ2 := Lib.hid (show shOk t zs[i]! = true → ∀ j, j < i + 1 → shOk t zs[j]! = true from fun h j hj => by
          by_cases hji : j = i
          · rw [hji]; exact h
          · exact HJ.out j (by omega))
        rw [hp] at ht hpl HNi HUS HJ2
        have HSP := Lib.hid (sh_place hpl hAZ hZ (t := t))
        clear hp hpl hL HJ
        obtain ⟨c0, c1, c2, c3, c4⟩ := ht
        simp only at c0 c1 c2 c3 c4
        by_cases hlo : t < -32768
        · obtain ⟨hX, hT⟩ := HNi.out (show inB t (-(P : Int)) (32768 - (Z : Int)) = false from inB_no (.inl (by omega)))
          subst hX hT
          have d1 : decide (t < -32768) = true := decide_eq_true hlo
          clear hown HSP HUS HJ2 HNi
          go_wp2
          refine bodyPost_ret (results_tmp2 rfl _ _ _) rfl ?_
          exact ⟨none, 0, 0, rfl, tab_nil _, hb.alloc hb.size _⟩
        · by_cases hhi : 32768 < t
          · obtain ⟨hX, hT⟩ := HNi.out (show inB t (-(P : Int)) (32768 - (Z : Int)) = false from inB_no (.inr (by omega)))
            subst hX hT
            have d1 : decide (t < -32768) = false := decide_eq_false hlo
            have d2 : decide (32768 < t) = true := decide_eq_true hhi
            clear hown HSP HUS HJ2 HNi
            go_wp2
            refine bodyPost_ret (results_tmp2 rfl _ _ _) rfl ?_
            exact ⟨none, 0, 0, rfl, tab_nil _, hb.alloc hb.size _⟩
          · have d1 : decide (t < -32768) = false := decide_eq_false hlo
            have d2 : decide (32768 < t) = false := decide_eq_false hhi
            go_wp2_with fail
            have hx := box_new wr ⟨(P : Int) + t, (Z : Int) + t, V, K, N⟩ 33
            simp only at hx
            have hb2 : Below w.heap.size w (wr.alloc (.cells #[.int .i64 ((P : Int) + t), .int .i64 ((Z : Int) + t), .int .i64 V, .int .i64 K, .int .i64 N] 33)) := hb.alloc hb.size _
            have hown2 := hown.alloc (.cells #[.int .i64 ((P : Int) + t), .int .i64 ((Z : Int) + t), .int .i64 V, .int .i64 K, .int .i64 N] 33)
            generalize World.alloc wr _ = W1 at hx hb2 hown2 ⊢
            clear c0 c1 c2 c3 c4 hown hb
            have HX := Lib.hid hx
            cases hB : inB t (-(P : Int)) (32768 - (Z : Int))
            · obtain ⟨hX, hT⟩ := HNi.out hB
              subst hX hT
              have HB := Lib.hid (HSP.out.trans hB)
              clear HJ2 HNi hown2 HUS HSP hB hx
              refine (isPlace_at ⟨(P : Int) + t, (Z : Int) + t, V, K, N⟩ false _ HB.out).mono ?_
              rintro e w2 ⟨rfl, hb3⟩
              go_wp2
              refine bodyPost_ret (results_tmp2 rfl _ _ _) rfl ?_
              exact ⟨none, 0, 0, rfl, tab_nil _, hb2.trans (hb3.mono hb2.size)⟩
            · have HB := Lib.hid (HSP.out.trans hB)
              have HJ3 := Lib.hid (HJ2.out hB)
              have HO := Lib.hid hown2
              clear HJ2 HNi HSP hB hx hown2
              refine (isPlace_at ⟨(P : Int) + t, (Z : Int) + t, V, K, N⟩ true _ HB.out).mono ?_
              rintro e w2 ⟨rfl, hb3⟩
              have hx := HX.out.below hb3
              have hown := own_below HO.out hb3
              have hb4 := hb2.trans (hb3.mono hb2.size)
              clear HX HO hb2 hb3 HB
              obtain ⟨-, ⟨x0, x1, x2, x3, x4⟩, -⟩ := hx
              simp only at x0 x1 x2 x3 x4
              go_wp2_with (at_builtin; refine wpList_append_own _ rfl _ _ 22 rfl w.heap.size 33 i0 (.agg #[.int .i64 0, .int .i64 0, .int .i64 0, .int .i64 0, .int .i64 0]) 5 40 Try.underlying22 hi hz0 hz1 hz2 rfl (by decide) _ i _ rfl (hown.alloc _) ⟨w2.heap.size, 0, none⟩ 1 1 [.int .i64 ((P : Int) + t), .int .i64 ((Z : Int) + t), .int .i64 (V : Int), .int .i64 (K : Int), .int .i64 (N : Int)] rfl rfl ?c1 ?c2 ?c3 ?c4 ?c5 ?_)
              case c1 => exact news5 (heap_alloc_new w2 _)
              case c2 => intro u hu; simp at hu; rcases hu with rfl | rfl | rfl | rfl | rfl <;> rfl
              case c3 => unfold maxLen; omega
              case c4 => omega
              case c5 => have := hb4.size; simp; omega
              intro v2' w7 hown7 hgrow _
              have hb5 : Below w.heap.size w w7 := (hb4.alloc hb4.size _).grown hgrow (by have := hb4.size; simp; omega) (own_base (hown.alloc (.cells #[.int .i64 ((P : Int) + t), .int .i64 ((Z : Int) + t), .int .i64 (V : Int), .int .i64 (K : Int), .int .i64 (N : Int)] 33)))
              have HO2 := Lib.hid (show w7.ownsRow w.heap.size 33 5 v2' (i + 1) (placesV (shUp zs t (i + 1))) by
                rw [HUS.out, placesV_append]
                exact hown7)
              clear hown hown7 hgrow hb4 HUS x0 x1 x2 x3 x4
              go_wp2
              go_roundw
              case rel =>
                exact ⟨i + 1, by omega, by go_num, HO2.out, hb5, HJ3⟩
              case measure => simp [intOf]; omega
      · obtain rfl : i = n := by omega
        obtain ⟨hX, hT⟩ := HY.out (fun j hj => HJ.out j (by have := HNN.out; omega))
        subst hX hT
        have hown' : wr.ownsRow w.heap.size 33 5 u7 (shUp zs t zs.length).length (placesV (shUp zs t zs.length)) := by
          rw [shUp_length, ← HNN.out]
          exact hown
        obtain ⟨A', c', rfl, hT⟩ := tab_own hown'
        have HTT := Lib.hid hT
        clear hT hown hown'
        go_wp2
        refine bodyPost_ret (results_tmp2 rfl _ _ _) rfl ?_
        exact ⟨A', _, c', rfl, HTT.out, hb⟩
  · have hX : shX zs t = valF zs := if_neg hv
    have hT : shT zs t = [] := if_neg (fun h => hv h.1)
    rw [hX, hT]
    generalize valF zs = X at HC hv
    have dX : (X != 0) = true := by simp [hv]
    clear hX hT h HT
    go_enter Try.func32, Try.ntmps32
    go_wp2_with fail
    refine (HC.out _ (Below.refl _ _)).mono ?_
    rintro e w1 ⟨rfl, hb1⟩
    go_wp2
    refine bodyPost_ret (results_tmp2 rfl _ _ _) rfl ?_
    exact ⟨none, 0, 0, rfl, tab_nil _, hb1⟩
end
end Go.Proofs.Ytdpfglpefncigaa
