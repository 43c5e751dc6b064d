/-
  What Bound and Cost have to do with each other; the walk of TimeBounds.
-/
import Derived.Test.YtjlacdnkncgpaaaTmZd
import Derived.Test.YtjlacdnkncgpaaaTmZb
namespace Go.Proofs.Ytjlacdnkncgpaaa
open Go.RowKit

theorem mx_mono {f g : Int → Int} {t : Int} {l : List Int} (ht : 0 ≤ t) (h : ∀ r, f r ≤ g r) : mxF 0 f l ≤ mxF t g l := by
  obtain ⟨h1, h2, -⟩ := mx_spec g l t
  rcases (mx_spec f l 0).2.2 with e | ⟨r, hr, e⟩
  · omega
  · have := h2 r hr
    have := h r
    omega
theorem nxt_ge (zs : List Cod) : ∀ i : Nat, (i : Int) ≤ nxt (issL zs i) i
  | 0 => by simp [nxt]
  | i + 1 => by
    have h1 := nxt_ge zs i
    have h2 : nxt (issL zs i) i ≤ atF zs (issL zs i) i := (mx_spec _ _ _).1
    rw [nxt_succ]
    omega
theorem at_ge (zs : List Cod) (i : Nat) : (i : Int) ≤ atF zs (issL zs i) i := by
  have h1 := nxt_ge zs i
  have h2 : nxt (issL zs i) i ≤ atF zs (issL zs i) i := (mx_spec _ _ _).1
  omega
theorem wrt_le (zs : List Cod) : ∀ i, (∀ r, wrt zs (sumL zs i) i r ≤ rdy zs (issL zs i) i r) ∧ sumF zs (sumL zs i) i ≤ atF zs (issL zs i) i + latF zs[i]!.op := by
  intro i
  have fin : ∀ i, (∀ r, wrt zs (sumL zs i) i r ≤ rdy zs (issL zs i) i r) → sumF zs (sumL zs i) i ≤ atF zs (issL zs i) i + latF zs[i]!.op := fun i h => by
    have hn := nxt_ge zs i
    have := mx_mono (t := nxt (issL zs i) i) (l := rdF zs[i]!) (by omega) h
    unfold sumF atF
    omega
  induction i with
  | zero => exact ⟨fun r => by simp [wrt, rdy], fin 0 (fun r => by simp [wrt, rdy])⟩
  | succ i ih =>
    have h1 : ∀ r, wrt zs (sumL zs (i + 1)) (i + 1) r ≤ rdy zs (issL zs (i + 1)) (i + 1) r := fun r => by
      rw [wrt_succ, rdy_succ]
      split
      · exact ih.2
      · exact ih.1 r
    exact ⟨h1, fin _ h1⟩
theorem iss_get (zs : List Cod) {j : Nat} : ∀ i, j < i → (issL zs i)[j]! = atF zs (issL zs j) j
  | 0, h => absurd h (by omega)
  | i + 1, h => by
    have e : issL zs (i + 1) = issL zs i ++ [atF zs (issL zs i) i] := rfl
    rw [e]
    by_cases hji : j = i
    · subst hji
      have := get_end (issL zs j) (atF zs (issL zs j) j)
      rwa [issL_len] at this
    · rw [get_app (by rw [issL_len]; omega)]
      exact iss_get zs i (by omega)
theorem mst_cst (zs : List Cod) (n : Nat) : ∀ k : Nat, k ≤ n → mstF zs k ≤ cstF zs (issL zs n) k ∧ (k : Int) ≤ cstF zs (issL zs n) k
  | 0, _ => by simp [mstF, cstF]
  | k + 1, h => by
    have ih := mst_cst zs n k (by omega)
    have h1 := iss_get zs (j := k) n (by omega)
    have h2 := (wrt_le zs k).2
    have h3 := at_ge zs k
    have h4 := lat_pos zs[k]!.op
    unfold mstF cstF
    rw [h1]
    omega
theorem app_val {zs : List Cod} {os : List Int} (hv : valF zs = 0) (hp : permB zs.length os = true) : valF (appL zs os os.length) = 0 := by
  obtain ⟨h40, hval⟩ := val_all hv
  have hl := perm_len hp
  have hlen : (appL zs os os.length).length = os.length := appL_len (Nat.le_refl _)
  refine val_yes (by omega) fun j hj => ?_
  have hjn : j < zs.length := by omega
  have hpj := perm_at hp hjn
  have e : (appL zs os os.length)[j]! = zs[os[j]!.toNat]! := by
    unfold appL
    rw [List.take_length, List.getElem!_eq_getElem?_getD, List.getElem?_map, show os[j]! = os[j] by simp [hl, hjn], List.getElem?_eq_getElem (by omega)]
    rfl
  rw [e]
  exact hval _ (by omega)
/-- What the law asks of the answers. -/
theorem res_app {zs : List Cod} {os : List Int} (ha : aerF zs os = 0) : valF zs = 0 ∧ valF (resA zs os) = 0 ∧ resB (resA zs os) ≤ resC (resA zs os) ∧ (zs.length : Int) ≤ resC (resA zs os) := by
  rcases err_cases zs os with ⟨he, hv, hp⟩ | he | he
  · have ho : ordB zs os = true := by
      unfold aerF at ha
      rw [if_pos he] at ha
      cases hO : ordB zs os
      · rw [hO] at ha; cases ha
      · rfl
    have hR : resA zs os = appL zs os os.length := if_pos ⟨he, ho⟩
    have h0 := app_val hv hp
    have hl := perm_len hp
    have hlen : (appL zs os os.length).length = os.length := appL_len (Nat.le_refl _)
    rw [hR]
    refine ⟨hv, h0, ?_⟩
    have := mst_cst (appL zs os os.length) (appL zs os os.length).length (appL zs os os.length).length (Nat.le_refl _)
    rw [show resB (appL zs os os.length) = mstF (appL zs os os.length) (appL zs os os.length).length from if_pos h0, show resC (appL zs os os.length) = cstF (appL zs os os.length) (issL (appL zs os os.length) (appL zs os os.length).length) (appL zs os os.length).length from if_pos h0]
    omega
  · unfold aerF at ha
    rw [he] at ha
    cases ha
  · unfold aerF at ha
    rw [he] at ha
    cases ha
theorem aer_cases (zs : List Cod) (os : List Int) (hv : valF zs = 0) : aerF zs os = 0 ∨ aerF zs os = 1 ∨ aerF zs os = 7 := by
  unfold aerF
  rw [val_errF hv]
  cases permB zs.length os
  · exact .inr (.inl rfl)
  · cases ordB zs os
    · exact .inr (.inr rfl)
    · exact .inl rfl
section
variable {w : World} {A A2 : Option Addr} {n c c2 : Nat} {zs : List Cod} {os : List Int}
set_option maxRecDepth 100000 in
set_option maxHeartbeats 4000000 in
theorem bounds_walk {n2 : Nat} (h : Tab w A n c zs) (ho : Ints w A2 n2 c2 os) :
    Calls Try.prog 6 #[.slice A n c, .slice A2 n2 c2] w fun e w' => e = .returned (.bool true) ∧ Below w.heap.size w w' := by
  by_cases hn : 100 < n
  · clear h ho
    have HN := Lib.hid hn
    clear hn
    go_enter Try.func6, Try.ntmps6
    go_wp2_with (first | (go_at_call 7; ((with_reducible refine (long_yes _ _ _ _ HN.out).mono ?_); rintro e w' ⟨rfl, rfl⟩)))
    refine (calls_known (Below.refl _ _)).mono ?_
    rintro e w' ⟨rfl, hb⟩
    go_wp2
    go_ret
    exact ⟨rfl, hb⟩
  · have HN := Lib.hid hn
    by_cases hn2 : 200 < n2
    · clear h ho hn
      go_enter Try.func6, Try.ntmps6
      go_wp2_with (first | (go_at_call 7; ((with_reducible refine (long_no _ _ _ _ HN.out).mono ?_); rintro e w' ⟨rfl, rfl⟩)))
      refine (calls_known (Below.refl _ _)).mono ?_
      rintro e w' ⟨rfl, hb⟩
      go_wp2
      go_ret
      exact ⟨rfl, hb⟩
    · have HF := Lib.hid (fun w1 (hb : Below w.heap.size w w1) => Bound_tab (h.below hb))
      have HR := Lib.hid (fun w1 (hb : Below w.heap.size w w1) => refBound_tab (h.below hb))
      have HA := Lib.hid (fun w1 (hb : Below w.heap.size w w1) => Apply_tab (h.below hb) (ho.below hb))
      have hlen := h.shape
      generalize hB : resB zs = RB at HF HR
      have eB : (RB == RB) = true := beq_self_eq_true RB
      have d2 : decide (200 < n2) = false := decide_eq_false hn2
      have d3 : decide ((200 : Int) < (n2 : Int)) = false := decide_eq_false (by omega)
      clear hB
      rcases val_cases zs with hv | hv | hv
      · rw [hv] at HF HR
        rcases aer_cases zs os hv with ha | ha | ha
        · obtain ⟨-, hv2, hle1, hle2⟩ := res_app ha
          rw [← hlen] at hle2
          rw [ha] at HA
          have HC := Lib.hid (fun w1 A1 m c1 (hT : Tab w1 A1 m c1 (resA zs os)) => Cost_tab hT)
          have HD := Lib.hid (fun w1 A1 m c1 (hT : Tab w1 A1 m c1 (resA zs os)) => Bound_tab hT)
          rw [hv2] at HC HD
          generalize resC (resA zs os) = C at hle1 hle2 HC
          generalize resB (resA zs os) = Bd at hle1 HD
          generalize resA zs os = L at HA HC HD
          have d4 : decide (Bd ≤ C) = true := decide_eq_true hle1
          have d5 : decide ((n : Int) ≤ C) = true := decide_eq_true hle2
          clear hv hv2 ha hn h ho hlen hle1 hle2
          go_enter Try.func6, Try.ntmps6
          go_wp2_with (first | (go_at_call 7; ((with_reducible refine (long_no _ _ _ _ HN.out).mono ?_); rintro e w' ⟨rfl, rfl⟩)))
          refine (HF.out _ (Below.refl _ _)).mono ?_
          rintro e w1 ⟨rfl, hb⟩
          go_wp2_with fail
          refine (HR.out _ hb).mono ?_
          rintro e w2 ⟨rfl, hb2⟩
          replace hb := hb.trans (hb2.mono hb.size)
          clear hb2
          go_wp2_with fail
          refine (HA.out _ hb).mono ?_
          rintro e w3 ⟨V, rfl, hown, hb2⟩
          obtain ⟨A3, c3, rfl, hT3⟩ := tab_own hown
          have HT3 := Lib.hid hT3
          have HC2 := Lib.hid (HC.out _ _ _ _ hT3)
          replace hb := hb.trans (hb2.mono hb.size)
          clear hb2 hown hT3
          go_wp2_with fail
          refine HC2.out.mono ?_
          rintro e w4 ⟨rfl, hb2⟩
          have HD2 := Lib.hid (HD.out _ _ _ _ (HT3.out.below hb2))
          replace hb := hb.trans (hb2.mono hb.size)
          clear hb2
          go_wp2_with fail
          refine HD2.out.mono ?_
          rintro e w5 ⟨rfl, hb2⟩
          replace hb := hb.trans (hb2.mono hb.size)
          clear hb2
          go_wp2_with fail
          refine (calls_known hb).mono ?_
          rintro e w' ⟨rfl, hb⟩
          go_wp2
          go_ret
          exact ⟨rfl, hb⟩
        · rw [ha] at HA
          clear hv ha hn h ho hlen
          go_enter Try.func6, Try.ntmps6
          go_wp2_with (first | (go_at_call 7; ((with_reducible refine (long_no _ _ _ _ HN.out).mono ?_); rintro e w' ⟨rfl, rfl⟩)))
          refine (HF.out _ (Below.refl _ _)).mono ?_
          rintro e w1 ⟨rfl, hb⟩
          go_wp2_with fail
          refine (HR.out _ hb).mono ?_
          rintro e w2 ⟨rfl, hb2⟩
          replace hb := hb.trans (hb2.mono hb.size)
          clear hb2
          go_wp2_with fail
          refine (HA.out _ hb).mono ?_
          rintro e w3 ⟨V, rfl, -, hb2⟩
          replace hb := hb.trans (hb2.mono hb.size)
          clear hb2
          go_wp2_with fail
          refine (calls_known hb).mono ?_
          rintro e w' ⟨rfl, hb⟩
          go_wp2
          go_ret
          exact ⟨rfl, hb⟩
        · rw [ha] at HA
          clear hv ha hn h ho hlen
          go_enter Try.func6, Try.ntmps6
          go_wp2_with (first | (go_at_call 7; ((with_reducible refine (long_no _ _ _ _ HN.out).mono ?_); rintro e w' ⟨rfl, rfl⟩)))
          refine (HF.out _ (Below.refl _ _)).mono ?_
          rintro e w1 ⟨rfl, hb⟩
          go_wp2_with fail
          refine (HR.out _ hb).mono ?_
          rintro e w2 ⟨rfl, hb2⟩
          replace hb := hb.trans (hb2.mono hb.size)
          clear hb2
          go_wp2_with fail
          refine (HA.out _ hb).mono ?_
          rintro e w3 ⟨V, rfl, -, hb2⟩
          replace hb := hb.trans (hb2.mono hb.size)
          clear hb2
          go_wp2_with fail
          refine (calls_known hb).mono ?_
          rintro e w' ⟨rfl, hb⟩
          go_wp2
          go_ret
          exact ⟨rfl, hb⟩
      · rw [hv] at HF HR
        generalize aerF zs os = Y at HA
        clear hv hn h ho hlen
        go_enter Try.func6, Try.ntmps6
        go_wp2_with (first | (go_at_call 7; ((with_reducible refine (long_no _ _ _ _ HN.out).mono ?_); rintro e w' ⟨rfl, rfl⟩)))
        refine (HF.out _ (Below.refl _ _)).mono ?_
        rintro e w1 ⟨rfl, hb⟩
        go_wp2_with fail
        refine (HR.out _ hb).mono ?_
        rintro e w2 ⟨rfl, hb2⟩
        replace hb := hb.trans (hb2.mono hb.size)
        clear hb2
        go_wp2_with fail
        refine (HA.out _ hb).mono ?_
        rintro e w3 ⟨V, rfl, -, hb2⟩
        replace hb := hb.trans (hb2.mono hb.size)
        clear hb2
        go_wp2_with fail
        refine (calls_known hb).mono ?_
        rintro e w' ⟨rfl, hb⟩
        go_wp2
        go_ret
        exact ⟨rfl, hb⟩
      · rw [hv] at HF HR
        generalize aerF zs os = Y at HA
        clear hv hn h ho hlen
        go_enter Try.func6, Try.ntmps6
        go_wp2_with (first | (go_at_call 7; ((with_reducible refine (long_no _ _ _ _ HN.out).mono ?_); rintro e w' ⟨rfl, rfl⟩)))
        refine (HF.out _ (Below.refl _ _)).mono ?_
        rintro e w1 ⟨rfl, hb⟩
        go_wp2_with fail
        refine (HR.out _ hb).mono ?_
        rintro e w2 ⟨rfl, hb2⟩
        replace hb := hb.trans (hb2.mono hb.size)
        clear hb2
        go_wp2_with fail
        refine (HA.out _ hb).mono ?_
        rintro e w3 ⟨V, rfl, -, hb2⟩
        replace hb := hb.trans (hb2.mono hb.size)
        clear hb2
        go_wp2_with fail
        refine (calls_known hb).mono ?_
        rintro e w' ⟨rfl, hb⟩
        go_wp2
        go_ret
        exact ⟨rfl, hb⟩
end
end Go.Proofs.Ytjlacdnkncgpaaa
