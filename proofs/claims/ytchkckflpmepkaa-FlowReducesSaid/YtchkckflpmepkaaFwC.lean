/-
  Which graphs are valid; Validate of both packages; Long.
-/
import Derived.Test.YtchkckflpmepkaaFwB
namespace Go.Proofs.Ytchkckflpmepkaa
open Go.RowKit

/-- A slice of numbers of any sign. -/
def Ints (w : World) (A : Option Addr) (n c : Nat) (l : List Int) : Prop := n = l.length ∧ n ≤ c ∧ c ≤ 9223372036854775807 ∧ (n = 0 ∨ ∃ b off, A = some ⟨b, off, none⟩ ∧ b < w.heap.size ∧ ∀ j, j < n → w.cell? ⟨b, off + j, none⟩ = some (.int .i64 l[j]!))
theorem Ints.below {w w' : World} {A : Option Addr} {n c : Nat} {l : List Int} (h : Ints w A n c l) (hb : Below w.heap.size w w') : Ints w' A n c l := by
  obtain ⟨h1, h2, h3, h4 | ⟨b, off, h4, h5, h6⟩⟩ := h
  · exact ⟨h1, h2, h3, .inl h4⟩
  · exact ⟨h1, h2, h3, .inr ⟨b, off, h4, Nat.lt_of_lt_of_le h5 hb.size, fun j hj => (hb.cell (p := ⟨b, off + j, none⟩) h5).trans (h6 j hj)⟩⟩
theorem Ints.at_ {w : World} {A : Option Addr} {n c : Nat} {l : List Int} (h : Ints w A n c l) {j : Nat} (hj : j < n) : ∃ b off, A = some ⟨b, off, none⟩ ∧ b < w.heap.size ∧ w.cell? ⟨b, off + j, none⟩ = some (.int .i64 l[j]!) := by
  obtain ⟨h1, h2, h3, h4 | ⟨b, off, h4, h5, h6⟩⟩ := h
  · omega
  · exact ⟨b, off, h4, h5, h6 j hj⟩
/-- A graph as it came in. -/
def RG (w : World) (A : Option Addr) (n c : Nat) (g : List (List Int)) : Prop := n = g.length ∧ n ≤ c ∧ c ≤ 9223372036854775807 ∧ (n = 0 ∨ ∃ b off, A = some ⟨b, off, none⟩ ∧ b < w.heap.size ∧ ∀ j, j < n → ∃ A' n' c', w.cell? ⟨b, off + j, none⟩ = some (.slice A' n' c') ∧ Ints w A' n' c' g[j]!)
theorem RG.below {w w' : World} {A : Option Addr} {n c : Nat} {g : List (List Int)} (h : RG w A n c g) (hb : Below w.heap.size w w') : RG w' A n c g := by
  obtain ⟨h1, h2, h3, h4 | ⟨b, off, h4, h5, h6⟩⟩ := h
  · exact ⟨h1, h2, h3, .inl h4⟩
  · refine ⟨h1, h2, h3, .inr ⟨b, off, h4, Nat.lt_of_lt_of_le h5 hb.size, fun j hj => ?_⟩⟩
    obtain ⟨A', n', c', h7, h8⟩ := h6 j hj
    exact ⟨A', n', c', (hb.cell (p := ⟨b, off + j, none⟩) h5).trans h7, h8.below hb⟩
theorem RG.at_ {w : World} {A : Option Addr} {n c : Nat} {g : List (List Int)} (h : RG w A n c g) {j : Nat} (hj : j < n) : ∃ b off A' n' c', A = some ⟨b, off, none⟩ ∧ b < w.heap.size ∧ w.cell? ⟨b, off + j, none⟩ = some (.slice A' n' c') ∧ Ints w A' n' c' g[j]! := by
  obtain ⟨h1, h2, h3, h4 | ⟨b, off, h4, h5, h6⟩⟩ := h
  · omega
  · obtain ⟨A', n', c', h7, h8⟩ := h6 j hj
    exact ⟨b, off, A', n', c', h4, h5, h7, h8⟩
def natG (g : List (List Int)) : List (List Nat) := g.map fun r => r.map Int.toNat
def shortG (g : List (List Int)) : Bool := (List.range g.length).all fun j => decide (g[j]!.length ≤ 2)
def insideG (g : List (List Int)) : Bool := (List.range g.length).all fun j => (List.range g[j]!.length).all fun i => nodeB g[j]![i]! g.length
/-- What Validate answers. -/
def valF (g : List (List Int)) : Int := if g.length < 1 ∨ 10 < g.length then 3 else if shortG g then (if insideG g then 0 else 1) else 3
theorem short_iff {g : List (List Int)} : shortG g = true ↔ ∀ j, j < g.length → g[j]!.length ≤ 2 := by
  unfold shortG
  rw [List.all_eq_true]
  exact ⟨fun h j hj => of_decide_eq_true (h j (List.mem_range.2 hj)), fun h j hj => decide_eq_true (h j (List.mem_range.1 hj))⟩
theorem inside_iff {g : List (List Int)} : insideG g = true ↔ ∀ j, j < g.length → ∀ i, i < g[j]!.length → nodeB g[j]![i]! g.length = true := by
  unfold insideG
  rw [List.all_eq_true]
  constructor
  · intro h j hj i hi
    have := h j (List.mem_range.2 hj)
    rw [List.all_eq_true] at this
    exact this i (List.mem_range.2 hi)
  · intro h j hj
    rw [List.all_eq_true]
    exact fun i hi => h j (List.mem_range.1 hj) i (List.mem_range.1 hi)
theorem val_large {g : List (List Int)} (h : g.length < 1 ∨ 10 < g.length) : valF g = 3 := if_pos h
theorem val_long {g : List (List Int)} {j : Nat} (hj : j < g.length) (h : 2 < g[j]!.length) : valF g = 3 := by
  unfold valF
  split
  · rfl
  · rw [if_neg]
    intro hs
    have := short_iff.1 hs j hj
    omega
theorem val_arg {g : List (List Int)} (h0 : ¬ (g.length < 1 ∨ 10 < g.length)) (hs : ∀ j, j < g.length → g[j]!.length ≤ 2) {j i : Nat} (hj : j < g.length) (hi : i < g[j]!.length) (h : nodeB g[j]![i]! g.length = false) : valF g = 1 := by
  unfold valF
  rw [if_neg h0, if_pos (short_iff.2 hs), if_neg]
  intro hh
  rw [inside_iff.1 hh j hj i hi] at h
  cases h
theorem val_ok {g : List (List Int)} (h0 : ¬ (g.length < 1 ∨ 10 < g.length)) (hs : ∀ j, j < g.length → g[j]!.length ≤ 2) (hi : ∀ j, j < g.length → ∀ i, i < g[j]!.length → nodeB g[j]![i]! g.length = true) : valF g = 0 := by
  unfold valF
  rw [if_neg h0, if_pos (short_iff.2 hs), if_pos (inside_iff.2 hi)]
theorem val_cases (g : List (List Int)) : valF g = 0 ∨ valF g = 1 ∨ valF g = 3 := by
  unfold valF
  split
  · exact .inr (.inr rfl)
  · split
    · split
      · exact .inl rfl
      · exact .inr (.inl rfl)
    · exact .inr (.inr rfl)
theorem val_zero {g : List (List Int)} (h : valF g = 0) : 1 ≤ g.length ∧ g.length ≤ 10 ∧ (∀ j, j < g.length → g[j]!.length ≤ 2) ∧ ∀ j, j < g.length → ∀ i, i < g[j]!.length → 0 ≤ g[j]![i]! ∧ g[j]![i]! < g.length := by
  unfold valF at h
  split at h
  · omega
  · split at h
    · split at h
      · rename_i h1 h2 h3
        refine ⟨by omega, by omega, short_iff.1 h2, fun j hj i hi => ?_⟩
        exact of_decide_eq_true (inside_iff.1 h3 j hj i hi)
      · omega
    · omega
theorem suc_nat (g : List (List Int)) (j : Nat) : suc (natG g) j = g[j]!.map Int.toNat := by
  unfold suc natG
  by_cases hj : j < g.length
  · simp [hj]
  · simp [Nat.le_of_not_lt hj]
    rfl
theorem okG_val {g : List (List Int)} (h : valF g = 0) : okG (natG g) := by
  obtain ⟨h1, h2, h3, h4⟩ := val_zero h
  have hl : (natG g).length = g.length := by simp [natG]
  refine ⟨by omega, by omega, fun v => ?_, fun v u hu => ?_⟩
  · rw [suc_nat, List.length_map]
    by_cases hv : v < g.length
    · exact h3 v hv
    · have : g[v]! = [] := by simp [Nat.le_of_not_lt hv]; rfl
      rw [this]
      simp
  · rw [suc_nat] at hu
    obtain ⟨x, hx, rfl⟩ := List.mem_map.1 hu
    by_cases hv : v < g.length
    · obtain ⟨i, hi, rfl⟩ := List.mem_iff_getElem.1 hx
      have := h4 v hv i hi
      rw [getElem!_pos (g[v]!) i hi] at this
      omega
    · have : g[v]! = [] := by simp [Nat.le_of_not_lt hv]; rfl
      rw [this] at hx
      cases hx
theorem MG_of {w : World} {A : Option Addr} {n c : Nat} {g : List (List Int)} (h : RG w A n c g) (hv : valF g = 0) : MG w A n c (natG g) := by
  obtain ⟨h1, h2, h3, h4⟩ := val_zero hv
  obtain ⟨r1, r2, r3, r4⟩ := h
  refine ⟨by simp [natG, r1], r2, r3, ?_⟩
  rcases r4 with r4 | ⟨b, off, r4, r5, r6⟩
  · exact .inl r4
  · refine .inr ⟨b, off, r4, r5, fun j hj => ?_⟩
    obtain ⟨A', n', c', h7, q1, q2, q3, q4⟩ := r6 j hj
    refine ⟨A', n', c', h7, by rw [suc_nat, List.length_map]; exact q1, q2, q3, ?_⟩
    rcases q4 with q4 | ⟨b', off', q4, q5, q6⟩
    · exact .inl q4
    · refine .inr ⟨b', off', q4, q5, fun i hi => ?_⟩
      rw [q6 i hi, suc_nat]
      have hb := h4 j (by omega) i (by omega)
      have e : (g[j]!.map Int.toNat)[i]! = (g[j]![i]!).toNat := by
        have hi' : i < g[j]!.length := by omega
        generalize g[j]! = r at hi'
        simp [hi']
      rw [e, Int.toNat_of_nonneg hb.1]
theorem isNode_at (v : Int) (n : Nat) (B : Bool) (hB : nodeB v n = B) (A : Option Addr) (c : Nat) (w : World) (hn : n ≤ 4611686018427387904) : Calls Try.prog 45 #[.slice A n c, .int .i64 v] w fun e w' => e = .returned (.bool B) ∧ w = w' := by
  subst hB
  exact isNode_any A n c v w hn
section
variable {w : World} {A : Option Addr} {n c : Nat} {g : List (List Int)}
set_option maxRecDepth 100000 in
set_option maxHeartbeats 4000000 in
theorem validate_any (h : RG w A n c g) : Calls Try.prog 17 #[.slice A n c] w fun e w' => e = .returned (.int .i64 (valF g)) ∧ w = w' := by
  have H := Lib.hid h
  have HN := Lib.hid h.1
  have hcap := h.2.1
  have hmax := h.2.2.1
  clear h
  by_cases hn1 : n < 1
  · have HV := Lib.hid (val_large (g := g) (by rw [← HN.out]; exact .inl hn1))
    obtain rfl : n = 0 := by omega
    go_enter Try.func17, Try.ntmps17
    go_wp2
    go_ret
    exact ⟨ret_i (by rw [HV.out]), rfl⟩
  · by_cases hn10 : 10 < n
    · have HV := Lib.hid (val_large (g := g) (by rw [← HN.out]; exact .inr hn10))
      go_enter Try.func17, Try.ntmps17
      go_wp2
      go_ret
      exact ⟨ret_i (by rw [HV.out]), rfl⟩
    · have H0 := Lib.hid (show ¬ (g.length < 1 ∨ 10 < g.length) by rw [← HN.out]; omega)
      go_enter Try.func17, Try.ntmps17
      go_wp2
      go_loop [19] (fun zi => ∃ i : Nat, i ≤ n ∧ zi = .int .i64 (i : Int) ∧ Hid (∀ j, j < i → g[j]!.length ≤ 2)) (fun zi => n - (intOf zi).toNat)
      case atStart => exact ⟨0, by omega, rfl, Lib.hid fun j hj => absurd hj (by omega)⟩
      case round =>
        obtain ⟨i, hi, rfl, HJ⟩ := hrel
        by_cases hlt : i < n
        · obtain ⟨b, off, A', n', c', rfl, hbs, hc, hr⟩ := H.out.at_ hlt
          have hr1 := hr.1
          by_cases h2 : 2 < n'
          · have HV := Lib.hid (val_long (g := g) (j := i) (by rw [← HN.out]; exact hlt) (by rw [← hr1]; exact h2))
            clear hr hr1
            go_wp2
            go_ret
            exact ⟨ret_i (by rw [HV.out]), rfl⟩
          · have HJ2 := Lib.hid (show ∀ j, j < i + 1 → g[j]!.length ≤ 2 from fun j hj => by
              by_cases hji : j = i
              · rw [hji]; omega
              · exact HJ.out j (by omega))
            clear hr hr1
            go_wp2
            go_roundw
            case rel => exact ⟨i + 1, by omega, by go_num, HJ2⟩
            case measure => simp [intOf]; omega
        · obtain rfl : i = n := by omega
          have HS := Lib.hid (show ∀ j, j < g.length → g[j]!.length ≤ 2 by rw [← HN.out]; exact HJ.out)
          clear HJ
          go_wp2
          go_loop [29] (fun zi => ∃ k : Nat, k ≤ i ∧ zi = .int .i64 (k : Int) ∧ Hid (∀ j, j < k → ∀ i, i < g[j]!.length → nodeB g[j]![i]! g.length = true)) (fun zi => i - (intOf zi).toNat)
          case atStart => exact ⟨0, by omega, rfl, Lib.hid fun j hj => absurd hj (by omega)⟩
          case round =>
            obtain ⟨k, hk, rfl, HJ⟩ := hrel
            by_cases hkl : k < i
            · obtain ⟨b, off, A', n', c', rfl, hbs, hc, hr⟩ := H.out.at_ hkl
              have hr1 := hr.1
              have hcap' := hr.2.1
              have hmax' := hr.2.2.1
              have hs2 := HS.out k (by rw [← HN.out]; exact hkl)
              have HR := Lib.hid hr
              have HR1 := Lib.hid hr1
              clear hr hr1
              go_wp2
              go_loop [35] (fun zi => ∃ q : Nat, q ≤ n' ∧ zi = .int .i64 (q : Int) ∧ Hid (∀ i, i < q → nodeB g[k]![i]! g.length = true)) (fun zi => n' - (intOf zi).toNat)
              case atStart => exact ⟨0, by omega, rfl, Lib.hid fun j hj => absurd hj (by omega)⟩
              case round =>
                obtain ⟨q, hq, rfl, HQ⟩ := hrel
                by_cases hql : q < n'
                · obtain ⟨b', off', rfl, hbs', hc'⟩ := HR.out.at_ hql
                  have HX := Lib.hid (fun B hB w1 => isNode_at g[k]![q]! i B hB (some ⟨b, off, none⟩) c w1 (by omega))
                  have HBAD := Lib.hid (fun hb => val_arg (g := g) (j := k) (i := q) H0.out HS.out (by rw [← HN.out]; exact hkl) (by rw [← HR1.out]; exact hql) hb)
                  have HQ2 := Lib.hid (show nodeB g[k]![q]! g.length = true → ∀ i, i < q + 1 → nodeB g[k]![i]! g.length = true from fun h j hj => by
                    by_cases hji : j = q
                    · rw [hji]; exact h
                    · exact HQ.out j (by omega))
                  generalize g[k]![q]! = p at hc' HX HBAD HQ2
                  cases hB : nodeB p i
                  · have HX2 := Lib.hid (HX.out false hB)
                    have HE := Lib.hid (HBAD.out (by rw [← HN.out]; exact hB))
                    clear HX HBAD HQ2 hB
                    go_wp2_with (go_at_call 45; with_reducible refine (HX2.out _).mono ?_; rintro e w' ⟨rfl, rfl⟩)
                    go_ret
                    exact ⟨ret_i (by rw [HE.out]), rfl⟩
                  · have HX2 := Lib.hid (HX.out true hB)
                    have HE := Lib.hid (HQ2.out (by rw [← HN.out]; exact hB))
                    clear HX HBAD HQ2 hB
                    go_wp2_with (go_at_call 45; with_reducible refine (HX2.out _).mono ?_; rintro e w' ⟨rfl, rfl⟩)
                    go_roundw
                    case rel => exact ⟨q + 1, by omega, by go_num, HE⟩
                    case measure => simp [intOf]; omega
                · obtain rfl : q = n' := by omega
                  have HJ2 := Lib.hid (show ∀ j, j < k + 1 → ∀ i, i < g[j]!.length → nodeB g[j]![i]! g.length = true from fun j hj => by
                    by_cases hji : j = k
                    · rw [hji, ← HR1.out]; exact HQ.out
                    · exact HJ.out j (by omega))
                  go_wp2
                  go_roundw
                  case rel => exact ⟨k + 1, by omega, by go_num, HJ2⟩
                  case measure => simp [intOf]; omega
            · obtain rfl : k = i := by omega
              have HV := Lib.hid (val_ok H0.out HS.out (fun j hj => HJ.out j (by rw [HN.out]; exact hj)))
              go_wp2
              go_ret
              exact ⟨ret_i (by rw [HV.out]), rfl⟩
set_option maxRecDepth 100000 in
set_option maxHeartbeats 4000000 in
theorem refValidate_any (h : RG w A n c g) : Calls Try.prog 18 #[.slice A n c] w fun e w' => e = .returned (.int .i64 (valF g)) ∧ w = w' := by
  have H := Lib.hid h
  have HN := Lib.hid h.1
  have hcap := h.2.1
  have hmax := h.2.2.1
  clear h
  by_cases hn1 : n < 1
  · have HV := Lib.hid (val_large (g := g) (by rw [← HN.out]; exact .inl hn1))
    obtain rfl : n = 0 := by omega
    go_enter Try.func18, Try.ntmps18
    go_wp2
    go_ret
    exact ⟨ret_i (by rw [HV.out]), rfl⟩
  · by_cases hn10 : 10 < n
    · have HV := Lib.hid (val_large (g := g) (by rw [← HN.out]; exact .inr hn10))
      go_enter Try.func18, Try.ntmps18
      go_wp2
      go_ret
      exact ⟨ret_i (by rw [HV.out]), rfl⟩
    · have H0 := Lib.hid (show ¬ (g.length < 1 ∨ 10 < g.length) by rw [← HN.out]; omega)
      go_enter Try.func18, Try.ntmps18
      go_wp2
      go_loop [3] (fun zi => ∃ i : Nat, i ≤ n ∧ zi = .int .i64 (i : Int) ∧ Hid (∀ j, j < i → g[j]!.length ≤ 2)) (fun zi => n - (intOf zi).toNat)
      case atStart => exact ⟨0, by omega, rfl, Lib.hid fun j hj => absurd hj (by omega)⟩
      case round =>
        obtain ⟨i, hi, rfl, HJ⟩ := hrel
        by_cases hlt : i < n
        · obtain ⟨b, off, A', n', c', rfl, hbs, hc, hr⟩ := H.out.at_ hlt
          have hr1 := hr.1
          by_cases h2 : 2 < n'
          · have HV := Lib.hid (val_long (g := g) (j := i) (by rw [← HN.out]; exact hlt) (by rw [← hr1]; exact h2))
            clear hr hr1
            go_wp2
            go_ret
            exact ⟨ret_i (by rw [HV.out]), rfl⟩
          · have HJ2 := Lib.hid (show ∀ j, j < i + 1 → g[j]!.length ≤ 2 from fun j hj => by
              by_cases hji : j = i
              · rw [hji]; omega
              · exact HJ.out j (by omega))
            clear hr hr1
            go_wp2
            go_roundw
            case rel => exact ⟨i + 1, by omega, by go_num, HJ2⟩
            case measure => simp [intOf]; omega
        · obtain rfl : i = n := by omega
          have HS := Lib.hid (show ∀ j, j < g.length → g[j]!.length ≤ 2 by rw [← HN.out]; exact HJ.out)
          clear HJ
          go_wp2
          go_loop [4] (fun zi => ∃ k : Nat, k ≤ i ∧ zi = .int .i64 (k : Int) ∧ Hid (∀ j, j < k → ∀ i, i < g[j]!.length → nodeB g[j]![i]! g.length = true)) (fun zi => i - (intOf zi).toNat)
          case atStart => exact ⟨0, by omega, rfl, Lib.hid fun j hj => absurd hj (by omega)⟩
          case round =>
            obtain ⟨k, hk, rfl, HJ⟩ := hrel
            by_cases hkl : k < i
            · obtain ⟨b, off, A', n', c', rfl, hbs, hc, hr⟩ := H.out.at_ hkl
              have hr1 := hr.1
              have hcap' := hr.2.1
              have hmax' := hr.2.2.1
              have hs2 := HS.out k (by rw [← HN.out]; exact hkl)
              have HR := Lib.hid hr
              have HR1 := Lib.hid hr1
              clear hr hr1
              go_wp2
              go_loop [5] (fun zi => ∃ q : Nat, q ≤ n' ∧ zi = .int .i64 (q : Int) ∧ Hid (∀ i, i < q → nodeB g[k]![i]! g.length = true)) (fun zi => n' - (intOf zi).toNat)
              case atStart => exact ⟨0, by omega, rfl, Lib.hid fun j hj => absurd hj (by omega)⟩
              case round =>
                obtain ⟨q, hq, rfl, HQ⟩ := hrel
                by_cases hql : q < n'
                · obtain ⟨b', off', rfl, hbs', hc'⟩ := HR.out.at_ hql
                  have HBAD := Lib.hid (fun hb => val_arg (g := g) (j := k) (i := q) H0.out HS.out (by rw [← HN.out]; exact hkl) (by rw [← HR1.out]; exact hql) hb)
                  have HQ2 := Lib.hid (show nodeB g[k]![q]! g.length = true → ∀ i, i < q + 1 → nodeB g[k]![i]! g.length = true from fun h j hj => by
                    by_cases hji : j = q
                    · rw [hji]; exact h
                    · exact HQ.out j (by omega))
                  generalize g[k]![q]! = p at hc' HBAD HQ2
                  by_cases p0 : p < 0
                  · have HE := Lib.hid (HBAD.out (decide_eq_false (by omega)))
                    have d0 : decide (p < 0) = true := decide_eq_true p0
                    clear HBAD HQ2
                    go_wp2
                    go_ret
                    exact ⟨ret_i (by rw [HE.out]), rfl⟩
                  · have d0 : decide (p < 0) = false := decide_eq_false p0
                    by_cases p1 : (i : Int) ≤ p
                    · have HE := Lib.hid (HBAD.out (decide_eq_false (by rw [← HN.out]; omega)))
                      have d1 : decide ((i : Int) ≤ p) = true := decide_eq_true p1
                      clear HBAD HQ2
                      go_wp2
                      go_ret
                      exact ⟨ret_i (by rw [HE.out]), rfl⟩
                    · have HE := Lib.hid (HQ2.out (decide_eq_true (by rw [← HN.out]; omega)))
                      have d1 : decide ((i : Int) ≤ p) = false := decide_eq_false p1
                      clear HBAD HQ2
                      go_wp2
                      go_roundw
                      case rel => exact ⟨q + 1, by omega, by go_num, HE⟩
                      case measure => simp [intOf]; omega
                · obtain rfl : q = n' := by omega
                  have HJ2 := Lib.hid (show ∀ j, j < k + 1 → ∀ i, i < g[j]!.length → nodeB g[j]![i]! g.length = true from fun j hj => by
                    by_cases hji : j = k
                    · rw [hji, ← HR1.out]; exact HQ.out
                    · exact HJ.out j (by omega))
                  go_wp2
                  go_roundw
                  case rel => exact ⟨k + 1, by omega, by go_num, HJ2⟩
                  case measure => simp [intOf]; omega
            · obtain rfl : k = i := by omega
              have HV := Lib.hid (val_ok H0.out HS.out (fun j hj => HJ.out j (by rw [HN.out]; exact hj)))
              go_wp2
              go_ret
              exact ⟨ret_i (by rw [HV.out]), rfl⟩
set_option maxRecDepth 100000 in
set_option maxHeartbeats 4000000 in
/-- Whether a graph is long: if not, it has at most 50 nodes. -/
theorem long_any (h : RG w A n c g) : Calls Try.prog 11 #[.slice A n c] w fun e w' => (e = .returned (.bool true) ∨ e = .returned (.bool false) ∧ n ≤ 50) ∧ w = w' := by
  have H := Lib.hid h
  have hcap := h.2.1
  have hmax := h.2.2.1
  clear h
  go_enter Try.func11, Try.ntmps11
  go_wp2
  go_loop [3] (fun zi => ∃ i : Nat, i ≤ n ∧ zi = .int .i64 (i : Int)) (fun zi => n - (intOf zi).toNat)
  case atStart => exact ⟨0, by omega, rfl⟩
  case round =>
    obtain ⟨i, hi, rfl⟩ := hrel
    by_cases hlt : i < n
    · obtain ⟨b, off, A', n', c', rfl, hbs, hc, hr⟩ := H.out.at_ hlt
      by_cases h2 : 50 < n'
      · clear hr
        go_wp2
        go_ret
        exact ⟨.inl rfl, rfl⟩
      · clear hr
        go_wp2
        go_roundw
        case rel => exact ⟨i + 1, by omega, by go_num⟩
        case measure => simp [intOf]; omega
    · obtain rfl : i = n := by omega
      by_cases h50 : 50 < i
      · have d5 : decide (50 < (i : Int)) = true := decide_eq_true (by omega)
        go_wp2
        go_ret
        exact ⟨.inl rfl, rfl⟩
      · have d5 : decide (50 < (i : Int)) = false := decide_eq_false (by omega)
        go_wp2
        go_ret
        exact ⟨.inr ⟨rfl, by omega⟩, rfl⟩
end
end Go.Proofs.Ytchkckflpmepkaa
