/-
  Validate of the reference, at every table.
-/
import Derived.Test.YtdpfglpefncigaaTrG
namespace Go.Proofs.Ytdpfglpefncigaa
open Go.RowKit

theorem refIsPlace_at (p : Plc) (B : Bool) (w : World) (h : isPlB p = B) : Calls Try.prog 48 #[aggP p] w fun e w' => e = .returned (.bool B) ∧ Below w.heap.size w w' := by
  subst h
  exact refIsPlace_any p w
theorem before_at (p q : Plc) (B : Bool) (w : World) (h : befB p q = B) : Calls Try.prog 49 #[aggP p, aggP q] w fun e w' => e = .returned (.bool B) ∧ Below w.heap.size w w' := by
  subst h
  exact before_any p q w
theorem drewNR {B : Nat} {a w : World} (h : Below B a w) (n : Nat) : Below B a (w.drewN n) := ⟨h.os, h.tape, h.output, h.size, h.block⟩
/-- Whether two places overlap, as the reference asks. -/
def ovR (zs : List Plc) (i k : Nat) : Bool := decide (zs[i]!.v = zs[k]!.v) && decide (zs[i]!.a < zs[k]!.z) && decide (zs[k]!.a < zs[i]!.z)
theorem bef_le {p q : Plc} (h : befB p q = true) : p.a ≤ q.a := by
  unfold befB at h
  split at h
  · have := of_decide_eq_true h
    omega
  · omega
theorem ok_sorted {zs : List Plc} {n : Nat} (h : ∀ j, j < n → okAt zs j = true) : ∀ d k, k + d < n → zs[k]!.a ≤ zs[k + d]!.a
  | 0, k, _ => by simp
  | d + 1, k, hk => by
    have ih := ok_sorted h d k (by omega)
    have h1 := h (k + (d + 1)) hk
    unfold okAt at h1
    rw [Bool.and_eq_true] at h1
    have h2 := h1.2
    rw [show k + (d + 1) - 1 = k + d by omega] at h2
    have h3 : (k + (d + 1) == 0) = false := by simp
    rw [h3, Bool.false_or] at h2
    have := bef_le h2
    omega
theorem ok_place {zs : List Plc} {n j : Nat} (h : ∀ j, j < n → okAt zs j = true) (hj : j < n) : zs[j]!.a < zs[j]!.z := by
  have h1 := h j hj
  unfold okAt isPlB at h1
  simp only [Bool.and_eq_true, decide_eq_true_eq] at h1
  exact h1.1.1.1.1.2
theorem ovR_eq {zs : List Plc} {n i k : Nat} (h : ∀ j, j < n → okAt zs j = true) (hi : i < n) (hk : k < i) : ovR zs i k = (decide (zs[k]!.v = zs[i]!.v) && covB zs[k]! zs[i]!.a) := by
  have h1 := ok_sorted h (i - k) k (by omega)
  rw [show k + (i - k) = i by omega] at h1
  have h2 := ok_place h hi
  unfold ovR covB
  rw [Bool.eq_iff_iff]
  simp only [Bool.and_eq_true, decide_eq_true_eq]
  constructor
  · rintro ⟨⟨a, b⟩, c⟩
    exact ⟨a.symm, h1, b⟩
  · rintro ⟨a, _, b⟩
    exact ⟨⟨a.symm, b⟩, by omega⟩
theorem ovAt_yes {zs : List Plc} {n i k : Nat} (h : ∀ j, j < n → okAt zs j = true) (hi : i < n) (hk : k < i) (ho : ovR zs i k = true) : ovAt zs i = true := by
  unfold ovAt
  rw [List.any_eq_true]
  exact ⟨k, List.mem_range.2 hk, by rw [← ovR_eq h hi hk]; exact ho⟩
theorem ovAt_no {zs : List Plc} {n i : Nat} (h : ∀ j, j < n → okAt zs j = true) (hi : i < n) (ho : ∀ k, k < i → ovR zs i k = false) : ovAt zs i = false := by
  unfold ovAt
  rw [List.any_eq_false]
  intro k hk
  have hk := List.mem_range.1 hk
  rw [← ovR_eq h hi hk, ho k hk]
  simp
set_option maxRecDepth 100000 in
set_option maxHeartbeats 4000000 in
theorem refValidate_any (b off n c : Nat) (zs : List Plc) (w : World) (hL : Lies w b off zs) (hn : n = zs.length) :
    Calls Try.prog 19 #[.slice (some ⟨b, off, none⟩) n c] w fun e w' => e = .returned (.int .i64 (valF zs)) ∧ Below w.heap.size w w' := by
  have HL := Lib.hid hL
  have HN := Lib.hid hn
  clear hL hn
  rcases Nat.lt_or_ge 64 n with h64 | h64
  · have d64 : decide (64 < n) = true := by simp; omega
    go_enter Try.func19, Try.ntmps19
    go_wp2
    go_ret
    exact ⟨ret_i (by unfold valF; rw [if_pos (by have := HN.out; omega)]), Below.refl _ _⟩
  have d64 : decide (64 < n) = false := by simp; omega
  go_enter Try.func19, Try.ntmps19
  go_wp2
  go_loopw [3] (fun z wr => ∃ i : Nat, i ≤ n ∧ z = .int .i64 (i : Int) ∧ Below w.heap.size w wr ∧ ∀ j, j < i → okAt zs j = true) (fun z _ => n - (intOf z).toNat)
  case atStart => exact ⟨0, by omega, rfl, Below.refl _ _, fun j hj => absurd hj (by omega)⟩
  case round =>
    obtain ⟨i, hi, rfl, hb, hj⟩ := hrel
    have HJ := Lib.hid hj
    clear hj
    by_cases hlt : i < n
    · have ht := (HL.out.below hb).at_ (j := i) (by have := HN.out; omega)
      obtain ⟨p, hp⟩ : ∃ p, p = zs[i]! := ⟨_, rfl⟩
      rw [← hp] at ht
      have HP := Lib.hid hp
      clear hp
      obtain ⟨pa, pz, pv, pk, pn⟩ := p
      obtain ⟨c0, c1, c2, c3, c4⟩ := ht
      simp only at c0 c1 c2 c3 c4
      have T0 := cell_regrown c0
      have T1 := cell_regrown c1
      have T2 := cell_regrown c2
      have T3 := cell_regrown c3
      have T4 := cell_regrown c4
      clear c0 c1 c2 c3 c4
      go_wp2
      cases hpl : isPlB ⟨pa, pz, pv, pk, pn⟩
      · have HPL := Lib.hid hpl
        have HB := Lib.hid (show okAt zs i = false by unfold okAt; rw [← HP.out, hpl]; rfl)
        clear hpl
        refine wp_region_quiet_below (by kernel_rfl) (by kernel_rfl) ?_
        have q1 : ∀ (d : Nat) (os : Array Obj), Calls Try.prog 48 #[.agg #[.int .i64 pa, .int .i64 pz, .int .i64 pv, .int .i64 pk, .int .i64 pn]] (Sort.grow (redrawn wr d) os) fun e w'' => e = .returned (.bool false) ∧ ∃ p : Regrown, w'' = Sort.grow (redrawn wr p.d) p.os := fun d os => Calls.regrown_of (refIsPlace_at ⟨pa, pz, pv, pk, pn⟩ false _ HPL.out)
        have Q1 := Lib.hid q1
        clear q1
        iterate 23 (go_big_quiet_step ((go_at_call 48; with_reducible exact Q1.out _ _)))
        refine wpQuiet_nil ?_
        intro _ hw'
        obtain ⟨⟨dq, osq⟩, hw''⟩ := hw'
        subst hw''
        have hb2 := hb.trans ((below_regrown wr dq osq).mono hb.size)
        generalize Sort.grow (redrawn wr dq) osq = W2 at hb2
        clear T0 T1 T2 T3 T4
        go_wp2
        go_ret
        exact ⟨ret_i (by unfold valF; rw [if_neg (by have := HN.out; omega), if_pos (okAll_no (by have := HN.out; omega) HB.out)]), hb2⟩
      have HPL := Lib.hid hpl
      clear hpl
      by_cases hi0 : i = 0
      · subst hi0
        have HB := Lib.hid (show okAt zs 0 = true by unfold okAt; rw [← HP.out, HPL.out]; rfl)
        rw [show ((0 : Nat) : Int) = 0 from rfl]
        simp only [Nat.zero_mul, Nat.add_zero] at T0 T1 T2 T3 T4
        refine wp_region_quiet_below (by kernel_rfl) (by kernel_rfl) ?_
        have q1 : ∀ (d : Nat) (os : Array Obj), Calls Try.prog 48 #[.agg #[.int .i64 pa, .int .i64 pz, .int .i64 pv, .int .i64 pk, .int .i64 pn]] (Sort.grow (redrawn wr d) os) fun e w'' => e = .returned (.bool true) ∧ ∃ p : Regrown, w'' = Sort.grow (redrawn wr p.d) p.os := fun d os => Calls.regrown_of (refIsPlace_at ⟨pa, pz, pv, pk, pn⟩ true _ HPL.out)
        have Q1 := Lib.hid q1
        clear q1
        iterate 23 (go_big_quiet_step ((go_at_call 48; with_reducible exact Q1.out _ _)))
        refine wpQuiet_nil ?_
        intro _ hw'
        obtain ⟨⟨dq, osq⟩, hw''⟩ := hw'
        subst hw''
        have hb2 := hb.trans ((below_regrown wr dq osq).mono hb.size)
        generalize Sort.grow (redrawn wr dq) osq = W2 at hb2
        clear T0 T1 T2 T3 T4
        go_wp2
        go_roundw
        case rel => exact ⟨1, by omega, by go_num, hb2, fun k hk => by
          rcases Nat.lt_or_ge k 0 with h | h
          · exact HJ.out k h
          · obtain rfl : k = 0 := by omega
            exact HB.out⟩
        case measure => simp [intOf]; omega
      have hq := (HL.out.below hb).at_ (j := i - 1) (by have := HN.out; omega)
      obtain ⟨q, hqq⟩ : ∃ q, q = zs[i - 1]! := ⟨_, rfl⟩
      rw [← hqq] at hq
      have HQ := Lib.hid hqq
      clear hqq
      obtain ⟨qa, qz, qv, qk, qn⟩ := q
      obtain ⟨c0, c1, c2, c3, c4⟩ := hq
      simp only at c0 c1 c2 c3 c4
      have C0 := cell_regrown c0
      have C1 := cell_regrown c1
      have C2 := cell_regrown c2
      have C3 := cell_regrown c3
      have C4 := cell_regrown c4
      clear c0 c1 c2 c3 c4
      have HB := Lib.hid (show okAt zs i = befB ⟨qa, qz, qv, qk, qn⟩ ⟨pa, pz, pv, pk, pn⟩ by unfold okAt; rw [← HP.out, ← HQ.out, HPL.out]; simp [hi0])
      have i1 : 1 ≤ i := by omega
      have di : decide (0 < i) = true := by simp; omega
      clear hi0
      cases hbf : befB ⟨qa, qz, qv, qk, qn⟩ ⟨pa, pz, pv, pk, pn⟩
      · have HX := Lib.hid hbf
        have HB2 := Lib.hid (HB.out.trans hbf)
        clear hbf
        refine wp_region_quiet_below (by kernel_rfl) (by kernel_rfl) ?_
        have q1 : ∀ (d : Nat) (os : Array Obj), Calls Try.prog 48 #[.agg #[.int .i64 pa, .int .i64 pz, .int .i64 pv, .int .i64 pk, .int .i64 pn]] (Sort.grow (redrawn wr d) os) fun e w'' => e = .returned (.bool true) ∧ ∃ p : Regrown, w'' = Sort.grow (redrawn wr p.d) p.os := fun d os => Calls.regrown_of (refIsPlace_at ⟨pa, pz, pv, pk, pn⟩ true _ HPL.out)
        have Q1 := Lib.hid q1
        clear q1
        have q2 : ∀ (d : Nat) (os : Array Obj), Calls Try.prog 49 #[.agg #[.int .i64 qa, .int .i64 qz, .int .i64 qv, .int .i64 qk, .int .i64 qn], .agg #[.int .i64 pa, .int .i64 pz, .int .i64 pv, .int .i64 pk, .int .i64 pn]] (Sort.grow (redrawn wr d) os) fun e w'' => e = .returned (.bool false) ∧ ∃ p : Regrown, w'' = Sort.grow (redrawn wr p.d) p.os := fun d os => Calls.regrown_of (before_at ⟨qa, qz, qv, qk, qn⟩ ⟨pa, pz, pv, pk, pn⟩ false _ HX.out)
        have Q2 := Lib.hid q2
        clear q2
        iterate 23 (go_big_quiet_step ((first | (go_at_call 48; with_reducible exact Q1.out _ _) | (go_at_call 49; with_reducible exact Q2.out _ _))))
        refine wpQuiet_nil ?_
        intro _ hw'
        obtain ⟨⟨dq, osq⟩, hw''⟩ := hw'
        subst hw''
        have hb2 := hb.trans ((below_regrown wr dq osq).mono hb.size)
        generalize Sort.grow (redrawn wr dq) osq = W2 at hb2
        clear T0 T1 T2 T3 T4
        clear C0 C1 C2 C3 C4
        go_wp2
        go_ret
        exact ⟨ret_i (by unfold valF; rw [if_neg (by have := HN.out; omega), if_pos (okAll_no (by have := HN.out; omega) HB2.out)]), hb2⟩
      · have HX := Lib.hid hbf
        have HB2 := Lib.hid (HB.out.trans hbf)
        clear hbf
        refine wp_region_quiet_below (by kernel_rfl) (by kernel_rfl) ?_
        have q1 : ∀ (d : Nat) (os : Array Obj), Calls Try.prog 48 #[.agg #[.int .i64 pa, .int .i64 pz, .int .i64 pv, .int .i64 pk, .int .i64 pn]] (Sort.grow (redrawn wr d) os) fun e w'' => e = .returned (.bool true) ∧ ∃ p : Regrown, w'' = Sort.grow (redrawn wr p.d) p.os := fun d os => Calls.regrown_of (refIsPlace_at ⟨pa, pz, pv, pk, pn⟩ true _ HPL.out)
        have Q1 := Lib.hid q1
        clear q1
        have q2 : ∀ (d : Nat) (os : Array Obj), Calls Try.prog 49 #[.agg #[.int .i64 qa, .int .i64 qz, .int .i64 qv, .int .i64 qk, .int .i64 qn], .agg #[.int .i64 pa, .int .i64 pz, .int .i64 pv, .int .i64 pk, .int .i64 pn]] (Sort.grow (redrawn wr d) os) fun e w'' => e = .returned (.bool true) ∧ ∃ p : Regrown, w'' = Sort.grow (redrawn wr p.d) p.os := fun d os => Calls.regrown_of (before_at ⟨qa, qz, qv, qk, qn⟩ ⟨pa, pz, pv, pk, pn⟩ true _ HX.out)
        have Q2 := Lib.hid q2
        clear q2
        iterate 23 (go_big_quiet_step ((first | (go_at_call 48; with_reducible exact Q1.out _ _) | (go_at_call 49; with_reducible exact Q2.out _ _))))
        refine wpQuiet_nil ?_
        intro _ hw'
        obtain ⟨⟨dq, osq⟩, hw''⟩ := hw'
        subst hw''
        have hb2 := hb.trans ((below_regrown wr dq osq).mono hb.size)
        generalize Sort.grow (redrawn wr dq) osq = W2 at hb2
        clear T0 T1 T2 T3 T4
        clear C0 C1 C2 C3 C4
        go_wp2
        go_roundw
        case rel => exact ⟨i + 1, by omega, by go_num, hb2, fun k hk => by
          rcases Nat.lt_or_ge k i with h | h
          · exact HJ.out k h
          · obtain rfl : k = i := by omega
            exact HB2.out⟩
        case measure => simp [intOf]; omega
    · obtain rfl : i = n := by omega
      have HOK := Lib.hid (okAll_yes (zs := zs) (fun j hj => HJ.out j (by have := HN.out; omega)))
      go_wp2
      go_loopw [4] (fun z wr => ∃ k : Nat, k ≤ i ∧ z = .int .i64 (k : Int) ∧ Below w.heap.size w wr ∧ ∀ j, j < k → ovAt zs j = false) (fun z _ => i - (intOf z).toNat)
      case atStart => exact ⟨0, by omega, rfl, hb, fun j hj => absurd hj (by omega)⟩
      case round =>
        obtain ⟨k, hk, rfl, hb, hj⟩ := hrel
        have HJ2 := Lib.hid hj
        clear hj
        by_cases hlt2 : k < i
        · go_wp2
          go_loopw [5] (fun z wr => ∃ m : Nat, m ≤ k ∧ z = .int .i64 (m : Int) ∧ Below w.heap.size w wr ∧ ∀ j, j < m → ovR zs k j = false) (fun z _ => k - (intOf z).toNat)
          case atStart => exact ⟨0, by omega, rfl, hb, fun j hj => absurd hj (by omega)⟩
          case round =>
            obtain ⟨m, hm, rfl, hb, hj⟩ := hrel
            have HJ3 := Lib.hid hj
            clear hj
            by_cases hlt3 : m < k
            · have ht := (HL.out.below hb).at_ (j := k) (by have := HN.out; omega)
              have hq := (HL.out.below hb).at_ (j := m) (by have := HN.out; omega)
              have hov : ovR zs k m = (decide (zs[k]!.v = zs[m]!.v) && decide (zs[k]!.a < zs[m]!.z) && decide (zs[m]!.a < zs[k]!.z)) := rfl
              generalize zs[k]! = p at ht hov
              generalize zs[m]! = q at hq hov
              obtain ⟨pa, pz, pv, pk, pn⟩ := p
              obtain ⟨qa, qz, qv, qk, qn⟩ := q
              obtain ⟨c0, c1, c2, c3, c4⟩ := ht
              obtain ⟨f0, f1, f2, f3, f4⟩ := hq
              simp only at c0 c1 c2 c3 c4 f0 f1 f2 f3 f4 hov
              clear c3 c4 f3 f4
              have HOV := Lib.hid hov
              clear hov
              go_wp2
              by_cases e1 : pv = qv
              · by_cases e2 : pa < qz
                · by_cases e3 : qa < pz
                  · have d1 : (pv == qv) = true := by simp [e1]
                    have d2 : decide (pa < qz) = true := decide_eq_true e2
                    have d3 : decide (qa < pz) = true := decide_eq_true e3
                    have HR := Lib.hid (show ovR zs k m = true by rw [HOV.out]; simp [e1, e2, e3])
                    have HA := Lib.hid (ovAny_yes (by have := HN.out; omega) (ovAt_yes HJ.out hlt2 hlt3 HR.out))
                    clear e1 e2 e3
                    go_quiet (fail)
                    go_wp2
                    go_ret
                    exact ⟨ret_i (by unfold valF; rw [if_neg (by have := HN.out; omega), HOK.out, if_neg (by simp), HA.out]; rfl), drewNR hb _⟩
                  · have d1 : (pv == qv) = true := by simp [e1]
                    have d2 : decide (pa < qz) = true := decide_eq_true e2
                    have d3 : decide (qa < pz) = false := decide_eq_false e3
                    have HR := Lib.hid (show ovR zs k m = false by rw [HOV.out]; simp [e1, e2, e3])
                    clear e1 e2 e3
                    go_quiet (fail)
                    go_wp2
                    go_roundw
                    case rel => exact ⟨m + 1, by omega, by go_num, drewNR hb _, fun j hj => by
                      rcases Nat.lt_or_ge j m with h | h
                      · exact HJ3.out j h
                      · obtain rfl : j = m := by omega
                        exact HR.out⟩
                    case measure => simp [intOf]; omega
                · have d1 : (pv == qv) = true := by simp [e1]
                  have d2 : decide (pa < qz) = false := decide_eq_false e2
                  have HR := Lib.hid (show ovR zs k m = false by rw [HOV.out]; simp [e1, e2])
                  clear e1 e2
                  go_quiet (fail)
                  go_wp2
                  go_roundw
                  case rel => exact ⟨m + 1, by omega, by go_num, drewNR hb _, fun j hj => by
                    rcases Nat.lt_or_ge j m with h | h
                    · exact HJ3.out j h
                    · obtain rfl : j = m := by omega
                      exact HR.out⟩
                  case measure => simp [intOf]; omega
              · have d1 : (pv == qv) = false := by simp [e1]
                have HR := Lib.hid (show ovR zs k m = false by rw [HOV.out]; simp [e1])
                clear e1
                go_quiet (fail)
                go_wp2
                go_roundw
                case rel => exact ⟨m + 1, by omega, by go_num, drewNR hb _, fun j hj => by
                  rcases Nat.lt_or_ge j m with h | h
                  · exact HJ3.out j h
                  · obtain rfl : j = m := by omega
                    exact HR.out⟩
                case measure => simp [intOf]; omega
            · have HA := Lib.hid (ovAt_no HJ.out hlt2 (fun j hj => HJ3.out j (by omega)))
              go_wp2
              go_roundw
              case rel => exact ⟨k + 1, by omega, by go_num, hb, fun j hj => by
                rcases Nat.lt_or_ge j k with h | h
                · exact HJ2.out j h
                · obtain rfl : j = k := by omega
                  exact HA.out⟩
              case measure => simp [intOf]; omega
        · have HOV := Lib.hid (ovAny_no (zs := zs) (fun j hj => HJ2.out j (by have := HN.out; omega)))
          go_wp2
          go_ret
          exact ⟨ret_i (by unfold valF; rw [if_neg (by have := HN.out; omega), HOK.out, if_neg (by simp), HOV.out]; rfl), hb⟩
end Go.Proofs.Ytdpfglpefncigaa
