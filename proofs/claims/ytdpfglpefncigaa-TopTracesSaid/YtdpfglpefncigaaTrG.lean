/-
  Validate of package trace, at every table.
-/
import Derived.Test.YtdpfglpefncigaaTrF
namespace Go.Proofs.Ytdpfglpefncigaa
open Go.RowKit

/-- Whether the place at a row covers where one before it does. -/
def ovAt (zs : List Plc) (i : Nat) : Bool := (List.range i).any fun j => decide (zs[j]!.v = zs[i]!.v) && covB zs[j]! zs[i]!.a
def okAll (zs : List Plc) : Bool := (List.range zs.length).all (okAt zs)
def ovAny (zs : List Plc) : Bool := (List.range zs.length).any (ovAt zs)
/-- What Validate answers. -/
def valF (zs : List Plc) : Int := if 64 < zs.length then 3 else if okAll zs = false then 1 else if ovAny zs then 7 else 0
theorem okAll_no {zs : List Plc} {i : Nat} (hi : i < zs.length) (h : okAt zs i = false) : okAll zs = false := by
  unfold okAll
  rw [List.all_eq_false]
  exact ⟨i, List.mem_range.2 hi, by simp [h]⟩
theorem okAll_yes {zs : List Plc} (h : ∀ j, j < zs.length → okAt zs j = true) : okAll zs = true := by
  unfold okAll
  rw [List.all_eq_true]
  exact fun j hj => h j (List.mem_range.1 hj)
theorem ovAny_yes {zs : List Plc} {i : Nat} (hi : i < zs.length) (h : ovAt zs i = true) : ovAny zs = true := by
  unfold ovAny
  rw [List.any_eq_true]
  exact ⟨i, List.mem_range.2 hi, h⟩
theorem ovAny_no {zs : List Plc} (h : ∀ j, j < zs.length → ovAt zs j = false) : ovAny zs = false := by
  unfold ovAny
  rw [List.any_eq_false]
  exact fun j hj => by simp [h j (List.mem_range.1 hj)]
theorem covers_at (p : Plc) (t : Int) (B : Bool) (w : World) (h : covB p t = B) : Calls Try.prog 47 #[aggP p, .int .i64 t] w fun e w' => e = .returned (.bool B) ∧ Below w.heap.size w w' := by
  subst h
  exact covers_any p t w
theorem pred_same (B : Nat) (p : Plc) (w : World) (hB : B < w.heap.size) (ht : At5 w B 0 p) :
    PredOk 46 #[.pointer (some ⟨B, 0, none⟩)] (fun q => decide (q.v = p.v) && covB q p.a) w := fun W x hb => by
  obtain ⟨pa, pz, pv, pk, pn⟩ := p
  obtain ⟨qa, qz, qv, qk, qn⟩ := x
  obtain ⟨c0, _, c2, _, _⟩ := ht
  simp only [Nat.zero_add] at c0 c2
  have hBW : B < W.heap.size := Nat.lt_of_lt_of_le hB hb.size
  have hne : B ≠ W.heap.size := by omega
  have d0 : W.cell? ⟨B, 0, none⟩ = some (.int .i64 pa) := (hb.cell (p := ⟨B, 0, none⟩) hB).trans c0
  have d2 : W.cell? ⟨B, 2, none⟩ = some (.int .i64 pv) := (hb.cell (p := ⟨B, 2, none⟩) hB).trans c2
  clear c0 c2
  show Calls Try.prog 46 #[.agg #[.int .i64 qa, .int .i64 qz, .int .i64 qv, .int .i64 qk, .int .i64 qn], .pointer (some ⟨B, 0, none⟩)] W _
  by_cases hv : qv = pv
  · have dv : (qv == pv) = true := by simp [hv]
    obtain ⟨X, hX⟩ : ∃ X, X = covB ⟨qa, qz, qv, qk, qn⟩ pa := ⟨_, rfl⟩
    have HX := Lib.hid hX.symm
    have HR := Lib.hid (show (decide (qv = pv) && covB ⟨qa, qz, qv, qk, qn⟩ pa) = X by rw [hv] at hX ⊢; simp [hX])
    clear hX hv
    go_enter Try.func46, Try.ntmps46
    go_wp2_with fail
    refine (covers_at ⟨qa, qz, qv, qk, qn⟩ pa X _ HX.out).mono ?_
    rintro e w1 ⟨rfl, hb1⟩
    go_wp2
    go_ret
    exact ⟨ret_b HR.out.symm, keep_below hb1 (hb.alloc hb.size _)⟩
  · have dv : (qv == pv) = false := by simp [hv]
    have HR := Lib.hid (show (decide (qv = pv) && covB ⟨qa, qz, qv, qk, qn⟩ pa) = false by simp [hv])
    clear hv
    go_enter Try.func46, Try.ntmps46
    go_wp2
    go_ret
    exact ⟨ret_b HR.out.symm, hb.alloc hb.size _⟩
set_option maxRecDepth 100000 in
set_option maxHeartbeats 4000000 in
theorem validate_any (b off n c : Nat) (zs : List Plc) (w : World) (hL : Lies w b off zs) (hn : n = zs.length) (hc : n ≤ c) (hm : c ≤ 9223372036854775807) :
    Calls Try.prog 18 #[.slice (some ⟨b, off, none⟩) n c] w fun e w' => e = .returned (.int .i64 (valF zs)) ∧ Below w.heap.size w w' := by
  have HL := Lib.hid hL
  have HN := Lib.hid hn
  clear hL hn
  rcases Nat.lt_or_ge 64 n with h64 | h64
  · have d64 : decide (64 < n) = true := by simp; omega
    go_enter Try.func18, Try.ntmps18
    go_wp2
    go_ret
    exact ⟨ret_i (by unfold valF; rw [if_pos (by have := HN.out; omega)]), Below.refl _ _⟩
  have d64 : decide (64 < n) = false := by simp; omega
  go_enter Try.func18, Try.ntmps18
  go_wp2
  go_loopw [12] (fun z wr => ∃ i : Nat, i ≤ n ∧ z = .int .i64 (i : Int) ∧ Below w.heap.size w wr ∧ ∀ j, j < i → okAt zs j = true) (fun z _ => n - (intOf z).toNat)
  case atStart => exact ⟨0, by omega, rfl, Below.refl _ _, fun j hj => absurd hj (by omega)⟩
  case round =>
    obtain ⟨i, hi, rfl, hb, hj⟩ := hrel
    have HJ := Lib.hid hj
    clear hj
    by_cases hlt : i < n
    · have ht := (HL.out.below hb).at_ (j := i) (by have := HN.out; omega)
      obtain ⟨p, hp⟩ : ∃ p, p = zs[i]! := ⟨_, rfl⟩
      rw [← hp] at ht
      have HP := Lib.hid hp
      clear hp
      obtain ⟨pa, pz, pv, pk, pn⟩ := p
      obtain ⟨c0, c1, c2, c3, c4⟩ := ht
      simp only at c0 c1 c2 c3 c4
      go_wp2
      generalize hW1 : World.alloc wr _ = W1
      have t0 : W1.cell? ⟨wr.heap.size, 0, none⟩ = some (.int .i64 pa) := by rw [← hW1]; simp [go_sem]
      have t1 : W1.cell? ⟨wr.heap.size, 1, none⟩ = some (.int .i64 pz) := by rw [← hW1]; simp [go_sem]
      have t2 : W1.cell? ⟨wr.heap.size, 2, none⟩ = some (.int .i64 pv) := by rw [← hW1]; simp [go_sem]
      have t3 : W1.cell? ⟨wr.heap.size, 3, none⟩ = some (.int .i64 pk) := by rw [← hW1]; simp [go_sem]
      have t4 : W1.cell? ⟨wr.heap.size, 4, none⟩ = some (.int .i64 pn) := by rw [← hW1]; simp [go_sem]
      have hb1 : Below wr.heap.size wr W1 := by rw [← hW1]; exact (Below.refl _ _).alloc (Nat.le_refl _) _
      clear hW1 c0 c1 c2 c3 c4
      have T0 := cell_regrown t0
      have T1 := cell_regrown t1
      have T2 := cell_regrown t2
      have T3 := cell_regrown t3
      have T4 := cell_regrown t4
      clear t0 t1 t2 t3 t4
      have hib : Below w.heap.size w W1 := hb.trans (hb1.mono hb.size)
      cases hpl : isPlB ⟨pa, pz, pv, pk, pn⟩
      · have HPL := Lib.hid hpl
        have HB := Lib.hid (show okAt zs i = false by unfold okAt; rw [← HP.out, hpl]; rfl)
        clear hpl
        refine wp_region_quiet_below (by kernel_rfl) (by kernel_rfl) ?_
        have q1 : ∀ (d : Nat) (os : Array Obj), Calls Try.prog 43 #[.agg #[.int .i64 pa, .int .i64 pz, .int .i64 pv, .int .i64 pk, .int .i64 pn]] (Sort.grow (redrawn W1 d) os) fun e w'' => e = .returned (.bool false) ∧ ∃ p : Regrown, w'' = Sort.grow (redrawn W1 p.d) p.os := fun d os => Calls.regrown_of (isPlace_at ⟨pa, pz, pv, pk, pn⟩ false _ HPL.out)
        have Q1 := Lib.hid q1
        clear q1
        iterate 17 (go_big_quiet_step ((go_at_call 43; with_reducible exact Q1.out _ _)))
        refine wpQuiet_nil ?_
        intro _ hw'
        obtain ⟨⟨dq, osq⟩, hw''⟩ := hw'
        subst hw''
        have hb2 := hib.trans ((below_regrown W1 dq osq).mono hib.size)
        generalize Sort.grow (redrawn W1 dq) osq = W2 at hb2
        clear T0 T1 T2 T3 T4
        go_wp2
        go_ret
        exact ⟨ret_i (by unfold valF; rw [if_neg (by have := HN.out; omega), if_pos (okAll_no (by have := HN.out; omega) HB.out)]), hb2⟩
      have HPL := Lib.hid hpl
      clear hpl
      by_cases hi0 : i = 0
      · subst hi0
        have HB := Lib.hid (show okAt zs 0 = true by unfold okAt; rw [← HP.out, HPL.out]; rfl)
        rw [show ((0 : Nat) : Int) = 0 from rfl]
        refine wp_region_quiet_below (by kernel_rfl) (by kernel_rfl) ?_
        have q1 : ∀ (d : Nat) (os : Array Obj), Calls Try.prog 43 #[.agg #[.int .i64 pa, .int .i64 pz, .int .i64 pv, .int .i64 pk, .int .i64 pn]] (Sort.grow (redrawn W1 d) os) fun e w'' => e = .returned (.bool true) ∧ ∃ p : Regrown, w'' = Sort.grow (redrawn W1 p.d) p.os := fun d os => Calls.regrown_of (isPlace_at ⟨pa, pz, pv, pk, pn⟩ true _ HPL.out)
        have Q1 := Lib.hid q1
        clear q1
        iterate 17 (go_big_quiet_step ((go_at_call 43; with_reducible exact Q1.out _ _)))
        refine wpQuiet_nil ?_
        intro _ hw'
        obtain ⟨⟨dq, osq⟩, hw''⟩ := hw'
        subst hw''
        have hb2 := hib.trans ((below_regrown W1 dq osq).mono hib.size)
        generalize Sort.grow (redrawn W1 dq) osq = W2 at hb2
        clear T0 T1 T2 T3 T4
        go_wp2
        go_roundw
        case rel => exact ⟨1, by omega, by go_num, hb2, fun k hk => by
          rcases Nat.lt_or_ge k 0 with h | h
          · exact HJ.out k h
          · obtain rfl : k = 0 := by omega
            exact HB.out⟩
        case measure => simp [intOf]; omega
      have hq := (HL.out.below hib).at_ (j := i - 1) (by have := HN.out; omega)
      obtain ⟨q, hqq⟩ : ∃ q, q = zs[i - 1]! := ⟨_, rfl⟩
      rw [← hqq] at hq
      have HQ := Lib.hid hqq
      clear hqq
      obtain ⟨qa, qz, qv, qk, qn⟩ := q
      obtain ⟨c0, c1, c2, c3, c4⟩ := hq
      simp only at c0 c1 c2 c3 c4
      have C0 := cell_regrown c0
      have C1 := cell_regrown c1
      have C2 := cell_regrown c2
      have C3 := cell_regrown c3
      have C4 := cell_regrown c4
      clear c0 c1 c2 c3 c4
      obtain ⟨X, hX⟩ : ∃ X, X = cmpP ⟨qa, qz, qv, qk, qn⟩ ⟨pa, pz, pv, pk, pn⟩ := ⟨_, rfl⟩
      have HX := Lib.hid hX.symm
      have HB := Lib.hid (show okAt zs i = befB ⟨qa, qz, qv, qk, qn⟩ ⟨pa, pz, pv, pk, pn⟩ by unfold okAt; rw [← HP.out, ← HQ.out, HPL.out]; simp [hi0])
      have i1 : 1 ≤ i := by omega
      have di : decide (0 < i) = true := by simp; omega
      clear hi0
      cases hbf : befB ⟨qa, qz, qv, qk, qn⟩ ⟨pa, pz, pv, pk, pn⟩
      · have dX : decide (0 ≤ X) = true := by rw [hX, cmpP_bef, hbf]; rfl
        have HB2 := Lib.hid (HB.out.trans hbf)
        clear hX hbf
        refine wp_region_quiet_below (by kernel_rfl) (by kernel_rfl) ?_
        have q1 : ∀ (d : Nat) (os : Array Obj), Calls Try.prog 43 #[.agg #[.int .i64 pa, .int .i64 pz, .int .i64 pv, .int .i64 pk, .int .i64 pn]] (Sort.grow (redrawn W1 d) os) fun e w'' => e = .returned (.bool true) ∧ ∃ p : Regrown, w'' = Sort.grow (redrawn W1 p.d) p.os := fun d os => Calls.regrown_of (isPlace_at ⟨pa, pz, pv, pk, pn⟩ true _ HPL.out)
        have Q1 := Lib.hid q1
        clear q1
        have q2 : ∀ (d : Nat) (os : Array Obj), Calls Try.prog 44 #[.agg #[.int .i64 qa, .int .i64 qz, .int .i64 qv, .int .i64 qk, .int .i64 qn], .agg #[.int .i64 pa, .int .i64 pz, .int .i64 pv, .int .i64 pk, .int .i64 pn]] (Sort.grow (redrawn W1 d) os) fun e w'' => e = .returned (.int .i64 X) ∧ ∃ p : Regrown, w'' = Sort.grow (redrawn W1 p.d) p.os := fun d os => Calls.regrown_of (compare_at ⟨qa, qz, qv, qk, qn⟩ ⟨pa, pz, pv, pk, pn⟩ X _ HX.out)
        have Q2 := Lib.hid q2
        clear q2
        iterate 17 (go_big_quiet_step ((first | (go_at_call 43; with_reducible exact Q1.out _ _) | (go_at_call 44; with_reducible exact Q2.out _ _))))
        refine wpQuiet_nil ?_
        intro _ hw'
        obtain ⟨⟨dq, osq⟩, hw''⟩ := hw'
        subst hw''
        have hb2 := hib.trans ((below_regrown W1 dq osq).mono hib.size)
        generalize Sort.grow (redrawn W1 dq) osq = W2 at hb2
        clear T0 T1 T2 T3 T4
        clear C0 C1 C2 C3 C4
        go_wp2
        go_ret
        exact ⟨ret_i (by unfold valF; rw [if_neg (by have := HN.out; omega), if_pos (okAll_no (by have := HN.out; omega) HB2.out)]), hb2⟩
      · have dX : decide (0 ≤ X) = false := by rw [hX, cmpP_bef, hbf]; rfl
        have HB2 := Lib.hid (HB.out.trans hbf)
        clear hX hbf
        refine wp_region_quiet_below (by kernel_rfl) (by kernel_rfl) ?_
        have q1 : ∀ (d : Nat) (os : Array Obj), Calls Try.prog 43 #[.agg #[.int .i64 pa, .int .i64 pz, .int .i64 pv, .int .i64 pk, .int .i64 pn]] (Sort.grow (redrawn W1 d) os) fun e w'' => e = .returned (.bool true) ∧ ∃ p : Regrown, w'' = Sort.grow (redrawn W1 p.d) p.os := fun d os => Calls.regrown_of (isPlace_at ⟨pa, pz, pv, pk, pn⟩ true _ HPL.out)
        have Q1 := Lib.hid q1
        clear q1
        have q2 : ∀ (d : Nat) (os : Array Obj), Calls Try.prog 44 #[.agg #[.int .i64 qa, .int .i64 qz, .int .i64 qv, .int .i64 qk, .int .i64 qn], .agg #[.int .i64 pa, .int .i64 pz, .int .i64 pv, .int .i64 pk, .int .i64 pn]] (Sort.grow (redrawn W1 d) os) fun e w'' => e = .returned (.int .i64 X) ∧ ∃ p : Regrown, w'' = Sort.grow (redrawn W1 p.d) p.os := fun d os => Calls.regrown_of (compare_at ⟨qa, qz, qv, qk, qn⟩ ⟨pa, pz, pv, pk, pn⟩ X _ HX.out)
        have Q2 := Lib.hid q2
        clear q2
        iterate 17 (go_big_quiet_step ((first | (go_at_call 43; with_reducible exact Q1.out _ _) | (go_at_call 44; with_reducible exact Q2.out _ _))))
        refine wpQuiet_nil ?_
        intro _ hw'
        obtain ⟨⟨dq, osq⟩, hw''⟩ := hw'
        subst hw''
        have hb2 := hib.trans ((below_regrown W1 dq osq).mono hib.size)
        generalize Sort.grow (redrawn W1 dq) osq = W2 at hb2
        clear T0 T1 T2 T3 T4
        clear C0 C1 C2 C3 C4
        go_wp2
        go_roundw
        case rel => exact ⟨i + 1, by omega, by go_num, hb2, fun k hk => by
          rcases Nat.lt_or_ge k i with h | h
          · exact HJ.out k h
          · obtain rfl : k = i := by omega
            exact HB2.out⟩
        case measure => simp [intOf]; omega
    · obtain rfl : i = n := by omega
      have HOK := Lib.hid (okAll_yes (zs := zs) (fun j hj => HJ.out j (by have := HN.out; omega)))
      go_wp2
      go_loopw [37] (fun z wr => ∃ k : Nat, k ≤ i ∧ z = .int .i64 (k : Int) ∧ Below w.heap.size w wr ∧ ∀ j, j < k → ovAt zs j = false) (fun z _ => i - (intOf z).toNat)
      case atStart => exact ⟨0, by omega, rfl, hb, fun j hj => absurd hj (by omega)⟩
      case round =>
        obtain ⟨k, hk, rfl, hb, hj⟩ := hrel
        have HJ2 := Lib.hid hj
        clear hj
        by_cases hlt2 : k < i
        · have ht := (HL.out.below hb).at_ (j := k) (by have := HN.out; omega)
          obtain ⟨p, hp⟩ : ∃ p, p = zs[k]! := ⟨_, rfl⟩
          rw [← hp] at ht
          have HP := Lib.hid hp
          clear hp
          obtain ⟨pa, pz, pv, pk, pn⟩ := p
          obtain ⟨c0, c1, c2, c3, c4⟩ := ht
          simp only at c0 c1 c2 c3 c4
          obtain ⟨V, hV⟩ : ∃ V, V = ovAt zs k := ⟨_, rfl⟩
          have HV := Lib.hid (show ((List.range k).any fun j => (fun q : Plc => decide (q.v = pv) && covB q pa) zs[j]!) = V by rw [hV]; unfold ovAt; rw [← HP.out])
          have HV2 := Lib.hid hV.symm
          clear hV
          go_wp2_with fail
          generalize hW1 : World.alloc wr _ = W1
          have ht : At5 W1 wr.heap.size 0 ⟨pa, pz, pv, pk, pn⟩ := by
            rw [← hW1]
            refine ⟨?_, ?_, ?_, ?_, ?_⟩ <;> simp [go_sem]
          have hb1 : Below wr.heap.size wr W1 := by rw [← hW1]; exact (Below.refl _ _).alloc (Nat.le_refl _) _
          have sz1 : wr.heap.size < W1.heap.size := by rw [← hW1]; simp
          clear hW1 c0 c1 c2 c3 c4
          have hib : Below w.heap.size w W1 := hb.trans (hb1.mono hb.size)
          refine (containsFunc_any (fun q => decide (q.v = pv) && covB q pa) 46 #[.pointer (some ⟨wr.heap.size, 0, none⟩)] (enters_of Try.func46 (by kernel_rfl) rfl) b off k c zs W1 (pred_same wr.heap.size ⟨pa, pz, pv, pk, pn⟩ W1 sz1 ht) (by have := HN.out; omega) (by omega) (HL.out.below hib)).mono ?_
          rw [HV.out]
          rintro e W2 ⟨rfl, hb2⟩
          have hb2 := hib.trans (hb2.mono hib.size)
          clear ht
          cases V
          · go_wp2
            go_roundw
            case rel => exact ⟨k + 1, by omega, by go_num, hb2, fun j hj => by
              rcases Nat.lt_or_ge j k with h | h
              · exact HJ2.out j h
              · obtain rfl : j = k := by omega
                exact HV2.out⟩
            case measure => simp [intOf]; omega
          · have HOV := Lib.hid (ovAny_yes (by have := HN.out; omega) HV2.out)
            go_wp2
            go_ret
            exact ⟨ret_i (by unfold valF; rw [if_neg (by have := HN.out; omega), HOK.out, if_neg (by simp), HOV.out]; rfl), hb2⟩
        · have HOV := Lib.hid (ovAny_no (zs := zs) (fun j hj => HJ2.out j (by have := HN.out; omega)))
          go_wp2
          go_ret
          exact ⟨ret_i (by unfold valF; rw [if_neg (by have := HN.out; omega), HOK.out, if_neg (by simp), HOV.out]; rfl), hb⟩
end Go.Proofs.Ytdpfglpefncigaa
