/-
  The law of spoilt bytes.
-/
import Derived.Test.YtdpfglpefncigaaTrDc
namespace Go.Proofs.Ytdpfglpefncigaa
open Go.RowKit

theorem spoil_differs {zs ps : List Plc} {l' : List Nat} (hl' : ∀ x ∈ l', x < 256) (hd : decP l' = some ps) (hne : l' ≠ encF zs) : decide (zs = ps) = false := by
  apply decide_eq_false
  rintro rfl
  exact hne (enc_dec hd hl').2.symm
/-- Bytes of the call's own, one of them written. -/
theorem spoil_bytes {w : World} {base g cap U Y : Nat} {l : List Nat} (h : w.ownsRow base 5 1 (.slice (some ⟨g, 0, none⟩) l.length cap) l.length (bytesV l)) (hl : ∀ x ∈ l, x < 256) (hU : U < l.length) (hY : Y < 256) :
    w.cell? ⟨g, U, none⟩ = some (.int .u8 (l[U]! : Int)) ∧ w.frozen? ⟨g, U, none⟩ = false ∧ base ≤ g ∧
    BytesAt (w.setCell ⟨g, U, none⟩ (.int .u8 (Y : Int))) (w.setCell ⟨g, U, none⟩ (.int .u8 (Y : Int))).heap.size (.slice (some ⟨g, 0, none⟩) l.length cap) (l.set U Y) := by
  have hb := bytes_own h hl
  rcases hb with ⟨rfl, _⟩ | ⟨h0, g', off, c', he, hc, hg, hj⟩
  · simp at hU
  · injection he with he1 he2 he3
    injection he1 with he1
    injection he1 with he4 he5
    subst he4 he5 he3
    simp only [Nat.zero_add] at hj
    have hcU := (hj U hU).2
    obtain ⟨cap', cur, hb2⟩ : ∃ cap' cur, base ≤ g ∧ w.heap[g]? = some (.cells cur 5 (0, 0)) ∧ cap' = cap := by
      rcases h.2 with ⟨h1, _⟩ | ⟨g', cap', cur, h1, h2, h3, _⟩
      · cases h1
      · injection h1 with h1 _ h4
        injection h1 with h1
        injection h1 with h1 _
        subst h1
        exact ⟨cap', cur, h2, h3, h4.symm⟩
    refine ⟨hcU, by simp [World.frozen?, hb2.2.1], hb2.1, .inr ⟨by simpa using h0, g, 0, cap, by simp, by simpa using hc, by simpa using hg, fun j hjl => ?_⟩⟩
    rw [List.length_set] at hjl
    rw [Nat.zero_add]
    by_cases hjU : j = U
    · subst hjU
      have e : (l.set j Y)[j]! = Y := by simp [hjl]
      rw [e]
      exact ⟨hY, World.cell?_setCell_same w _ _ hcU⟩
    · have e : (l.set U Y)[j]! = l[j]! := by
        rw [List.getElem!_eq_getElem?_getD, List.getElem!_eq_getElem?_getD, List.getElem?_set_ne (fun h => hjU h.symm)]
      rw [e]
      refine ⟨(hj j hjl).1, ?_⟩
      rw [← (hj j hjl).2]
      apply World.cell?_setCell_other
      intro h
      injection h with _ h _
      exact hjU h.symm
theorem set_ne {l : List Nat} {U Y : Nat} (hU : U < l.length) (hne : ¬ l[U]! = Y) : l.set U Y ≠ l := by
  intro h
  apply hne
  have : (l.set U Y)[U]! = Y := by simp [hU]
  rw [h] at this
  exact this
theorem set_lt {l : List Nat} {U Y : Nat} (hl : ∀ x ∈ l, x < 256) (hY : Y < 256) : ∀ x ∈ l.set U Y, x < 256 := by
  intro x hx
  rcases List.mem_or_eq_of_mem_set hx with h | h
  · exact hl x h
  · omega
theorem encF_long {zs : List Plc} (h : valF zs = 0) : 0 < (encF zs).length ∧ (encF zs).length ≤ 1605 := by
  have h1 := encUpto_length zs zs.length
  have h2 := (valF_ok h).1
  have h3 : 0 < (grpF 5 zs.length).length := grpF_pos 4 zs.length
  refine ⟨?_, ?_⟩
  · rw [encF_tail, List.length_append]
    omega
  · unfold encF
    omega
theorem at_small (a : Int) (L : Nat) (h0 : 0 < L) (h : L ≤ 1605) : ∃ U : Nat, U < L ∧ wrap64 ((IntKind.u64.wrap a).tmod (L : Int)) = (U : Int) := by
  rw [IntKind.wrap_u64]
  obtain ⟨m, hm⟩ : ∃ m : Nat, a % 18446744073709551616 = (m : Int) := ⟨(a % 18446744073709551616).toNat, by omega⟩
  refine ⟨m % L, Nat.mod_lt _ h0, ?_⟩
  rw [hm, ← Int.ofNat_tmod]
  have := Nat.mod_lt m h0
  unfold wrap64
  omega
set_option maxRecDepth 100000 in
set_option maxHeartbeats 2000000 in
theorem spoils_walk {w : World} {A : Option Addr} {n c : Nat} {zs : List Plc} (h : Tab w A n c zs) {a : Int} (ha : (Lit.int .i64 a).wf = true) {y : Int} (hy : (Lit.int .u8 y).wf = true) :
    Calls Try.prog 8 #[.slice A n c, .int .i64 a, .int .u8 y] w fun e w' => e = .returned (.bool true) ∧ Below w.heap.size w w' := by
  by_cases hn : 100 < n
  · clear h
    have HN := Lib.hid hn
    clear hn
    go_enter Try.func8, Try.ntmps8
    go_wp2_with (first | (go_at_call 14; ((with_reducible refine (long_yes _ _ _ _ HN.out).mono ?_); rintro e w' ⟨rfl, rfl⟩)) | (go_at_call 15; ((with_reducible refine (known_any _).mono ?_); rintro e w' ⟨rfl, hb⟩)))
    go_ret
    exact ⟨rfl, hb⟩
  · have HT := Lib.hid h
    have HN := Lib.hid hn
    have HL := Lib.hid (show zs.length ≤ 1000 by have := h.shape; omega)
    by_cases hv : valF zs = 0
    · have HF := Lib.hid (encode_tab h hv)
      obtain ⟨hl0, hl1⟩ := encF_long hv
      have HE8 := Lib.hid (encF_byte zs)
      obtain ⟨l, hl⟩ : ∃ l, l = encF zs := ⟨_, rfl⟩
      rw [← hl] at HF hl0 hl1 HE8
      have HLZ := Lib.hid hl
      obtain ⟨L, hLL⟩ : ∃ L, L = l.length := ⟨_, rfl⟩
      have HLL := Lib.hid hLL
      rw [← hLL] at hl0 hl1
      have hy2 : 0 ≤ y ∧ y ≤ 255 := by
        unfold Lit.wf at hy
        simp only [Bool.and_eq_true, decide_eq_true_eq] at hy
        exact hy
      obtain ⟨Y, rfl⟩ : ∃ Y : Nat, y = (Y : Int) := ⟨y.toNat, by omega⟩
      have hY : Y < 256 := by omega
      obtain ⟨U, hU, eU⟩ := at_small a L hl0 hl1
      clear hn h hv hl hLL hy
      go_enter Try.func8, Try.ntmps8
      go_wp2_with (first | (go_at_call 14; ((with_reducible refine (long_no _ _ _ _ HN.out).mono ?_); rintro e w' ⟨rfl, rfl⟩)))
      refine HF.out.mono ?_
      rintro e w1 ⟨v1, rfl, hb1, h1⟩
      obtain ⟨g, cap, rfl⟩ : ∃ g cap, v1 = .slice (some ⟨g, 0, none⟩) L cap := by
        rcases h1.2 with ⟨_, h2⟩ | ⟨g, cap, cur, h2, _⟩
        · have := HLL.out
          omega
        · exact ⟨g, cap, by rw [h2, HLL.out]⟩
      rw [HLL.out] at h1
      obtain ⟨cU, fU, hgb, hB⟩ := spoil_bytes h1 HE8.out (by rw [← HLL.out]; exact hU) hY
      rw [← HLL.out] at hB
      have HB := Lib.hid hB
      have HX8 := Lib.hid (set_lt (U := U) HE8.out hY)
      have HXL := Lib.hid (show (l.set U Y).length ≤ 4000 by rw [List.length_set, ← HLL.out]; omega)
      have hb2 : Below w.heap.size w (w1.setCell ⟨g, U, none⟩ (.int .u8 (Y : Int))) := hb1.setCell hgb _
      by_cases hxy : l[U]! = Y
      · rw [hxy] at cU
        clear h1 hB HB HX8 hxy HXL hb2
        go_wp2_with fail
        refine (calls_known hb1).mono ?_
        rintro e w' ⟨rfl, hb⟩
        go_wp2
        go_ret
        exact ⟨rfl, hb⟩
      · have hne := set_ne (by rw [← HLL.out]; exact hU) hxy
        have HNE := Lib.hid (show l.set U Y ≠ encF zs by rw [← HLZ.out]; exact hne)
        have d1 : ¬ ((l[U]! : Nat) : Int) = (Y : Int) := by omega
        generalize l[U]! = x at cU d1
        clear h1 hB hxy hne
        generalize l.set U Y = m at HB HX8 HXL HNE
        cases hd : decP m with
        | none =>
          have HD := Lib.hid hd
          clear hd HNE
          go_wp2_with fail
          refine (Decode_tab HB.out).mono ?_
          rw [HD.out]
          rintro e w3 ⟨A3, n3, c3, rfl, h3, hb3⟩
          have H3 := Lib.hid h3
          have HB3 := Lib.hid (HB.out.more hb3)
          have hc3 := hb2.trans (hb3.mono hb2.size)
          clear h3 hb3 hb2
          go_wp2_with fail
          refine (RefDecode_tab HB3.out HXL.out).mono ?_
          rw [HD.out]
          rintro e w4 ⟨A4, n4, c4, rfl, h4, hb4⟩
          have H4 := Lib.hid h4
          have H3' := Lib.hid (H3.out.below hb4)
          have hc4 := hc3.trans (hb4.mono hc3.size)
          clear h4 hb4 hc3 H3 HB3 HB
          go_wp2_with fail
          refine (same_any H3'.out H4.out (by simp)).mono ?_
          rintro e w5 ⟨rfl, hb5⟩
          have ht : decide ((none : Option (List Plc)).getD [] = (none : Option (List Plc)).getD []) = true := decide_eq_true rfl
          rw [ht]
          have hc5 := hc4.trans (hb5.mono hc4.size)
          clear ht hb5 hc4 H3' H4
          go_wp2_with fail
          refine (calls_known hc5).mono ?_
          rintro e w' ⟨rfl, hb⟩
          go_wp2
          go_ret
          exact ⟨rfl, hb⟩
        | some ps =>
          have HD := Lib.hid hd
          have HNS := Lib.hid (spoil_differs HX8.out hd HNE.out)
          have HPL := Lib.hid (show ps.length ≤ 1000 by have := (valF_ok (enc_dec hd HX8.out).1).1; omega)
          clear hd HNE
          go_wp2_with fail
          refine (Decode_tab HB.out).mono ?_
          rw [HD.out]
          rintro e w3 ⟨A3, n3, c3, rfl, h3, hb3⟩
          have H3 := Lib.hid (show Tab w3 A3 n3 c3 ps from h3)
          have HB3 := Lib.hid (HB.out.more hb3)
          have hc3 := hb2.trans (hb3.mono hb2.size)
          clear h3 hb3 hb2
          go_wp2_with fail
          refine (RefDecode_tab HB3.out HXL.out).mono ?_
          rw [HD.out]
          rintro e w4 ⟨A4, n4, c4, rfl, h4, hb4⟩
          have H4 := Lib.hid (show Tab w4 A4 n4 c4 ps from h4)
          have H3' := Lib.hid (H3.out.below hb4)
          have hc4 := hc3.trans (hb4.mono hc3.size)
          clear h4 hb4 hc3 H3 HB3 HB
          go_wp2_with fail
          refine (same_any H3'.out H4.out HPL.out).mono ?_
          rintro e w5 ⟨rfl, hb5⟩
          have ht : decide (ps = ps) = true := decide_eq_true rfl
          rw [ht]
          have hc5 := hc4.trans (hb5.mono hc4.size)
          have H5 := Lib.hid (H3'.out.below hb5)
          clear ht hb5 hc4 H3' H4
          go_wp2_with fail
          refine (same_any (HT.out.below hc5) H5.out HL.out).mono ?_
          rintro e w6 ⟨rfl, hb6⟩
          rw [HNS.out]
          have hc6 := hc5.trans (hb6.mono hc5.size)
          clear hb6 hc5 H5
          go_wp2_with fail
          refine (calls_known hc6).mono ?_
          rintro e w' ⟨rfl, hb⟩
          go_wp2
          go_ret
          exact ⟨rfl, hb⟩
    · have HF := Lib.hid (fun w1 (hb : Below w.heap.size w w1) => Encode_tab (h.below hb))
      generalize valF zs = X at HF hv
      have dX : (X != 0) = true := by simp [hv]
      clear hn h hv
      go_enter Try.func8, Try.ntmps8
      go_wp2_with (first | (go_at_call 14; ((with_reducible refine (long_no _ _ _ _ HN.out).mono ?_); rintro e w' ⟨rfl, rfl⟩)))
      refine (HF.out _ (Below.refl _ _)).mono ?_
      rintro e w1 ⟨v1, rfl, -, hb1⟩
      go_wp2_with fail
      refine (calls_known hb1).mono ?_
      rintro e w' ⟨rfl, hb⟩
      go_wp2
      go_ret
      exact ⟨rfl, hb⟩
end Go.Proofs.Ytdpfglpefncigaa
