/-
  Decode of the reference at every bytes; the law of Decode.
-/
import Derived.Test.YtdpfglpefncigaaTrDb
namespace Go.Proofs.Ytdpfglpefncigaa
open Go.RowKit

set_option maxRecDepth 100000 in
theorem refDecode_empty (A : Option Addr) (c : Nat) (w : World) : Calls Try.prog 29 #[.slice A 0 c] w fun e w' => e = .returned (.tuple #[.slice none 0 0, .int .i64 2]) ∧ Below w.heap.size w w' := by
  go_enter Try.func29, Try.ntmps29
  go_wp2
  go_loopw [4, 5, 6, 7] (fun vn zn zt zi wr => vn = .slice none 0 0 ∧ zn = .int .i64 0 ∧ zt = .int .i64 0 ∧ zi = .int .i64 0 ∧ wr = w) (fun _ _ _ _ _ => 0)
  case atStart => exact ⟨rfl, rfl, rfl, rfl, rfl⟩
  case round =>
    obtain ⟨rfl, rfl, rfl, rfl, rfl⟩ := hrel
    go_wp2
    refine bodyPost_ret (results_tmp2 rfl _ _ _) rfl ?_
    exact ⟨rfl, Below.refl _ _⟩
theorem RefDecode_tab {w : World} {v : Value} {l : List Nat} (h : BytesAt w w.heap.size v l) (h4 : l.length ≤ 4000) : Calls Try.prog 29 #[v] w fun e w' => ∃ A n c, e = .returned (.tuple #[.slice A n c, .int .i64 (if (decP l).isSome then 0 else 2)]) ∧ Tab w' A n c ((decP l).getD []) ∧ Below w.heap.size w w' := by
  have hlt := byte_lt h
  rcases h with ⟨rfl, A, c, rfl⟩ | ⟨h0, g, off, c, rfl, hc, hg, hj⟩
  · refine (refDecode_empty A c w).mono ?_
    rintro e w' ⟨rfl, hb⟩
    have e : decP [] = none := by decide
    rw [e]
    exact ⟨none, 0, 0, rfl, tab_nil _, hb⟩
  · rw [← refDec_eq hlt]
    refine (refDecode_any g off c l w h0 h4 hc hg hj).mono ?_
    rintro e w' ⟨hb, hm⟩
    cases hd : refDecP l with
    | none =>
      rw [hd] at hm
      exact ⟨none, 0, 0, hm, tab_nil _, hb⟩
    | some ps =>
      rw [hd] at hm
      obtain ⟨v', he, ho⟩ := hm
      obtain ⟨A, c, rfl, hT⟩ := tab_own ho
      exact ⟨A, _, c, he, hT, hb⟩
set_option maxRecDepth 100000 in
set_option maxHeartbeats 1000000 in
theorem decodes_walk {w : World} {A : Option Addr} {n c : Nat} {l : List Nat} (h : BytesAt w w.heap.size (.slice A n c) l) (hn : n = l.length) :
    Calls Try.prog 7 #[.slice A n c] w fun e w' => e = .returned (.bool true) ∧ Below w.heap.size w w' := by
  by_cases h4 : 4000 < n
  · clear h hn
    go_enter Try.func7, Try.ntmps7
    go_wp2_with fail
    refine (known_any _).mono ?_
    rintro e w' ⟨rfl, hb⟩
    go_wp2
    go_ret
    exact ⟨rfl, hb⟩
  · have hlt := byte_lt h
    have HD := Lib.hid (fun w1 (hb : Below w.heap.size w w1) => Decode_tab (h.more hb))
    have HR := Lib.hid (fun w1 (hb : Below w.heap.size w w1) => RefDecode_tab (h.more hb) (by omega))
    have HS := Lib.hid (fun w1 (hb : Below w.heap.size w w1) => str_conv (h.more hb))
    cases hd : decP l with
    | none =>
      rw [hd] at HD HR
      clear h hn hlt hd HS
      go_enter Try.func7, Try.ntmps7
      go_wp2_with fail
      refine (HD.out _ (Below.refl _ _)).mono ?_
      rintro e w1 ⟨A1, n1, c1, rfl, h1, hb1⟩
      have H1 := Lib.hid h1
      clear h1
      go_wp2_with fail
      refine (HR.out _ hb1).mono ?_
      rintro e w2 ⟨A2, n2, c2, rfl, h2, hb2⟩
      have H2 := Lib.hid h2
      have H1' := Lib.hid (H1.out.below hb2)
      have hc2 := hb1.trans (hb2.mono hb1.size)
      clear h2 hb1 hb2 H1
      go_wp2_with fail
      refine (same_any H1'.out H2.out (by simp)).mono ?_
      rintro e w3 ⟨rfl, hb3⟩
      have ht : decide ((none : Option (List Plc)).getD [] = (none : Option (List Plc)).getD []) = true := decide_eq_true rfl
      rw [ht]
      have H3 := Lib.hid (H1'.out.below hb3)
      have hc3 := hc2.trans (hb3.mono hc2.size)
      clear ht hb3 hc2 H1' H2
      go_wp2_with fail
      refine (Encode_tab H3.out).mono ?_
      rintro e w4 ⟨v4, rfl, h4', hb4⟩
      have hc4 := hc3.trans (hb4.mono hc3.size)
      clear hb4 hc3 H3 h4'
      have ev : valF ((none : Option (List Plc)).getD []) = 0 := by decide
      rw [ev]
      clear ev
      go_wp2_with fail
      refine (calls_known hc4).mono ?_
      rintro e w' ⟨rfl, hb⟩
      go_wp2
      go_ret
      exact ⟨rfl, hb⟩
    | some ps =>
      obtain ⟨hv, he⟩ := enc_dec hd hlt
      have hel : encL ps = l := by unfold encL; rw [if_pos hv, he]
      have HL := Lib.hid (show ps.length ≤ 1000 by have := (valF_ok hv).1; omega)
      have HV := Lib.hid hv
      have HE := Lib.hid hel
      rw [hd] at HD HR
      clear h hn hlt hd hv he hel
      go_enter Try.func7, Try.ntmps7
      go_wp2_with fail
      refine (HD.out _ (Below.refl _ _)).mono ?_
      rintro e w1 ⟨A1, n1, c1, rfl, h1, hb1⟩
      have H1 := Lib.hid (show Tab w1 A1 n1 c1 ps from h1)
      clear h1
      go_wp2_with fail
      refine (HR.out _ hb1).mono ?_
      rintro e w2 ⟨A2, n2, c2, rfl, h2, hb2⟩
      have H2 := Lib.hid (show Tab w2 A2 n2 c2 ps from h2)
      have H1' := Lib.hid (H1.out.below hb2)
      have hc2 := hb1.trans (hb2.mono hb1.size)
      clear h2 hb1 hb2 H1
      go_wp2_with fail
      refine (same_any H1'.out H2.out HL.out).mono ?_
      rintro e w3 ⟨rfl, hb3⟩
      have ht : decide (ps = ps) = true := decide_eq_true rfl
      rw [ht]
      have H3 := Lib.hid (H1'.out.below hb3)
      have hc3 := hc2.trans (hb3.mono hc2.size)
      clear ht hb3 hc2 H1' H2
      go_wp2_with fail
      refine (Encode_tab H3.out).mono ?_
      rw [HV.out, HE.out]
      rintro e w4 ⟨v4, rfl, h4', hb4⟩
      have hc4 := hc3.trans (hb4.mono hc3.size)
      have k1 := str_conv h4'
      have k2 := HS.out _ hc4
      generalize strB l = S at k1 k2
      clear hb4 hc3 H3 h4' HS
      go_wp2_with fail
      refine (calls_known hc4).mono ?_
      rintro e w' ⟨rfl, hb⟩
      go_wp2
      go_ret
      exact ⟨rfl, hb⟩
end Go.Proofs.Ytdpfglpefncigaa
