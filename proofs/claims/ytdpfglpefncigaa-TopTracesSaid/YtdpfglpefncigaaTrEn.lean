/-
  The law of Encode.
-/
import Derived.Test.YtdpfglpefncigaaTrZ
namespace Go.Proofs.Ytdpfglpefncigaa
open Go.RowKit

theorem decL_good {zs : List Plc} (hv : valF zs = 0) : decP (encL zs) = some zs := by
  unfold encL
  rw [if_pos hv]
  exact dec_enc hv
theorem decL_bad {zs : List Plc} (hv : valF zs ≠ 0) : decP (encL zs) = none := by
  unfold encL
  rw [if_neg hv]
  decide
set_option maxRecDepth 100000 in
set_option maxHeartbeats 1000000 in
theorem encodes_walk {w : World} {A : Option Addr} {n c : Nat} {zs : List Plc} (h : Tab w A n c zs) :
    Calls Try.prog 6 #[.slice A n c] w fun e w' => e = .returned (.bool true) ∧ Below w.heap.size w w' := by
  by_cases hn : 100 < n
  · clear h
    have HN := Lib.hid hn
    clear hn
    go_enter Try.func6, Try.ntmps6
    go_wp2_with (first | (go_at_call 14; ((with_reducible refine (long_yes _ _ _ _ HN.out).mono ?_); rintro e w' ⟨rfl, rfl⟩)) | (go_at_call 15; ((with_reducible refine (known_any _).mono ?_); rintro e w' ⟨rfl, hb⟩)))
    go_ret
    exact ⟨rfl, hb⟩
  · have HF := Lib.hid (fun w1 (hb : Below w.heap.size w w1) => Encode_tab (h.below hb))
    have HR := Lib.hid (fun w1 (hb : Below w.heap.size w w1) => RefEncode_tab (h.below hb))
    have HT := Lib.hid h
    have HN := Lib.hid hn
    have HL := Lib.hid (show zs.length ≤ 1000 by have := h.shape; omega)
    clear hn h
    by_cases hv : valF zs = 0
    · have HD := Lib.hid (decL_good hv)
      rw [hv] at HF HR
      clear hv
      obtain ⟨l, hl⟩ : ∃ l, l = encL zs := ⟨_, rfl⟩
      rw [← hl] at HF HR HD
      clear hl
      go_enter Try.func6, Try.ntmps6
      go_wp2_with (first | (go_at_call 14; ((with_reducible refine (long_no _ _ _ _ HN.out).mono ?_); rintro e w' ⟨rfl, rfl⟩)))
      refine (HF.out _ (Below.refl _ _)).mono ?_
      rintro e w1 ⟨v1, rfl, h1, hb1⟩
      have H1 := Lib.hid h1
      clear h1
      go_wp2_with fail
      refine (HR.out _ hb1).mono ?_
      rintro e w2 ⟨v2, rfl, h2, hb2⟩
      have h1 := H1.out.more hb2
      have k1 := str_conv h1
      have k2 := str_conv h2
      generalize strB l = S at k1 k2
      have H2 := Lib.hid h1
      have hc2 := hb1.trans (hb2.mono hb1.size)
      clear h1 h2 hb1 hb2 H1
      go_wp2_with fail
      refine (Decode_tab H2.out).mono ?_
      rw [HD.out]
      rintro e w3 ⟨A3, n3, c3, rfl, h3, hb3⟩
      have H3 := Lib.hid h3
      have hc3 := hc2.trans (hb3.mono hc2.size)
      clear h3 hb3 k1 k2 H2 hc2
      go_wp2_with fail
      refine (same_any H3.out (HT.out.below hc3) HL.out).mono ?_
      rintro e w4 ⟨rfl, hb4⟩
      have hc4 := hc3.trans (hb4.mono hc3.size)
      clear hb4 H3 hc3
      have ht : decide ((some zs).getD [] = zs) = true := decide_eq_true rfl
      rw [ht]
      clear ht
      go_wp2_with fail
      refine (calls_known hc4).mono ?_
      rintro e w' ⟨rfl, hb⟩
      go_wp2
      go_ret
      exact ⟨rfl, hb⟩
    · have HD := Lib.hid (decL_bad hv)
      obtain ⟨X, hX⟩ : ∃ X, X = valF zs := ⟨_, rfl⟩
      rw [← hX] at HF HR hv
      have dX : (X != 0) = true := by simp [hv]
      clear hv hX
      obtain ⟨l, hl⟩ : ∃ l, l = encL zs := ⟨_, rfl⟩
      rw [← hl] at HF HR HD
      clear hl
      go_enter Try.func6, Try.ntmps6
      go_wp2_with (first | (go_at_call 14; ((with_reducible refine (long_no _ _ _ _ HN.out).mono ?_); rintro e w' ⟨rfl, rfl⟩)))
      refine (HF.out _ (Below.refl _ _)).mono ?_
      rintro e w1 ⟨v1, rfl, h1, hb1⟩
      have H1 := Lib.hid h1
      clear h1
      go_wp2_with fail
      refine (HR.out _ hb1).mono ?_
      rintro e w2 ⟨v2, rfl, h2, hb2⟩
      have h1 := H1.out.more hb2
      have k1 := str_conv h1
      have k2 := str_conv h2
      generalize strB l = S at k1 k2
      have H2 := Lib.hid h1
      have hc2 := hb1.trans (hb2.mono hb1.size)
      clear h1 h2 hb1 hb2 H1
      go_wp2_with fail
      refine (Decode_tab H2.out).mono ?_
      rw [HD.out]
      rintro e w3 ⟨A3, n3, c3, rfl, -, hb3⟩
      have hc3 := hc2.trans (hb3.mono hc2.size)
      clear hb3 k1 k2 H2 hc2
      go_wp2_with fail
      refine (calls_known hc3).mono ?_
      rintro e w' ⟨rfl, hb⟩
      go_wp2
      go_ret
      exact ⟨rfl, hb⟩
end Go.Proofs.Ytdpfglpefncigaa
