/-
  The law of Merge.
-/
import Derived.Test.YtdpfglpefncigaaTrMg
namespace Go.Proofs.Ytdpfglpefncigaa
open Go.RowKit

theorem mrg_find {zs : List Plc} (hv : valF zs = 0) (v x : Int) : chkF (mrgT zs) v x x = chkF zs v x x ∧ fB (mrgT zs) v x = fB zs v x ∧ (fP (mrgT zs) v x).k = (fP zs v x).k ∧ (fP (mrgT zs) v x).n = (fP zs v x).n := by
  have e : mrgT zs = srt (mrgL zs) := if_pos hv
  rw [e]
  have hc : chkF (srt (mrgL zs)) v x x = chkF zs v x x := by
    unfold chkF
    rw [hv, mrg_val hv]
  obtain ⟨h1, h2, h3⟩ := mrg_fnd hv v x
  refine ⟨hc, ?_, ?_, ?_⟩
  · unfold fB
    rw [hc, h1]
  · unfold fP
    rw [hc]
    split
    · exact h2
    · rfl
  · unfold fP
    rw [hc]
    split
    · exact h3
    · rfl
theorem mrgT_len {zs : List Plc} : (mrgT zs).length ≤ zs.length ∧ (mrgT zs).length ≤ 64 := by
  unfold mrgT
  split
  · rename_i h
    rw [(srt_perm _).length_eq]
    have h1 := mrg_len (zs := zs) zs.length
    have h2 := (valF_ok h).1
    unfold mrgL
    omega
  · simp
set_option maxRecDepth 100000 in
set_option maxHeartbeats 4000000 in
theorem merges_walk {w : World} {A : Option Addr} {n c : Nat} {zs : List Plc} (h : Tab w A n c zs) (v x : Int) :
    Calls Try.prog 11 #[.slice A n c, .int .i64 v, .int .i64 x] w fun e w' => e = .returned (.bool true) ∧ Below w.heap.size w w' := by
  by_cases hn : 100 < n
  · clear h
    have HN := Lib.hid hn
    clear hn
    go_enter Try.func11, Try.ntmps11
    go_wp2_with (first | (go_at_call 14; ((with_reducible refine (long_yes _ _ _ _ HN.out).mono ?_); rintro e w' ⟨rfl, rfl⟩)) | (go_at_call 15; ((with_reducible refine (known_any _).mono ?_); rintro e w' ⟨rfl, hb⟩)))
    go_ret
    exact ⟨rfl, hb⟩
  · have HF := Lib.hid (fun w1 (hb : Below w.heap.size w w1) => merge_tab (h.below hb))
    have HR := Lib.hid (fun w1 (hb : Below w.heap.size w w1) => refMerge_tab (h.below hb))
    have HFD := Lib.hid (fun w1 (hb : Below w.heap.size w w1) => Find_tab (h.below hb) v x)
    have HN := Lib.hid hn
    obtain ⟨hl1, hl2⟩ := mrgT_len (zs := zs)
    have HL := Lib.hid hl2
    have hle : (mrgT zs).length ≤ n := by rw [h.shape]; exact hl1
    have HMF := Lib.hid (fun hv => mrg_find (zs := zs) hv v x)
    have HAG := Lib.hid (fun (hv : valF zs = 0) => (show valF (mrgT zs) = 0 ∧ mrgT (mrgT zs) = mrgT zs by
      have e : mrgT zs = srt (mrgL zs) := if_pos hv
      rw [e]
      exact ⟨mrg_val hv, (if_pos (mrg_val hv)).trans (mrg_again hv)⟩))
    generalize mrgT zs = C at HF HR HL HMF HAG hle
    generalize valF zs = X at HF HR HMF HAG
    clear hn h hl1 hl2
    go_enter Try.func11, Try.ntmps11
    go_wp2_with (first | (go_at_call 14; ((with_reducible refine (long_no _ _ _ _ HN.out).mono ?_); rintro e w' ⟨rfl, rfl⟩)))
    refine (HF.out _ (Below.refl _ _)).mono ?_
    rintro e w1 ⟨v1, rfl, ho1, hb1⟩
    obtain ⟨A1, c1, rfl, h1⟩ := tab_own ho1
    have H1 := Lib.hid h1
    clear h1 ho1
    go_wp2_with fail
    refine (HR.out _ hb1).mono ?_
    rintro e w2 ⟨v2, rfl, ho2, hb2⟩
    obtain ⟨A2, c2, rfl, h2⟩ := tab_own ho2
    have H2 := Lib.hid h2
    have H1' := Lib.hid (H1.out.below hb2)
    have hc2 := hb1.trans (hb2.mono hb1.size)
    clear h2 ho2 hb1 hb2 H1
    go_wp2_with fail
    refine (same_any H1'.out H2.out (by have := HL.out; omega)).mono ?_
    rintro e w3 ⟨rfl, hb3⟩
    have ht : decide (C = C) = true := decide_eq_true rfl
    rw [ht]
    have hc3 := hc2.trans (hb3.mono hc2.size)
    have H3 := Lib.hid (H1'.out.below hb3)
    clear ht hb3 hc2 H1' H2
    by_cases hX : X = 0
    · subst hX
      obtain ⟨hvC, hCC⟩ := HAG.out rfl
      obtain ⟨m1, m2, m3, m4⟩ := HMF.out rfl
      have HG := Lib.hid (merge_tab H3.out)
      rw [hvC, hCC] at HG
      have HFC := Lib.hid (fun w1 (hb : Below w3.heap.size w3 w1) => Find_tab (H3.out.below hb) v x)
      rw [m1, m2] at HFC
      clear hvC hCC m1 m2 HAG HMF HF HR
      go_wp2_with fail
      refine HG.out.mono ?_
      rintro e w4 ⟨v4, rfl, ho4, hb4⟩
      obtain ⟨A4, c4, rfl, h4⟩ := tab_own ho4
      have H4 := Lib.hid h4
      have hc4 := hc3.trans (hb4.mono hc3.size)
      have hd4 := hb4
      clear h4 ho4 hb4 HG
      go_wp2_with fail
      refine (HFD.out _ hc4).mono ?_
      generalize fP zs v x = P at HFD m3 m4 ⊢
      generalize fB zs v x = B at HFD HFC ⊢
      generalize chkF zs v x x = Y at HFD HFC ⊢
      generalize fP C v x = Q at HFC m3 m4
      obtain ⟨pa, pz, pv, pk, pn⟩ := P
      obtain ⟨qa, qz, qv, qk, qn⟩ := Q
      try simp only at m3 m4
      subst m3 m4
      rintro e w5 ⟨rfl, hb5⟩
      have hc5 : Below w.heap.size w (w5.alloc (.cells #[.int .i64 pa, .int .i64 pz, .int .i64 pv, .int .i64 qk, .int .i64 qn] 33)) := (hc4.trans (hb5.mono hc4.size)).alloc (hc4.trans (hb5.mono hc4.size)).size _
      have hd5 : Below w3.heap.size w3 (w5.alloc (.cells #[.int .i64 pa, .int .i64 pz, .int .i64 pv, .int .i64 qk, .int .i64 qn] 33)) := (hd4.trans (hb5.mono hd4.size)).alloc (hd4.trans (hb5.mono hd4.size)).size _
      have H5 := Lib.hid ((H4.out.below hb5).below ((Below.refl _ _).alloc (Nat.le_refl _) (.cells #[.int .i64 pa, .int .i64 pz, .int .i64 pv, .int .i64 qk, .int .i64 qn] 33)))
      have hp := heap_alloc_new w5 (.cells #[.int .i64 pa, .int .i64 pz, .int .i64 pv, .int .i64 qk, .int .i64 qn] 33)
      clear hc4 hd4 hb5 H4 HFD
      go_wp2_with fail
      generalize World.alloc w5 _ = W6 at hc5 hd5 H5 hp ⊢
      generalize w5.heap.size = B1 at hp ⊢
      refine (HFC.out _ hd5).mono ?_
      rintro e w7 ⟨rfl, hb7⟩
      have hc7 : Below w.heap.size w (w7.alloc (.cells #[.int .i64 qa, .int .i64 qz, .int .i64 qv, .int .i64 qk, .int .i64 qn] 33)) := (hc5.trans (hb7.mono hc5.size)).alloc (hc5.trans (hb7.mono hc5.size)).size _
      have hd7 : Below w3.heap.size w3 (w7.alloc (.cells #[.int .i64 qa, .int .i64 qz, .int .i64 qv, .int .i64 qk, .int .i64 qn] 33)) := (hd5.trans (hb7.mono hd5.size)).alloc (hd5.trans (hb7.mono hd5.size)).size _
      have H7 := Lib.hid ((H5.out.below hb7).below ((Below.refl _ _).alloc (Nat.le_refl _) (.cells #[.int .i64 qa, .int .i64 qz, .int .i64 qv, .int .i64 qk, .int .i64 qn] 33)))
      have hp7 := (heap_alloc_old w7 (.cells #[.int .i64 qa, .int .i64 qz, .int .i64 qv, .int .i64 qk, .int .i64 qn] 33) (lt_of_block ((hb7.block _ (lt_of_block hp)).trans hp))).trans ((hb7.block _ (lt_of_block hp)).trans hp)
      have hq7 := heap_alloc_new w7 (.cells #[.int .i64 qa, .int .i64 qz, .int .i64 qv, .int .i64 qk, .int .i64 qn] 33)
      clear hc5 hd5 hb7 H5 HFC hp
      go_wp2_with fail
      generalize World.alloc w7 _ = W8 at hc7 hd7 H7 hp7 hq7 ⊢
      generalize w7.heap.size = B2 at hq7 ⊢
      refine (same_any H7.out (H3.out.below hd7) (by have := HL.out; omega)).mono ?_
      rintro e w9 ⟨rfl, hb9⟩
      have ht : decide (C = C) = true := decide_eq_true rfl
      rw [ht]
      have hc9 := hc7.trans (hb9.mono hc7.size)
      obtain ⟨-, -, -, p3, p4⟩ := cells5 ((hb9.block _ (lt_of_block hp7)).trans hp7)
      obtain ⟨-, -, -, q3, q4⟩ := cells5 ((hb9.block _ (lt_of_block hq7)).trans hq7)
      have dle : decide ((C.length : Int) ≤ (n : Int)) = true := decide_eq_true (by omega)
      clear ht hc7 hd7 H7 hp7 hq7 hb9
      go_wp2_with fail
      refine (calls_known hc9).mono ?_
      rintro e w' ⟨rfl, hb⟩
      go_wp2
      go_ret
      exact ⟨rfl, hb⟩
    · have dX : (X != 0) = true := by simp [hX]
      clear HAG HMF HFD HF HR H3
      go_wp2_with fail
      refine (calls_known hc3).mono ?_
      rintro e w' ⟨rfl, hb⟩
      go_wp2
      go_ret
      exact ⟨rfl, hb⟩
end Go.Proofs.Ytdpfglpefncigaa
