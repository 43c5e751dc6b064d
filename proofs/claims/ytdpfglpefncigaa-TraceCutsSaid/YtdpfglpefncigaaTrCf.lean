/-
  The law of Cut.
-/
import Derived.Test.YtdpfglpefncigaaTrCe
import Derived.BigRegion
import Derived.BigQuiet
namespace Go.Proofs.Ytdpfglpefncigaa
open Go.RowKit

/-- What is found in what was cut, where a place of the table lies. -/
theorem cut_find {zs : List Plc} {f t : Int} (hX : chkF zs 0 f t = 0) {p : Plc} (hp : p ∈ zs) {x : Int} (h1 : p.a ≤ x) (h2 : x < p.z) :
    chkF (cutT zs f t) p.v x x = 0 ∧ fB (cutT zs f t) p.v x = (decide (f ≤ x) && decide (x < t)) ∧ (f ≤ x → x < t → (fP (cutT zs f t) p.v x).k = p.k ∧ (fP (cutT zs f t) p.v x).n = p.n) := by
  obtain ⟨hv, -, hf, ht, hft⟩ := chk_ok hX
  have hf' := inB_iff.1 hf
  have ht' := inB_iff.1 ht
  have e : cutT zs f t = srt (cutL zs f t) := if_pos hX
  rw [e]
  have hval := cut_val hv (f := f) (t := t) hf'.1 ht'.2
  have hpl := val_isPl hv hp
  obtain ⟨A, Z, V, K, N, hpe, hAZ, hZ, hV, -⟩ := place_nums hpl
  have hc : chkF (srt (cutL zs f t)) p.v x x = 0 := chk_yes hval (by
    rw [hpe] at h1 h2 ⊢
    simp only at h1 h2 ⊢
    rw [show inB (V : Int) 0 63 = true from inB_iff.2 ⟨by omega, by omega⟩, show inB x 0 32768 = true from inB_iff.2 ⟨by omega, by omega⟩]
    simp)
  have hfn := cut_fnd hv (f := f) (t := t) hf'.1 ht'.2 hp h1 h2
  refine ⟨hc, ?_, fun h3 h4 => ?_⟩
  · rw [fB_good hc, hfn]
    by_cases h3 : f ≤ x
    · by_cases h4 : x < t
      · simp [h3, h4]
      · simp [h3, h4]
    · simp [h3]
  · rw [fP_good hc, hfn, if_pos ⟨h3, h4⟩]
    exact ⟨rfl, rfl⟩
theorem cutT_len {zs : List Plc} {f t : Int} : (cutT zs f t).length ≤ 64 := by
  unfold cutT
  split
  · rename_i h
    rw [(srt_perm _).length_eq]
    have h1 := cutU_len zs f t zs.length
    have h2 := (valF_ok (chk_ok h).1).1
    unfold cutL
    omega
  · simp
theorem idx3 (a b c : Int) {k : Nat} (hk : k < 3) : ∃ x, (x = a ∨ x = b ∨ x = c) ∧ ∀ W, (Instr.index 54 (.agg #[.int .i64 a, .int .i64 b, .int .i64 c]) (.int .i64 (k : Int))).run Try.prog W = .ok (.int .i64 x) W := by
  obtain rfl | rfl | rfl : k = 0 ∨ k = 1 ∨ k = 2 := by omega
  · exact ⟨a, .inl rfl, fun _ => by kernel_rfl⟩
  · exact ⟨b, .inr (.inl rfl), fun _ => by kernel_rfl⟩
  · exact ⟨c, .inr (.inr rfl), fun _ => by kernel_rfl⟩
set_option maxRecDepth 100000 in
set_option maxHeartbeats 8000000 in
theorem cuts_walk {w : World} {A : Option Addr} {n c : Nat} {zs : List Plc} (h : Tab w A n c zs) (f t : Int) :
    Calls Try.prog 9 #[.slice A n c, .int .i64 f, .int .i64 t] w fun e w' => e = .returned (.bool true) ∧ Below w.heap.size w w' := by
  by_cases hn : 100 < n
  · clear h
    have HN := Lib.hid hn
    clear hn
    go_enter Try.func9, Try.ntmps9
    go_wp2_with (first | (go_at_call 14; ((with_reducible refine (long_yes _ _ _ _ HN.out).mono ?_); rintro e w' ⟨rfl, rfl⟩)) | (go_at_call 15; ((with_reducible refine (known_any _).mono ?_); rintro e w' ⟨rfl, hb⟩)))
    go_ret
    exact ⟨rfl, hb⟩
  · have HF := Lib.hid (fun w1 (hb : Below w.heap.size w w1) => cut_tab (h.below hb) f t)
    have HR := Lib.hid (fun w1 (hb : Below w.heap.size w w1) => refCut_tab (h.below hb) f t)
    have HT := Lib.hid h
    have HN := Lib.hid hn
    have HL := Lib.hid (cutT_len (zs := zs) (f := f) (t := t))
    have HNN := Lib.hid h.shape
    have HCF := Lib.hid (fun (hX : chkF zs 0 f t = 0) (p : Plc) (hp : p ∈ zs) (x : Int) (h1 : p.a ≤ x) (h2 : x < p.z) => cut_find hX hp h1 h2)
    have HPL := Lib.hid (fun (hX : chkF zs 0 f t = 0) (p : Plc) (hp : p ∈ zs) => place_nums (val_isPl (chk_ok hX).1 hp))
    generalize cutT zs f t = C at HF HR HL HCF
    generalize chkF zs 0 f t = X at HF HR HCF HPL
    have n100 : n ≤ 100 := by omega
    clear hn h
    go_enter Try.func9, Try.ntmps9
    go_wp2_with (first | (go_at_call 14; ((with_reducible refine (long_no _ _ _ _ HN.out).mono ?_); rintro e w' ⟨rfl, rfl⟩)))
    refine (HF.out _ (Below.refl _ _)).mono ?_
    rintro e w1 ⟨v1, rfl, ho1, hb1⟩
    obtain ⟨A1, c1, rfl, h1⟩ := tab_own ho1
    have H1 := Lib.hid h1
    clear h1 ho1
    go_wp2_with fail
    refine (HR.out _ hb1).mono ?_
    rintro e w2 ⟨v2, rfl, ho2, hb2⟩
    obtain ⟨A2, c2, rfl, h2⟩ := tab_own ho2
    have H2 := Lib.hid h2
    have H1' := Lib.hid (H1.out.below hb2)
    have hc2 := hb1.trans (hb2.mono hb1.size)
    clear h2 ho2 hb1 hb2 H1
    go_wp2_with fail
    refine (same_any H1'.out H2.out (by have := HL.out; omega)).mono ?_
    rintro e w3 ⟨rfl, hb3⟩
    have ht : decide (C = C) = true := decide_eq_true rfl
    rw [ht]
    have hc3 := hc2.trans (hb3.mono hc2.size)
    have H3 := Lib.hid (H1'.out.below hb3)
    clear ht hb3 hc2 H1' H2
    by_cases hX : X = 0
    · subst hX
      have HCF2 := Lib.hid (HCF.out rfl)
      have HPL2 := Lib.hid (HPL.out rfl)
      clear HCF HPL HF HR
      obtain ⟨W3, hW3⟩ : ∃ W3, W3 = w3 := ⟨_, rfl⟩
      subst hW3
      go_wp2
      go_loopw [11] (fun zi wr => ∃ i : Nat, i ≤ n ∧ zi = .int .i64 (i : Int) ∧ Below W3.heap.size W3 wr) (fun zi _ => n - (intOf zi).toNat)
      case atStart => exact ⟨0, by omega, rfl, Below.refl _ _⟩
      case round =>
        obtain ⟨i, hin, rfl, hb⟩ := hrel
        by_cases hlt : i < n
        · have hilt : i < zs.length := by have := HNN.out; omega
          rcases HT.out.parts with ⟨h0, -⟩ | ⟨-, hnc, hcm, bb, oo, rfl, hLi⟩
          · omega
          have hAT := Lib.hid ((hLi.below hc3).at_ hilt)
          have hbb : bb < W3.heap.size := (hLi.below hc3).1
          obtain ⟨PA, PZ, PV, PK, PN, hp, hAZ, hZ, -, -, -⟩ := HPL2.out _ (at_mem hilt)
          have HCP := Lib.hid (HCF2.out _ (at_mem hilt))
          rw [hp] at hAT HCP
          clear hp hLi
          go_wp2
          go_loopw [12] (fun zk wr => ∃ k : Nat, k ≤ 3 ∧ zk = .int .i64 (k : Int) ∧ Below W3.heap.size W3 wr) (fun zk _ => 3 - (intOf zk).toNat)
          case atStart => exact ⟨0, by omega, rfl, hb⟩
          case round =>
            clear hb
            obtain ⟨k, hk3, rfl, hb⟩ := hrel
            obtain ⟨x0, x1, x2, x3, x4⟩ := hAT.out
            simp only at x0 x1 x2 x3 x4
            have y0 := keep_cell hb hbb x0
            have y1 := keep_cell hb hbb x1
            have y2 := keep_cell hb hbb x2
            clear x0 x1 x2
            by_cases hk3 : k < 3
            · obtain ⟨x, hx, hix⟩ := idx3 (PA : Int) ((PZ : Int) - 1) (max (PA : Int) (min ((PZ : Int) - 1) f)) hk3
              have h1 : (PA : Int) ≤ x := by rcases hx with rfl | rfl | rfl <;> omega
              have h2 : x < (PZ : Int) := by rcases hx with rfl | rfl | rfl <;> omega
              obtain ⟨hc0, hB, hkn⟩ := HCP.out x h1 h2
              try simp only at hc0 hB hkn
              obtain ⟨B, hBB⟩ : ∃ B, B = (decide (f ≤ x) && decide (x < t)) := ⟨_, rfl⟩
              have HFD := Lib.hid (Find_tab (H3.out.below (drewR hb)) (PV : Int) x)
              rw [hc0, hB, ← hBB] at HFD
              have HKN := Lib.hid hkn
              have HBB := Lib.hid hBB
              clear hx h1 h2 hc0 hB hkn hBB
              go_wp2
              go_region
              clear hix y0 y1
              generalize fP C (PV : Int) x = Q at HFD HKN
              obtain ⟨qa, qz, qv, qk, qn⟩ := Q
              replace y2 := drew_cell y2
              replace hb := drewR hb
              generalize wr.drew = W5 at y2 hb HFD ⊢
              go_wp2_with fail
              refine HFD.out.mono ?_
              rintro e w6 ⟨rfl, hb6⟩
              replace hb := hb.trans (hb6.mono hb.size)
              clear y2 hb6 HFD
              replace hb : Below W3.heap.size W3 (w6.alloc (.cells #[.int .i64 qa, .int .i64 qz, .int .i64 qv, .int .i64 qk, .int .i64 qn] 33)) := hb.alloc hb.size _
              have hnw := heap_alloc_new w6 (.cells #[.int .i64 qa, .int .i64 qz, .int .i64 qv, .int .i64 qk, .int .i64 qn] 33)
              go_wp2
              generalize World.alloc w6 _ = W7 at hb hnw ⊢
              generalize w6.heap.size = BP at hnw ⊢
              obtain ⟨-, -, -, p3, p4⟩ := cells5 hnw
              have y3 := keep_cell hb hbb x3
              have y4 := keep_cell hb hbb x4
              clear hnw x3 x4
              by_cases h1 : f ≤ x
              · by_cases h2 : x < t
                · obtain ⟨e1, e2⟩ := HKN.out h1 h2
                  try simp only at e1 e2
                  subst e1 e2
                  have dB : B = true := by rw [HBB.out, decide_eq_true h1, decide_eq_true h2]; rfl
                  have d1 : decide (f ≤ x) = true := decide_eq_true h1
                  have d2 : decide (x < t) = true := decide_eq_true h2
                  subst dB
                  clear h1 h2 HKN HBB
                  go_quiet (fail)
                  go_wp2
                  go_roundw
                  case rel => exact ⟨k + 1, by omega, by go_num, drewNR hb nq⟩
                  case measure => simp [intOf]; omega
                · have dB : B = false := by rw [HBB.out, decide_eq_true h1, decide_eq_false h2]; rfl
                  have d1 : decide (f ≤ x) = true := decide_eq_true h1
                  have d2 : decide (x < t) = false := decide_eq_false h2
                  subst dB
                  clear h1 h2 HKN HBB
                  go_quiet (fail)
                  go_wp2
                  go_roundw
                  case rel => exact ⟨k + 1, by omega, by go_num, drewNR hb nq⟩
                  case measure => simp [intOf]; omega
              · have dB : B = false := by rw [HBB.out, decide_eq_false h1]; rfl
                have d1 : decide (f ≤ x) = false := decide_eq_false h1
                subst dB
                clear h1 HKN HBB
                go_quiet (fail)
                go_wp2
                go_roundw
                case rel => exact ⟨k + 1, by omega, by go_num, drewNR hb nq⟩
                case measure => simp [intOf]; omega
            · obtain rfl : k = 3 := by omega
              rw [show ((3 : Nat) : Int) = 3 from rfl]
              go_wp2
              go_roundw
              case rel => exact ⟨i + 1, by omega, by go_num, hb⟩
              case measure => simp [intOf]; omega
        · clear HCF2 HPL2
          go_wp2_with fail
          refine (calls_known (hc3.trans (hb.mono hc3.size))).mono ?_
          rintro e w' ⟨rfl, hb'⟩
          go_wp2
          go_ret
          exact ⟨rfl, hb'⟩
    · have dX : (X != 0) = true := by simp [hX]
      clear HCF HPL HF HR H3
      go_wp2_with fail
      refine (calls_known hc3).mono ?_
      rintro e w' ⟨rfl, hb⟩
      go_wp2
      go_ret
      exact ⟨rfl, hb⟩
end Go.Proofs.Ytdpfglpefncigaa
