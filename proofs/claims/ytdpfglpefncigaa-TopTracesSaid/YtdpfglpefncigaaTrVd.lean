/-
  The law of Value.
-/
import Derived.Test.YtdpfglpefncigaaTrVc
namespace Go.Proofs.Ytdpfglpefncigaa
open Go.RowKit

theorem kind_of {p : Plc} (h : isPlB p = true) : ¬ p.z = 0 ∧ ∃ N : Nat, p.n = (N : Int) ∧ ((p.k = 0 ∧ N ≤ 31) ∨ (p.k = 1 ∧ N ≤ 32764) ∨ (p.k = 2 ∧ N ≤ 4294967295)) := by
  obtain ⟨a, z, v, k, n⟩ := p
  unfold isPlB inB kindB at h
  simp only [Bool.and_eq_true, decide_eq_true_eq] at h
  obtain ⟨⟨⟨⟨⟨h1, h2⟩, h3⟩, h4⟩, h5⟩, h6⟩ := h
  refine ⟨by simp only; omega, n.toNat, by simp only; omega, ?_⟩
  simp only
  split at h6
  · exact .inl ⟨by assumption, by have := of_decide_eq_true h6; omega⟩
  · split at h6
    · exact .inr (.inl ⟨by assumption, by have := of_decide_eq_true h6; omega⟩)
    · split at h6
      · exact .inr (.inr ⟨by assumption, by have := of_decide_eq_true h6; omega⟩)
      · cases h6
section
variable {w : World} {A : Option Addr} {n c : Nat} {zs : List Plc} {MC : Array Value} {R : Nat → Int} {at_ : Int} {Am : Option Addr} {nm cm : Nat} {l : List Nat}
theorem Mach.below {w' : World} (h : Mach w MC R at_ Am nm cm l) (hb : Below w.heap.size w w') : Mach w' MC R at_ Am nm cm l :=
  ⟨h.reg, h.at33, h.mem, h.len, h.byts.more hb, h.lo, h.hi, h.size36⟩
theorem value_same (h : Tab w A n c zs) (hm : Mach w MC R at_ Am nm cm l) (v : Int) : ∃ X B E, ∀ w1, Below w.heap.size w w1 →
    (Calls Try.prog 23 #[.slice A n c, .agg MC, .int .i64 v] w1 fun e w' => e = .returned (.tuple #[.int .u32 X, .bool B, .int .i64 E]) ∧ Below w1.heap.size w1 w') ∧
    Calls Try.prog 24 #[.slice A n c, .agg MC, .int .i64 v] w1 fun e w' => e = .returned (.tuple #[.int .u32 X, .bool B, .int .i64 E]) ∧ Below w1.heap.size w1 w' := by
  by_cases hX : chkF zs v 0 0 = 0
  · cases hf : fnd zs v at_ with
    | none =>
      refine ⟨0, false, 0, fun w1 hb => ⟨value_none (h.below hb) (hm.below hb) v hX (by rw [hf]; rfl), refValue_none (h.below hb) (hm.below hb) v hX (by rw [hf]; rfl) (by rw [hf]; rfl)⟩⟩
    | some p =>
      obtain ⟨k, hk, hp, hv, -, -⟩ := fnd_some hf
      have hpl := okAt_place (okAll_at (valF_ok (chk_ok hX).1).2 hk)
      rw [hp] at hpl
      obtain ⟨hz, N, hn, hcase⟩ := kind_of hpl
      obtain ⟨P, Z, V, K, q⟩ := p
      simp only at hz hn hcase
      subst hn
      rcases hcase with ⟨rfl, hN⟩ | ⟨rfl, hN⟩ | ⟨rfl, hN⟩
      · exact ⟨R N, true, 0, fun w1 hb => ⟨value_reg (h.below hb) (hm.below hb) v hX P Z V N hz hN (by rw [hf]; rfl), refValue_reg (h.below hb) (hm.below hb) v hX P Z V N hz hN (by rw [hf]; rfl)⟩⟩
      · by_cases hs : nm < N + 4
        · exact ⟨0, false, 4, fun w1 hb => ⟨value_short (h.below hb) (hm.below hb) v hX P Z V N hz hN hs (by rw [hf]; rfl), refValue_short (h.below hb) (hm.below hb) v hX P Z V N hz hN hs (by rw [hf]; rfl)⟩⟩
        · exact ⟨(wordAt l N : Int), true, 0, fun w1 hb => ⟨value_mem (h.below hb) (hm.below hb) v hX P Z V N hz hN (by omega) (by rw [hf]; rfl), refValue_mem (h.below hb) (hm.below hb) v hX P Z V N hz hN (by omega) (by rw [hf]; rfl)⟩⟩
      · exact ⟨(N : Int), true, 0, fun w1 hb => ⟨value_num (h.below hb) (hm.below hb) v hX P Z V N hz hN (by rw [hf]; rfl), refValue_num (h.below hb) (hm.below hb) v hX P Z V N hz hN (by rw [hf]; rfl)⟩⟩
  · exact ⟨0, false, chkF zs v 0 0, fun w1 hb => ⟨value_bad (h.below hb) v hX, refValue_bad (h.below hb) v hX⟩⟩
theorem mach_size (hm : Mach w MC R at_ Am nm cm l) : (Try.prog.info? 41).map (·.size) = some MC.size := by
  rw [hm.size36]
  kernel_rfl
set_option maxRecDepth 100000 in
set_option maxHeartbeats 2000000 in
theorem values_walk (h : Tab w A n c zs) (hm : Mach w MC R at_ Am nm cm l) (v : Int) :
    Calls Try.prog 5 #[.slice A n c, .agg MC, .int .i64 v] w fun e w' => e = .returned (.bool true) ∧ Below w.heap.size w w' := by
  have hsz := mach_size hm
  obtain ⟨X, B, E, hV⟩ := value_same h hm v
  have HV := Lib.hid hV
  have HM := Lib.hid hm
  by_cases hn : 100 < n
  · have HN := Lib.hid hn
    clear hn h hm hV
    go_enter Try.func5, Try.ntmps5
    go_wp2_with (first | (go_at_call 14; ((with_reducible refine (long_yes _ _ _ _ HN.out).mono ?_); rintro e w' ⟨rfl, rfl⟩)))
    refine (calls_known ((Below.refl _ _).alloc (Nat.le_refl _) _)).mono ?_
    rintro e w' ⟨rfl, hb⟩
    go_wp2
    go_ret
    exact ⟨rfl, hb⟩
  · have HN := Lib.hid hn
    clear hn h hm hV
    go_enter Try.func5, Try.ntmps5
    go_wp2_with fail
    have hb0 : Below w.heap.size w (w.alloc (.cells MC 41)) := (Below.refl _ _).alloc (Nat.le_refl _) _
    have hB := heap_alloc_new w (.cells MC 41)
    generalize World.alloc w _ = W0 at hb0 hB ⊢
    refine (long_no _ _ _ _ HN.out).mono ?_
    rintro e w1 ⟨rfl, rfl⟩
    obtain ⟨-, m2, -⟩ := HM.out.cells hB
    by_cases h4 : 40000 < nm
    · clear hB
      go_wp2_with fail
      refine (calls_known hb0).mono ?_
      rintro e w' ⟨rfl, hb⟩
      go_wp2
      go_ret
      exact ⟨rfl, hb⟩
    · go_wp2_with (refine wpList_load_row rfl 41 (.tmp 4) rfl w.heap.size rfl 41 MC (0, 0) _ hB Try.underlying41 rfl hsz ?_)
      refine (HV.out _ hb0).1.mono ?_
      rintro e w2 ⟨rfl, hb2⟩
      have hb3 := hb0.trans (hb2.mono hb0.size)
      have hB2 := (hb2.block _ (lt_of_block hB)).trans hB
      clear hB hb2 m2 hb0
      go_wp2_with (refine wpList_load_row rfl 41 (.tmp 4) rfl w.heap.size rfl 41 MC (0, 0) _ hB2 Try.underlying41 rfl hsz ?_)
      refine (HV.out _ hb3).2.mono ?_
      rintro e w4 ⟨rfl, hb4⟩
      have hb5 := hb3.trans (hb4.mono hb3.size)
      clear hB2 hb3 hb4
      go_wp2_with fail
      refine (calls_known hb5).mono ?_
      rintro e w' ⟨rfl, hb⟩
      go_wp2
      go_ret
      exact ⟨rfl, hb⟩
end
end Go.Proofs.Ytdpfglpefncigaa
