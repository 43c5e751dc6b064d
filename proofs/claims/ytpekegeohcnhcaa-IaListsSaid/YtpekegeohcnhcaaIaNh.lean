/-
  The reference's Decode; the walk of IaReads.
-/
import Derived.Test.YtpekegeohcnhcaaIaNg
import Derived.Test.YtpekegeohcnhcaaIaS
import Derived.Test.YtpekegeohcnhcaaIaP
import Derived.Test.YtpekegeohcnhcaaIaZt
namespace Go.Proofs.Ytpekegeohcnhcaa
open Go.RowKit Go.Sort

set_option maxRecDepth 100000 in
set_option maxHeartbeats 4000000 in
theorem rDecode_any {w : World} {A : Option Addr} {n c : Nat} {l : List Int} (hB : Byt w A n c l) :
    Calls Try.prog 14 #[.slice A n c] w fun e w' => e = .returned (.tuple #[aggI (decI l), .int .i64 (decN l : Int), .bool (decB l)]) ∧ Below w.heap.size w w' := by
  have hb : Below w.heap.size w (w.alloc (.cells #[.int .i64 0, .int .i64 0, .int .i64 0, .int .i64 0, .int .i64 0] 23)) := (Below.refl _ _).alloc (Nat.le_refl _) _
  have r0 := heap_alloc_new w (.cells #[.int .i64 0, .int .i64 0, .int .i64 0, .int .i64 0, .int .i64 0] 23)
  have HG := Lib.hid (rDecode0_any (hB.below hb))
  clear hB
  generalize decI l = x at HG ⊢
  generalize (decN l : Int) = k at HG ⊢
  generalize decB l = B at HG ⊢
  obtain ⟨op, d, s, sz, imm⟩ := x
  go_enter Try.func14, Try.ntmps14
  go_wp2_with fail
  refine HG.out.mono ?_
  rintro e w2 ⟨rfl, hw⟩
  replace r0 := (hw.block _ (lt_of_block r0)).trans r0
  replace hb := hb.trans (hw.mono hb.size)
  clear HG hw
  go_wp2_with (refine wpList_store_row rfl _ _ _ rfl w.heap.size #[.int .i64 op, .int .i64 d, .int .i64 s, .int .i64 sz, .int .i64 imm] rfl rfl 23 _ r0 (infoC _ _ _ _ _) rfl (oneI _ _ _ _ _) ?_)
  have rr := setRow_heap _ w.heap.size _ #[.int .i64 op, .int .i64 d, .int .i64 s, .int .i64 sz, .int .i64 imm] 23 (0, 0) r0
  have hB7 := bel_setRow hb (Nat.le_refl w.heap.size) #[.int .i64 op, .int .i64 d, .int .i64 s, .int .i64 sz, .int .i64 imm]
  clear r0 hb
  go_wp2
  exact bodyPost_ret (res3 rfl _ _ w.heap.size #[.int .i64 op, .int .i64 d, .int .i64 s, .int .i64 sz, .int .i64 imm] rfl (loadIA _ w.heap.size _ _ _ _ _ rr)) rfl ⟨rfl, hB7⟩
set_option maxRecDepth 100000 in
set_option maxHeartbeats 4000000 in
theorem reads_long {A : Option Addr} {n c : Nat} {w : World} (hn : ¬ n ≤ 10000) : Calls Try.prog 4 #[.slice A n c] w fun e w' => e = .returned (.bool true) ∧ Below w.heap.size w w' := by
  have hn2 : 10000 < n := by omega
  clear hn
  go_enter Try.func4, Try.ntmps4
  go_wp2_with fail
  refine (known_any _).mono ?_
  rintro e w5 ⟨rfl, hb⟩
  go_wp2
  go_ret
  exact ⟨rfl, hb⟩
set_option maxRecDepth 100000 in
set_option maxHeartbeats 8000000 in
theorem reads_walk {A : Option Addr} {n c : Nat} {l : List Int} {w : World} (hBn : Byn w A n c l) : Calls Try.prog 4 #[.slice A n c] w fun e w' => e = .returned (.bool true) ∧ Below w.heap.size w w' := by
  by_cases hn : n ≤ 10000
  case neg => exact reads_long hn
  have hB := hBn.1
  have HBy := Lib.hid hB
  have hd := decode_any hB
  have HR := Lib.hid (fun w1 (hb : Below w.heap.size w w1) => rDecode_any (hB.below hb))
  have HDS := Lib.hid (fun x (h : decF l = some x) => dec_some h)
  have HND := Lib.hid (show decF l = none → decB l = false by intro h; unfold decB; rw [h])
  have HYD := Lib.hid (show ∀ x, decF l = some x → decI l = x ∧ decN l = (encF x).length ∧ decB l = true by intro x h; unfold decI decN decB; rw [h]; exact ⟨rfl, rfl, rfl⟩)
  clear hBn hB
  cases hF : decF l with
  | none =>
    have hBf := HND.out hF
    rw [hBf] at hd HR
    generalize decI l = x at hd HR
    generalize (decN l : Int) = k at hd HR
    obtain ⟨op, d, s, sz, imm⟩ := x
    have HD := Lib.hid hd
    clear hd hBf hF
    go_enter Try.func4, Try.ntmps4
    go_wp2_with fail
    refine HD.out.mono ?_
    rintro e w1 ⟨rfl, hb⟩
    have hy := heap_alloc_new w1 (.cells #[.int .i64 op, .int .i64 d, .int .i64 s, .int .i64 sz, .int .i64 imm] 23)
    replace hb := hb.alloc hb.size (.cells #[.int .i64 op, .int .i64 d, .int .i64 s, .int .i64 sz, .int .i64 imm] 23)
    go_wp2_with fail
    generalize World.alloc w1 _ = W1 at hy hb ⊢
    generalize w1.heap.size = Y at hy ⊢
    refine (HR.out _ hb).mono ?_
    rintro e w2 ⟨rfl, hw⟩
    replace hy := (hw.block _ (lt_of_block hy)).trans hy
    replace hb := hb.trans (hw.mono hb.size)
    clear hw
    replace hy := (heap_alloc_old w2 (.cells #[.int .i64 op, .int .i64 d, .int .i64 s, .int .i64 sz, .int .i64 imm] 23) (lt_of_block hy)).trans hy
    replace hb := hb.alloc hb.size (.cells #[.int .i64 op, .int .i64 d, .int .i64 s, .int .i64 sz, .int .i64 imm] 23)
    obtain ⟨y0, y1, y2, y3, y4⟩ := cells5 hy
    go_wp2_with fail
    refine (known_any _).mono ?_
    rintro e w9 ⟨rfl, hw⟩
    have HF := Lib.hid (hb.trans (hw.mono hb.size))
    clear hw hb hy y0 y1 y2 y3 y4
    go_wp2
    go_ret
    exact ⟨rfl, HF.out⟩
  | some x =>
    obtain ⟨hv, t, ht⟩ := HDS.out x hF
    obtain ⟨e1, e2, e3⟩ := HYD.out x hF
    rw [e1, e2, e3] at hd HR
    have hlen : (encF x).length ≤ n := by rw [HBy.out.1, ← ht, List.length_append]; omega
    have hbt := byt_take HBy.out hlen
    have htk : l.take (encF x).length = encF x := by rw [← ht]; simp
    rw [htk] at hbt
    have HT := Lib.hid hbt
    have HE := Lib.hid (show ∀ w1, Calls Try.prog 9 #[aggI x] w1 fun e w' => ∃ V, e = .returned (.tuple #[V, .int .i64 0]) ∧ w'.ownsRow w1.heap.size 5 1 V (encF x).length (byV (encF x)) ∧ Below w1.heap.size w1 w' by
      intro w1
      have h := Encode_any x w1
      rw [show errI x = 0 by unfold errI; rw [hv]; rfl, show bytI x = encF x by unfold bytI; rw [hv]; rfl] at h
      exact h)
    have HIB := Lib.hid (enc_by x hv)
    have hnc : n ≤ c := HBy.out.2.1
    have hcm : c ≤ 9223372036854775807 := HBy.out.2.2.1
    clear htk ht hv e1 e2 e3 hF hbt HND HYD HDS HBy
    generalize encF x = L at hd HR HT HE HIB hlen
    obtain ⟨k, hk⟩ : ∃ k, L.length = k := ⟨_, rfl⟩
    rw [hk] at hd HR HT HE hlen
    have HK := Lib.hid hk
    clear hk
    obtain ⟨op, d, s, sz, imm⟩ := x
    have HD := Lib.hid hd
    clear hd
    go_enter Try.func4, Try.ntmps4
    go_wp2_with fail
    refine HD.out.mono ?_
    rintro e w1 ⟨rfl, hb⟩
    have hy := heap_alloc_new w1 (.cells #[.int .i64 op, .int .i64 d, .int .i64 s, .int .i64 sz, .int .i64 imm] 23)
    replace hb := hb.alloc hb.size (.cells #[.int .i64 op, .int .i64 d, .int .i64 s, .int .i64 sz, .int .i64 imm] 23)
    go_wp2_with fail
    generalize World.alloc w1 _ = W1 at hy hb ⊢
    generalize w1.heap.size = Y at hy ⊢
    refine (HR.out _ hb).mono ?_
    rintro e w2 ⟨rfl, hw⟩
    replace hy := (hw.block _ (lt_of_block hy)).trans hy
    replace hb := hb.trans (hw.mono hb.size)
    clear hw
    replace hy := (heap_alloc_old w2 (.cells #[.int .i64 op, .int .i64 d, .int .i64 s, .int .i64 sz, .int .i64 imm] 23) (lt_of_block hy)).trans hy
    replace hb := hb.alloc hb.size (.cells #[.int .i64 op, .int .i64 d, .int .i64 s, .int .i64 sz, .int .i64 imm] 23)
    obtain ⟨y0, y1, y2, y3, y4⟩ := cells5 hy
    go_wp2_with fail
    refine (HE.out _).mono ?_
    rintro e w3 ⟨V, rfl, ho, hw⟩
    obtain ⟨A3, c3, rfl, hB3⟩ := byt_own (l := L) (by rw [HK.out]; exact ho) HIB.out
    rw [HK.out] at hB3 ⊢
    replace hb := hb.trans (hw.mono hb.size)
    clear hw ho hy y0 y1 y2 y3 y4
    go_wp2_with fail
    have e1 : ∀ (d : Nat) (os : Array Obj), (convert 24 9 (.slice A3 k c3)).run Try.prog (grow (redrawn w3 d) os) = .ok (.string (strI L)) (grow (redrawn w3 d) os) := fun d os => str_conv (hB3.below (below_regrown w3 d os))
    have e2 : ∀ (d : Nat) (os : Array Obj), (convert 24 9 (.slice A k c)).run Try.prog (grow (redrawn w3 d) os) = .ok (.string (strI L)) (grow (redrawn w3 d) os) := fun d os => str_conv ((HT.out.below hb).below (below_regrown w3 d os))
    have Q1 := Lib.hid (fun (d : Nat) (os : Array Obj) => (known_any (grow (redrawn w3 d) os)))
    generalize strI L = S at e1 e2
    have hkc : k ≤ c := by omega
    have hkc2 : (k : Int) ≤ c := by omega
    have hk0 : (0 : Int) ≤ k := by omega
    have hkn : (k : Int) ≤ n := by omega
    clear hB3 hnc hcm
    refine wp_region_quiet_below (by kernel_rfl) (by kernel_rfl) ?_
    iterate 21 (go_big_quiet_step ((go_at_call 8; exact Calls.regrown_of (Q1.out _ _))))
    refine wpQuiet_nil ?_
    intro _ hw'
    obtain ⟨⟨dq, osq⟩, hw''⟩ := hw'
    subst hw''
    have HF := Lib.hid (hb.trans ((below_regrown w3 dq osq).mono hb.size))
    clear hb e1 e2
    go_wp2
    go_ret
    exact ⟨rfl, HF.out⟩
end Go.Proofs.Ytpekegeohcnhcaa
