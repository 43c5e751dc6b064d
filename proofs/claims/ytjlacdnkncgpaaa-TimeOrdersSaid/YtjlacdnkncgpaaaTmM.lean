/-
  The law of Issues.
-/
import Derived.Test.YtjlacdnkncgpaaaTmL
namespace Go.Proofs.Ytjlacdnkncgpaaa
open Go.RowKit

theorem resL_len {w : World} {A : Option Addr} {n c : Nat} {zs : List Cod} (h : Tab w A n c zs) (hn : n ≤ 100) : (resL zs).length ≤ 100000 := by
  have := h.shape
  unfold resL
  split
  · rw [issL_len]; omega
  · simp
theorem calls_known {w0 w : World} (hb : Below w0.heap.size w0 w) : Calls Try.prog 8 #[] w fun e w' => e = .returned (.bool true) ∧ Below w0.heap.size w0 w' :=
  (known_any w).mono fun _ _ h => ⟨h.1, hb.trans (h.2.mono hb.size)⟩
set_option maxRecDepth 100000 in
set_option maxHeartbeats 2000000 in
theorem issues_walk {w : World} {A : Option Addr} {n c : Nat} {zs : List Cod} (h : Tab w A n c zs) (op : Int) :
    Calls Try.prog 3 #[.slice A n c, .int .i64 op] w fun e w' => e = .returned (.bool true) ∧ Below w.heap.size w w' := by
  by_cases hn : 100 < n
  · clear h
    have HN := Lib.hid hn
    clear hn
    go_enter Try.func3, Try.ntmps3
    go_wp2_with (first | (go_at_call 7; ((with_reducible refine (long_yes _ _ _ _ HN.out).mono ?_); rintro e w' ⟨rfl, rfl⟩)))
    refine (calls_known (Below.refl _ _)).mono ?_
    rintro e w' ⟨rfl, hb⟩
    go_wp2
    go_ret
    exact ⟨rfl, hb⟩
  · have HF := Lib.hid (fun w1 (hb : Below w.heap.size w w1) => Issue_tab (h.below hb))
    have HR := Lib.hid (fun w1 (hb : Below w.heap.size w w1) => refIssueTop_tab (h.below hb))
    have HC := Lib.hid (fun w1 (hb : Below w.heap.size w w1) => Cost_tab (h.below hb))
    have HD := Lib.hid (fun w1 (hb : Below w.heap.size w w1) => refCostTop_tab (h.below hb))
    have HV := Lib.hid (fun w1 (hb : Below w.heap.size w w1) => validate_tab (h.below hb))
    have HW := Lib.hid (fun w1 (hb : Below w.heap.size w w1) => refValidate_tab (h.below hb))
    have HA := Lib.hid (fun w1 => Latency_any op w1)
    have HB := Lib.hid (fun w1 => RefLatency_any op w1)
    have HN := Lib.hid hn
    have HL := Lib.hid (resL_len h (by omega))
    generalize resL zs = L at HF HR HL
    generalize valF zs = X at HF HR HC HD HV HW
    generalize resC zs = C at HC HD
    generalize (if inB op 0 23 then latF op else 0) = T at HA HB
    generalize (if inB op 0 23 then (0 : Int) else 1) = E at HA HB
    have eX : (X == X) = true := beq_self_eq_true X
    have eC : (C == C) = true := beq_self_eq_true C
    have eT : (T == T) = true := beq_self_eq_true T
    have eE : (E == E) = true := beq_self_eq_true E
    clear hn h
    go_enter Try.func3, Try.ntmps3
    go_wp2_with (first | (go_at_call 7; ((with_reducible refine (long_no _ _ _ _ HN.out).mono ?_); rintro e w' ⟨rfl, rfl⟩)))
    refine (HF.out _ (Below.refl _ _)).mono ?_
    rintro e w1 ⟨v1, rfl, h1, hb⟩
    go_wp2_with fail
    refine (HR.out _ hb).mono ?_
    rintro e w2 ⟨v2, rfl, h2, hb2⟩
    replace h1 := Lib.hid (h1.below hb2)
    replace h2 := Lib.hid h2
    replace hb := hb.trans (hb2.mono hb.size)
    clear hb2
    go_wp2_with fail
    refine (HC.out _ hb).mono ?_
    rintro e w3 ⟨rfl, hb2⟩
    replace h1 := Lib.hid (h1.out.below hb2)
    replace h2 := Lib.hid (h2.out.below hb2)
    replace hb := hb.trans (hb2.mono hb.size)
    clear hb2
    go_wp2_with fail
    refine (HD.out _ hb).mono ?_
    rintro e w4 ⟨rfl, hb2⟩
    replace h1 := Lib.hid (h1.out.below hb2)
    replace h2 := Lib.hid (h2.out.below hb2)
    replace hb := hb.trans (hb2.mono hb.size)
    clear hb2
    go_wp2_with (first | (go_at_call 13; ((with_reducible refine (HA.out _).mono ?_); rintro e w' ⟨rfl, rfl⟩)) | (go_at_call 14; ((with_reducible refine (HB.out _).mono ?_); rintro e w' ⟨rfl, rfl⟩)))
    refine (HV.out _ hb).mono ?_
    rintro e w5 ⟨rfl, hb2⟩
    replace h1 := Lib.hid (h1.out.below hb2)
    replace h2 := Lib.hid (h2.out.below hb2)
    replace hb := hb.trans (hb2.mono hb.size)
    clear hb2
    go_wp2_with fail
    refine (HW.out _ hb).mono ?_
    rintro e w6 ⟨rfl, hb2⟩
    replace h1 := Lib.hid (h1.out.below hb2)
    replace h2 := Lib.hid (h2.out.below hb2)
    replace hb := hb.trans (hb2.mono hb.size)
    clear hb2
    go_wp2_with fail
    refine (sameInts_yes h1.out h2.out HL.out).mono ?_
    rintro e w7 ⟨rfl, hb2⟩
    replace hb := hb.trans (hb2.mono hb.size)
    clear hb2 h1 h2
    go_wp2_with fail
    refine (calls_known hb).mono ?_
    rintro e w' ⟨rfl, hb⟩
    go_wp2
    go_ret
    exact ⟨rfl, hb⟩
end Go.Proofs.Ytjlacdnkncgpaaa
