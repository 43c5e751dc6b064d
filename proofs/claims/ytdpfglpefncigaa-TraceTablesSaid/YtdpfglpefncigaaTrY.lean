/-
  The law of Variables.
-/
import Derived.Test.YtdpfglpefncigaaTrW
namespace Go.Proofs.Ytdpfglpefncigaa
open Go.RowKit

/-- What Variables lists. -/
def varsL (zs : List Plc) (t : Int) : List Nat := if chkF zs 0 t t = 0 then varsU zs t 64 else []
theorem varsL_len (zs : List Plc) (t : Int) : (varsL zs t).length ≤ 1000 := by
  unfold varsL
  split
  · have := varsU_len zs t 64
    omega
  · simp
theorem ints_nil (w : World) : Ints w (.slice none 0 0) [] := ⟨none, 0, rfl, .inl rfl⟩
theorem variables_tab {w : World} {A : Option Addr} {n c : Nat} {zs : List Plc} (h : Tab w A n c zs) (t : Int) :
    Calls Try.prog 16 #[.slice A n c, .int .i64 t] w fun e w' => ∃ v, e = .returned (.tuple #[v, .int .i64 (chkF zs 0 t t)]) ∧ Ints w' v (varsL zs t) ∧ Below w.heap.size w w' := by
  by_cases hX : chkF zs 0 t t = 0
  · have e : varsL zs t = varsU zs t 64 := if_pos hX
    rw [hX, e]
    exact (variables_good h t hX).mono fun _ _ ⟨v, h1, h2, h3⟩ => ⟨v, h1, ints_own h2, h3⟩
  · have e : varsL zs t = [] := if_neg hX
    rw [e]
    exact (variables_bad h t hX).mono fun _ _ ⟨h1, h2⟩ => ⟨_, h1, ints_nil _, h2⟩
theorem refVariables_tab {w : World} {A : Option Addr} {n c : Nat} {zs : List Plc} (h : Tab w A n c zs) (t : Int) :
    Calls Try.prog 17 #[.slice A n c, .int .i64 t] w fun e w' => ∃ v, e = .returned (.tuple #[v, .int .i64 (chkF zs 0 t t)]) ∧ Ints w' v (varsL zs t) ∧ Below w.heap.size w w' := by
  by_cases hX : chkF zs 0 t t = 0
  · have e : varsL zs t = varsU zs t 64 := if_pos hX
    rw [hX, e]
    exact (refVariables_good h t hX).mono fun _ _ ⟨v, h1, h2, h3⟩ => ⟨v, h1, ints_own h2, h3⟩
  · have e : varsL zs t = [] := if_neg hX
    rw [e]
    exact (refVariables_bad h t hX).mono fun _ _ ⟨h1, h2⟩ => ⟨_, h1, ints_nil _, h2⟩
set_option maxRecDepth 100000 in
set_option maxHeartbeats 1000000 in
theorem tables_walk {w : World} {A : Option Addr} {n c : Nat} {zs : List Plc} (h : Tab w A n c zs) {t : Int} (_ : (Lit.int .i64 t).wf = true) :
    Calls Try.prog 3 #[.slice A n c, .int .i64 t] w fun e w' => e = .returned (.bool true) ∧ Below w.heap.size w w' := by
  by_cases hn : 100 < n
  · clear h
    have HN := Lib.hid hn
    clear hn
    go_enter Try.func3, Try.ntmps3
    go_wp2_with (first | (go_at_call 14; ((with_reducible refine (long_yes _ _ _ _ HN.out).mono ?_); rintro e w' ⟨rfl, rfl⟩)) | (go_at_call 15; ((with_reducible refine (known_any _).mono ?_); rintro e w' ⟨rfl, hb⟩)))
    go_ret
    exact ⟨rfl, hb⟩
  · have HF := Lib.hid (fun w1 (hb : Below w.heap.size w w1) => variables_tab (h.below hb) t)
    have HR := Lib.hid (fun w1 (hb : Below w.heap.size w w1) => refVariables_tab (h.below hb) t)
    have HV := Lib.hid (fun w1 (hb : Below w.heap.size w w1) => validate_tab (h.below hb))
    have HW := Lib.hid (fun w1 (hb : Below w.heap.size w w1) => refValidate_tab (h.below hb))
    have HN := Lib.hid hn
    have HL := Lib.hid (varsL_len zs t)
    clear hn h
    generalize varsL zs t = l at HF HR HL
    generalize chkF zs 0 t t = X at HF HR
    generalize valF zs = Y at HV HW
    go_enter Try.func3, Try.ntmps3
    go_wp2_with (first | (go_at_call 14; ((with_reducible refine (long_no _ _ _ _ HN.out).mono ?_); rintro e w' ⟨rfl, rfl⟩)))
    refine (HF.out _ (Below.refl _ _)).mono ?_
    rintro e w1 ⟨v1, rfl, h1, hb1⟩
    have H1 := Lib.hid h1
    clear h1
    go_wp2_with fail
    refine (HR.out _ hb1).mono ?_
    rintro e w2 ⟨v2, rfl, h2, hb2⟩
    have H2 := Lib.hid (And.intro (H1.out.below hb2) h2)
    have hc2 := hb1.trans (hb2.mono hb1.size)
    clear h2 hb1 hb2 H1
    go_wp2_with fail
    refine (HV.out _ hc2).mono ?_
    rintro e w3 ⟨rfl, hb3⟩
    have H3 := Lib.hid (And.intro (H2.out.1.below hb3) (H2.out.2.below hb3))
    have hc3 := hc2.trans (hb3.mono hc2.size)
    clear hb3 H2 hc2
    go_wp2_with fail
    refine (HW.out _ hc3).mono ?_
    rintro e w4 ⟨rfl, hb4⟩
    have H4 := Lib.hid (And.intro (H3.out.1.below hb4) (H3.out.2.below hb4))
    have hc4 := hc3.trans (hb4.mono hc3.size)
    clear hb4 H3 hc3
    go_wp2_with fail
    refine (sameInts_yes H4.out.1 H4.out.2 HL.out).mono ?_
    rintro e w5 ⟨rfl, hb5⟩
    have hc5 := hc4.trans (hb5.mono hc4.size)
    clear hb5 H4 hc4
    go_wp2_with fail
    refine (calls_known hc5).mono ?_
    rintro e w' ⟨rfl, hb⟩
    go_wp2
    go_ret
    exact ⟨rfl, hb⟩
end Go.Proofs.Ytdpfglpefncigaa
