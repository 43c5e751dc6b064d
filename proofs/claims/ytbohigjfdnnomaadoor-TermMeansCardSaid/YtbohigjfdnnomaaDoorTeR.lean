/-
  Values and Eval of the reference.
-/
import Derived.Test.YtbohigjfdnnomaaDoorTeQ
namespace Go.Proofs.YtbohigjfdnnomaaDoor
open Go.RowKit

section
variable {w : World} {A E : Option Addr} {n c m cE : Nat} {T : List Nd} {env : List Nat} (h : Term w A n c T) (hE : Ws w E m cE env) (hu : ∀ j, j < m → env[j]! < 4294967296)
include h hE hu
set_option maxRecDepth 100000 in
set_option maxHeartbeats 8000000 in
theorem refValues_any : Calls Tryd.prog 21 #[.slice A n c, .slice E m cE] w fun e w' => (∃ A' n' c', e = .returned (.tuple #[.slice A' n' c', .int .i64 (errV T env)]) ∧ Ws w' A' n' c' (resV T env)) ∧ Below w.heap.size w w' := by
  have HV := Lib.hid (refValidate_any h)
  by_cases hv : valF T = 0
  · have HEN := Lib.hid (fun w1 (hb : Below w.heap.size w w1) => refIsEnv_any (h.below hb) hv (hE.below hb) hu)
    rw [hv] at HV
    cases he : envB T env
    · have HE1 := Lib.hid (show errV T env = 1 by unfold errV; rw [if_pos hv, he]; rfl)
      have HR := Lib.hid (show resV T env = [] by unfold resV; rw [if_neg (by rw [HE1.out]; decide)])
      rw [he] at HEN
      generalize resV T env = rv at HR ⊢
      generalize errV T env = ev at HE1 ⊢
      clear h hE hu hv he
      go_enter Tryd.func21, Tryd.ntmps21
      go_wp2_with fail
      refine HV.out.mono ?_
      rintro e w1 ⟨rfl, hb⟩
      go_wp2_with fail
      refine (HEN.out _ hb).mono ?_
      rintro e w2 ⟨rfl, hb2⟩
      have hb3 := hb.trans (hb2.mono hb.size)
      go_wp2
      go_ret2
      exact ⟨⟨none, 0, 0, by exact ret_t HE1.out, ws_nil HR.out⟩, hb3⟩
    · have HE1 := Lib.hid (show errV T env = 0 by unfold errV; rw [if_pos hv, he]; rfl)
      have HR := Lib.hid (show resV T env = vals T env n by unfold resV; rw [if_pos HE1.out, h.1])
      rw [he] at HEN
      have HBL := Lib.hid (fun w1 (hb : Below w.heap.size w w1) => below_any (h.below hb) (hE.below hb) (val_zero.1 hv).1.2 (fun k hk => fit_valid (env := env) hv h.imm he hk))
      generalize resV T env = rv at HR ⊢
      generalize errV T env = ev at HE1 ⊢
      clear h hE hu hv he
      go_enter Tryd.func21, Tryd.ntmps21
      go_wp2_with fail
      refine HV.out.mono ?_
      rintro e w1 ⟨rfl, hb⟩
      go_wp2_with fail
      refine (HEN.out _ hb).mono ?_
      rintro e w2 ⟨rfl, hb2⟩
      have hb3 := hb.trans (hb2.mono hb.size)
      go_wp2_with fail
      refine (HBL.out _ hb3).mono ?_
      rintro e w3 ⟨⟨A', c', rfl, hL⟩, hb4⟩
      have hb5 := hb3.trans (hb4.mono hb3.size)
      have HL := Lib.hid hL
      clear hL
      go_wp2
      go_ret2
      exact ⟨⟨A', n, c', by exact ret_t HE1.out, by rw [HR.out]; exact HL.out⟩, hb5⟩
  · have HE1 := Lib.hid (show errV T env = valF T by unfold errV; rw [if_neg hv])
    have HR := Lib.hid (show resV T env = [] by unfold resV; rw [if_neg (by rw [HE1.out]; exact hv)])
    generalize resV T env = rv at HR ⊢
    generalize errV T env = ev at HE1 ⊢
    generalize valF T = V at HV HE1 hv
    have e1 : (V != 0) = true := by simp [hv]
    clear h hE hu hv
    go_enter Tryd.func21, Tryd.ntmps21
    go_wp2_with fail
    refine HV.out.mono ?_
    rintro e w1 ⟨rfl, hb⟩
    go_wp2
    go_ret2
    exact ⟨⟨none, 0, 0, by exact ret_t HE1.out, ws_nil HR.out⟩, hb⟩
set_option maxRecDepth 100000 in
set_option maxHeartbeats 8000000 in
theorem refEval_any : Calls Tryd.prog 19 #[.slice A n c, .slice E m cE] w fun e w' => e = .returned (.tuple #[.int .u32 (evF T env : Nat), .int .i64 (errV T env)]) ∧ Below w.heap.size w w' := by
  have HX := Lib.hid (refValues_any h hE hu)
  by_cases he : errV T env = 0
  · have hv := (val_zero.1 (errV_zero he).1).1
    have HL := Lib.hid (resV_len he)
    have HE := Lib.hid (resV_last he (by omega))
    have HZ := Lib.hid he
    generalize T.length = N at hv HL HE
    generalize resV T env = rv at HX HL HE
    generalize evF T env = ev at HE ⊢
    rw [he] at HX
    generalize errV T env = er at HZ ⊢
    clear h hE hu he
    go_enter Tryd.func19, Tryd.ntmps19
    go_wp2_with fail
    refine HX.out.mono ?_
    rintro e w1 ⟨⟨A', n', c', rfl, hL⟩, hb⟩
    obtain rfl : n' = N := by rw [hL.1, HL.out]
    obtain ⟨b, off, rfl, hbs, hc⟩ := hL.at_ (j := n' - 1) (by omega)
    rw [HE.out] at hc
    have hcap := hL.2.1
    have hmax := hL.2.2.1
    have hi1 : ((n' : Nat) : Int) - 1 = ((n' - 1 : Nat) : Int) := by omega
    clear hL HX
    go_wp2
    go_ret2
    exact ⟨by exact ret_ui rfl HZ.out, hb⟩
  · have HZ := Lib.hid (show evF T env = 0 by unfold evF; rw [if_neg he])
    have e1 : (errV T env != 0) = true := by simp [he]
    generalize errV T env = er at HX e1 ⊢
    generalize evF T env = ev at HZ ⊢
    clear h hE hu he
    go_enter Tryd.func19, Tryd.ntmps19
    go_wp2_with fail
    refine HX.out.mono ?_
    rintro e w1 ⟨⟨A', n', c', rfl, hL⟩, hb⟩
    clear hL HX
    go_wp2
    go_ret2
    exact ⟨by exact ret_ui HZ.out rfl, hb⟩
end
end Go.Proofs.YtbohigjfdnnomaaDoor
