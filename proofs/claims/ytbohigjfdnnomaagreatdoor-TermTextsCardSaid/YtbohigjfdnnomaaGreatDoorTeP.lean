/-
  Values and Eval of the program.
-/
import Derived.Test.YtbohigjfdnnomaaGreatDoorTeN
namespace Go.Proofs.YtbohigjfdnnomaaGreatDoor
open Go.RowKit

/-- What Values says. -/
def errV (T : List Nd) (env : List Nat) : Int := if valF T = 0 then (if envB T env then 0 else 1) else valF T
/-- What Values answers. -/
def resV (T : List Nd) (env : List Nat) : List Nat := if errV T env = 0 then vals T env T.length else []
/-- What Eval answers. -/
def evF (T : List Nd) (env : List Nat) : Nat := if errV T env = 0 then val1 T T[T.length - 1]! (vals T env (T.length - 1)) env else 0
theorem errV_zero {T : List Nd} {env : List Nat} (h : errV T env = 0) : valF T = 0 ∧ envB T env = true := by
  unfold errV at h
  by_cases hv : valF T = 0
  · rw [if_pos hv] at h
    cases he : envB T env
    · rw [he] at h
      exact absurd h (by decide)
    · exact ⟨hv, rfl⟩
  · rw [if_neg hv] at h
    exact absurd h hv
theorem resV_len {T : List Nd} {env : List Nat} (h : errV T env = 0) : (resV T env).length = T.length := by unfold resV; rw [if_pos h, vals_len]
theorem resV_last {T : List Nd} {env : List Nat} (h : errV T env = 0) (h1 : 1 ≤ T.length) : (resV T env)[T.length - 1]! = evF T env := by
  unfold resV evF
  rw [if_pos h, if_pos h, vals_at T env (by omega)]
theorem ret_ui {a b : Nat} {c d : Int} (h1 : b = a) (h2 : d = c) : Ending.returned (.tuple #[.int .u32 (a : Int), .int .i64 c]) = .returned (.tuple #[.int .u32 (b : Int), .int .i64 d]) := by rw [h1, h2]
section
variable {w : World} {A E : Option Addr} {n c m cE : Nat} {T : List Nd} {env : List Nat} (h : Term w A n c T) (hM : Masks w) (hE : Ws w E m cE env) (hu : ∀ j, j < m → env[j]! < 4294967296)
include h hM hE hu
set_option maxRecDepth 100000 in
set_option maxHeartbeats 8000000 in
theorem values_any : Calls Tryz.prog 29 #[.slice A n c, .slice E m cE] w fun e w' => (∃ A' n' c', e = .returned (.tuple #[.slice A' n' c', .int .i64 (errV T env)]) ∧ Ws w' A' n' c' (resV T env)) ∧ Below w.heap.size w w' := by
  obtain ⟨i0, hi, hz0, hz1, hz2⟩ := info_parts infoW
  have HV := Lib.hid (validate_any h)
  by_cases hv : valF T = 0
  · have HEN := Lib.hid (fun w1 (hb : Below w.heap.size w w1) => isEnv_any (h.below hb) hv (hE.below hb) hu)
    rw [hv] at HV
    cases he : envB T env
    · have HE1 := Lib.hid (show errV T env = 1 by unfold errV; rw [if_pos hv, he]; rfl)
      have HR := Lib.hid (show resV T env = [] by unfold resV; rw [if_neg (by rw [HE1.out]; decide)])
      rw [he] at HEN
      generalize resV T env = rv at HR ⊢
      generalize errV T env = ev at HE1 ⊢
      clear h hM hE hu hv he
      go_enter Tryz.func29, Tryz.ntmps29
      go_wp2_with fail
      refine HV.out.mono ?_
      rintro e w1 ⟨rfl, hb⟩
      go_wp2_with fail
      refine (HEN.out _ hb).mono ?_
      rintro e w2 ⟨rfl, hb2⟩
      have hb3 := hb.trans (hb2.mono hb.size)
      go_wp2
      go_ret2
      exact ⟨⟨none, 0, 0, by exact ret_t HE1.out, ws_nil HR.out⟩, hb3⟩
    · have HE1 := Lib.hid (show errV T env = 0 by unfold errV; rw [if_pos hv, he]; rfl)
      have HR := Lib.hid (show resV T env = vals T env n by unfold resV; rw [if_pos HE1.out, h.1])
      rw [he] at HEN
      have HFX := Lib.hid (fun k (hk : k < n) => fit_valid (env := env) hv h.imm he (k := k) (by rw [← h.1]; exact hk))
      have hlen := (val_zero.1 hv).1
      rw [← h.1] at hlen
      generalize resV T env = rv at HR ⊢
      generalize errV T env = ev at HE1 ⊢
      have H := Lib.hid h
      have HM := Lib.hid hM
      have HEE := Lib.hid hE
      have hcap := h.2.1
      have hmax := h.2.2.1
      clear h hM hE hu hv he
      go_enter Tryz.func29, Tryz.ntmps29
      go_wp2_with fail
      refine HV.out.mono ?_
      rintro e w1 ⟨rfl, hb⟩
      go_wp2_with fail
      refine (HEN.out _ hb).mono ?_
      rintro e w2 ⟨rfl, hb2⟩
      have hb3 := hb.trans (hb2.mono hb.size)
      clear hb hb2 HV HEN
      go_upto_region 7 with (refine wpList_make_own _ rfl _ _ 31 rfl w.heap.size 36 i0 (.int .u32 0) 1 Tryz.underlying31 hi hz0 hz1 .i64 .i64 (n : Int) n rfl rfl rfl (by rw [hz2]; omega) (by unfold maxLen; omega) hb3.size ?_)
      intro w3 hown hgrow
      have hb4 : Below w.heap.size w w3 := hb3.grown hgrow hb3.size (fun g h => by cases h)
      clear hb3 hgrow
      go_wp2
      go_loopw [7, 25] (fun zl zi wr => ∃ i : Nat, i ≤ n ∧ zi = .int .i64 (i : Int) ∧ wr.ownsRow w.heap.size 36 1 zl i (uV (vals T env i)) ∧ Below w.heap.size w wr) (fun _ zi _ => n - (intOf zi).toNat)
      case atStart => exact ⟨0, by omega, rfl, hown, hb4⟩
      case round =>
        clear hown hb4
        obtain ⟨i, hi', rfl, hown, hb⟩ := hrel
        obtain ⟨L, cL, rfl, hL⟩ := own_words hown
        by_cases hlt : i < n
        · obtain ⟨b, off, A', n', c', rfl, hbs, ⟨a0, a1, a2, a3, a4⟩, hI, -⟩ := (H.out.below hb).at_ hlt
          have HVS := Lib.hid (show vals T env (i + 1) = vals T env i ++ [val1 T T[i]! (vals T env i) env] from rfl)
          have hb0 := hb.alloc hb.size (.cells #[.int .i64 (T[i]!).op, .int .i64 (T[i]!).width, .int .i64 (T[i]!).flags, .slice A' n' c', .int .u32 (T[i]!).imm] 38)
          have hbb : Below wr.heap.size wr (wr.alloc (.cells #[.int .i64 (T[i]!).op, .int .i64 (T[i]!).width, .int .i64 (T[i]!).flags, .slice A' n' c', .int .u32 (T[i]!).imm] 38)) := (Below.refl _ _).alloc (Nat.le_refl _) _
          have HX := Lib.hid (fun (w1 : World) (hT : Term w1 (some ⟨b, off, none⟩) n c T) (hM : Masks w1) (hI : Ints w1 A' n' c' T[i]!.args) (hL : Ws w1 L i cL (vals T env i)) (hE : Ws w1 E m cE env) => value_any hT hM hI hL hE (HFX.out i hlt))
          have hT0 := H.out.below hb0
          have hM0 := HM.out.below hb0 (Nat.le_refl _)
          have hI0 := hI.below hbb
          have hL0 := hL.below hbb
          have hE0 := HEE.out.below hb0
          have hown0 := own_below hown hbb
          generalize val1 T T[i]! (vals T env i) env = V at HVS HX
          generalize T[i]! = x at a0 a1 a2 a3 a4 hb0 hI0 hT0 hM0 hL0 hE0 hown0 HX
          obtain ⟨op, wid, fl, args, imm⟩ := x
          simp only at a0 a1 a2 a3 a4 hb0 hI0 hT0 hM0 hL0 hE0 hown0 HX
          clear hbb hI hL hown
          go_wp2_with fail
          refine (HX.out _ hT0 hM0 hI0 hL0 hE0).mono ?_
          rintro e w4 ⟨rfl, hb5⟩
          have hown4 := own_below hown0 hb5
          have hb6 := hb0.trans (hb5.mono hb0.size)
          clear hb hb0 hb5 hT0 hM0 hI0 hL0 hE0 hown0 HX a0 a1 a2 a3 a4
          go_wp2_with (at_builtin; refine wpList_append_own _ rfl _ _ 31 rfl w.heap.size 36 i0 (.int .u32 0) 1 4 Tryz.underlying31 hi hz0 hz1 hz2 rfl (by decide) _ _ _ rfl (hown4.alloc _) ⟨w4.heap.size, 0, none⟩ 1 1 [.int .u32 (V : Int)] rfl rfl (one_new w4 _ _) ?k2 ?k3 ?k4 ?k5 ?_)
          case k2 => simp [Value.oneCell']
          case k3 => unfold maxLen; omega
          case k4 => omega
          case k5 => have := hb6.size; simp; omega
          intro v2 w7 hown7 hgrow _
          have hb7 : Below w.heap.size w w7 := (hb6.alloc hb6.size _).grown hgrow (by have := hb6.size; simp; omega) (own_base (hown4.alloc (.cells #[.int .u32 (V : Int)] 36)))
          have HO8 := Lib.hid (show w7.ownsRow w.heap.size 36 1 v2 (i + 1) (uV (vals T env (i + 1))) by
            rw [HVS.out, uV_app]
            exact hown7)
          clear hown4 hown7 hgrow hb6
          go_wp2
          go_roundw
          case rel => exact ⟨i + 1, by omega, by go_num, HO8.out, hb7⟩
          case measure => simp [intOf]; omega
        · obtain rfl : i = n := by omega
          have HL := Lib.hid hL
          go_wp2
          go_ret2
          exact ⟨⟨L, i, cL, by exact ret_t HE1.out, by rw [HR.out]; exact HL.out⟩, hb⟩
  · have HE1 := Lib.hid (show errV T env = valF T by unfold errV; rw [if_neg hv])
    have HR := Lib.hid (show resV T env = [] by unfold resV; rw [if_neg (by rw [HE1.out]; exact hv)])
    generalize resV T env = rv at HR ⊢
    generalize errV T env = ev at HE1 ⊢
    generalize valF T = V at HV HE1 hv
    have e1 : (V != 0) = true := by simp [hv]
    clear h hM hE hu hv
    go_enter Tryz.func29, Tryz.ntmps29
    go_wp2_with fail
    refine HV.out.mono ?_
    rintro e w1 ⟨rfl, hb⟩
    go_wp2
    go_ret2
    exact ⟨⟨none, 0, 0, by exact ret_t HE1.out, ws_nil HR.out⟩, hb⟩
set_option maxRecDepth 100000 in
set_option maxHeartbeats 8000000 in
theorem eval_any : Calls Tryz.prog 14 #[.slice A n c, .slice E m cE] w fun e w' => e = .returned (.tuple #[.int .u32 (evF T env : Nat), .int .i64 (errV T env)]) ∧ Below w.heap.size w w' := by
  have HX := Lib.hid (values_any h hM hE hu)
  by_cases he : errV T env = 0
  · have hv := (val_zero.1 (errV_zero he).1).1
    have HL := Lib.hid (resV_len he)
    have HE := Lib.hid (resV_last he (by omega))
    have HZ := Lib.hid he
    generalize T.length = N at hv HL HE
    generalize resV T env = rv at HX HL HE
    generalize evF T env = ev at HE ⊢
    rw [he] at HX
    generalize errV T env = er at HZ ⊢
    clear h hM hE hu he
    go_enter Tryz.func14, Tryz.ntmps14
    go_wp2_with fail
    refine HX.out.mono ?_
    rintro e w1 ⟨⟨A', n', c', rfl, hL⟩, hb⟩
    obtain rfl : n' = N := by rw [hL.1, HL.out]
    obtain ⟨b, off, rfl, hbs, hc⟩ := hL.at_ (j := n' - 1) (by omega)
    rw [HE.out] at hc
    have hcap := hL.2.1
    have hmax := hL.2.2.1
    have hi1 : ((n' : Nat) : Int) - 1 = ((n' - 1 : Nat) : Int) := by omega
    clear hL HX
    go_wp2
    go_ret2
    exact ⟨by exact ret_ui rfl HZ.out, hb⟩
  · have HZ := Lib.hid (show evF T env = 0 by unfold evF; rw [if_neg he])
    have e1 : (errV T env != 0) = true := by simp [he]
    generalize errV T env = er at HX e1 ⊢
    generalize evF T env = ev at HZ ⊢
    clear h hM hE hu he
    go_enter Tryz.func14, Tryz.ntmps14
    go_wp2_with fail
    refine HX.out.mono ?_
    rintro e w1 ⟨⟨A', n', c', rfl, hL⟩, hb⟩
    clear hL HX
    go_wp2
    go_ret2
    exact ⟨by exact ret_ui HZ.out rfl, hb⟩
end
end Go.Proofs.YtbohigjfdnnomaaGreatDoor
