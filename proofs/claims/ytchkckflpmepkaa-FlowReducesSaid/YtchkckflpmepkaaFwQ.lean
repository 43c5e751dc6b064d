/-
  Order of the reference.
-/
import Derived.Test.YtchkckflpmepkaaFwP
namespace Go.Proofs.Ytchkckflpmepkaa
open Go.RowKit

section
variable {w : World} {A : Option Addr} {n c : Nat} {g : List (List Int)}
set_option maxRecDepth 100000 in
set_option maxHeartbeats 8000000 in
theorem refOrder_any (h : RG w A n c g) : Calls Try.prog 21 #[.slice A n c] w fun e w' => ∃ v, e = .returned (.tuple #[v, .int .i64 (valF g)]) ∧ NatsV w' v (resO g) ∧ Below w.heap.size w w' := by
  have HV := Lib.hid (fun w1 (hb : Below w.heap.size w w1) => refValidate_any (h.below hb))
  by_cases hv : valF g = 0
  · obtain ⟨i0, hi, hz0, hz1, hz2⟩ := info_parts infoI
    obtain ⟨i1, ki, kz0, kz1, kz2⟩ := info_parts infoB
    have hG := okG_val hv
    have hM := MG_of h hv
    have n1 : 0 < n := by rw [h.1]; have := hG.1; rw [natG_len] at this; exact this
    have n10 : n ≤ 10 := by rw [h.1]; have := hG.2.1; rw [natG_len] at this; exact this
    have hfree : free non n ≤ 10 := by rw [free_non]; exact n10
    have HC := Lib.hid (fun (B : Nat) (hB : w.heap.size ≤ B) vl w1 hb hBB hown => refVisit_any hG hM hB 11 0 (non, []) vl w1 n1 rfl (show free non n ≤ 11 by omega) (by simpa using hfree) hb hBB hown)
    obtain ⟨hl10, hOL⟩ := ord_all (natG g) hG
    have HR := Lib.hid (show resO g = (ordF (natG g) 11 0 (non, [])).2.reverse by
      unfold resO
      rw [if_pos hv, hOL])
    rw [hv] at HV ⊢
    generalize ordF (natG g) 11 0 (non, []) = R at HC HR hl10
    generalize resO g = Z at HR ⊢
    clear h hv hG hM hOL
    go_enter Try.func21, Try.ntmps21
    go_wp2_with fail
    refine (HV.out _ (Below.refl w.heap.size w)).mono ?_
    rintro e w' ⟨rfl, rfl⟩
    go_wp2_with (refine wpList_make_row _ rfl _ _ 56 rfl 4 i1 (.bool false) Try.underlying56 ki kz0 kz1 rfl .i64 .i64 n rfl rfl (by rw [kz2]; omega) (by omega) ?_)
    have hb0 : Below w.heap.size w (w.alloc (.cells (madeCells #[.bool false] n) 4)) := (Below.refl _ _).alloc (Nat.le_refl _) _
    have hB := BoolB.made w n
    generalize World.alloc w _ = W0 at hb0 hB ⊢
    refine (HC.out w.heap.size (Nat.le_refl _) (.slice none 0 0) W0 hb0 hB (World.ownsRow_nil _ _ _ _)).mono ?_
    rintro e w2 ⟨vl, rfl, hown, -, hb⟩
    obtain ⟨AL, cL, rfl, hNL⟩ := own_nats hown
    have HNL := Lib.hid hNL
    clear hown hNL hB hb0
    go_wp2
    have hb3 := Below.refl w2.heap.size w2
    have hown3 := World.ownsRow_nil w2 w2.heap.size 3 1
    go_loopw [6, 7] (fun zl zi wr => ∃ (j : Nat) (z : Int), j ≤ R.2.length ∧ zi = .int .i64 z ∧ z = (j : Int) - 1 ∧ wr.ownsRow w2.heap.size 3 1 zl (R.2.drop j).reverse.length (nV (R.2.drop j).reverse) ∧ Below w2.heap.size w2 wr) (fun _ zi _ => (intOf zi + 1).toNat)
    case atStart => exact ⟨R.2.length, _, Nat.le_refl _, rfl, by omega, by simpa using hown3, hb3⟩
    case round =>
      clear hown3 hb3
      obtain ⟨j, z, hj, rfl, hz, hown, hb3⟩ := hrel
      cases j with
      | zero =>
        have hz2 : z < 0 := by omega
        have d0 : decide (0 ≤ z) = false := decide_eq_false (by omega)
        clear hz
        rw [List.drop_zero, ← HR.out] at hown
        have hN := NatsV.own hown
        have hb4 := hb.trans (hb3.mono hb.size)
        clear hown
        go_wp2
        exact bodyPost_ret (results_tmp2 rfl _ _ _) rfl ⟨_, rfl, hN, hb4⟩
      | succ k =>
        obtain rfl : z = (k : Int) := by omega
        have HS := Lib.hid (revd R.2 hj)
        have hcL := HNL.out.2.1
        have hmL := HNL.out.2.2.1
        obtain ⟨b, off, rfl, hbs, hc⟩ := HNL.out.get hb3 (show k < R.2.length by omega)
        have hdl : (R.2.drop (k + 1)).reverse.length ≤ 10 := by simp; omega
        generalize (R.2.drop (k + 1)).reverse = D at hown HS hdl
        generalize R.2[k]! = u at hc HS
        clear hz
        go_wp2_with (at_builtin; refine wpList_append_own _ rfl _ _ 25 rfl w2.heap.size 3 i0 (.int .i64 0) 1 8 Try.underlying25 hi hz0 hz1 hz2 rfl (by decide) _ _ _ rfl (hown.alloc _) ⟨wr.heap.size, 0, none⟩ 1 1 [.int .i64 (u : Int)] rfl rfl (one_new wr _ _) ?k2 ?k3 ?k4 ?k5 ?_)
        case k2 => simp [Value.oneCell']
        case k3 => unfold maxLen; omega
        case k4 => omega
        case k5 => have := hb3.size; simp; omega
        intro v2 w7 hown7 hgrow _
        have hb5 : Below w2.heap.size w2 w7 := (hb3.alloc hb3.size _).grown hgrow (by have := hb3.size; simp; omega) (own_base (hown.alloc (.cells #[.int .i64 (u : Int)] 3)))
        have HO8 := Lib.hid (show w7.ownsRow w2.heap.size 3 1 v2 (R.2.drop k).reverse.length (nV (R.2.drop k).reverse) by
          rw [HS.out, List.length_append, nV_app]
          exact hown7)
        clear hown hown7 hgrow hb3 hdl hc hbs
        go_wp2
        go_roundw
        case rel => exact ⟨k, _, by omega, rfl, by omega, HO8.out, hb5⟩
        case measure => simp [intOf]
  · have hr : resO g = [] := if_neg hv
    rw [hr]
    generalize valF g = X at HV hv ⊢
    have dX : (X != 0) = true := by simp [hv]
    clear h hv hr
    go_enter Try.func21, Try.ntmps21
    go_wp2_with fail
    refine (HV.out _ (Below.refl _ _)).mono ?_
    rintro e w1 ⟨rfl, rfl⟩
    go_wp2
    exact bodyPost_ret (results_tmp2 rfl _ _ _) rfl ⟨_, rfl, NatsV.nil _, Below.refl _ _⟩
end
end Go.Proofs.Ytchkckflpmepkaa
