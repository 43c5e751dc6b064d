/-
  The law of Find.
-/
import Derived.Test.YtdpfglpefncigaaTrQ
namespace Go.Proofs.Ytdpfglpefncigaa
open Go.RowKit

theorem long_yes (A : Option Addr) (n c : Nat) (w : World) (h : 100 < n) : Calls Try.prog 14 #[.slice A n c] w fun e w' => e = .returned (.bool true) ∧ w = w' := by
  go_enter Try.func14, Try.ntmps14
  go_wp2
  go_ret
  exact ⟨ret_b (decide_eq_true (by omega)), rfl⟩
theorem long_no (A : Option Addr) (n c : Nat) (w : World) (h : ¬ 100 < n) : Calls Try.prog 14 #[.slice A n c] w fun e w' => e = .returned (.bool false) ∧ w = w' := by
  go_enter Try.func14, Try.ntmps14
  go_wp2
  go_ret
  exact ⟨ret_b (decide_eq_false (by omega)), rfl⟩
theorem calls_known {w : World} {W0 : World} (hb : Below W0.heap.size W0 w) : Calls Try.prog 15 #[] w fun e w' => e = .returned (.bool true) ∧ Below W0.heap.size W0 w' :=
  (known_any w).mono fun _ _ h => ⟨h.1, keep_below h.2 hb⟩
set_option maxRecDepth 100000 in
set_option maxHeartbeats 1000000 in
theorem finds_walk {w : World} {A : Option Addr} {n c : Nat} {zs : List Plc} (h : Tab w A n c zs) (v t : Int) :
    Calls Try.prog 4 #[.slice A n c, .int .i64 v, .int .i64 t] w fun e w' => e = .returned (.bool true) ∧ Below w.heap.size w w' := by
  by_cases hn : 100 < n
  · clear h
    have HN := Lib.hid hn
    clear hn
    go_enter Try.func4, Try.ntmps4
    go_wp2_with (first | (go_at_call 14; ((with_reducible refine (long_yes _ _ _ _ HN.out).mono ?_); rintro e w' ⟨rfl, rfl⟩)) | (go_at_call 15; ((with_reducible refine (known_any _).mono ?_); rintro e w' ⟨rfl, hb⟩)))
    go_ret
    exact ⟨rfl, hb⟩
  · have HF := Lib.hid (fun w1 (hb : Below w.heap.size w w1) => Find_tab (h.below hb) v t)
    have HR := Lib.hid (fun w1 (hb : Below w.heap.size w w1) => RefFind_tab (h.below hb) v t)
    have HB := Lib.hid (fun hb => fB_yes (zs := zs) (v := v) (t := t) hb)
    have HN := Lib.hid hn
    clear hn h
    generalize fP zs v t = P at HF HR HB
    generalize fB zs v t = B at HF HR HB
    generalize chkF zs v t t = X at HF HR
    obtain ⟨pa, pz, pv, pk, pn⟩ := P
    cases B
    · clear HB
      go_enter Try.func4, Try.ntmps4
      go_wp2_with (first | (go_at_call 14; ((with_reducible refine (long_no _ _ _ _ HN.out).mono ?_); rintro e w' ⟨rfl, rfl⟩)))
      refine (HF.out _ (Below.refl _ _)).mono ?_
      rintro e w1 ⟨rfl, hb1⟩
      go_wp2_with fail
      have hx : Box (w1.alloc (.cells #[.int .i64 pa, .int .i64 pz, .int .i64 pv, .int .i64 pk, .int .i64 pn] 33)) w1.heap.size ⟨pa, pz, pv, pk, pn⟩ := box_new w1 ⟨pa, pz, pv, pk, pn⟩ _
      have hb2 : Below w.heap.size w (w1.alloc (.cells #[.int .i64 pa, .int .i64 pz, .int .i64 pv, .int .i64 pk, .int .i64 pn] 33)) := hb1.alloc hb1.size _
      generalize World.alloc w1 _ = W1 at hx hb2 ⊢
      have HX := Lib.hid hx
      clear hx hb1
      refine (HR.out _ hb2).mono ?_
      rintro e w2 ⟨rfl, hb3⟩
      have hb4 := hb2.trans (hb3.mono hb2.size)
      have hne : ¬ w1.heap.size = w2.heap.size := by have := (HX.out.below hb3).1; omega
      have hx := (HX.out.below hb3).below ((Below.refl _ _).alloc (Nat.le_refl _) (.cells #[.int .i64 pa, .int .i64 pz, .int .i64 pv, .int .i64 pk, .int .i64 pn] 33))
      have hb5 : Below w.heap.size w (w2.alloc (.cells #[.int .i64 pa, .int .i64 pz, .int .i64 pv, .int .i64 pk, .int .i64 pn] 33)) := hb4.alloc hb4.size _
      obtain ⟨-, ⟨x0, x1, x2, x3, x4⟩, -⟩ := hx
      simp only at x0 x1 x2 x3 x4
      clear hb2 hb3 hb4 HX
      go_wp2_with fail
      refine (calls_known hb5).mono ?_
      rintro e w' ⟨rfl, hb⟩
      go_wp2
      go_ret
      exact ⟨rfl, hb⟩
    · have hB := HB.out rfl
      obtain ⟨h1, h2, h3⟩ := hB
      simp only at h1 h2 h3
      have d1 : (pv == v) = true := by simp [h1]
      have d2 : decide (pa ≤ t) = true := decide_eq_true h2
      have d3 : decide (t < pz) = true := decide_eq_true h3
      clear HB h1 h2 h3
      go_enter Try.func4, Try.ntmps4
      go_wp2_with (first | (go_at_call 14; ((with_reducible refine (long_no _ _ _ _ HN.out).mono ?_); rintro e w' ⟨rfl, rfl⟩)))
      refine (HF.out _ (Below.refl _ _)).mono ?_
      rintro e w1 ⟨rfl, hb1⟩
      go_wp2_with fail
      have hx : Box (w1.alloc (.cells #[.int .i64 pa, .int .i64 pz, .int .i64 pv, .int .i64 pk, .int .i64 pn] 33)) w1.heap.size ⟨pa, pz, pv, pk, pn⟩ := box_new w1 ⟨pa, pz, pv, pk, pn⟩ _
      have hb2 : Below w.heap.size w (w1.alloc (.cells #[.int .i64 pa, .int .i64 pz, .int .i64 pv, .int .i64 pk, .int .i64 pn] 33)) := hb1.alloc hb1.size _
      generalize World.alloc w1 _ = W1 at hx hb2 ⊢
      have HX := Lib.hid hx
      clear hx hb1
      refine (HR.out _ hb2).mono ?_
      rintro e w2 ⟨rfl, hb3⟩
      have hb4 := hb2.trans (hb3.mono hb2.size)
      have hne : ¬ w1.heap.size = w2.heap.size := by have := (HX.out.below hb3).1; omega
      have hx := (HX.out.below hb3).below ((Below.refl _ _).alloc (Nat.le_refl _) (.cells #[.int .i64 pa, .int .i64 pz, .int .i64 pv, .int .i64 pk, .int .i64 pn] 33))
      have hb5 : Below w.heap.size w (w2.alloc (.cells #[.int .i64 pa, .int .i64 pz, .int .i64 pv, .int .i64 pk, .int .i64 pn] 33)) := hb4.alloc hb4.size _
      obtain ⟨-, ⟨x0, x1, x2, x3, x4⟩, -⟩ := hx
      simp only at x0 x1 x2 x3 x4
      clear hb2 hb3 hb4 HX
      go_wp2_with fail
      refine (calls_known hb5).mono ?_
      rintro e w' ⟨rfl, hb⟩
      go_wp2
      go_ret
      exact ⟨rfl, hb⟩
end Go.Proofs.Ytdpfglpefncigaa
