/-
  The walk of TermPuts.
-/
import Derived.Test.YtbohigjfdnnomaaDoorTeTp
import Derived.Test.YtbohigjfdnnomaaDoorTeTx
import Derived.Test.YtbohigjfdnnomaaDoorTeSk
namespace Go.Proofs.YtbohigjfdnnomaaDoor
open Go.RowKit

section
variable {w : World} {A A2 : Option Addr} {n c n2 c2 : Nat} {T U : List Nd}
set_option maxRecDepth 100000 in
set_option maxHeartbeats 8000000 in
/-- The walk of TermPuts. -/
theorem puts_walk (h : Term w A n c T) (h2 : Term w A2 n2 c2 U) (hM : Masks w) (v : Int) : Calls Tryd.prog 6 #[.slice A n c, .agg #[.int .i64 v, .slice A2 n2 c2]] w fun e w' => e = .returned (.bool true) ∧ Below w.heap.size w w' := by
  have HK := Lib.hid (fun w1 (hb : Below w.heap.size w w1) => known_any (hM.below hb (Nat.le_refl _)))
  have HL := Lib.hid (fun w1 (hb : Below w.heap.size w w1) => long_any (h.below hb))
  have HLU := Lib.hid (fun w1 (hb : Below w.heap.size w w1) => long_any (h2.below hb))
  have HP := Lib.hid (fun w1 (hb : Below w.heap.size w w1) => put_any (h.below hb) (h2.below hb) v)
  have HR := Lib.hid (fun w1 (hb : Below w.heap.size w w1) => refPut_any (h.below hb) (h2.below hb) v)
  clear h h2 hM
  cases hT : longB T
  · cases hU : longB U
    · rw [hT] at HL
      rw [hU] at HLU
      clear hT hU
      generalize (if putF T U v = 0 then putN T U v else []) = N at HP HR
      generalize putF T U v = E at HP HR
      have eE : (E == E) = true := beq_self_eq_true E
      go_enter Tryd.func6, Tryd.ntmps6
      go_upto_region 1 with fail
      have hx := heap_alloc_new w (.cells #[.int .i64 v, .slice A2 n2 c2] 50)
      have hb0 : Below w.heap.size w (w.alloc (.cells #[.int .i64 v, .slice A2 n2 c2] 50)) := (Below.refl _ _).alloc (Nat.le_refl _) _
      generalize World.alloc w _ = W1 at hx hb0 ⊢
      have HB0 := Lib.hid hb0
      obtain ⟨X, hXE⟩ : ∃ X, w.heap.size = X := ⟨_, rfl⟩
      rw [hXE] at hx ⊢
      have hxl := lt_of_block hx
      have HX := Lib.hid (show ∀ U, Below W1.heap.size W1 U → U.cell? ⟨X, 0, none⟩ = some (.int .i64 v) ∧ U.cell? ⟨X, 1, none⟩ = some (.slice A2 n2 c2) ∧ X < U.heap.size from fun U hU => by
        have h := (hU.block _ hxl).trans hx
        exact ⟨by simp [World.cell?, h], by simp [World.cell?, h], Nat.lt_of_lt_of_le hxl hU.size⟩)
      have HBR := Lib.hid (fun U (hU : Below W1.heap.size W1 U) => hb0.trans (hU.mono hb0.size))
      clear hx hb0 hXE hxl
      obtain ⟨x0, x1, xl⟩ := HX.out _ (Below.refl _ _)
      go_wp2_with fail
      refine (HL.out _ (HBR.out _ (Below.refl _ _))).mono ?_
      rintro e w1 ⟨rfl, hb⟩
      have b1 := hb
      clear hb x0 x1 xl
      obtain ⟨x0, x1, xl⟩ := HX.out _ b1
      go_wp2_with fail
      refine (HLU.out _ (HBR.out _ b1)).mono ?_
      rintro e w2 ⟨rfl, hb⟩
      have b2 := b1.trans (hb.mono b1.size)
      clear hb x0 x1 xl 
      obtain ⟨x0, x1, xl⟩ := HX.out _ b2
      go_wp2_with fail
      refine (HP.out _ (HBR.out _ b2)).mono ?_
      rintro e w3 ⟨na, ava, rfl, hOa, hb⟩
      have b3 := b2.trans (hb.mono b2.size)
      clear hb x0 x1 xl 
      obtain ⟨x0, x1, xl⟩ := HX.out _ b3
      have HOA := Lib.hid hOa
      obtain ⟨Aa, ca, rfl, -⟩ := own_term hOa
      clear hOa
      go_wp2_with fail
      refine (HR.out _ (HBR.out _ b3)).mono ?_
      rintro e w4 ⟨nb, avb, rfl, hOb, hb⟩
      have b4 := b3.trans (hb.mono b3.size)
      have HB34 := Lib.hid hb
      clear hb x0 x1 xl 
      obtain ⟨x0, x1, xl⟩ := HX.out _ b4
      obtain ⟨Aa2, ca2, hna, hTa⟩ := own_term HOA.out
      injection hna with q1 _ q3
      subst q1 q3
      obtain ⟨Ab, cb, rfl, hTb⟩ := own_term hOb
      have HSN := Lib.hid (sameNodes_any (hTa.below HB34.out) hTb)
      rw [decide_eq_true rfl] at HSN
      clear hOb hTa hTb
      go_wp2_with fail
      refine HSN.out.mono ?_
      rintro e w5 ⟨rfl, hb⟩
      have b5 := b4.trans (hb.mono b4.size)
      clear hb x0 x1 xl
      obtain ⟨x0, x1, xl⟩ := HX.out _ b5
      go_wp2_with fail
      refine (HK.out _ (HBR.out _ b5)).mono ?_
      rintro e w6 ⟨rfl, hb⟩
      have b6 := b5.trans (hb.mono b5.size)
      clear hb x0 x1 xl 
      obtain ⟨x0, x1, xl⟩ := HX.out _ b6
      go_wp2
      go_ret
      exact ⟨rfl, HBR.out _ b6⟩
    · rw [hT] at HL
      rw [hU] at HLU
      clear hT hU HP HR
      go_enter Tryd.func6, Tryd.ntmps6
      go_upto_region 1 with fail
      have hx := heap_alloc_new w (.cells #[.int .i64 v, .slice A2 n2 c2] 50)
      have hb0 : Below w.heap.size w (w.alloc (.cells #[.int .i64 v, .slice A2 n2 c2] 50)) := (Below.refl _ _).alloc (Nat.le_refl _) _
      generalize World.alloc w _ = W1 at hx hb0 ⊢
      have HB0 := Lib.hid hb0
      obtain ⟨X, hXE⟩ : ∃ X, w.heap.size = X := ⟨_, rfl⟩
      rw [hXE] at hx ⊢
      have hxl := lt_of_block hx
      have HX := Lib.hid (show ∀ U, Below W1.heap.size W1 U → U.cell? ⟨X, 0, none⟩ = some (.int .i64 v) ∧ U.cell? ⟨X, 1, none⟩ = some (.slice A2 n2 c2) ∧ X < U.heap.size from fun U hU => by
        have h := (hU.block _ hxl).trans hx
        exact ⟨by simp [World.cell?, h], by simp [World.cell?, h], Nat.lt_of_lt_of_le hxl hU.size⟩)
      have HBR := Lib.hid (fun U (hU : Below W1.heap.size W1 U) => hb0.trans (hU.mono hb0.size))
      clear hx hb0 hXE hxl
      obtain ⟨x0, x1, xl⟩ := HX.out _ (Below.refl _ _)
      go_wp2_with fail
      refine (HL.out _ (HBR.out _ (Below.refl _ _))).mono ?_
      rintro e w1 ⟨rfl, hb⟩
      have b1 := hb
      clear hb x0 x1 xl
      obtain ⟨x0, x1, xl⟩ := HX.out _ b1
      go_wp2_with fail
      refine (HLU.out _ (HBR.out _ b1)).mono ?_
      rintro e w2 ⟨rfl, hb⟩
      have b2 := b1.trans (hb.mono b1.size)
      clear hb x0 x1 xl 
      obtain ⟨x0, x1, xl⟩ := HX.out _ b2
      go_wp2_with fail
      refine (HK.out _ (HBR.out _ b2)).mono ?_
      rintro e w3 ⟨rfl, hb⟩
      have b3 := b2.trans (hb.mono b2.size)
      clear hb x0 x1 xl 
      obtain ⟨x0, x1, xl⟩ := HX.out _ b3
      go_wp2
      go_ret
      exact ⟨rfl, HBR.out _ b3⟩
  · rw [hT] at HL
    clear hT HP HR HLU
    go_enter Tryd.func6, Tryd.ntmps6
    go_upto_region 1 with fail
    have hx := heap_alloc_new w (.cells #[.int .i64 v, .slice A2 n2 c2] 50)
    have hb0 : Below w.heap.size w (w.alloc (.cells #[.int .i64 v, .slice A2 n2 c2] 50)) := (Below.refl _ _).alloc (Nat.le_refl _) _
    generalize World.alloc w _ = W1 at hx hb0 ⊢
    have HB0 := Lib.hid hb0
    obtain ⟨X, hXE⟩ : ∃ X, w.heap.size = X := ⟨_, rfl⟩
    rw [hXE] at hx ⊢
    have hxl := lt_of_block hx
    have HX := Lib.hid (show ∀ U, Below W1.heap.size W1 U → U.cell? ⟨X, 0, none⟩ = some (.int .i64 v) ∧ U.cell? ⟨X, 1, none⟩ = some (.slice A2 n2 c2) ∧ X < U.heap.size from fun U hU => by
      have h := (hU.block _ hxl).trans hx
      exact ⟨by simp [World.cell?, h], by simp [World.cell?, h], Nat.lt_of_lt_of_le hxl hU.size⟩)
    have HBR := Lib.hid (fun U (hU : Below W1.heap.size W1 U) => hb0.trans (hU.mono hb0.size))
    clear hx hb0 hXE hxl
    obtain ⟨x0, x1, xl⟩ := HX.out _ (Below.refl _ _)
    go_wp2_with fail
    refine (HL.out _ (HBR.out _ (Below.refl _ _))).mono ?_
    rintro e w1 ⟨rfl, hb⟩
    have b1 := hb
    clear hb x0 x1 xl
    obtain ⟨x0, x1, xl⟩ := HX.out _ b1
    go_wp2_with fail
    refine (HK.out _ (HBR.out _ b1)).mono ?_
    rintro e w2 ⟨rfl, hb⟩
    have b2 := b1.trans (hb.mono b1.size)
    clear hb x0 x1 xl 
    obtain ⟨x0, x1, xl⟩ := HX.out _ b2
    go_wp2
    go_ret
    exact ⟨rfl, HBR.out _ b2⟩
end
end Go.Proofs.YtbohigjfdnnomaaDoor
