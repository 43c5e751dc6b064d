/-
  known of layer 7.
-/
import Derived.Test.YtbohigjfdnnomaaDoorTeR
namespace Go.Proofs.YtbohigjfdnnomaaDoor
open Go.RowKit

def T0 : List Nd := [⟨33, 8, 0, [], 0⟩, ⟨0, 8, 0, [], 1⟩, ⟨1, 8, 0, [0, 1], 0⟩]
def E0 : List Nat := [255, 0, 0, 0]
theorem known_err : errV T0 E0 = 0 := by decide
theorem known_ev : evF T0 E0 = 0 := by decide
theorem known_val : valF T0 = 0 := by decide
theorem known_dep : resD T0 = 2 := by decide
def T0c (A : Nat) : Array Value := #[.int .i64 33, .int .i64 8, .int .i64 0, .slice none 0 0, .int .u32 0, .int .i64 0, .int .i64 8, .int .i64 0, .slice none 0 0, .int .u32 1, .int .i64 1, .int .i64 8, .int .i64 0, .slice (some ⟨A, 0, none⟩) 2 2, .int .u32 0]
theorem term0 {W : World} {A B : Nat} {t t2 : TypeId} (hA : W.heap[A]? = some (.cells #[.int .i64 0, .int .i64 1] t (0, 0))) (hB : W.heap[B]? = some (.cells (T0c A) t2 (0, 0))) : Term W (some ⟨B, 0, none⟩) 3 3 T0 := by
  refine ⟨rfl, Nat.le_refl _, by omega, .inr ⟨B, 0, rfl, lt_of_block hB, fun j hj => ?_⟩⟩
  have hn : Ints W none 0 0 ([] : List Int) := ⟨rfl, Nat.le_refl _, by omega, .inl rfl⟩
  obtain rfl | rfl | rfl : j = 0 ∨ j = 1 ∨ j = 2 := by omega
  · exact ⟨none, 0, 0, ⟨by simp [World.cell?, hB]; rfl, by simp [World.cell?, hB]; rfl, by simp [World.cell?, hB]; rfl, by simp [World.cell?, hB]; rfl, by simp [World.cell?, hB]; rfl⟩, hn, by decide, by decide⟩
  · exact ⟨none, 0, 0, ⟨by simp [World.cell?, hB]; rfl, by simp [World.cell?, hB]; rfl, by simp [World.cell?, hB]; rfl, by simp [World.cell?, hB]; rfl, by simp [World.cell?, hB]; rfl⟩, hn, by decide, by decide⟩
  · refine ⟨some ⟨A, 0, none⟩, 2, 2, ⟨by simp [World.cell?, hB]; rfl, by simp [World.cell?, hB]; rfl, by simp [World.cell?, hB]; rfl, by simp [World.cell?, hB]; rfl, by simp [World.cell?, hB]; rfl⟩, ⟨rfl, Nat.le_refl _, by omega, .inr ⟨A, 0, rfl, lt_of_block hA, fun j hj => ?_⟩⟩, by decide, by decide⟩
    obtain rfl | rfl : j = 0 ∨ j = 1 := by omega
    · simp [World.cell?, hA]; rfl
    · simp [World.cell?, hA]; rfl
theorem env0 {W : World} {B : Nat} {t : TypeId} (hB : W.heap[B]? = some (.cells #[.int .u32 255, .int .u32 0, .int .u32 0, .int .u32 0] t (0, 0))) : Ws W (some ⟨B, 0, none⟩) 4 4 E0 := by
  refine ⟨rfl, Nat.le_refl _, by omega, .inr ⟨B, 0, rfl, lt_of_block hB, fun j hj => ?_⟩⟩
  obtain rfl | rfl | rfl | rfl : j = 0 ∨ j = 1 ∨ j = 2 ∨ j = 3 := by omega
  · simp [World.cell?, hB]; rfl
  · simp [World.cell?, hB]; rfl
  · simp [World.cell?, hB]; rfl
  · simp [World.cell?, hB]; rfl
theorem u0_bound : ∀ j, j < 4 → E0[j]! < 4294967296 := by decide
set_option maxRecDepth 100000 in
set_option maxHeartbeats 8000000 in
theorem known_any {w : World} (hM : Masks w) : Calls Tryd.prog 10 #[] w fun e w' => e = .returned (.bool true) ∧ Below w.heap.size w w' := by
  have HEV := Lib.hid (fun w1 A (hT : Term w1 A 3 3 T0) (hM : Masks w1) E (hE : Ws w1 E 4 4 E0) => eval_any hT hM hE u0_bound)
  have HDP := Lib.hid (fun w1 A (hT : Term w1 A 3 3 T0) => depth_any hT)
  rw [known_ev, known_err] at HEV
  rw [known_dep, known_val] at HDP
  have HM := Lib.hid hM
  clear hM
  go_enter Tryd.func10, Tryd.ntmps10
  go_upto_region 2 with fail
  have hb1 : Below w.heap.size w (w.alloc (.cells #[.int .i64 0, .int .i64 1] 3)) := (Below.refl _ _).alloc (Nat.le_refl _) _
  have hA := heap_alloc_new w (.cells #[.int .i64 0, .int .i64 1] 3)
  have hz : (w.alloc (.cells #[.int .i64 0, .int .i64 1] 3)).heap.size = w.heap.size + 1 := by simp
  generalize World.alloc w _ = W1 at hb1 hA hz ⊢
  have hb2 := hb1.alloc hb1.size (.cells (T0c w.heap.size) 47)
  have hB := heap_alloc_new W1 (.cells (T0c w.heap.size) 47)
  have hA2 := (heap_alloc_old W1 (.cells (T0c w.heap.size) 47) (lt_of_block hA)).trans hA
  rw [hz] at hB
  unfold T0c at hb2 hB hA2
  generalize World.alloc W1 _ = W2 at hb2 hB hA2 ⊢
  have hT2 := term0 hA2 hB
  clear hA hA2 hb1 hB hz
  generalize w.heap.size + 1 = B at hT2 ⊢
  have HT := Lib.hid hT2
  have HB2 := Lib.hid hb2
  clear hT2 hb2
  go_wp2_with fail
  have hE := env0 (heap_alloc_new W2 (.cells #[.int .u32 255, .int .u32 0, .int .u32 0, .int .u32 0] 34))
  have hb3 := HB2.out.alloc HB2.out.size (.cells #[.int .u32 255, .int .u32 0, .int .u32 0, .int .u32 0] 34)
  refine (HEV.out _ _ (HT.out.below ((Below.refl _ _).alloc (Nat.le_refl _) _)) (HM.out.below hb3 (Nat.le_refl _)) _ hE).mono ?_
  rintro e w4 ⟨rfl, hb4⟩
  have hb5 := hb3.trans (hb4.mono hb3.size)
  have hT4 := HT.out.below (((Below.refl W2.heap.size W2).alloc (Nat.le_refl _) (.cells #[.int .u32 255, .int .u32 0, .int .u32 0, .int .u32 0] 34)).trans (hb4.mono (by simp)))
  clear hE hb3 hb4
  go_wp2_with fail
  refine (HDP.out _ _ hT4).mono ?_
  rintro e w6 ⟨rfl, hb6⟩
  have hb7 := hb5.trans (hb6.mono hb5.size)
  go_wp2
  go_ret
  exact ⟨rfl, hb7⟩
section
variable {w : World} {A E : Option Addr} {n c m cE : Nat} {T : List Nd} {env : List Nat}
set_option maxRecDepth 100000 in
set_option maxHeartbeats 8000000 in
/-- The walk of TermValidates. -/
theorem validates_walk (h : Term w A n c T) (hM : Masks w) : Calls Tryd.prog 3 #[.slice A n c] w fun e w' => e = .returned (.bool true) ∧ Below w.heap.size w w' := by
  have HK := Lib.hid (fun w1 (hb : Below w.heap.size w w1) => known_any (hM.below hb (Nat.le_refl _)))
  have HL := Lib.hid (long_any h)
  cases hlg : longB T
  · have HW := Lib.hid (fun w1 (hb : Below w.heap.size w w1) => Widths_any (h.below hb))
    have HRW := Lib.hid (fun w1 (hb : Below w.heap.size w w1) => refWidths_any (h.below hb))
    have HD := Lib.hid (fun w1 (hb : Below w.heap.size w w1) => depth_any (h.below hb))
    have HRD := Lib.hid (fun w1 (hb : Below w.heap.size w w1) => refDepth_any (h.below hb))
    have HV := Lib.hid (fun w1 (hb : Below w.heap.size w w1) => validate_any (h.below hb))
    have HRV := Lib.hid (fun w1 (hb : Below w.heap.size w w1) => refValidate_any (h.below hb))
    rw [hlg] at HL
    generalize valF T = V at HW HRW HD HRD HV HRV
    generalize resW T = l at HW HRW
    generalize resD T = d at HD HRD
    clear h hM hlg
    have eV : (V == V) = true := beq_self_eq_true V
    have ed : (d == d) = true := beq_self_eq_true d
    go_enter Tryd.func3, Tryd.ntmps3
    go_wp2_with fail
    refine HL.out.mono ?_
    rintro e w1 ⟨rfl, hb1⟩
    go_wp2_with fail
    refine (HW.out _ hb1).mono ?_
    rintro e w2 ⟨⟨A1, n1, c1, rfl, hI1⟩, hb⟩
    have hb2 := hb1.trans (hb.mono hb1.size)
    clear hb
    go_wp2_with fail
    refine (HRW.out _ hb2).mono ?_
    rintro e w3 ⟨⟨A2, n2, c2, rfl, hI2⟩, hb⟩
    have hb3 := hb2.trans (hb.mono hb2.size)
    replace hI1 := hI1.below hb
    clear hb
    go_wp2_with fail
    refine (HD.out _ hb3).mono ?_
    rintro e w4 ⟨rfl, hb⟩
    have hb4 := hb3.trans (hb.mono hb3.size)
    replace hI1 := hI1.below hb
    replace hI2 := hI2.below hb
    clear hb
    go_wp2_with fail
    refine (HRD.out _ hb4).mono ?_
    rintro e w5 ⟨rfl, hb⟩
    have hb5 := hb4.trans (hb.mono hb4.size)
    replace hI1 := hI1.below hb
    replace hI2 := hI2.below hb
    clear hb
    go_wp2_with fail
    refine (HV.out _ hb5).mono ?_
    rintro e w6 ⟨rfl, hb⟩
    have hb6 := hb5.trans (hb.mono hb5.size)
    replace hI1 := hI1.below hb
    replace hI2 := hI2.below hb
    clear hb
    go_wp2_with fail
    refine (HRV.out _ hb6).mono ?_
    rintro e w7 ⟨rfl, hb⟩
    have hb7 := hb6.trans (hb.mono hb6.size)
    replace hI1 := hI1.below hb
    replace hI2 := hI2.below hb
    clear hb
    have HSI := Lib.hid (sameInts_any hI1 hI2)
    rw [decide_eq_true rfl] at HSI
    clear hI1 hI2
    go_wp2_with fail
    refine HSI.out.mono ?_
    rintro e w8 ⟨rfl, hb⟩
    have hb8 := hb7.trans (hb.mono hb7.size)
    clear hb
    go_wp2_with fail
    refine (HK.out _ hb8).mono ?_
    rintro e w9 ⟨rfl, hb⟩
    have hb9 := hb8.trans (hb.mono hb8.size)
    go_wp2
    go_ret
    exact ⟨rfl, hb9⟩
  · rw [hlg] at HL
    clear h hM hlg
    go_enter Tryd.func3, Tryd.ntmps3
    go_wp2_with fail
    refine HL.out.mono ?_
    rintro e w1 ⟨rfl, hb1⟩
    go_wp2_with fail
    refine (HK.out _ hb1).mono ?_
    rintro e w2 ⟨rfl, hb⟩
    have hb2 := hb1.trans (hb.mono hb1.size)
    go_wp2
    go_ret
    exact ⟨rfl, hb2⟩
set_option maxRecDepth 100000 in
set_option maxHeartbeats 8000000 in
/-- The walk of TermValues. -/
theorem values_walk (h : Term w A n c T) (hM : Masks w) (hE : Ws w E m cE env) (hu : ∀ j, j < m → env[j]! < 4294967296) : Calls Tryd.prog 4 #[.slice A n c, .slice E m cE] w fun e w' => e = .returned (.bool true) ∧ Below w.heap.size w w' := by
  have HK := Lib.hid (fun w1 (hb : Below w.heap.size w w1) => known_any (hM.below hb (Nat.le_refl _)))
  have HL := Lib.hid (long_any h)
  have hcap := hE.2.1
  have hmax := hE.2.2.1
  cases hlg : longB T
  · rw [hlg] at HL
    by_cases hm : 100 < m
    · clear h hM hE hu hlg
      go_enter Tryd.func4, Tryd.ntmps4
      go_wp2_with fail
      refine HL.out.mono ?_
      rintro e w1 ⟨rfl, hb1⟩
      go_wp2_with fail
      refine (HK.out _ hb1).mono ?_
      rintro e w2 ⟨rfl, hb⟩
      have hb2 := hb1.trans (hb.mono hb1.size)
      go_wp2
      go_ret
      exact ⟨rfl, hb2⟩
    · have HV := Lib.hid (fun w1 (hb : Below w.heap.size w w1) => values_any (h.below hb) (hM.below hb (Nat.le_refl _)) (hE.below hb) hu)
      have HRV := Lib.hid (fun w1 (hb : Below w.heap.size w w1) => refValues_any (h.below hb) (hE.below hb) hu)
      have HE := Lib.hid (fun w1 (hb : Below w.heap.size w w1) => eval_any (h.below hb) (hM.below hb (Nat.le_refl _)) (hE.below hb) hu)
      have HRE := Lib.hid (fun w1 (hb : Below w.heap.size w w1) => refEval_any (h.below hb) (hE.below hb) hu)
      generalize errV T env = V at HV HRV HE HRE
      generalize resV T env = l at HV HRV
      generalize evF T env = d at HE HRE
      clear h hM hE hu hlg
      have eV : (V == V) = true := beq_self_eq_true V
      go_enter Tryd.func4, Tryd.ntmps4
      go_wp2_with fail
      refine HL.out.mono ?_
      rintro e w1 ⟨rfl, hb1⟩
      go_wp2_with fail
      refine (HE.out _ hb1).mono ?_
      rintro e w2 ⟨rfl, hb⟩
      have hb2 := hb1.trans (hb.mono hb1.size)
      clear hb
      go_wp2_with fail
      refine (HRE.out _ hb2).mono ?_
      rintro e w3 ⟨rfl, hb⟩
      have hb3 := hb2.trans (hb.mono hb2.size)
      clear hb
      go_wp2_with fail
      refine (HV.out _ hb3).mono ?_
      rintro e w4 ⟨⟨A1, n1, c1, rfl, hI1⟩, hb⟩
      have hb4 := hb3.trans (hb.mono hb3.size)
      clear hb
      go_wp2_with fail
      refine (HRV.out _ hb4).mono ?_
      rintro e w5 ⟨⟨A2, n2, c2, rfl, hI2⟩, hb⟩
      have hb5 := hb4.trans (hb.mono hb4.size)
      replace hI1 := hI1.below hb
      clear hb
      have HSI := Lib.hid (sameWords_yes hI1 hI2)
      clear hI1 hI2
      go_wp2_with fail
      refine HSI.out.mono ?_
      rintro e w8 ⟨rfl, hb⟩
      have hb8 := hb5.trans (hb.mono hb5.size)
      clear hb
      go_wp2_with fail
      refine (HK.out _ hb8).mono ?_
      rintro e w9 ⟨rfl, hb⟩
      have hb9 := hb8.trans (hb.mono hb8.size)
      go_wp2
      go_ret
      exact ⟨rfl, hb9⟩
  · rw [hlg] at HL
    clear h hM hE hu hlg
    go_enter Tryd.func4, Tryd.ntmps4
    go_wp2_with fail
    refine HL.out.mono ?_
    rintro e w1 ⟨rfl, hb1⟩
    go_wp2_with fail
    refine (HK.out _ hb1).mono ?_
    rintro e w2 ⟨rfl, hb⟩
    have hb2 := hb1.trans (hb.mono hb1.size)
    go_wp2
    go_ret
    exact ⟨rfl, hb2⟩
end
end Go.Proofs.YtbohigjfdnnomaaDoor
