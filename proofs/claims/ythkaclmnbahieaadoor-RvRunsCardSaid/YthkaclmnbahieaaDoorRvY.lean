/-
  The walks of RvBytes and RvLists.
-/
import Derived.Test.YthkaclmnbahieaaDoorRvX
namespace Go.Proofs.YthkaclmnbahieaaDoor
open Go.RowKit

set_option maxRecDepth 100000 in
set_option maxHeartbeats 8000000 in
theorem bytes_long {A : Option Addr} {n c : Nat} {w : World} (hL : Laid w) (hn : ¬ n ≤ 300) : Calls Tryd.prog 5 #[.slice A n c] w fun e w' => e = .returned (.bool true) ∧ Below w.heap.size w w' := by
  have HK := Lib.hid (fun w1 h1 => known_any w1 h1)
  have hn1 : (300 : Int) < (n : Int) := by omega
  clear hn
  go_enter Tryd.func5, Tryd.ntmps5
  go_wp2_with fail
  refine (HK.out _ hL).mono ?_
  rintro e w2 ⟨rfl, hb⟩
  go_wp2
  go_ret
  exact ⟨rfl, hb⟩
set_option maxRecDepth 100000 in
set_option maxHeartbeats 8000000 in
theorem bytes_at {A : Option Addr} {n c : Nat} {l : List Rv} {w : World} (hL : Laid w) (hT : TabI w A n c l) (hn : n ≤ 300) (E : Int) (L : List Int) (hLb : isBy L) (hLl : L.length ≤ 2000)
    (hE : E = 1 ∨ E = 0 ∧ listR L.length L 0 = l ∧ L.length = 4 * n)
    (HP : Calls Tryd.prog 19 #[.slice A n c] w fun e w' => ∃ V, e = .returned (.tuple #[V, .int .i64 E]) ∧ w'.ownsRow w.heap.size 5 1 V L.length (byV L) ∧ Below w.heap.size w w')
    (HR : ∀ w1, TabI w1 A n c l → Calls Tryd.prog 20 #[.slice A n c] w1 fun e w' => ∃ V, e = .returned (.tuple #[V, .int .i64 E]) ∧ w'.ownsRow w1.heap.size 5 1 V L.length (byV L) ∧ Below w1.heap.size w1 w') :
    Calls Tryd.prog 5 #[.slice A n c] w fun e w' => e = .returned (.bool true) ∧ Below w.heap.size w w' := by
  have HK := Lib.hid (fun w1 h1 => known_any w1 h1)
  have HT := Lib.hid hT
  have HE := Lib.hid hE
  have HRR := Lib.hid HR
  have hcap := hT.2.1
  have hmax := hT.2.2.1
  have hn1 : ¬ (300 : Int) < (n : Int) := by omega
  clear hT hE HR
  go_enter Tryd.func5, Tryd.ntmps5
  go_wp2_with fail
  refine HP.mono ?_
  rintro e w2 ⟨V, rfl, ho, hb⟩
  obtain ⟨A1, c1, rfl, hB1⟩ := byt_own ho hLb
  replace hL := hL.below hb
  clear ho HP
  go_wp2_with fail
  refine (HRR.out _ (HT.out.below hb)).mono ?_
  rintro e w3 ⟨V, rfl, ho, hb3⟩
  obtain ⟨A2, c2, rfl, hB2⟩ := byt_own ho hLb
  replace hB1 := hB1.below hb3
  replace hL := hL.below hb3
  replace hb := hb.trans (hb3.mono hb.size)
  clear ho hb3 HRR
  have hc1 := str_conv hB1
  have hc2 := str_conv hB2
  have HLI := Lib.hid (List_any hL hB1 (by omega))
  have HB := Lib.hid hb
  have HLD := Lib.hid hL
  clear hB1 hB2 hb hL
  generalize hLR : listR L.length L 0 = LR at HLI HE
  clear hLR
  generalize hm : L.length = m at *
  generalize strI L = S at hc1 hc2
  clear hLb
  go_wp2_with fail
  refine HLI.out.mono ?_
  rintro e w4 ⟨V, rfl, ho, hb4⟩
  obtain ⟨A3, c3, rfl, hT3⟩ := tabI_own ho
  replace HB := Lib.hid (HB.out.trans (hb4.mono HB.out.size))
  replace HLD := Lib.hid (HLD.out.below hb4)
  clear hc1 hc2 ho hb4 HLI hm
  rcases HE.out with rfl | ⟨rfl, rfl, rfl⟩
  · clear HE hT3
    go_wp2_with fail
    refine (HK.out _ HLD.out).mono ?_
    rintro e w5 ⟨rfl, hb5⟩
    go_wp2
    go_ret
    exact ⟨rfl, HB.out.trans (hb5.mono HB.out.size)⟩
  · have hS := Lib.hid (same_yes (HT.out.below HB.out) hT3)
    have hlen := Lib.hid (HT.out.1)
    have e4 : (4 : Int) * (LR.length : Int) = ((4 * n : Nat) : Int) := by have := hlen.out; omega
    rw [e4]
    clear HE hT3 e4
    go_wp2_with fail
    refine hS.out.mono ?_
    rintro e w5 ⟨rfl, hb5⟩
    replace HB := Lib.hid (HB.out.trans (hb5.mono HB.out.size))
    replace HLD := Lib.hid (HLD.out.below hb5)
    clear hS hb5
    go_wp2_with fail
    refine (HK.out _ HLD.out).mono ?_
    rintro e w6 ⟨rfl, hb6⟩
    go_wp2
    go_ret
    exact ⟨rfl, HB.out.trans (hb6.mono HB.out.size)⟩
theorem bytes_walk {A : Option Addr} {n c : Nat} {l : List Rv} {w : World} (hT : TabI w A n c l) (hL : Laid w) : Calls Tryd.prog 5 #[.slice A n c] w fun e w' => e = .returned (.bool true) ∧ Below w.heap.size w w' := by
  by_cases hn : n ≤ 300
  · have hlen := hT.1
    cases e : allV l
    · refine bytes_at hL hT hn 1 [] (fun x hx => absurd hx (by simp)) (by simp) (.inl rfl) ?_ (fun w1 h1 => ?_)
      · exact Bytes_any hL hT (by omega) 1 0 [] (fun h => by rw [e] at h; cases h) (fun _ => ⟨rfl, rfl, rfl⟩)
      · exact RBytes_any h1 (by omega) 1 0 [] (fun h => by rw [e] at h; cases h) (fun _ => ⟨rfl, rfl, rfl⟩)
    · have hl := bytesL_len l
      refine bytes_at hL hT hn 0 (bytesL l) (bytesL_by l) (by omega) (.inr ⟨rfl, ?_, by omega⟩) ?_ (fun w1 h1 => ?_)
      · exact listR_enc l (bytesL l).length [] e (by omega)
      · exact Bytes_any hL hT (by omega) 0 _ _ (fun _ => ⟨rfl, by omega, rfl⟩) (fun h => by rw [e] at h; cases h)
      · exact RBytes_any h1 (by omega) 0 _ _ (fun _ => ⟨rfl, by omega, rfl⟩) (fun h => by rw [e] at h; cases h)
  · exact bytes_long hL hn
set_option maxRecDepth 100000 in
set_option maxHeartbeats 8000000 in
theorem lists_long {A : Option Addr} {n c : Nat} {w : World} (hL : Laid w) (hn : ¬ n ≤ 2000) : Calls Tryd.prog 6 #[.slice A n c] w fun e w' => e = .returned (.bool true) ∧ Below w.heap.size w w' := by
  have HK := Lib.hid (fun w1 h1 => known_any w1 h1)
  have hn1 : (2000 : Int) < (n : Int) := by omega
  clear hn
  go_enter Tryd.func6, Tryd.ntmps6
  go_wp2_with fail
  refine (HK.out _ hL).mono ?_
  rintro e w2 ⟨rfl, hb⟩
  go_wp2
  go_ret
  exact ⟨rfl, hb⟩
theorem slice_top (w : World) (A : Option Addr) (n c k : Nat) (hk : k ≤ n) (hn : n ≤ c) : (Instr.slice 35 (.slice A n c) none (some (.int .i64 (k : Int))) none).run Tryd.prog w = .ok (.slice A k c) w := by
  rw [run_slice_h w 35 A n c (by rw [Tryd.underlying35]; kernel_rfl) .i64 (k : Int) (by omega) (by omega)]
  have hs : (sizeOf (Tryd.prog.elem 35)).run Tryd.prog w = .ok 1 w := by
    rw [show Tryd.prog.elem 35 = 5 by kernel_rfl]
    obtain ⟨i0, hi, -⟩ := info_parts infoBy
    rw [run_sizeOf _ hi, cellsU8]
  simp [sliced, Result.andThen, hs, Addr.add]
set_option maxRecDepth 100000 in
set_option maxHeartbeats 8000000 in
theorem lists_at {A : Option Addr} {n c : Nat} {l : List Int} {w : World} (hL : Laid w) (hB : Byt w A n c l) (hn : n ≤ 2000) :
    Calls Tryd.prog 6 #[.slice A n c] w fun e w' => e = .returned (.bool true) ∧ Below w.heap.size w w' := by
  have HK := Lib.hid (fun w1 h1 => known_any w1 h1)
  have HBB := Lib.hid hB
  have HP := List_any hL hB (by omega)
  have HR := Lib.hid (fun (w1 : World) (h1 : Byt w1 A n c l) => RList_any h1 (by omega))
  have hby := hB.isBy
  have hnl := hB.1
  have hcap := hB.2.1
  have hmax := hB.2.2.1
  have hav := listR_valid hby n 0
  obtain ⟨hlb, hll⟩ := listR_bytes hby n 0
  have hll := hll (by omega)
  rw [List.drop_zero] at hlb
  have hn1 : ¬ (2000 : Int) < (n : Int) := by omega
  generalize hLR : listR n l 0 = LR at *
  clear hLR hB hby
  have HAV := Lib.hid hav
  have HLB := Lib.hid hlb
  have hll2 : 4 * LR.length ≤ n := by omega
  have HLL := Lib.hid hll2
  clear hll2
  have HNL := Lib.hid hnl
  clear hav hlb hll hnl
  go_enter Tryd.func6, Tryd.ntmps6
  go_wp2_with fail
  refine HP.mono ?_
  rintro e w2 ⟨V, rfl, ho, hb⟩
  obtain ⟨A1, c1, rfl, hT1⟩ := tabI_own ho
  replace hL := hL.below hb
  clear ho HP
  go_wp2_with fail
  refine (HR.out _ (HBB.out.below hb)).mono ?_
  rintro e w3 ⟨V, rfl, ho, hb3⟩
  obtain ⟨A2, c2, rfl, hT2⟩ := tabI_own ho
  replace hT1 := hT1.below hb3
  replace hL := hL.below hb3
  replace hb := hb.trans (hb3.mono hb.size)
  clear ho hb3 HR
  have hS := Lib.hid (same_yes hT1 hT2)
  clear hT2
  have HT1 := Lib.hid hT1
  have HLD := Lib.hid hL
  have HB := Lib.hid hb
  clear hT1 hL hb
  go_wp2_with fail
  refine hS.out.mono ?_
  rintro e w4 ⟨rfl, hb4⟩
  replace HB := Lib.hid (HB.out.trans (hb4.mono HB.out.size))
  replace HLD := Lib.hid (HLD.out.below hb4)
  replace HT1 := Lib.hid (HT1.out.below hb4)
  clear hS hb4
  have HY := Lib.hid (Bytes_any HLD.out HT1.out (by have := HLL.out; omega) 0 (bytesL LR).length (byV (bytesL LR)) (fun _ => ⟨rfl, bytesL_len LR, rfl⟩) (fun h => by rw [HAV.out] at h; cases h))
  go_wp2_with fail
  refine HY.out.mono ?_
  rintro e w5 ⟨V, rfl, ho, hb5⟩
  obtain ⟨A3, c3, rfl, hB3⟩ := byt_own ho (bytesL_by LR)
  replace HB := Lib.hid (HB.out.trans (hb5.mono HB.out.size))
  replace HLD := Lib.hid (HLD.out.below hb5)
  clear ho hb5 HY HT1 HAV
  have hBl := HBB.out.below HB.out
  have hll := HLL.out
  have hBt := Byt.take hBl (k := 4 * LR.length) (by omega)
  rw [← HLB.out] at hBt
  have q1 : ∀ (dr : Nat) (os : Array Obj), (convert 35 9 (.slice A3 (bytesL LR).length c3)).run Tryd.prog (Sort.grow (redrawn w5 dr) os) = .ok (.string (strI (bytesL LR))) (Sort.grow (redrawn w5 dr) os) := fun dr os => str_conv (hB3.below (below_regrown w5 dr os))
  have q2 : ∀ (dr : Nat) (os : Array Obj), (convert 35 9 (.slice A (4 * LR.length) c)).run Tryd.prog (Sort.grow (redrawn w5 dr) os) = .ok (.string (strI (bytesL LR))) (Sort.grow (redrawn w5 dr) os) := fun dr os => str_conv (hBt.below (below_regrown w5 dr os))
  have q3 : ∀ (dr : Nat) (os : Array Obj), (Instr.slice 35 (.slice A n c) none (some (.int .i64 (4 * (LR.length : Int)))) none).run Tryd.prog (Sort.grow (redrawn w5 dr) os) = .ok (.slice A (4 * LR.length) c) (Sort.grow (redrawn w5 dr) os) := fun dr os => by
    rw [show (4 * (LR.length : Int)) = ((4 * LR.length : Nat) : Int) by omega]
    exact slice_top _ A n c _ (by omega) hcap
  have q4 : ∀ (dr : Nat) (os : Array Obj), Calls Tryd.prog 17 #[] (Sort.grow (redrawn w5 dr) os) fun e w'' => e = .returned (.bool true) ∧ ∃ p : Regrown, w'' = Sort.grow (redrawn w5 p.d) p.os := fun dr os => Calls.regrown_of (HK.out _ (HLD.out.below (below_regrown w5 dr os)))
  have Q4 := Lib.hid q4
  clear q4 hBl hBt hB3
  have hll2 : (4 * (LR.length : Int)) ≤ (n : Int) := by omega
  clear hll
  generalize hS : strI (bytesL LR) = S at q1 q2
  clear hS
  generalize (bytesL LR).length = m at *
  go_upto_region 8 with fail
  refine wp_region_quiet_below (by kernel_rfl) (by kernel_rfl) ?_
  iterate 15 (go_big_quiet_step ((go_at_call 17; with_reducible exact Q4.out _ _)))
  refine wpQuiet_nil ?_
  intro _ hw'
  obtain ⟨⟨dq, osq⟩, hw''⟩ := hw'
  subst hw''
  have hbq := below_regrown w5 dq osq
  replace HB := Lib.hid (HB.out.trans (hbq.mono HB.out.size))
  clear q1 q2 q3 Q4 hbq
  generalize Sort.grow (redrawn w5 dq) osq = W6 at HB
  go_wp2
  go_ret
  exact ⟨rfl, HB.out⟩
theorem lists_walk {A : Option Addr} {n c : Nat} {l : List Int} {w : World} (hB : Byn w A n c l) (hL : Laid w) : Calls Tryd.prog 6 #[.slice A n c] w fun e w' => e = .returned (.bool true) ∧ Below w.heap.size w w' := by
  by_cases hn : n ≤ 2000
  · exact lists_at hL hB.1 hn
  · exact lists_long hL hn
end Go.Proofs.YthkaclmnbahieaaDoor
