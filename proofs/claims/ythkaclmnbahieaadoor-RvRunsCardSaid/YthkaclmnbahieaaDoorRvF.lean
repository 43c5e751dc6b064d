/-
  signed and find of the program.
-/
import Derived.Test.YthkaclmnbahieaaDoorRvE
namespace Go.Proofs.YthkaclmnbahieaaDoor
open Go.RowKit

theorem sgn_of12 (n : Nat) (h : n < 4096) : sgn n 12 = if n < 2048 then (n : Int) else (n : Int) - 4096 := by
  unfold sgn
  simp
  split <;> split <;> omega
theorem sgn_of13 (n : Nat) (h : n < 8192) : sgn n 13 = if n < 4096 then (n : Int) else (n : Int) - 8192 := by
  unfold sgn
  simp
  split <;> split <;> omega
theorem sgn_of21 (n : Nat) (h : n < 2097152) : sgn n 21 = if n < 1048576 then (n : Int) else (n : Int) - 2097152 := by
  unfold sgn
  simp
  split <;> split <;> omega
theorem signed12 (n : Nat) (h : n < 4096) (w : World) : Calls Tryd.prog 63 #[.int .u32 n, .int .i64 12] w fun e w' => e = .returned (.int .i64 (sgn n 12)) ∧ w' = w := by
  have E := Lib.hid (sgn_of12 n h)
  go_enter Tryd.func63, Tryd.ntmps63
  go_wp2
  go_ret
  refine ⟨ret_i ?_, rfl⟩
  rw [E.out]
  unfold wrap64 wrap32
  split <;> omega
theorem signed13 (n : Nat) (h : n < 8192) (w : World) : Calls Tryd.prog 63 #[.int .u32 n, .int .i64 13] w fun e w' => e = .returned (.int .i64 (sgn n 13)) ∧ w' = w := by
  have E := Lib.hid (sgn_of13 n h)
  go_enter Tryd.func63, Tryd.ntmps63
  go_wp2
  go_ret
  refine ⟨ret_i ?_, rfl⟩
  rw [E.out]
  unfold wrap64 wrap32
  split <;> omega
theorem signed21 (n : Nat) (h : n < 2097152) (w : World) : Calls Tryd.prog 63 #[.int .u32 n, .int .i64 21] w fun e w' => e = .returned (.int .i64 (sgn n 21)) ∧ w' = w := by
  have E := Lib.hid (sgn_of21 n h)
  go_enter Tryd.func63, Tryd.ntmps63
  go_wp2
  go_ret
  refine ⟨ret_i ?_, rfl⟩
  rw [E.out]
  unfold wrap64 wrap32
  split <;> omega
def keyP (w : Nat) : Nat → K3
  | 0 => ((w % 128 : Nat), (w / 4096 % 8 : Nat), (w / 33554432 : Nat))
  | 1 => ((w % 128 : Nat), (w / 4096 % 8 : Nat), -1)
  | 2 => ((w % 128 : Nat), -1, -1)
  | _ => ((w % 128 : Nat), -1, (w / 128 : Nat))
def findFrom (w : Nat) : Nat → Option Nat
  | 0 => findF w
  | 1 => orE (look 41 (keyP w 1)) (orE (look 41 (keyP w 2)) (look 41 (keyP w 3)))
  | 2 => orE (look 41 (keyP w 2)) (look 41 (keyP w 3))
  | 3 => look 41 (keyP w 3)
  | _ => none
theorem findFrom_step (w i : Nat) (h : i < 4) : findFrom w i = orE (look 41 (keyP w i)) (findFrom w (i + 1)) := by
  obtain rfl | rfl | rfl | rfl : i = 0 ∨ i = 1 ∨ i = 2 ∨ i = 3 := by omega
  · rfl
  · rfl
  · rfl
  · show look 41 (keyP w 3) = orE (look 41 (keyP w 3)) none
    cases look 41 (keyP w 3) <;> rfl
theorem keyP_fine {w i : Nat} (hw : w < 4294967296) (h : i < 4) : FineK (keyP w i) := by
  obtain rfl | rfl | rfl | rfl : i = 0 ∨ i = 1 ∨ i = 2 ∨ i = 3 := by omega
  all_goals unfold FineK keyP
  all_goals simp only
  all_goals omega
theorem idx12_0 (a0 a1 a2 a3 a4 a5 a6 a7 a8 a9 aa ab : Value) (w : World) : (Instr.index 117 (.agg #[a0, a1, a2, a3, a4, a5, a6, a7, a8, a9, aa, ab]) (.int .i64 0)).run Tryd.prog w = .ok (.agg #[a0, a1, a2]) w := by kernel_rfl
theorem idx12_1 (a0 a1 a2 a3 a4 a5 a6 a7 a8 a9 aa ab : Value) (w : World) : (Instr.index 117 (.agg #[a0, a1, a2, a3, a4, a5, a6, a7, a8, a9, aa, ab]) (.int .i64 1)).run Tryd.prog w = .ok (.agg #[a3, a4, a5]) w := by kernel_rfl
theorem idx12_2 (a0 a1 a2 a3 a4 a5 a6 a7 a8 a9 aa ab : Value) (w : World) : (Instr.index 117 (.agg #[a0, a1, a2, a3, a4, a5, a6, a7, a8, a9, aa, ab]) (.int .i64 2)).run Tryd.prog w = .ok (.agg #[a6, a7, a8]) w := by kernel_rfl
theorem idx12_3 (a0 a1 a2 a3 a4 a5 a6 a7 a8 a9 aa ab : Value) (w : World) : (Instr.index 117 (.agg #[a0, a1, a2, a3, a4, a5, a6, a7, a8, a9, aa, ab]) (.int .i64 3)).run Tryd.prog w = .ok (.agg #[a9, aa, ab]) w := by kernel_rfl
theorem and127 (w : Nat) : bits .and .u32 (w : Int) 127 = ((w % 128 : Nat) : Int) := by
  rw [show (127 : Int) = ((2 ^ 7 - 1 : Nat) : Int) by decide, u32_mask _ 7 (by decide)]
  simp
/-- What find answers. -/
def findV (o : Option Nat) : Value := .tuple #[.int .i64 ((o.getD 0 : Nat) : Int), .bool o.isSome]
set_option maxRecDepth 100000 in
set_option maxHeartbeats 8000000 in
theorem find_any (n M : Nat) (hn : n < 4294967296) (w : World) (hM : MapN w M 41) : Calls Tryd.prog 62 #[.map (some M), .int .u32 n] w fun e w' => e = .returned (findV (findF n)) ∧ Below w.heap.size w w' := by
  have h127 := and127 n
  have hP := Lib.hid (fun w1 => part_any n 12 14 0 w1 hn (by decide) (by decide) (by decide) (by decide) (part_lt (by decide)))
  have e1 : part n 12 14 0 = n / 4096 % 8 := by unfold part; simp
  rw [e1] at hP
  have hP2 : Hid (∀ w1, Calls Tryd.prog 61 #[.int .u32 n, .int .i64 12, .int .i64 14, .int .i64 0] w1 fun e w' => e = .returned (.int .u32 (n / 4096 % 8 : Nat)) ∧ w' = w1.drew) := hP
  clear hP e1
  have e2 := Lib.hid (show (n : Int) / 33554432 = ((n / 33554432 : Nat) : Int) by omega)
  have e3 := Lib.hid (show (n : Int) / 128 = ((n / 128 : Nat) : Int) by omega)
  have HF := Lib.hid (show findF n = findFrom n 0 from rfl)
  have HS := Lib.hid (fun i h => findFrom_step n i h)
  have HFI := Lib.hid (fun i h => keyP_fine (w := n) (i := i) hn h)
  have HK := Lib.hid (show keyP n 0 = (((n % 128 : Nat) : Int), ((n / 4096 % 8 : Nat) : Int), ((n / 33554432 : Nat) : Int)) ∧ keyP n 1 = (((n % 128 : Nat) : Int), ((n / 4096 % 8 : Nat) : Int), (-1 : Int)) ∧ keyP n 2 = (((n % 128 : Nat) : Int), (-1 : Int), (-1 : Int)) ∧ keyP n 3 = (((n % 128 : Nat) : Int), (-1 : Int), ((n / 128 : Nat) : Int)) from ⟨rfl, rfl, rfl, rfl⟩)
  have l1 : n % 128 < 128 := by omega
  have l2 : n / 4096 % 8 < 8 := by omega
  have l3 : n / 33554432 < 128 := by omega
  have l4 : n / 128 < 4294967296 := by omega
  generalize n % 128 = A at *
  generalize n / 4096 % 8 = B at *
  go_enter Tryd.func62, Tryd.ntmps62
  go_upto_region 2 with (with_reducible refine (hP2.out _).mono ?_; rintro e w' ⟨rfl, rfl⟩)
  rw [e2.out]
  clear e2
  generalize n / 33554432 = C at *
  go_upto_region 3 with fail
  rw [e3.out]
  clear e3 hP2 h127
  generalize n / 128 = E at *
  have hM1 : MapN w.drew M 41 := hM.block rfl
  have hb1 : Below w.heap.size w w.drew := drewR (Below.refl _ _)
  generalize World.drew w = W at hM1 hb1 ⊢
  clear hM
  go_loopw [37] (fun zi wr => ∃ i : Nat, i ≤ 4 ∧ zi = .int .i64 (i : Int) ∧ Below w.heap.size w wr ∧ MapN wr M 41 ∧ Hid (findF n = findFrom n i)) (fun zi _ => 4 - (intOf zi).toNat)
  case atStart => exact ⟨0, by omega, rfl, hb1, hM1, HF⟩
  case round =>
    clear hb1 hM1 HF
    obtain ⟨i, hi, rfl, hbw, hmw, hfw⟩ := hrel
    obtain rfl | rfl | rfl | rfl | rfl : i = 0 ∨ i = 1 ∨ i = 2 ∨ i = 3 ∨ i = 4 := by omega
    · rw [show ((((0 : Nat)) : Int)) = 0 from rfl]
      have hidx := fun w1 => idx12_0 (.int .i64 (A : Int)) (.int .i64 (B : Int)) (.int .i64 (C : Int)) (.int .i64 (A : Int)) (.int .i64 (B : Int)) (.int .i64 (-1)) (.int .i64 (A : Int)) (.int .i64 (-1)) (.int .i64 (-1)) (.int .i64 (A : Int)) (.int .i64 (-1)) (.int .i64 (E : Int)) w1
      have HL : ∀ o, (Instr.lookup 79 (.map (some M)) (.agg #[.int .i64 (A : Int), .int .i64 (B : Int), .int .i64 (C : Int)]) true).run Tryd.prog (wr.alloc o) = .ok (lookV 41 (keyP n 0)) (wr.alloc o) := fun o => by
        have h := (hmw.below ((Below.refl _ _).alloc (Nat.le_refl _) o)).look (Nat.le_refl _) (HFI.out 0 (by omega))
        have h2 : keyV (keyP n 0) = .agg #[.int .i64 (A : Int), .int .i64 (B : Int), .int .i64 (C : Int)] := by rw [HK.out.1]
        rw [h2] at h
        exact h
      have hst := HS.out 0 (by omega)
      unfold lookV at HL
      have hb2 := hbw.alloc hbw.size (.cells #[.int .i64 (A : Int), .int .i64 (B : Int), .int .i64 (C : Int)] 101)
      have hm2 := hmw.below ((Below.refl _ _).alloc (Nat.le_refl _) (.cells #[.int .i64 (A : Int), .int .i64 (B : Int), .int .i64 (C : Int)] 101))
      rcases e : look 41 (keyP n 0) with _ | r
      · rw [e] at HL hst
        simp only [Option.getD_none, Option.isSome_none] at HL
        have hst2 := Lib.hid (hfw.out.trans hst)
        clear hst e hfw hbw hmw
        go_wp2
        go_roundw
        case rel => exact ⟨1, by omega, rfl, hb2, hm2, hst2⟩
        case measure => simp [intOf]
      · rw [e] at HL hst
        simp only [Option.getD_some, Option.isSome_some] at HL
        have hst2 := Lib.hid (hfw.out.trans hst)
        clear hst e hfw hbw hmw hm2
        go_wp2
        refine bodyPost_ret (v := findV (some r)) (by simp [results, Tryd.results62, go_sem, findV]) rfl ⟨?_, hb2⟩
        rw [hst2.out]
        rfl
    · rw [show ((((1 : Nat)) : Int)) = 1 from rfl]
      have hidx := fun w1 => idx12_1 (.int .i64 (A : Int)) (.int .i64 (B : Int)) (.int .i64 (C : Int)) (.int .i64 (A : Int)) (.int .i64 (B : Int)) (.int .i64 (-1)) (.int .i64 (A : Int)) (.int .i64 (-1)) (.int .i64 (-1)) (.int .i64 (A : Int)) (.int .i64 (-1)) (.int .i64 (E : Int)) w1
      have HL : ∀ o, (Instr.lookup 79 (.map (some M)) (.agg #[.int .i64 (A : Int), .int .i64 (B : Int), .int .i64 (-1)]) true).run Tryd.prog (wr.alloc o) = .ok (lookV 41 (keyP n 1)) (wr.alloc o) := fun o => by
        have h := (hmw.below ((Below.refl _ _).alloc (Nat.le_refl _) o)).look (Nat.le_refl _) (HFI.out 1 (by omega))
        have h2 : keyV (keyP n 1) = .agg #[.int .i64 (A : Int), .int .i64 (B : Int), .int .i64 (-1)] := by rw [HK.out.2.1]
        rw [h2] at h
        exact h
      have hst := HS.out 1 (by omega)
      unfold lookV at HL
      have hb2 := hbw.alloc hbw.size (.cells #[.int .i64 (A : Int), .int .i64 (B : Int), .int .i64 (-1)] 101)
      have hm2 := hmw.below ((Below.refl _ _).alloc (Nat.le_refl _) (.cells #[.int .i64 (A : Int), .int .i64 (B : Int), .int .i64 (-1)] 101))
      rcases e : look 41 (keyP n 1) with _ | r
      · rw [e] at HL hst
        simp only [Option.getD_none, Option.isSome_none] at HL
        have hst2 := Lib.hid (hfw.out.trans hst)
        clear hst e hfw hbw hmw
        go_wp2
        go_roundw
        case rel => exact ⟨2, by omega, rfl, hb2, hm2, hst2⟩
        case measure => simp [intOf]
      · rw [e] at HL hst
        simp only [Option.getD_some, Option.isSome_some] at HL
        have hst2 := Lib.hid (hfw.out.trans hst)
        clear hst e hfw hbw hmw hm2
        go_wp2
        refine bodyPost_ret (v := findV (some r)) (by simp [results, Tryd.results62, go_sem, findV]) rfl ⟨?_, hb2⟩
        rw [hst2.out]
        rfl
    · rw [show ((((2 : Nat)) : Int)) = 2 from rfl]
      have hidx := fun w1 => idx12_2 (.int .i64 (A : Int)) (.int .i64 (B : Int)) (.int .i64 (C : Int)) (.int .i64 (A : Int)) (.int .i64 (B : Int)) (.int .i64 (-1)) (.int .i64 (A : Int)) (.int .i64 (-1)) (.int .i64 (-1)) (.int .i64 (A : Int)) (.int .i64 (-1)) (.int .i64 (E : Int)) w1
      have HL : ∀ o, (Instr.lookup 79 (.map (some M)) (.agg #[.int .i64 (A : Int), .int .i64 (-1), .int .i64 (-1)]) true).run Tryd.prog (wr.alloc o) = .ok (lookV 41 (keyP n 2)) (wr.alloc o) := fun o => by
        have h := (hmw.below ((Below.refl _ _).alloc (Nat.le_refl _) o)).look (Nat.le_refl _) (HFI.out 2 (by omega))
        have h2 : keyV (keyP n 2) = .agg #[.int .i64 (A : Int), .int .i64 (-1), .int .i64 (-1)] := by rw [HK.out.2.2.1]
        rw [h2] at h
        exact h
      have hst := HS.out 2 (by omega)
      unfold lookV at HL
      have hb2 := hbw.alloc hbw.size (.cells #[.int .i64 (A : Int), .int .i64 (-1), .int .i64 (-1)] 101)
      have hm2 := hmw.below ((Below.refl _ _).alloc (Nat.le_refl _) (.cells #[.int .i64 (A : Int), .int .i64 (-1), .int .i64 (-1)] 101))
      rcases e : look 41 (keyP n 2) with _ | r
      · rw [e] at HL hst
        simp only [Option.getD_none, Option.isSome_none] at HL
        have hst2 := Lib.hid (hfw.out.trans hst)
        clear hst e hfw hbw hmw
        go_wp2
        go_roundw
        case rel => exact ⟨3, by omega, rfl, hb2, hm2, hst2⟩
        case measure => simp [intOf]
      · rw [e] at HL hst
        simp only [Option.getD_some, Option.isSome_some] at HL
        have hst2 := Lib.hid (hfw.out.trans hst)
        clear hst e hfw hbw hmw hm2
        go_wp2
        refine bodyPost_ret (v := findV (some r)) (by simp [results, Tryd.results62, go_sem, findV]) rfl ⟨?_, hb2⟩
        rw [hst2.out]
        rfl
    · rw [show ((((3 : Nat)) : Int)) = 3 from rfl]
      have hidx := fun w1 => idx12_3 (.int .i64 (A : Int)) (.int .i64 (B : Int)) (.int .i64 (C : Int)) (.int .i64 (A : Int)) (.int .i64 (B : Int)) (.int .i64 (-1)) (.int .i64 (A : Int)) (.int .i64 (-1)) (.int .i64 (-1)) (.int .i64 (A : Int)) (.int .i64 (-1)) (.int .i64 (E : Int)) w1
      have HL : ∀ o, (Instr.lookup 79 (.map (some M)) (.agg #[.int .i64 (A : Int), .int .i64 (-1), .int .i64 (E : Int)]) true).run Tryd.prog (wr.alloc o) = .ok (lookV 41 (keyP n 3)) (wr.alloc o) := fun o => by
        have h := (hmw.below ((Below.refl _ _).alloc (Nat.le_refl _) o)).look (Nat.le_refl _) (HFI.out 3 (by omega))
        have h2 : keyV (keyP n 3) = .agg #[.int .i64 (A : Int), .int .i64 (-1), .int .i64 (E : Int)] := by rw [HK.out.2.2.2]
        rw [h2] at h
        exact h
      have hst := HS.out 3 (by omega)
      unfold lookV at HL
      have hb2 := hbw.alloc hbw.size (.cells #[.int .i64 (A : Int), .int .i64 (-1), .int .i64 (E : Int)] 101)
      have hm2 := hmw.below ((Below.refl _ _).alloc (Nat.le_refl _) (.cells #[.int .i64 (A : Int), .int .i64 (-1), .int .i64 (E : Int)] 101))
      rcases e : look 41 (keyP n 3) with _ | r
      · rw [e] at HL hst
        simp only [Option.getD_none, Option.isSome_none] at HL
        have hst2 := Lib.hid (hfw.out.trans hst)
        clear hst e hfw hbw hmw
        go_wp2
        go_roundw
        case rel => exact ⟨4, by omega, rfl, hb2, hm2, hst2⟩
        case measure => simp [intOf]
      · rw [e] at HL hst
        simp only [Option.getD_some, Option.isSome_some] at HL
        have hst2 := Lib.hid (hfw.out.trans hst)
        clear hst e hfw hbw hmw hm2
        go_wp2
        refine bodyPost_ret (v := findV (some r)) (by simp [results, Tryd.results62, go_sem, findV]) rfl ⟨?_, hb2⟩
        rw [hst2.out]
        rfl
    · go_wp2
      refine bodyPost_ret (v := findV none) (by simp [results, Tryd.results62, go_sem, findV]) rfl ⟨?_, hbw⟩
      rw [hfw.out]
      rfl
end Go.Proofs.YthkaclmnbahieaaDoor
