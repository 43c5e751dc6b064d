/-
  New, Take and Share of the pool.
-/
import Derived.Test.YtbohigjfdnnomaaGreatDoorTeTd
namespace Go.Proofs.YtbohigjfdnnomaaGreatDoor
open Go.RowKit

set_option maxRecDepth 100000 in
set_option maxHeartbeats 4000000 in
theorem poolNew_any (w : World) : Calls Tryz.prog 23 #[] w fun e w' => ∃ P M F, e = .returned (ptr P) ∧ Pool w' w.heap.size P M F [] ∧ Below w.heap.size w w' := by
  have hmm := @run_makeMap Tryz.prog
  go_enter Tryz.func23, Tryz.ntmps23
  go_wp2
  have hM := World.ownsMap_made (H := Unit) w Tryz.prog 99 (plainElem Tryz.prog 3)
  have hb : Below w.heap.size w (w.alloc (.map #[] 0)) := (Below.refl _ _).alloc (Nat.le_refl _) _
  have hz : (w.alloc (.map #[] 0)).heap.size = w.heap.size + 1 := by simp
  generalize World.alloc w _ = W1 at hM hb hz ⊢
  have hM2 := hM.alloc (.cells #[.slice none 0 0, .map (some w.heap.size)] 75)
  have hP2 := heap_alloc_new W1 (.cells #[.slice none 0 0, .map (some w.heap.size)] 75)
  have hb2 := hb.alloc hb.size (.cells #[.slice none 0 0, .map (some w.heap.size)] 75)
  have hz2 : (W1.alloc (.cells #[.slice none 0 0, .map (some w.heap.size)] 75)).heap.size = w.heap.size + 1 + 1 := by simp [hz]
  generalize World.alloc W1 _ = W2 at hM2 hP2 hb2 hz2 ⊢
  rw [hz] at hP2
  go_ret
  refine ⟨w.heap.size + 1, w.heap.size, fun b => b = w.heap.size + 1 ∨ b = w.heap.size, rfl, ⟨.slice none 0 0, fun _ => .slice none 0 0, .map [], ?_⟩, hb2⟩
  exact {
    blk := hP2
    row := World.ownsRow_nil _ _ _ _
    args := fun i hi => absurd hi (by simp)
    argF := fun i hi => absurd hi (by simp)
    map := hM2
    mok := mapOK_nil
    fine := fun i hi => absurd hi (by simp)
    once := once_nil
    fP := .inl rfl
    fM := .inr rfl
    nvF := fun b e => by simp [Value.ownBlock] at e
    ne := by omega
    lt := fun b e => by rw [hz2]; omega }
theorem cntN_le (a : Nat → Int) : ∀ n, cntN a n ≤ n
  | 0 => Nat.le_refl _
  | n + 1 => by
    have := cntN_le a n
    rw [cntN]
    split <;> omega
section
variable {w0 w : World} {A : Option Addr} {n c : Nat} {T : List Nd} {P M base : Nat} {F : Nat → Prop} {out : List Nd}
set_option maxRecDepth 100000 in
set_option maxHeartbeats 8000000 in
theorem take_any (h0 : Term w0 A n c T) (hT : FineT T) (hb0 : Below w0.heap.size w0 w) (hbase : w0.heap.size ≤ base) (hP : Pool w base P M F out) (hn : out.length + n < 900000) {k : Nat} (hk : k < n) :
    Calls Tryz.prog 43 #[ptr P, .slice A n c, .int .i64 (k : Int), fnV 44 #[]] w fun e w' => ∃ F', e = .returned (.int .i64 (((ins (tr T k) out).1 : Nat) : Int)) ∧ Pool w' base P M F' (ins (tr T k) out).2 ∧ (∀ b, F b → F' b) ∧ (∀ b, F' b → F b ∨ w.heap.size ≤ b) ∧ KeepF F w w' ∧ (ins (tr T k) out).2.length ≤ out.length + n := by
  obtain ⟨i0, hi, hz0, hz1, hz2⟩ := info_parts infoI
  have hcap := h0.2.1
  have hmax := h0.2.2.1
  have H0 := Lib.hid h0
  have HP := Lib.hid hP
  have HB0 := Lib.hid hb0
  have HBA := Lib.hid (show ∀ b, F b → b < w.heap.size from fun b e => (hP.lt b e).1)
  clear h0 hP hb0
  go_enter Tryz.func43, Tryz.ntmps43
  go_upto_region 1 with fail
  have q1 := heap_alloc_new w (.cells #[ptr P] 51)
  have b1 : Below w.heap.size w (w.alloc (.cells #[ptr P] 51)) := (Below.refl _ _).alloc (Nat.le_refl _) _
  have z1 : (w.alloc (.cells #[ptr P] 51)).heap.size = w.heap.size + 1 := by simp
  generalize World.alloc w _ = Wa at q1 b1 z1 ⊢
  have t2 := heap_alloc_new Wa (.cells #[.slice A n c] 22)
  have q2 := (heap_alloc_old Wa (.cells #[.slice A n c] 22) (lt_of_block q1)).trans q1
  have b2 := b1.alloc b1.size (.cells #[.slice A n c] 22)
  have z2 : (Wa.alloc (.cells #[.slice A n c] 22)).heap.size = w.heap.size + 1 + 1 := by simp [z1]
  generalize World.alloc Wa _ = Wb at q2 t2 b2 z2 ⊢
  rw [z1] at t2
  have s3 := heap_alloc_new Wb (.cells #[fnV 44 #[]] 82)
  have q3 := (heap_alloc_old Wb (.cells #[fnV 44 #[]] 82) (lt_of_block q2)).trans q2
  have t3 := (heap_alloc_old Wb (.cells #[fnV 44 #[]] 82) (lt_of_block t2)).trans t2
  have b3 := b2.alloc b2.size (.cells #[fnV 44 #[]] 82)
  have z3 : (Wb.alloc (.cells #[fnV 44 #[]] 82)).heap.size = w.heap.size + 1 + 1 + 1 := by simp [z2]
  generalize World.alloc Wb _ = Wc at q3 t3 s3 b3 z3 ⊢
  rw [z2] at s3
  clear q1 q2 t2 b1 b2
  have htc := cell_of_one t3
  have htl := lt_of_block t3
  go_upto_region 2 with (refine wpList_make_row _ rfl _ _ 35 rfl 3 i0 (.int .i64 0) Tryz.underlying35 hi hz0 hz1 rfl .i64 .i64 n rfl rfl (by rw [hz2]; omega) (by omega) ?_)
  clear htc htl
  have r4 : RowZ (Wc.alloc (.cells (madeCells #[.int .i64 0] n) 3)) Wc.heap.size n (fun _ => 0) := ⟨_, heap_alloc_new Wc _, size_madeCells _ _, fun j hj => by simp [madeCells, hj, Nat.mod_one]⟩
  have q4 := (heap_alloc_old Wc (.cells (madeCells #[.int .i64 0] n) 3) (lt_of_block q3)).trans q3
  have t4 := (heap_alloc_old Wc (.cells (madeCells #[.int .i64 0] n) 3) (lt_of_block t3)).trans t3
  have s4 := (heap_alloc_old Wc (.cells (madeCells #[.int .i64 0] n) 3) (lt_of_block s3)).trans s3
  have b4 := b3.alloc b3.size (.cells (madeCells #[.int .i64 0] n) 3)
  have z4 : (Wc.alloc (.cells (madeCells #[.int .i64 0] n) 3)).heap.size = w.heap.size + 1 + 1 + 1 + 1 := by simp [z3]
  rw [z3] at r4
  generalize World.alloc Wc _ = Wd at q4 t4 s4 r4 b4 z4 ⊢
  have p5 := heap_alloc_new Wd (.cells #[.slice (some ⟨w.heap.size + 1 + 1 + 1, 0, none⟩) n n] 35)
  have q5 := (heap_alloc_old Wd (.cells #[.slice (some ⟨w.heap.size + 1 + 1 + 1, 0, none⟩) n n] 35) (lt_of_block q4)).trans q4
  have t5 := (heap_alloc_old Wd (.cells #[.slice (some ⟨w.heap.size + 1 + 1 + 1, 0, none⟩) n n] 35) (lt_of_block t4)).trans t4
  have s5 := (heap_alloc_old Wd (.cells #[.slice (some ⟨w.heap.size + 1 + 1 + 1, 0, none⟩) n n] 35) (lt_of_block s4)).trans s4
  have r5 := r4.keep (heap_alloc_old Wd (.cells #[.slice (some ⟨w.heap.size + 1 + 1 + 1, 0, none⟩) n n] 35) r4.lt)
  have b5 := b4.alloc b4.size (.cells #[.slice (some ⟨w.heap.size + 1 + 1 + 1, 0, none⟩) n n] 35)
  have z5 : (Wd.alloc (.cells #[.slice (some ⟨w.heap.size + 1 + 1 + 1, 0, none⟩) n n] 35)).heap.size = w.heap.size + 1 + 1 + 1 + 1 + 1 := by simp [z4]
  rw [z4] at p5
  generalize World.alloc Wd _ = We at q5 t5 s5 r5 p5 b5 z5 ⊢
  clear q4 t4 s4 b4 r4 z4 z3 z2 z1
  have hpc := cell_of_one p5
  have hpl := lt_of_block p5
  go_upto_region 3 with fail
  clear hpc hpl
  have E0 := Lib.hid (And.intro p5 (And.intro q5 (And.intro t5 s5)))
  clear p5 q5 t5 s5
  go_loopw [17] (fun zi wr => ∃ i : Nat, i ≤ n ∧ zi = .int .i64 (i : Int) ∧ Below w.heap.size w wr ∧ Hid (wr.heap.size = w.heap.size + 1 + 1 + 1 + 1 + 1 ∧ (∀ b, b ≠ w.heap.size + 1 + 1 + 1 → wr.heap[b]? = We.heap[b]?)) ∧ RowZ wr (w.heap.size + 1 + 1 + 1) n (fun j => if j < i then -1 else 0)) (fun zi _ => n - (intOf zi).toNat)
  case atStart => exact ⟨0, by omega, rfl, b5, Lib.hid ⟨z5, fun _ _ => rfl⟩, by simpa using r5⟩
  case round =>
    clear b5 r5 z5
    obtain ⟨i, hin, rfl, hbw, hkw, hrw⟩ := hrel
    have hpc := cell_of_one ((hkw.out.2 _ (by omega)).trans E0.out.1)
    have hpl := lt_of_block ((hkw.out.2 _ (by omega)).trans E0.out.1)
    by_cases hlt : i < n
    · obtain ⟨hrc, hrf⟩ := hrw.cell hlt
      have hrl := hrw.lt
      have HP' := Lib.hid (hrw.put i (-1))
      have HBW := Lib.hid (hbw.setCell (p := ⟨w.heap.size + 1 + 1 + 1, i, none⟩) (by simp only; omega) (.int .i64 (-1)))
      have HZ := Lib.hid (And.intro (show (wr.setCell ⟨w.heap.size + 1 + 1 + 1, i, none⟩ (.int .i64 (-1))).heap.size = wr.heap.size by simp) (fun b (hb : b ≠ w.heap.size + 1 + 1 + 1) => heap_setCell_other wr ⟨w.heap.size + 1 + 1 + 1, i, none⟩ b (.int .i64 (-1)) hb))
      go_wp2
      go_roundw
      case rel =>
        refine ⟨i + 1, by omega, by go_num, HBW.out, Lib.hid ⟨HZ.out.1.trans hkw.out.1, fun b hb => (HZ.out.2 b hb).trans (hkw.out.2 b hb)⟩, ?_⟩
        obtain ⟨arr, g1, g2, g3⟩ := HP'.out
        refine ⟨arr, g1, g2, fun j hj => (g3 j hj).trans ?_⟩
        simp only [updZ]
        by_cases e : j = i
        · rw [if_pos e, if_pos (by omega)]
        · rw [if_neg e]
          by_cases e2 : j < i
          · rw [if_pos e2, if_pos (by omega)]
          · rw [if_neg e2, if_neg (by omega)]
      case measure => simp [intOf]; omega
    · obtain rfl : i = n := by omega
      have hp6 := (hkw.out.2 _ (by omega)).trans E0.out.1
      have hq6 := (hkw.out.2 _ (by omega)).trans E0.out.2.1
      have ht6 := (hkw.out.2 _ (by omega)).trans E0.out.2.2.1
      have hs6 := (hkw.out.2 _ (by omega)).trans E0.out.2.2.2
      have hz6 := hkw.out.1
      clear hkw hpc hpl hlt
      go_upto_region 8 with fail
      have p7 := (heap_alloc_old wr (.cells #[.nilFunc] 102) (lt_of_block hp6)).trans hp6
      have q7 := (heap_alloc_old wr (.cells #[.nilFunc] 102) (lt_of_block hq6)).trans hq6
      have t7 := (heap_alloc_old wr (.cells #[.nilFunc] 102) (lt_of_block ht6)).trans ht6
      have s7 := (heap_alloc_old wr (.cells #[.nilFunc] 102) (lt_of_block hs6)).trans hs6
      have r7 := hrw.keep (heap_alloc_old wr (.cells #[.nilFunc] 102) hrw.lt)
      have v7 := heap_alloc_new wr (.cells #[.nilFunc] 102)
      have b7 := hbw.alloc hbw.size (.cells #[.nilFunc] 102)
      rw [hz6] at v7
      generalize World.alloc wr _ = W7 at p7 q7 t7 s7 r7 v7 b7 ⊢
      have hvl := lt_of_block v7
      have hvc7 := cell_of_one v7
      have hvf : W7.frozen? ⟨w.heap.size + 1 + 1 + 1 + 1 + 1, 0, none⟩ = false := by simp [World.frozen?, v7]
      clear hp6 hq6 ht6 hs6 hz6 hbw hrw
      go_upto_region 9 with fail
      have hoth : ∀ b, b ≠ w.heap.size + 1 + 1 + 1 + 1 + 1 → (W7.setCell ⟨w.heap.size + 1 + 1 + 1 + 1 + 1, 0, none⟩ (fnV 64 #[ptr (w.heap.size + 1 + 1 + 1 + 1), ptr (w.heap.size + 1), ptr (w.heap.size + 1 + 1), ptr (w.heap.size + 1 + 1 + 1 + 1 + 1), ptr w.heap.size])).heap[b]? = W7.heap[b]? := fun b hb => heap_setCell_other W7 ⟨w.heap.size + 1 + 1 + 1 + 1 + 1, 0, none⟩ b _ hb
      have v8 := (heap_setCell_same W7 (w.heap.size + 1 + 1 + 1 + 1 + 1) 0 _ _ (fnV 64 #[ptr (w.heap.size + 1 + 1 + 1 + 1), ptr (w.heap.size + 1), ptr (w.heap.size + 1 + 1), ptr (w.heap.size + 1 + 1 + 1 + 1 + 1), ptr w.heap.size]) v7).trans rfl
      have b8 := b7.setCell (p := ⟨w.heap.size + 1 + 1 + 1 + 1 + 1, 0, none⟩) (by simp only; omega) (fnV 64 #[ptr (w.heap.size + 1 + 1 + 1 + 1), ptr (w.heap.size + 1), ptr (w.heap.size + 1 + 1), ptr (w.heap.size + 1 + 1 + 1 + 1 + 1), ptr w.heap.size])
      generalize World.setCell W7 _ _ = W8 at hoth v8 b8 ⊢
      have hTW : TakeW w0 A i c (w.heap.size + 1 + 1 + 1 + 1) (w.heap.size + 1) (w.heap.size + 1 + 1) (w.heap.size + 1 + 1 + 1 + 1 + 1) w.heap.size (w.heap.size + 1 + 1 + 1) P M base (fnV 44 #[]) F (fun j => if j < i then -1 else 0) out (tr T) W8 := {
        below := HB0.out.trans (b8.mono HB0.out.size)
        bp := (hoth _ (by omega)).trans p7
        bt := (hoth _ (by omega)).trans t7
        bs := (hoth _ (by omega)).trans s7
        bv := v8
        bq := (hoth _ (by omega)).trans q7
        row := r7.keep (hoth _ (by omega))
        pool := HP.out.keep b8.size fun b hf => b8.block b (HBA.out b hf)
        nF := ⟨fun e => by have := HBA.out _ e; omega, fun e => by have := HBA.out _ e; omega, fun e => by have := HBA.out _ e; omega, fun e => by have := HBA.out _ e; omega, fun e => by have := HBA.out _ e; omega, fun e => by have := HBA.out _ e; omega⟩
        nR := ⟨by omega, by omega, by omega, by omega, by omega⟩
        inv := fun j hj h => by
          rw [if_pos hj] at h
          omega }
      have HC := Lib.hid (takeVisit_any H0.out hT hbase (by have := HB0.out.size; omega) (k + 1) k F _ out W8 hk (by omega) hTW (by have := cntN_le (fun j => if j < i then -1 else 0) i; omega))
      have hvc := cell_of_one v8
      have hvl8 := lt_of_block v8
      clear hTW v8 hoth p7 q7 t7 s7 r7 v7 b7 hvl hvf hvc7
      go_wp2_with fail
      refine HC.out.mono ?_
      rintro e w9 ⟨F9, a9, rfl, hW9, g1, g2, g3, g4, g5⟩
      go_wp2
      go_ret
      have hS8 := b8.size
      exact ⟨F9, by exact ret_i rfl, hW9.pool, g1, fun b e => (g2 b e).elim .inl (fun h => .inr (by omega)), (keep_of_below b8).trans g3 (fun b e => e.elim .inl (fun h => .inr (by omega))), Nat.le_trans (Nat.le_trans (Nat.le_add_right _ _) g4) (Nat.add_le_add_left (cntN_le _ _) _)⟩
end
end Go.Proofs.YtbohigjfdnnomaaGreatDoor
