/-
  The walk of RvRuns.
-/
import Derived.Test.YthkaclmnbahieaaDoorRvRf
import Derived.Test.YthkaclmnbahieaaDoorRvSj
namespace Go.Proofs.YthkaclmnbahieaaDoor
open Go.RowKit

section
variable {R : Nat → Nat} {fl : Int} {pc : Nat} {fin : Int} {l : List Int}
theorem runF_err {most : Int} (h : (runF R fl pc fin l most).1.err = 0) : ¬ badR R l most ∧ fin = 0 := by
  unfold runF at h
  by_cases hb : badR R l most
  · rw [if_pos hb] at h
    cases h
  · rw [if_neg hb] at h
    by_cases hf : fin = 0
    · exact ⟨hb, hf⟩
    · rw [if_pos hf] at h
      cases h
theorem runF_ok {m : Nat} (h : ¬ badR R l (m : Int)) : runF R fl pc 0 l (m : Int) = (⟨0, (runT m ⟨R, pc, 0, l⟩).2.R, fl, (runT m ⟨R, pc, 0, l⟩).2.pc, endF (runT m ⟨R, pc, 0, l⟩).2, (runT m ⟨R, pc, 0, l⟩).2.l⟩, (runT m ⟨R, pc, 0, l⟩).1) := by
  unfold runF
  rw [if_neg h, if_neg (by simp), Int.toNat_natCast]
theorem endF_four {m : Nat} : endF (runT m ⟨R, pc, 0, l⟩).2 = 4 ↔ (runT m ⟨R, pc, 0, l⟩).2.fin = 0 := by
  have h3 := runT_fin m ⟨R, pc, 0, l⟩ rfl
  unfold endF
  by_cases hf : (runT m ⟨R, pc, 0, l⟩).2.fin = 0
  · rw [if_pos hf]
    exact ⟨fun _ => hf, fun _ => rfl⟩
  · rw [if_neg hf]
    exact ⟨fun h => absurd h (by omega), fun h => absurd h hf⟩
/-- A run in two parts. -/
theorem runF_split (m F : Nat) (hF : F ≤ m) (hb : ¬ badR R l (m : Int)) (q r : SR × Nat) (hq : runF R fl pc 0 l (F : Int) = q) (hr : runF R fl pc 0 l (m : Int) = r) :
    q.1.err = 0 ∧ q.1.fl = fl ∧ q.1.L.length = l.length ∧ (q.1.fin = 4 → ((runF q.1.R q.1.fl q.1.pc 0 q.1.L ((m : Int) - (F : Int))).1 = r.1 ∧ q.2 + (runF q.1.R q.1.fl q.1.pc 0 q.1.L ((m : Int) - (F : Int))).2 = r.2)) ∧ (q.1.fin ≠ 4 → q = r) := by
  have hbF : ¬ badR R l (F : Int) := by
    unfold badR at hb ⊢
    omega
  rw [runF_ok hb] at hr
  rw [runF_ok hbF] at hq
  have hadd := runT_add F (m - F) ⟨R, pc, 0, l⟩
  rw [show F + (m - F) = m by omega] at hadd
  have hk := runT_kept F ⟨R, pc, 0, l⟩
  subst hq
  refine ⟨rfl, rfl, hk.len, fun h4 => ?_, fun h4 => ?_⟩
  · have hf := endF_four.1 h4
    rw [show (m : Int) - (F : Int) = ((m - F : Nat) : Int) by omega]
    rw [hadd] at hr
    rcases ht : runT F ⟨R, pc, 0, l⟩ with ⟨i, t⟩
    rw [ht] at hr hf hk
    obtain ⟨tR, tp, tf, tl⟩ := t
    dsimp only at hf hr ⊢
    subst hf
    have hz := hk.zero
    have hl := hk.len
    dsimp only at hz hl
    rw [runF_ok (by unfold badR at hb ⊢; rw [hl]; have := hz; omega)]
    rw [← hr]
    exact ⟨rfl, rfl⟩
  · have hf : ¬ (runT F ⟨R, pc, 0, l⟩).2.fin = 0 := fun h => h4 (endF_four.2 h)
    rw [hadd, runT_stop hf] at hr
    rw [← hr]
    rfl
theorem runF_zero {m : Nat} {r : SR × Nat} (h : ¬ badR R l (m : Int)) (hr : runF R fl pc 0 l (m : Int) = r) : r.1.err = 0 := by
  rw [← hr, runF_ok h]
theorem runF_le {m : Nat} {r : SR × Nat} (hr : runF R fl pc 0 l (m : Int) = r) : r.2 ≤ m := by
  by_cases h : badR R l (m : Int)
  · rw [← hr]
    unfold runF
    rw [if_pos h]
    exact Nat.zero_le _
  · rw [← hr, runF_ok h]
    exact runT_le _ _
theorem runT_bd : ∀ (k : Nat) {s : Mst}, Bd s → Bd (runT k s).2
  | 0, _, h => h
  | k + 1, s, h => by
    by_cases hf : s.fin = 0
    · by_cases h3 : (stepF s).fin = 3
      · rw [runT_fault hf h3]
        exact stepF_bd h
      · rw [runT_go hf h3]
        exact runT_bd k (stepF_bd h)
    · rw [runT_stop hf]
      exact h
theorem runF_bd {F : Nat} {q : SR × Nat} (hb : Bd ⟨R, pc, 0, l⟩) (hq : runF R fl pc 0 l (F : Int) = q) (h0 : q.1.err = 0) : (∀ j, q.1.R j < 4294967296) ∧ q.1.pc < 4294967296 := by
  obtain ⟨hbad, -⟩ := runF_err (by rw [hq]; exact h0)
  rw [← hq, runF_ok hbad]
  have := runT_bd F hb
  exact ⟨this.reg, this.pc⟩
end
theorem MachV.setFin {MC : Array Value} {R : Nat → Nat} {fl : Int} {at_ : Nat} {mem : Value} {fin : Nat} (h : MachV MC R fl at_ mem fin) : MachI (MC.setIfInBounds 35 (.int .i64 0)) R fl at_ mem 0 := by
  have hs := h.size
  refine ⟨by simp [hs], fun j hj => ?_, ?_, ?_, ?_, ?_⟩
  · rw [Array.getElem?_setIfInBounds, if_neg (by omega)]
    exact h.reg j hj
  · rw [Array.getElem?_setIfInBounds, if_neg (by omega)]
    exact h.flg
  · rw [Array.getElem?_setIfInBounds, if_neg (by omega)]
    exact h.plc
  · rw [Array.getElem?_setIfInBounds, if_neg (by omega)]
    exact h.mem
  · rw [Array.getElem?_setIfInBounds, if_pos rfl, if_pos (by omega)]
theorem Res.conv {base : Nat} {w w2 : World} {r : SR} {A : Option Addr} {c : Nat} (h : r.L.length = 0 ∨ ∃ g, A = some ⟨g, 0, none⟩ ∧ base ≤ g ∧ MemC w g r.L.length c r.L) (hb : Below w.heap.size w w2) : (convert 35 9 (.slice A r.L.length c)).run Tryd.prog w2 = .ok (.string (strI r.L)) w2 :=
  conv_of rfl (by
    rcases h with h0 | ⟨g, rfl, -, hM⟩
    · exact .inl h0
    · exact .inr ⟨g, rfl, hM.below hb⟩)
section
variable {w : World} {MC : Array Value} {R : Nat → Nat} {fl : Int} {pc n c : Nat} {fin : Int} {A : Option Addr} {l : List Int}
set_option maxRecDepth 100000 in
set_option maxHeartbeats 2000000 in
theorem runs_long (h : MachI MC R fl pc (.slice A n c) fin) (hL : Laid w) (most first : Int) (hn : (4000 < n ∧ n ≤ 32768) ∨ (300 < most ∧ most ≤ 200000)) :
    Calls Tryd.prog 10 #[.agg MC, .int .i64 most, .int .i64 first] w fun e w' => e = .returned (.bool true) ∧ Below w.heap.size w w' := by
  have hb0 : Below w.heap.size w (w.alloc (.cells MC 52)) := (Below.refl _ _).alloc (Nat.le_refl _) _
  have hx := heap_alloc_new w (.cells MC 52)
  obtain ⟨-, -, -, c34, -⟩ := h.cells hx
  have HB := Lib.hid hb0
  have HL := Lib.hid hL
  clear h hx hb0 hL
  by_cases h1 : 4000 < n ∧ n ≤ 32768
  · obtain ⟨h1, h2⟩ := h1
    have i1 : (4000 : Int) < (n : Int) := by omega
    have i2 : (n : Int) ≤ 32768 := by omega
    clear h1 h2 hn
    go_enter Tryd.func10, Tryd.ntmps10
    go_upto_region 1 with fail
    generalize World.alloc w _ = W at c34 HB ⊢
    go_wp2_with fail
    refine (known_any _ (HL.out.below HB.out)).mono ?_
    rintro e w2 ⟨rfl, hb⟩
    go_wp2
    go_ret
    exact ⟨rfl, HB.out.trans (hb.mono HB.out.size)⟩
  · obtain ⟨i3, i4⟩ : 300 < most ∧ most ≤ 200000 := by omega
    by_cases h2 : 4000 < n
    · have i1 : (4000 : Int) < (n : Int) := by omega
      have i2 : ¬ (n : Int) ≤ 32768 := by omega
      clear h1 h2 hn
      go_enter Tryd.func10, Tryd.ntmps10
      go_upto_region 1 with fail
      generalize World.alloc w _ = W at c34 HB ⊢
      go_wp2_with fail
      refine (known_any _ (HL.out.below HB.out)).mono ?_
      rintro e w2 ⟨rfl, hb⟩
      go_wp2
      go_ret
      exact ⟨rfl, HB.out.trans (hb.mono HB.out.size)⟩
    · have i1 : ¬ (4000 : Int) < (n : Int) := by omega
      clear h1 h2 hn
      go_enter Tryd.func10, Tryd.ntmps10
      go_upto_region 1 with fail
      generalize World.alloc w _ = W at c34 HB ⊢
      go_wp2_with fail
      refine (known_any _ (HL.out.below HB.out)).mono ?_
      rintro e w2 ⟨rfl, hb⟩
      go_wp2
      go_ret
      exact ⟨rfl, HB.out.trans (hb.mono HB.out.size)⟩
set_option maxRecDepth 100000 in
set_option maxHeartbeats 2000000 in
theorem runs_main (h : MachI MC R fl pc (.slice A n c) fin) (hB : Byn w A n c l) (hR : ∀ j, R j < 4294967296) (hpc : pc < 4294967296) (hL : Laid w) (most first : Int) (hn : ¬ ((4000 < n ∧ n ≤ 32768) ∨ (300 < most ∧ most ≤ 200000))) :
    Calls Tryd.prog 10 #[.agg MC, .int .i64 most, .int .i64 first] w fun e w' => e = .returned (.bool true) ∧ Below w.heap.size w w' := by
  have hb0 : Below w.heap.size w (w.alloc (.cells MC 52)) := (Below.refl _ _).alloc (Nat.le_refl _) _
  have hx := heap_alloc_new w (.cells MC 52)
  obtain ⟨-, -, -, c34, -⟩ := h.cells hx
  have hs := h.size
  have HH := Lib.hid h
  have HBy := Lib.hid hB
  have HL := Lib.hid hL
  have HR := Lib.hid (And.intro hR hpc)
  have HN := Lib.hid hn
  have hX0 : w.heap.size < (w.alloc (.cells MC 52)).heap.size := lt_of_block hx
  clear h hB hL hR hpc hn
  go_enter Tryd.func10, Tryd.ntmps10
  go_upto_region 1 with fail
  generalize World.alloc w _ = W at hx c34 hb0 hX0 ⊢
  obtain ⟨X, hX⟩ : ∃ X, X = w.heap.size := ⟨_, rfl⟩
  rw [← hX] at hx c34 hX0 ⊢
  have HX := Lib.hid hX
  have HB := Lib.hid hb0
  clear hX hb0
  go_cut [3, 6, 36] from 3 (fun s3 s6 s36 wx => s3 = .pointer (some ⟨X, 0, none⟩) ∧ s6 = .bool false ∧ s36 = .bool false ∧ wx = W)
  case first =>
    have hn := HN.out
    by_cases h1 : 4000 < n
    · have i1 : (4000 : Int) < (n : Int) := by omega
      have i2 : ¬ (n : Int) ≤ 32768 := by omega
      by_cases h2 : 300 < most
      · have i3 : ¬ most ≤ 200000 := by omega
        clear hn h1
        go_wp2_with fail
        go_meet
        exact ⟨rfl, rfl, rfl, rfl⟩
      · clear hn h1
        go_wp2_with fail
        go_meet
        exact ⟨rfl, rfl, rfl, rfl⟩
    · have i1 : ¬ (4000 : Int) < (n : Int) := by omega
      by_cases h2 : 300 < most
      · have i3 : ¬ most ≤ 200000 := by omega
        clear hn h1
        go_wp2_with fail
        go_meet
        exact ⟨rfl, rfl, rfl, rfl⟩
      · clear hn h1
        go_wp2_with fail
        go_meet
        exact ⟨rfl, rfl, rfl, rfl⟩
  case rest =>
  obtain ⟨rfl, rfl, rfl, rfl⟩ := hcut
  clear c34
  have HBm := Lib.hid (show Byn wc A n c l from ⟨HBy.out.1.below HB.out, HBy.out.2⟩)
  have HLm := Lib.hid (HL.out.below HB.out)
  have HP := Lib.hid (fun (w1 : World) (hb : Below wc.heap.size wc w1) (mo : Int) => run_res HH.out HBy.out.1.1 (by
    by_cases h0 : n = 0
    · exact .inl ⟨h0, HBy.out.2⟩
    · exact .inr ⟨by omega, HBm.out.1.below hb⟩) HR.out.1 HR.out.2 (HLm.out.below hb) mo)
  have HRr := Lib.hid (fun (w1 : World) (hb : Below wc.heap.size wc w1) => rrun_res HH.out (show Byn w1 A n c l from ⟨HBm.out.1.below hb, HBm.out.2⟩) HR.out.1 HR.out.2 most)
  obtain ⟨r, hr⟩ : ∃ r, runF R fl pc fin l most = r := ⟨_, rfl⟩
  have hP1 := HP.out wc (Below.refl _ _) most
  rw [hr] at HRr hP1
  have HP1 := Lib.hid hP1
  have Hr := Lib.hid hr
  clear hr hP1
  go_wp2_with (refine wpList_load_row rfl _ _ rfl X rfl 52 MC (0, 0) _ hx Tryd.underlying52 rfl (infoMs hs) ?_)
  refine HP1.out.mono ?_
  rintro e w7 ⟨M1, rfl, hres, hb7⟩
  have hx7 := (hb7.block _ (lt_of_block hx)).trans hx
  have h4 := heap_alloc_new w7 (.cells zeroMC 52)
  have hbp : Below w7.heap.size w7 ((w7.alloc (.cells zeroMC 52)).setRow w7.heap.size M1) := bel_setRow ((Below.refl _ _).alloc (Nat.le_refl _) _) (Nat.le_refl _) M1
  have hp8 := setRow_heap _ w7.heap.size _ M1 52 (0, 0) h4
  have hx8 := (hbp.block _ (lt_of_block hx7)).trans hx7
  have HB8 := Lib.hid (hb7.trans (hbp.mono hb7.size))
  obtain ⟨A1, c1, hV1, hg1⟩ := hres.res.below hbp
  have hs1 := hV1.size
  have hone1 := one_mach hV1
  have HV1 := Lib.hid hV1
  have HG1 := Lib.hid hg1
  clear hres hb7 hx7 hbp hV1 hg1 HP1
  go_upto_region 4 with (refine wpList_store_row rfl _ _ _ rfl w7.heap.size M1 rfl rfl 52 _ h4 (infoMs hs1) (by rw [hs1]; rfl) hone1 ?_)
  clear h4 hone1
  generalize World.setRow _ _ _ = W8 at hp8 hx8 HB8 HG1 ⊢
  generalize w7.heap.size = P at hp8 ⊢
  have HR8 := Lib.hid (HRr.out W8 HB8.out)
  clear HRr
  go_wp2_with (refine wpList_load_row rfl _ _ rfl X rfl 52 MC (0, 0) _ hx8 Tryd.underlying52 rfl (infoMs hs) ?_)
  refine HR8.out.mono ?_
  rintro e w9 ⟨M2, rfl, hres, hb9⟩
  have hp9 := (hb9.block _ (lt_of_block hp8)).trans hp8
  have hx9 := (hb9.block _ (lt_of_block hx8)).trans hx8
  have h4 := heap_alloc_new w9 (.cells zeroMC 52)
  have hbq : Below w9.heap.size w9 ((w9.alloc (.cells zeroMC 52)).setRow w9.heap.size M2) := bel_setRow ((Below.refl _ _).alloc (Nat.le_refl _) _) (Nat.le_refl _) M2
  have hq10 := setRow_heap _ w9.heap.size _ M2 52 (0, 0) h4
  have hb10 := hb9.trans (hbq.mono hb9.size)
  have hp10 := (hbq.block _ (lt_of_block hp9)).trans hp9
  have hx10 := (hbq.block _ (lt_of_block hx9)).trans hx9
  obtain ⟨A2, c2, hV2, hg2⟩ := hres.below hbq
  have hs2 := hV2.size
  have hone2 := one_mach hV2
  have HV2 := Lib.hid hV2
  have HG2 := Lib.hid hg2
  have HB810 := Lib.hid hb10
  have HB10 := Lib.hid (HB8.out.trans (hb10.mono HB8.out.size))
  clear hres hb9 hp8 hx8 hp9 hx9 hbq hb10 hV2 hg2 HR8
  go_upto_region 5 with (refine wpList_store_row rfl _ _ _ rfl w9.heap.size M2 rfl rfl 52 _ h4 (infoMs hs2) (by rw [hs2]; rfl) hone2 ?_)
  clear h4 hone2
  generalize World.setRow _ _ _ = W10 at hq10 hp10 hx10 HB10 HB810 HG2 ⊢
  generalize w9.heap.size = Q at hq10 ⊢
  have HSm := Lib.hid (sameM_yes (w := W10) HV1.out HV2.out (strI r.1.L)
    (fun w1 hb => Res.conv HG1.out (HB810.out.trans (hb.mono HB810.out.size)))
    (fun w1 hb => Res.conv HG2.out hb))
  go_wp2_with (first | (refine wpList_load_row rfl _ _ rfl P rfl 52 M1 (0, 0) _ hp10 Tryd.underlying52 rfl (infoMs hs1) ?_) | (refine wpList_load_row rfl _ _ rfl Q rfl 52 M2 (0, 0) _ hq10 Tryd.underlying52 rfl (infoMs hs2) ?_))
  refine HSm.out.mono ?_
  rintro e w11 ⟨rfl, hb11⟩
  have hp11 := (hb11.block _ (lt_of_block hp10)).trans hp10
  have hx11 := (hb11.block _ (lt_of_block hx10)).trans hx10
  have HB11 := Lib.hid (HB10.out.trans (hb11.mono HB10.out.size))
  have HB811 := Lib.hid (HB810.out.trans (hb11.mono HB810.out.size))
  clear hp10 hx10 hq10 hb11 HSm HG2 HB10 HB810 hs2 hx hX0
  by_cases he : r.1.err = 0
  rotate_left
  · have i1 : ((r.1.err : Int) != 0) = true := bne_iff_ne.mpr (by omega)
    have i2 : ((r.1.err : Int) == 0) = false := beq_eq_false_iff_ne.mpr (by omega)
    have HBt := Lib.hid (HB.out.trans (HB11.out.mono HB.out.size))
    go_wp2_with fail
    refine (known_any _ (HLm.out.below HB11.out)).mono ?_
    rintro e w12 ⟨rfl, hb⟩
    go_wp2
    go_ret
    exact ⟨rfl, HBt.out.trans (hb.mono HBt.out.size)⟩
  · obtain ⟨hbad, rfl⟩ := runF_err (by rw [Hr.out]; exact he)
    obtain ⟨hm0, hm2⟩ : 0 ≤ most ∧ most ≤ 200000 := by
      unfold badR at hbad
      omega
    obtain ⟨m, rfl⟩ : ∃ m : Nat, most = (m : Int) := ⟨most.toNat, by omega⟩
    rw [he]
    rw [show ((0 : Nat) : Int) = 0 from rfl]
    have HBd := Lib.hid hbad
    clear hbad hm0 he
    go_upto_region 10 with fail
    obtain ⟨F, hF, eF⟩ : ∃ F : Nat, F ≤ m ∧ wrap64 ((IntKind.u64.wrap first).tmod ((m : Int) + 1)) = (F : Int) := by
      have h1 : 0 ≤ IntKind.u64.wrap first := by
        rw [IntKind.wrap_u64]
        omega
      have h2 : (IntKind.u64.wrap first).tmod ((m : Int) + 1) = IntKind.u64.wrap first % ((m : Int) + 1) := Int.tmod_eq_emod_of_nonneg h1
      have h3 := Int.emod_nonneg (IntKind.u64.wrap first) (show (m : Int) + 1 ≠ 0 by omega)
      have h4 := Int.emod_lt_of_pos (IntKind.u64.wrap first) (show (0 : Int) < (m : Int) + 1 by omega)
      refine ⟨(IntKind.u64.wrap first % ((m : Int) + 1)).toNat, by omega, ?_⟩
      rw [h2, IntWalk.wrap64_in _ (by omega)]
      omega
    rw [eF]
    clear eF
    obtain ⟨q, hq⟩ : ∃ q, runF R fl pc 0 l (F : Int) = q := ⟨_, rfl⟩
    obtain ⟨hq0, hqf, hql, hqy, hqn⟩ := runF_split m F hF HBd.out q r hq Hr.out
    have hP2 := HP.out w11 HB11.out (F : Int)
    rw [hq, hq0] at hP2
    have HP2 := Lib.hid hP2
    have HQ := Lib.hid (And.intro hq (And.intro hq0 (And.intro hqf (And.intro hql (And.intro hqy hqn)))))
    have HF := Lib.hid (And.intro hF hm2)
    clear hq hq0 hqf hql hqy hqn hP2 hF hm2
    go_wp2_with (refine wpList_load_row rfl _ _ rfl X rfl 52 MC (0, 0) _ hx11 Tryd.underlying52 rfl (infoMs hs) ?_)
    refine HP2.out.mono ?_
    rintro e w13 ⟨M3, rfl, hres, hb13⟩
    have hp13 := (hb13.block _ (lt_of_block hp11)).trans hp11
    have h4 := heap_alloc_new w13 (.cells zeroMC 52)
    have hbz : Below w13.heap.size w13 ((w13.alloc (.cells zeroMC 52)).setRow w13.heap.size M3) := bel_setRow ((Below.refl _ _).alloc (Nat.le_refl _) _) (Nat.le_refl _) M3
    have hz14 := setRow_heap _ w13.heap.size _ M3 52 (0, 0) h4
    have hp14 := (hbz.block _ (lt_of_block hp13)).trans hp13
    have hb14 := hb13.trans (hbz.mono hb13.size)
    obtain ⟨A3, c3, hV3, hg3⟩ := hres
    have hg14 : q.1.L.length = 0 ∧ (A3 = none → c3 = 0) ∨ ∃ g, A3 = some ⟨g, 0, none⟩ ∧ w11.heap.size ≤ g ∧ g ≠ w13.heap.size ∧ MemC ((w13.alloc (.cells zeroMC 52)).setRow w13.heap.size M3) g q.1.L.length c3 q.1.L := by
      rcases hg3 with h0 | ⟨g, rfl, hg, hM⟩
      · exact .inl h0
      · exact .inr ⟨g, rfl, hg, Nat.ne_of_lt hM.lt, hM.below hbz⟩
    have hPZ : P ≠ w13.heap.size := Nat.ne_of_lt (lt_of_block hp13)
    have hWZ : W8.heap.size ≤ w13.heap.size := Nat.le_trans HB811.out.size hb13.size
    have hwZ : wc.heap.size ≤ w13.heap.size := Nat.le_trans HB11.out.size hb13.size
    have hs3 := hV3.size
    have hone3 := one_mach hV3
    have HV3 := Lib.hid hV3
    have HG3 := Lib.hid hg14
    have HB814 := Lib.hid (HB811.out.trans (hb14.mono HB811.out.size))
    have HB14 := Lib.hid (HB11.out.trans (hb14.mono HB11.out.size))
    have HZ := Lib.hid (And.intro hPZ (And.intro hWZ hwZ))
    clear hb13 hp13 hbz hb14 hV3 hg3 hg14 HP2 hx11 hp11 HB11 HB811 HP hPZ hWZ hwZ
    rw [show ((0 : Nat) : Int) = 0 from rfl]
    go_upto_region 11 with (refine wpList_store_row rfl _ _ _ rfl w13.heap.size M3 rfl rfl 52 _ h4 (infoMs hs3) (by rw [hs3]; rfl) hone3 ?_)
    clear h4 hone3
    generalize World.setRow _ _ _ = W14 at hz14 hp14 HB14 HB814 HG3 ⊢
    generalize w13.heap.size = Z at hz14 HG3 HZ ⊢
    have HBt := Lib.hid (HB.out.trans (HB14.out.mono HB.out.size))
    obtain ⟨-, -, -, -, c35⟩ := (HV3.out.mac hz14).cells
    by_cases h4 : q.1.fin = 4
    rotate_left
    · have hqr := HQ.out.2.2.2.2.2 h4
      have i1 : ((q.1.fin : Int) != 4) = true := bne_iff_ne.mpr (by omega)
      have i2 : ((q.1.fin : Int) == 4) = false := beq_eq_false_iff_ne.mpr (by omega)
      subst hqr
      have HSm := Lib.hid (sameM_yes (w := W14) HV3.out HV1.out (strI q.1.L)
        (fun w1 hb => conv_of rfl (by rcases HG3.out with h0 | ⟨g, rfl, -, -, hM⟩; exact .inl h0.1; exact .inr ⟨g, rfl, hM.below hb⟩))
        (fun w1 hb => Res.conv HG1.out (HB814.out.trans (hb.mono HB814.out.size))))
      clear h4
      go_wp2_with (first | (refine wpList_load_row rfl _ _ rfl Z rfl 52 M3 (0, 0) _ hz14 Tryd.underlying52 rfl (infoMs hs3) ?_) | (refine wpList_load_row rfl _ _ rfl P rfl 52 M1 (0, 0) _ hp14 Tryd.underlying52 rfl (infoMs hs1) ?_))
      refine HSm.out.mono ?_
      rintro e w15 ⟨rfl, hb15⟩
      have HB15 := Lib.hid (HB14.out.trans (hb15.mono HB14.out.size))
      clear c35 hz14 hp14 hb15 HSm
      go_wp2_with fail
      refine (known_any _ (HLm.out.below HB15.out)).mono ?_
      rintro e w16 ⟨rfl, hb⟩
      go_wp2
      go_ret
      exact ⟨rfl, (HB.out.trans (HB15.out.mono HB.out.size)).trans (hb.mono (HB.out.trans (HB15.out.mono HB.out.size)).size)⟩
    · have hqy := HQ.out.2.2.2.2.1 h4
      rw [h4] at c35
      rw [show ((4 : Nat) : Int) = 4 from rfl] at c35
      have f35 := (HV3.out.mac hz14).free 35
      have hz15 : (W14.setCell ⟨Z, 35, none⟩ (.int .i64 0)).heap[Z]? = some (.cells (M3.setIfInBounds 35 (.int .i64 0)) 52 (0, 0)) := heap_setCell_same _ Z 35 _ _ _ hz14
      have hp15 := (heap_setCell_other W14 ⟨Z, 35, none⟩ P (.int .i64 0) HZ.out.1).trans hp14
      have hg15 : q.1.L.length = 0 ∧ (A3 = none → c3 = 0) ∨ 0 < q.1.L.length ∧ Byt (W14.setCell ⟨Z, 35, none⟩ (.int .i64 0)) A3 q.1.L.length c3 q.1.L := by
        rcases HG3.out with h0 | ⟨g, rfl, hg, hgZ, hM⟩
        · exact .inl h0
        · by_cases h0 : q.1.L.length = 0
          · exact .inl ⟨h0, fun h => by cases h⟩
          · exact .inr ⟨by omega, (hM.block (heap_setCell_other W14 ⟨Z, 35, none⟩ g _ hgZ)).byt⟩
      have HG15 := Lib.hid hg15
      have HB15 := Lib.hid (HB14.out.setCell (p := ⟨Z, 35, none⟩) HZ.out.2.2 (.int .i64 0))
      have HB815 := Lib.hid (HB814.out.setCell (p := ⟨Z, 35, none⟩) HZ.out.2.1 (.int .i64 0))
      have hM3 := HV3.out.setFin
      have hs4 := hM3.size
      have HM3 := Lib.hid hM3
      have HQY := Lib.hid hqy
      clear hg15 hM3 hqy hz14 hp14 hs3 h4
      go_upto_region 16 with fail
      clear c35 f35
      generalize World.setCell W14 _ _ = W15 at hz15 hp15 HG15 HB15 HB815 ⊢
      have hbq : (∀ j, q.1.R j < 4294967296) ∧ q.1.pc < 4294967296 := runF_bd ⟨HR.out.1, HR.out.2, HBy.out.1.isBy⟩ HQ.out.1 HQ.out.2.1
      have hr2 : r.2 ≤ m := runF_le Hr.out
      obtain ⟨u, hu⟩ : ∃ u, runF q.1.R q.1.fl q.1.pc 0 q.1.L ((m : Int) - (F : Int)) = u := ⟨_, rfl⟩
      have hP3 := run_res HM3.out rfl HG15.out hbq.1 hbq.2 (HLm.out.below HB15.out) ((m : Int) - (F : Int))
      have hqy := HQY.out
      rw [hu] at hP3 hqy
      obtain ⟨hu1, hu2⟩ := hqy
      rw [hu1, runF_zero HBd.out Hr.out] at hP3
      have HP3 := Lib.hid hP3
      obtain ⟨hF1, hF2⟩ := HF.out
      have hF3 : (F : Int) ≤ (m : Int) := by omega
      have j1 : u.2 ≤ 200000 := by omega
      have j2 : q.2 ≤ 200000 := by omega
      have j3 : ((q.2 : Int) + (u.2 : Int) == (r.2 : Int)) = true := beq_iff_eq.mpr (by omega)
      clear hbq hr2 hu hP3 hu1 hu2 hF1
      go_wp2_with (refine wpList_load_row rfl _ _ rfl Z rfl 52 _ (0, 0) _ hz15 Tryd.underlying52 rfl (infoMs hs4) ?_)
      refine HP3.out.mono ?_
      rintro e w17 ⟨M5, rfl, hres, hb17⟩
      have hp17 := (hb17.block _ (lt_of_block hp15)).trans hp15
      have h4 := heap_alloc_new w17 (.cells zeroMC 52)
      have hby : Below w17.heap.size w17 ((w17.alloc (.cells zeroMC 52)).setRow w17.heap.size M5) := bel_setRow ((Below.refl _ _).alloc (Nat.le_refl _) _) (Nat.le_refl _) M5
      have hy18 := setRow_heap _ w17.heap.size _ M5 52 (0, 0) h4
      have hp18 := (hby.block _ (lt_of_block hp17)).trans hp17
      have hb18 := hb17.trans (hby.mono hb17.size)
      obtain ⟨A5, c5, hV5, hg5⟩ := hres.res.below hby
      have hs5 := hV5.size
      have hone5 := one_mach hV5
      have HV5 := Lib.hid hV5
      have HG5 := Lib.hid hg5
      have HB818 := Lib.hid (HB815.out.trans (hb18.mono HB815.out.size))
      have HB18 := Lib.hid (HB15.out.trans (hb18.mono HB15.out.size))
      clear hres hb17 hp17 hby hb18 hV5 hg5 HP3 hz15 hp15 HB15 HB815
      rw [show ((0 : Nat) : Int) = 0 from rfl]
      go_upto_region 17 with (refine wpList_store_row rfl _ _ _ rfl w17.heap.size M5 rfl rfl 52 _ h4 (infoMs hs5) (by rw [hs5]; rfl) hone5 ?_)
      clear h4 hone5
      generalize World.setRow _ _ _ = W18 at hy18 hp18 HB18 HB818 HG5 ⊢
      generalize w17.heap.size = Y at hy18 ⊢
      have HSm := Lib.hid (sameM_yes (w := W18) HV5.out HV1.out (strI r.1.L)
        (fun w1 hb => Res.conv HG5.out hb)
        (fun w1 hb => Res.conv HG1.out (HB818.out.trans (hb.mono HB818.out.size))))
      go_wp2_with (first | (refine wpList_row_g rfl _ _ rfl Y rfl 52 M5 (0, 0) _ hy18 Tryd.underlying52 rfl (infoMs hs5) ?_) | (refine wpList_row_g rfl _ _ rfl P rfl 52 M1 (0, 0) _ hp18 Tryd.underlying52 rfl (infoMs hs1) ?_))
      refine HSm.out.mono ?_
      rintro e w19 ⟨rfl, hb19⟩
      have HB19 := Lib.hid (HB18.out.trans (hb19.mono HB18.out.size))
      clear hy18 hp18 hb19 HSm
      go_wp2_with fail
      refine (known_any _ (HLm.out.below HB19.out)).mono ?_
      rintro e w20 ⟨rfl, hb⟩
      go_wp2
      go_ret
      exact ⟨rfl, (HB.out.trans (HB19.out.mono HB.out.size)).trans (hb.mono (HB.out.trans (HB19.out.mono HB.out.size)).size)⟩
theorem runs_walk (h : MachI MC R fl pc (.slice A n c) fin) (hR : ∀ j, R j < 4294967296) (hpc : pc < 4294967296) (hB : Byn w A n c l) (hL : Laid w) (most first : Int) :
    Calls Tryd.prog 10 #[.agg MC, .int .i64 most, .int .i64 first] w fun e w' => e = .returned (.bool true) ∧ Below w.heap.size w w' := by
  by_cases hn : (4000 < n ∧ n ≤ 32768) ∨ (300 < most ∧ most ≤ 200000)
  · exact runs_long h hL most first hn
  · exact runs_main h hB hR hpc hL most first hn
end
end Go.Proofs.YthkaclmnbahieaaDoor
