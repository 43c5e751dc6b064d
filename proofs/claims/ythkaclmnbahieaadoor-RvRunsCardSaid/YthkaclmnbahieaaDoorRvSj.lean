/-
  The walk of RvSteps.
-/
import Derived.Test.YthkaclmnbahieaaDoorRvSi
namespace Go.Proofs.YthkaclmnbahieaaDoor
open Go.RowKit

theorem MachI.setMem {MC : Array Value} {R : Nat → Nat} {fl : Int} {at_ : Nat} {mem : Value} {fin : Int} (h : MachI MC R fl at_ mem fin) (v : Value) : MachI (MC.setIfInBounds 34 v) R fl at_ v fin := by
  have hs := h.size
  refine ⟨by simp [hs], fun j hj => ?_, ?_, ?_, ?_, ?_⟩
  · rw [Array.getElem?_setIfInBounds, if_neg (by omega)]
    exact h.reg j hj
  · rw [Array.getElem?_setIfInBounds, if_neg (by omega)]
    exact h.flg
  · rw [Array.getElem?_setIfInBounds, if_neg (by omega)]
    exact h.plc
  · rw [Array.getElem?_setIfInBounds, if_pos rfl, if_pos (by omega)]
  · rw [Array.getElem?_setIfInBounds, if_neg (by omega)]
    exact h.fin
theorem one_machI {MC : Array Value} {R : Nat → Nat} {fl : Int} {at_ : Nat} {A : Option Addr} {n c : Nat} {fin : Int} (h : MachI MC R fl at_ (.slice A n c) fin) : MC.all (·.oneCell') = true := by
  rw [Array.all_eq_true]
  intro i hi
  have hs := h.size
  have key : ∀ v : Value, MC[i]? = some v → v.oneCell' = true → (MC[i]).oneCell' = true := by
    intro v hv ho
    rw [Array.getElem?_eq_getElem hi] at hv
    rw [Option.some.inj hv]
    exact ho
  by_cases h1 : i < 32
  · exact key _ (h.reg i h1) rfl
  · obtain rfl | rfl | rfl | rfl : i = 32 ∨ i = 33 ∨ i = 34 ∨ i = 35 := by omega
    · exact key _ h.flg rfl
    · exact key _ h.plc rfl
    · exact key _ h.mem rfl
    · exact key _ h.fin rfl
/-- What stands while bytes of the new memory are changed. -/
def LpR (W6 wr : World) (P : Nat) (M1 : Array Value) (A1 : Option Addr) (n1 c1 : Nat) : Prop :=
  Below W6.heap.size W6 wr ∧ wr.heap[P]? = some (.cells M1 52 (0, 0)) ∧ (n1 = 0 ∨ ∃ g L, A1 = some ⟨g, 0, none⟩ ∧ g ≠ P ∧ W6.heap.size ≤ g ∧ MemC wr g n1 c1 L)
section
variable {w : World} {MC : Array Value} {R : Nat → Nat} {fl : Int} {pc n c : Nat} {fin : Int} {A : Option Addr} {l : List Int}
set_option maxRecDepth 100000 in
set_option maxHeartbeats 2000000 in
theorem steps_long (h : MachI MC R fl pc (.slice A n c) fin) (hL : Laid w) (hn : ¬ n ≤ 40000) : Calls Tryd.prog 9 #[.agg MC] w fun e w' => e = .returned (.bool true) ∧ Below w.heap.size w w' := by
  have hb0 : Below w.heap.size w (w.alloc (.cells MC 52)) := (Below.refl _ _).alloc (Nat.le_refl _) _
  have hx := heap_alloc_new w (.cells MC 52)
  obtain ⟨-, -, -, c34, -⟩ := h.cells hx
  have d1 : (40000 : Int) < (n : Int) := by omega
  have HB := Lib.hid hb0
  have HL := Lib.hid hL
  clear h hx hb0 hn hL
  go_enter Tryd.func9, Tryd.ntmps9
  go_upto_region 1 with fail
  generalize World.alloc w _ = W at c34 HB ⊢
  go_wp2_with fail
  refine (known_any _ (HL.out.below HB.out)).mono ?_
  rintro e w2 ⟨rfl, hb⟩
  go_wp2
  go_ret
  exact ⟨rfl, HB.out.trans (hb.mono HB.out.size)⟩
set_option maxRecDepth 100000 in
set_option maxHeartbeats 2000000 in
theorem steps_some (h : MachI MC R fl pc (.slice A n c) fin) (hB : Byn w A n c l) (hR : ∀ j, R j < 4294967296) (hpc : pc < 4294967296) (hL : Laid w) (hn : n ≤ 40000) (hp : 0 < n) :
    Calls Tryd.prog 9 #[.agg MC] w fun e w' => e = .returned (.bool true) ∧ Below w.heap.size w w' := by
  have hb0 : Below w.heap.size w (w.alloc (.cells MC 52)) := (Below.refl _ _).alloc (Nat.le_refl _) _
  have hx := heap_alloc_new w (.cells MC 52)
  obtain ⟨-, -, -, c34, -⟩ := h.cells hx
  have hs := h.size
  have hone := one_machI h
  have HH := Lib.hid h
  have HBy := Lib.hid hB
  have HL := Lib.hid hL
  have HR := Lib.hid (And.intro hR hpc)
  have d1 : ¬ (40000 : Int) < (n : Int) := by omega
  have HN := Lib.hid hn
  clear h hB hL hR hpc hn
  go_enter Tryd.func9, Tryd.ntmps9
  go_upto_region 1 with fail
  have hX0 : w.heap.size < (w.alloc (.cells MC 52)).heap.size := lt_of_block hx
  generalize World.alloc w _ = W at hx c34 hb0 hX0 ⊢
  obtain ⟨X, hX⟩ : ∃ X, X = w.heap.size := ⟨_, rfl⟩
  rw [← hX] at hx c34 hX0 ⊢
  have HX := Lib.hid hX
  have HB := Lib.hid hb0
  clear hX hb0
  go_upto_region 3 with fail
  have hy := heap_alloc_new W (.cells zeroMC 52)
  have hby : Below W.heap.size W (W.alloc (.cells zeroMC 52)) := (Below.refl _ _).alloc (Nat.le_refl _) _
  have hx1 := (hby.block _ hX0).trans hx
  have hb2 : Below W.heap.size W ((W.alloc (.cells zeroMC 52)).setRow W.heap.size MC) := bel_setRow hby (Nat.le_refl _) MC
  have hy2 := setRow_heap _ W.heap.size _ MC 52 (0, 0) hy
  have hx2 := (hb2.block _ hX0).trans hx
  have HB2 := Lib.hid (HB.out.trans (hb2.mono HB.out.size))
  have hXY : X < W.heap.size := hX0
  clear hby hb2 hX0
  go_upto_region 4 with (first | (refine wpList_load_row rfl _ _ rfl X rfl 52 MC (0, 0) _ (by first | exact hx | exact hx1) Tryd.underlying52 rfl (infoMs hs) ?_) | (refine wpList_store_row rfl _ _ _ rfl W.heap.size MC rfl rfl 52 _ hy (infoMs hs) (by rw [hs]; rfl) hone ?_))
  clear hy hx1 hx c34
  generalize World.setRow _ _ _ = W2 at hy2 hx2 HB2 ⊢
  generalize W.heap.size = Y at hy2 hXY ⊢
  have hba : Below W2.heap.size W2 (W2.alloc (.cells #[] 5)) := (Below.refl _ _).alloc (Nat.le_refl _) _
  have hE0 := empty_own W2 W2.heap.size (Nat.le_refl _)
  have hBa := (HBy.out.1.below HB2.out).below hba
  have hx3 := (hba.block _ (lt_of_block hx2)).trans hx2
  obtain ⟨-, -, -, c34, -⟩ := HH.out.cells hx3
  go_wp2_with (at_builtin; refine append_clone rfl _ _ rfl W2.heap.size _ rfl hE0 A n c l rfl hBa hp (by have := HN.out; omega) hba.size ?_)
  intro v5 w5 ho5 hgr
  have hb5 := hgr W2 hba (Nat.le_refl _)
  have hln := HBy.out.1.1
  rw [hln] at ho5
  obtain ⟨go, co, rfl, hg, hMm⟩ := memC_own ho5 HBy.out.1.isBy (by omega)
  rw [← hln] at hMm ⊢
  have hx5 := (hb5.block _ (lt_of_block hx2)).trans hx2
  have hy5 := (hb5.block _ (lt_of_block hy2)).trans hy2
  have hgY : go ≠ Y := by
    have := lt_of_block hy2
    omega
  obtain ⟨-, -, -, y34, -⟩ := HH.out.cells hy5
  have f34 : w5.frozen? ⟨Y, 34, none⟩ = false := by simp [World.frozen?, hy5]
  have hx6 := (heap_setCell_other w5 ⟨Y, 34, none⟩ X (.slice (some ⟨go, 0, none⟩) n co) (show X ≠ Y by omega)).trans hx5
  have hy6 : (w5.setCell ⟨Y, 34, none⟩ (.slice (some ⟨go, 0, none⟩) n co)).heap[Y]? = some (.cells (MC.setIfInBounds 34 (.slice (some ⟨go, 0, none⟩) n co)) 52 (0, 0)) := heap_setCell_same _ Y 34 _ _ _ hy5
  have hO6 : Byt (w5.setCell ⟨Y, 34, none⟩ (.slice (some ⟨go, 0, none⟩) n co)) (some ⟨go, 0, none⟩) n co l := (hMm.block (heap_setCell_other w5 ⟨Y, 34, none⟩ go _ hgY)).byt
  have hB6 : Below w.heap.size w (w5.setCell ⟨Y, 34, none⟩ (.slice (some ⟨go, 0, none⟩) n co)) := (HB2.out.trans (hb5.mono HB2.out.size)).setCell (p := ⟨Y, 34, none⟩) (show w.heap.size ≤ Y by rw [← HX.out]; exact Nat.le_of_lt hXY) _
  clear hba hE0 hBa hx3 c34 ho5 hgr hb5 hln hg hMm hx5 hy5 hgY hx2 hy2
  go_upto_region 5 with fail
  clear y34 f34
  generalize World.setCell w5 _ _ = W6 at hx6 hy6 hO6 hB6 ⊢
  have HO6 := Lib.hid hO6
  have HX6 := Lib.hid hx6
  have HY6 := Lib.hid hy6
  have HB6 := Lib.hid hB6
  have HBm := Lib.hid (show Byn W6 A n c l from ⟨HBy.out.1.below HB6.out, HBy.out.2⟩)
  have HL6 := Lib.hid (HL.out.below HB6.out)
  have hMo := HH.out.setMem (.slice (some ⟨go, 0, none⟩) n co)
  have hso := hMo.size
  have HMo := Lib.hid hMo
  have HP := Lib.hid (step_res hMo ⟨HO6.out, fun h => by cases h⟩ HR.out.1 HR.out.2 HL6.out)
  have HRr := Lib.hid (fun (w1 : World) (h1 : Byn w1 A n c l) => rstep_res HH.out h1 HR.out.1 HR.out.2)
  clear hO6 hB6 hMo
  generalize resF R fl pc fin l = r at HP HRr
  -- Step of the program
  go_wp2_with (refine wpList_load_row rfl _ _ rfl Y rfl 52 _ (0, 0) _ hy6 Tryd.underlying52 rfl (infoMs hso) ?_)
  refine HP.out.mono ?_
  rintro e w7 ⟨M1, rfl, hres, hb7⟩
  have hx7 := (hb7.block _ (lt_of_block hx6)).trans hx6
  have hy7 := (hb7.block _ (lt_of_block hy6)).trans hy6
  have h4 := heap_alloc_new w7 (.cells zeroMC 52)
  have hbp : Below w7.heap.size w7 ((w7.alloc (.cells zeroMC 52)).setRow w7.heap.size M1) := bel_setRow ((Below.refl _ _).alloc (Nat.le_refl _) _) (Nat.le_refl _) M1
  have hp8 := setRow_heap _ w7.heap.size _ M1 52 (0, 0) h4
  have hx8 := (hbp.block _ (lt_of_block hx7)).trans hx7
  have hy8 := (hbp.block _ (lt_of_block hy7)).trans hy7
  have hr8 := hres.below hbp
  have HB8 := Lib.hid (show Below W6.heap.size W6 _ from hb7.trans (hbp.mono hb7.size))
  obtain ⟨A1, c1, hV1, hg1⟩ := hr8
  have hg7 : r.L.length = 0 ∨ ∃ g, A1 = some ⟨g, 0, none⟩ ∧ W6.heap.size ≤ g ∧ g ≠ w7.heap.size ∧ MemC ((w7.alloc (.cells zeroMC 52)).setRow w7.heap.size M1) g r.L.length c1 r.L := by
    obtain ⟨A1', c1', hV1', hg7⟩ := hres
    have e : A1' = A1 ∧ c1' = c1 := by
      have q := hV1'.mem.symm.trans hV1.mem
      cases q
      exact ⟨rfl, rfl⟩
    obtain ⟨rfl, rfl⟩ := e
    rcases hg7 with h0 | ⟨g, rfl, hg, hM⟩
    · exact .inl h0
    · exact .inr ⟨g, rfl, hg, Nat.ne_of_lt hM.lt, hM.below hbp⟩
  have hs1 := hV1.size
  have hone1 := one_mach hV1
  have HV1 := Lib.hid hV1
  have HG1 := Lib.hid hg7
  clear hres hb7 hx6 hy6 hx7 hy7 hbp hV1 hg1 hg7 HP
  go_upto_region 6 with (refine wpList_store_row rfl _ _ _ rfl w7.heap.size M1 rfl rfl 52 _ h4 (infoMs hs1) (by rw [hs1]; rfl) hone1 ?_)
  clear h4 hone1
  generalize World.setRow _ _ _ = W8 at hp8 hx8 hy8 HB8 HG1 ⊢
  generalize w7.heap.size = P at hp8 HG1 ⊢
  -- Step of the reference
  have HRr8 := Lib.hid (HRr.out W8 ⟨HBm.out.1.below HB8.out, HBm.out.2⟩)
  clear HRr
  go_wp2_with (refine wpList_load_row rfl _ _ rfl X rfl 52 MC (0, 0) _ hx8 Tryd.underlying52 rfl (infoMs hs) ?_)
  refine HRr8.out.mono ?_
  rintro e w9 ⟨M2, rfl, hres, hb9⟩
  have hp9 := (hb9.block _ (lt_of_block hp8)).trans hp8
  have hx9 := (hb9.block _ (lt_of_block hx8)).trans hx8
  have hy9 := (hb9.block _ (lt_of_block hy8)).trans hy8
  have h4 := heap_alloc_new w9 (.cells zeroMC 52)
  have hbq : Below w9.heap.size w9 ((w9.alloc (.cells zeroMC 52)).setRow w9.heap.size M2) := bel_setRow ((Below.refl _ _).alloc (Nat.le_refl _) _) (Nat.le_refl _) M2
  have hq10 := setRow_heap _ w9.heap.size _ M2 52 (0, 0) h4
  have hb10 := hb9.trans (hbq.mono hb9.size)
  have hp10 := (hbq.block _ (lt_of_block hp9)).trans hp9
  have hx10 := (hbq.block _ (lt_of_block hx9)).trans hx9
  have hy10 := (hbq.block _ (lt_of_block hy9)).trans hy9
  obtain ⟨A2, c2, hV2, hg2⟩ := hres.below hbq
  have hs2 := hV2.size
  have hone2 := one_mach hV2
  have HV2 := Lib.hid hV2
  have HG2 := Lib.hid hg2
  have HG3 : Hid (r.L.length = 0 ∨ ∃ g, A1 = some ⟨g, 0, none⟩ ∧ W6.heap.size ≤ g ∧ g ≠ P ∧ MemC ((w9.alloc (.cells zeroMC 52)).setRow w9.heap.size M2) g r.L.length c1 r.L) := Lib.hid (by
    rcases HG1.out with h0 | ⟨g, rfl, hg, hgP, hM⟩
    · exact .inl h0
    · exact .inr ⟨g, rfl, hg, hgP, hM.below hb10⟩)
  have HB10 := Lib.hid (HB8.out.trans (hb10.mono HB8.out.size))
  clear hres hb9 hp8 hx8 hy8 hp9 hx9 hy9 hbq hb10 hV2 hg2 HRr8 HG1 HB8
  go_upto_region 7 with (refine wpList_store_row rfl _ _ _ rfl w9.heap.size M2 rfl rfl 52 _ h4 (infoMs hs2) (by rw [hs2]; rfl) hone2 ?_)
  clear h4 hone2
  generalize World.setRow _ _ _ = W10 at hq10 hp10 hx10 hy10 HB10 HG2 HG3 ⊢
  generalize w9.heap.size = Q at hq10 ⊢
  -- both are the same
  have HSm := Lib.hid (sameM_yes (w := W10) HV1.out HV2.out (strI r.L)
    (fun w1 hb => conv_of rfl (by rcases HG3.out with h0 | ⟨g, rfl, -, -, hM⟩; exact .inl h0; exact .inr ⟨g, rfl, hM.below hb⟩))
    (fun w1 hb => conv_of rfl (by rcases HG2.out with h0 | ⟨g, rfl, -, hM⟩; exact .inl h0; exact .inr ⟨g, rfl, hM.below hb⟩)))
  go_wp2_with (first | (refine wpList_load_row rfl _ _ rfl P rfl 52 M1 (0, 0) _ hp10 Tryd.underlying52 rfl (infoMs hs1) ?_) | (refine wpList_load_row rfl _ _ rfl Q rfl 52 M2 (0, 0) _ hq10 Tryd.underlying52 rfl (infoMs hs2) ?_))
  refine HSm.out.mono ?_
  rintro e w11 ⟨rfl, hb11⟩
  have hp11 := (hb11.block _ (lt_of_block hp10)).trans hp10
  have hx11 := (hb11.block _ (lt_of_block hx10)).trans hx10
  have hy11 := (hb11.block _ (lt_of_block hy10)).trans hy10
  have hlp : LpR W6 w11 P M1 A1 r.L.length c1 := by
    refine ⟨HB10.out.trans (hb11.mono HB10.out.size), hp11, ?_⟩
    rcases HG3.out with h0 | ⟨g, rfl, hg, hgP, hM⟩
    · exact .inl h0
    · exact .inr ⟨g, r.L, rfl, hgP, hg, hM.below hb11⟩
  have HLp := Lib.hid hlp
  clear hp10 hx10 hy10 hq10 hp11 hb11 hlp HSm HG2 HG3 HB10 hs1 hs2 hs hso
  generalize hn1 : r.L.length = n1 at HLp HV1
  clear hn1
  go_upto_region 10 with fail
  clear hx11 hy11 hone d1
  go_loopw [8] (fun zi wr => ∃ k : Nat, k ≤ n1 ∧ zi = .int .i64 (k : Int) ∧ LpR W6 wr P M1 A1 n1 c1) (fun zi _ => n1 - (intOf zi).toNat)
  case atStart => exact ⟨0, by omega, rfl, HLp.out⟩
  case round =>
    obtain ⟨k, hk, rfl, hbr, hpr, hgr⟩ := hrel
    obtain ⟨-, -, -, p34, -⟩ := (HV1.out.mac hpr).cells
    by_cases hlt : k < n1 ∧ k < 64
    · obtain ⟨h1, h2⟩ := hlt
      rcases hgr with h0 | ⟨g, L, rfl, hgP, hg, hM⟩
      · omega
      · obtain ⟨B, off, e0, -, cm, b0, b1⟩ := hM.byt.at_ h1
        have fm := hM.free k
        obtain ⟨rfl, rfl⟩ : g = B ∧ 0 = off := by
          cases e0
          exact ⟨rfl, rfl⟩
        rw [Nat.zero_add] at cm
        have hN := hM.set k h1 ((L[k]! + 1) % 256) (by omega)
        obtain ⟨x, hx⟩ : ∃ x : Nat, L[k]! = (x : Int) := ⟨(L[k]!).toNat, by omega⟩
        rw [hx] at cm hN b0 b1
        have HNew : Hid (LpR W6 (wr.setCell ⟨g, k, none⟩ (.int .u8 (((x : Int) + 1) % 256))) P M1 (some ⟨g, 0, none⟩) n1 c1) := Lib.hid
          ⟨hbr.setCell (p := ⟨g, k, none⟩) hg _, (heap_setCell_other wr ⟨g, k, none⟩ P _ (Ne.symm hgP)).trans hpr, .inr ⟨g, _, rfl, hgP, hg, hN⟩⟩
        have i1 : (k : Int) < (n1 : Int) := by omega
        have i2 : (k : Int) < 64 := by omega
        clear hN hM hbr hpr hx e0
        go_wp2_with fail
        go_roundw
        case rel => exact ⟨k + 1, by omega, by go_num, HNew.out⟩
        case measure => simp [intOf]; omega
    · have hb2 := HB6.out.trans (hbr.mono HB6.out.size)
      have q1 := str_conv (HO6.out.below hbr)
      have q2 := str_conv (HBm.out.1.below hbr)
      obtain ⟨-, -, -, x34, -⟩ := HH.out.cells ((hbr.block _ (lt_of_block HX6.out)).trans HX6.out)
      obtain ⟨-, -, -, y34, -⟩ := HMo.out.cells ((hbr.block _ (lt_of_block HY6.out)).trans HY6.out)
      have HK := Lib.hid (known_any wr (HL6.out.below hbr))
      have HB2 := Lib.hid hb2
      clear hbr hpr hgr hb2
      generalize strI l = S at q1 q2
      by_cases h1 : k < n1
      · have h2 : ¬ (k : Int) < 64 := by omega
        have i1 : (k : Int) < (n1 : Int) := by omega
        clear hlt h1
        go_wp2_with fail
        refine HK.out.mono ?_
        rintro e w20 ⟨rfl, hb20⟩
        go_wp2
        go_ret
        exact ⟨rfl, HB2.out.trans (hb20.mono HB2.out.size)⟩
      · obtain rfl : k = n1 := by omega
        clear hlt h1
        go_wp2_with fail
        refine HK.out.mono ?_
        rintro e w20 ⟨rfl, hb20⟩
        go_wp2
        go_ret
        exact ⟨rfl, HB2.out.trans (hb20.mono HB2.out.size)⟩
set_option maxRecDepth 100000 in
set_option maxHeartbeats 2000000 in
theorem steps_nil (h : MachI MC R fl pc (.slice none 0 0) fin) (hB : Byn w none 0 0 l) (hR : ∀ j, R j < 4294967296) (hpc : pc < 4294967296) (hL : Laid w) (hn : 0 ≤ 40000) :
    Calls Tryd.prog 9 #[.agg MC] w fun e w' => e = .returned (.bool true) ∧ Below w.heap.size w w' := by
  have hb0 : Below w.heap.size w (w.alloc (.cells MC 52)) := (Below.refl _ _).alloc (Nat.le_refl _) _
  have hx := heap_alloc_new w (.cells MC 52)
  obtain ⟨-, -, -, c34, -⟩ := h.cells hx
  have hs := h.size
  have hone := one_machI h
  have HH := Lib.hid h
  have HBy := Lib.hid hB
  have HL := Lib.hid hL
  have HR := Lib.hid (And.intro hR hpc)
  have HN := Lib.hid hn
  clear h hB hL hR hpc hn
  go_enter Tryd.func9, Tryd.ntmps9
  go_upto_region 1 with fail
  have hX0 : w.heap.size < (w.alloc (.cells MC 52)).heap.size := lt_of_block hx
  generalize World.alloc w _ = W at hx c34 hb0 hX0 ⊢
  obtain ⟨X, hX⟩ : ∃ X, X = w.heap.size := ⟨_, rfl⟩
  rw [← hX] at hx c34 hX0 ⊢
  have HX := Lib.hid hX
  have HB := Lib.hid hb0
  clear hX hb0
  go_upto_region 3 with fail
  have hy := heap_alloc_new W (.cells zeroMC 52)
  have hby : Below W.heap.size W (W.alloc (.cells zeroMC 52)) := (Below.refl _ _).alloc (Nat.le_refl _) _
  have hx1 := (hby.block _ hX0).trans hx
  have hb2 : Below W.heap.size W ((W.alloc (.cells zeroMC 52)).setRow W.heap.size MC) := bel_setRow hby (Nat.le_refl _) MC
  have hy2 := setRow_heap _ W.heap.size _ MC 52 (0, 0) hy
  have hx2 := (hb2.block _ hX0).trans hx
  have HB2 := Lib.hid (HB.out.trans (hb2.mono HB.out.size))
  have hXY : X < W.heap.size := hX0
  clear hby hb2 hX0
  go_upto_region 4 with (first | (refine wpList_load_row rfl _ _ rfl X rfl 52 MC (0, 0) _ (by first | exact hx | exact hx1) Tryd.underlying52 rfl (infoMs hs) ?_) | (refine wpList_store_row rfl _ _ _ rfl W.heap.size MC rfl rfl 52 _ hy (infoMs hs) (by rw [hs]; rfl) hone ?_))
  clear hy hx1 hx c34
  generalize World.setRow _ _ _ = W2 at hy2 hx2 HB2 ⊢
  generalize W.heap.size = Y at hy2 hXY ⊢
  have hba : Below W2.heap.size W2 (W2.alloc (.cells #[] 5)) := (Below.refl _ _).alloc (Nat.le_refl _) _
  have hx3 := (hba.block _ (lt_of_block hx2)).trans hx2
  have hy3 := (hba.block _ (lt_of_block hy2)).trans hy2
  obtain ⟨-, -, -, c34, -⟩ := HH.out.cells hx3
  obtain ⟨-, -, -, y34, -⟩ := HH.out.cells hy3
  obtain ⟨go, hgo⟩ : ∃ g, g = W2.heap.size := ⟨_, rfl⟩
  have f34 : (W2.alloc (.cells #[] 5)).frozen? ⟨Y, 34, none⟩ = false := by simp [World.frozen?, hy3]
  have hx6 := (heap_setCell_other (W2.alloc (.cells #[] 5)) ⟨Y, 34, none⟩ X (.slice (some ⟨W2.heap.size, 0, none⟩) 0 0) (show X ≠ Y by omega)).trans hx3
  have hy6 : ((W2.alloc (.cells #[] 5)).setCell ⟨Y, 34, none⟩ (.slice (some ⟨W2.heap.size, 0, none⟩) 0 0)).heap[Y]? = some (.cells (MC.setIfInBounds 34 (.slice (some ⟨W2.heap.size, 0, none⟩) 0 0)) 52 (0, 0)) := heap_setCell_same _ Y 34 _ _ _ hy3
  have hO6 : Byt ((W2.alloc (.cells #[] 5)).setCell ⟨Y, 34, none⟩ (.slice (some ⟨W2.heap.size, 0, none⟩) 0 0)) (some ⟨W2.heap.size, 0, none⟩) 0 0 l := ⟨HBy.out.1.1, Nat.le_refl _, by omega, fun j hj => absurd hj (by omega), .inl rfl⟩
  have hB6 : Below w.heap.size w ((W2.alloc (.cells #[] 5)).setCell ⟨Y, 34, none⟩ (.slice (some ⟨W2.heap.size, 0, none⟩) 0 0)) := (HB2.out.trans (hba.mono HB2.out.size)).setCell (p := ⟨Y, 34, none⟩) (show w.heap.size ≤ Y by rw [← HX.out]; exact Nat.le_of_lt hXY) _
  have HGo := Lib.hid hgo
  clear hgo hba hx3 hy3 hx2 hy2
  go_upto_region 5 with fail
  clear c34 y34 f34
  rw [← HGo.out] at hx6 hy6 hO6 hB6 ⊢
  generalize World.setCell _ _ _ = W6 at hx6 hy6 hO6 hB6 ⊢
  have HO6 := Lib.hid hO6
  have HX6 := Lib.hid hx6
  have HY6 := Lib.hid hy6
  have HB6 := Lib.hid hB6
  have HBm := Lib.hid (show Byn W6 none 0 0 l from ⟨HBy.out.1.below HB6.out, HBy.out.2⟩)
  have HL6 := Lib.hid (HL.out.below HB6.out)
  have hMo := HH.out.setMem (.slice (some ⟨go, 0, none⟩) 0 0)
  have hso := hMo.size
  have HMo := Lib.hid hMo
  have HP := Lib.hid (step_res hMo ⟨HO6.out, fun h => by cases h⟩ HR.out.1 HR.out.2 HL6.out)
  have HRr := Lib.hid (fun (w1 : World) (h1 : Byn w1 none 0 0 l) => rstep_res HH.out h1 HR.out.1 HR.out.2)
  clear hO6 hB6 hMo
  generalize resF R fl pc fin l = r at HP HRr
  -- Step of the program
  go_wp2_with (refine wpList_load_row rfl _ _ rfl Y rfl 52 _ (0, 0) _ hy6 Tryd.underlying52 rfl (infoMs hso) ?_)
  refine HP.out.mono ?_
  rintro e w7 ⟨M1, rfl, hres, hb7⟩
  have hx7 := (hb7.block _ (lt_of_block hx6)).trans hx6
  have hy7 := (hb7.block _ (lt_of_block hy6)).trans hy6
  have h4 := heap_alloc_new w7 (.cells zeroMC 52)
  have hbp : Below w7.heap.size w7 ((w7.alloc (.cells zeroMC 52)).setRow w7.heap.size M1) := bel_setRow ((Below.refl _ _).alloc (Nat.le_refl _) _) (Nat.le_refl _) M1
  have hp8 := setRow_heap _ w7.heap.size _ M1 52 (0, 0) h4
  have hx8 := (hbp.block _ (lt_of_block hx7)).trans hx7
  have hy8 := (hbp.block _ (lt_of_block hy7)).trans hy7
  have hr8 := hres.below hbp
  have HB8 := Lib.hid (show Below W6.heap.size W6 _ from hb7.trans (hbp.mono hb7.size))
  obtain ⟨A1, c1, hV1, hg1⟩ := hr8
  have hg7 : r.L.length = 0 ∨ ∃ g, A1 = some ⟨g, 0, none⟩ ∧ W6.heap.size ≤ g ∧ g ≠ w7.heap.size ∧ MemC ((w7.alloc (.cells zeroMC 52)).setRow w7.heap.size M1) g r.L.length c1 r.L := by
    obtain ⟨A1', c1', hV1', hg7⟩ := hres
    have e : A1' = A1 ∧ c1' = c1 := by
      have q := hV1'.mem.symm.trans hV1.mem
      cases q
      exact ⟨rfl, rfl⟩
    obtain ⟨rfl, rfl⟩ := e
    rcases hg7 with h0 | ⟨g, rfl, hg, hM⟩
    · exact .inl h0
    · exact .inr ⟨g, rfl, hg, Nat.ne_of_lt hM.lt, hM.below hbp⟩
  have hs1 := hV1.size
  have hone1 := one_mach hV1
  have HV1 := Lib.hid hV1
  have HG1 := Lib.hid hg7
  clear hres hb7 hx6 hy6 hx7 hy7 hbp hV1 hg1 hg7 HP
  go_upto_region 6 with (refine wpList_store_row rfl _ _ _ rfl w7.heap.size M1 rfl rfl 52 _ h4 (infoMs hs1) (by rw [hs1]; rfl) hone1 ?_)
  clear h4 hone1
  generalize World.setRow _ _ _ = W8 at hp8 hx8 hy8 HB8 HG1 ⊢
  generalize w7.heap.size = P at hp8 HG1 ⊢
  -- Step of the reference
  have HRr8 := Lib.hid (HRr.out W8 ⟨HBm.out.1.below HB8.out, HBm.out.2⟩)
  clear HRr
  go_wp2_with (refine wpList_load_row rfl _ _ rfl X rfl 52 MC (0, 0) _ hx8 Tryd.underlying52 rfl (infoMs hs) ?_)
  refine HRr8.out.mono ?_
  rintro e w9 ⟨M2, rfl, hres, hb9⟩
  have hp9 := (hb9.block _ (lt_of_block hp8)).trans hp8
  have hx9 := (hb9.block _ (lt_of_block hx8)).trans hx8
  have hy9 := (hb9.block _ (lt_of_block hy8)).trans hy8
  have h4 := heap_alloc_new w9 (.cells zeroMC 52)
  have hbq : Below w9.heap.size w9 ((w9.alloc (.cells zeroMC 52)).setRow w9.heap.size M2) := bel_setRow ((Below.refl _ _).alloc (Nat.le_refl _) _) (Nat.le_refl _) M2
  have hq10 := setRow_heap _ w9.heap.size _ M2 52 (0, 0) h4
  have hb10 := hb9.trans (hbq.mono hb9.size)
  have hp10 := (hbq.block _ (lt_of_block hp9)).trans hp9
  have hx10 := (hbq.block _ (lt_of_block hx9)).trans hx9
  have hy10 := (hbq.block _ (lt_of_block hy9)).trans hy9
  obtain ⟨A2, c2, hV2, hg2⟩ := hres.below hbq
  have hs2 := hV2.size
  have hone2 := one_mach hV2
  have HV2 := Lib.hid hV2
  have HG2 := Lib.hid hg2
  have HG3 : Hid (r.L.length = 0 ∨ ∃ g, A1 = some ⟨g, 0, none⟩ ∧ W6.heap.size ≤ g ∧ g ≠ P ∧ MemC ((w9.alloc (.cells zeroMC 52)).setRow w9.heap.size M2) g r.L.length c1 r.L) := Lib.hid (by
    rcases HG1.out with h0 | ⟨g, rfl, hg, hgP, hM⟩
    · exact .inl h0
    · exact .inr ⟨g, rfl, hg, hgP, hM.below hb10⟩)
  have HB10 := Lib.hid (HB8.out.trans (hb10.mono HB8.out.size))
  clear hres hb9 hp8 hx8 hy8 hp9 hx9 hy9 hbq hb10 hV2 hg2 HRr8 HG1 HB8
  go_upto_region 7 with (refine wpList_store_row rfl _ _ _ rfl w9.heap.size M2 rfl rfl 52 _ h4 (infoMs hs2) (by rw [hs2]; rfl) hone2 ?_)
  clear h4 hone2
  generalize World.setRow _ _ _ = W10 at hq10 hp10 hx10 hy10 HB10 HG2 HG3 ⊢
  generalize w9.heap.size = Q at hq10 ⊢
  -- both are the same
  have HSm := Lib.hid (sameM_yes (w := W10) HV1.out HV2.out (strI r.L)
    (fun w1 hb => conv_of rfl (by rcases HG3.out with h0 | ⟨g, rfl, -, -, hM⟩; exact .inl h0; exact .inr ⟨g, rfl, hM.below hb⟩))
    (fun w1 hb => conv_of rfl (by rcases HG2.out with h0 | ⟨g, rfl, -, hM⟩; exact .inl h0; exact .inr ⟨g, rfl, hM.below hb⟩)))
  go_wp2_with (first | (refine wpList_load_row rfl _ _ rfl P rfl 52 M1 (0, 0) _ hp10 Tryd.underlying52 rfl (infoMs hs1) ?_) | (refine wpList_load_row rfl _ _ rfl Q rfl 52 M2 (0, 0) _ hq10 Tryd.underlying52 rfl (infoMs hs2) ?_))
  refine HSm.out.mono ?_
  rintro e w11 ⟨rfl, hb11⟩
  have hp11 := (hb11.block _ (lt_of_block hp10)).trans hp10
  have hx11 := (hb11.block _ (lt_of_block hx10)).trans hx10
  have hy11 := (hb11.block _ (lt_of_block hy10)).trans hy10
  have hlp : LpR W6 w11 P M1 A1 r.L.length c1 := by
    refine ⟨HB10.out.trans (hb11.mono HB10.out.size), hp11, ?_⟩
    rcases HG3.out with h0 | ⟨g, rfl, hg, hgP, hM⟩
    · exact .inl h0
    · exact .inr ⟨g, r.L, rfl, hgP, hg, hM.below hb11⟩
  have HLp := Lib.hid hlp
  clear hp10 hx10 hy10 hq10 hp11 hb11 hlp HSm HG2 HG3 HB10 hs1 hs2 hs hso
  generalize hn1 : r.L.length = n1 at HLp HV1
  clear hn1
  go_upto_region 10 with fail
  clear hx11 hy11 hone
  go_loopw [8] (fun zi wr => ∃ k : Nat, k ≤ n1 ∧ zi = .int .i64 (k : Int) ∧ LpR W6 wr P M1 A1 n1 c1) (fun zi _ => n1 - (intOf zi).toNat)
  case atStart => exact ⟨0, by omega, rfl, HLp.out⟩
  case round =>
    obtain ⟨k, hk, rfl, hbr, hpr, hgr⟩ := hrel
    obtain ⟨-, -, -, p34, -⟩ := (HV1.out.mac hpr).cells
    by_cases hlt : k < n1 ∧ k < 64
    · obtain ⟨h1, h2⟩ := hlt
      rcases hgr with h0 | ⟨g, L, rfl, hgP, hg, hM⟩
      · omega
      · obtain ⟨B, off, e0, -, cm, b0, b1⟩ := hM.byt.at_ h1
        have fm := hM.free k
        obtain ⟨rfl, rfl⟩ : g = B ∧ 0 = off := by
          cases e0
          exact ⟨rfl, rfl⟩
        rw [Nat.zero_add] at cm
        have hN := hM.set k h1 ((L[k]! + 1) % 256) (by omega)
        obtain ⟨x, hx⟩ : ∃ x : Nat, L[k]! = (x : Int) := ⟨(L[k]!).toNat, by omega⟩
        rw [hx] at cm hN b0 b1
        have HNew : Hid (LpR W6 (wr.setCell ⟨g, k, none⟩ (.int .u8 (((x : Int) + 1) % 256))) P M1 (some ⟨g, 0, none⟩) n1 c1) := Lib.hid
          ⟨hbr.setCell (p := ⟨g, k, none⟩) hg _, (heap_setCell_other wr ⟨g, k, none⟩ P _ (Ne.symm hgP)).trans hpr, .inr ⟨g, _, rfl, hgP, hg, hN⟩⟩
        have i1 : (k : Int) < (n1 : Int) := by omega
        have i2 : (k : Int) < 64 := by omega
        clear hN hM hbr hpr hx e0
        go_wp2_with fail
        go_roundw
        case rel => exact ⟨k + 1, by omega, by go_num, HNew.out⟩
        case measure => simp [intOf]; omega
    · have hb2 := HB6.out.trans (hbr.mono HB6.out.size)
      have q1 := str_conv (HO6.out.below hbr)
      have q2 := str_conv (HBm.out.1.below hbr)
      obtain ⟨-, -, -, x34, -⟩ := HH.out.cells ((hbr.block _ (lt_of_block HX6.out)).trans HX6.out)
      obtain ⟨-, -, -, y34, -⟩ := HMo.out.cells ((hbr.block _ (lt_of_block HY6.out)).trans HY6.out)
      have HK := Lib.hid (known_any wr (HL6.out.below hbr))
      have HB2 := Lib.hid hb2
      clear hbr hpr hgr hb2
      generalize strI l = S at q1 q2
      by_cases h1 : k < n1
      · have h2 : ¬ (k : Int) < 64 := by omega
        have i1 : (k : Int) < (n1 : Int) := by omega
        clear hlt h1
        go_wp2_with fail
        refine HK.out.mono ?_
        rintro e w20 ⟨rfl, hb20⟩
        go_wp2
        go_ret
        exact ⟨rfl, HB2.out.trans (hb20.mono HB2.out.size)⟩
      · obtain rfl : k = n1 := by omega
        clear hlt h1
        go_wp2_with fail
        refine HK.out.mono ?_
        rintro e w20 ⟨rfl, hb20⟩
        go_wp2
        go_ret
        exact ⟨rfl, HB2.out.trans (hb20.mono HB2.out.size)⟩
set_option maxRecDepth 100000 in
set_option maxHeartbeats 2000000 in
theorem steps_empty {ad : Addr} (h : MachI MC R fl pc (.slice (some ad) 0 c) fin) (hB : Byn w (some ad) 0 c l) (hR : ∀ j, R j < 4294967296) (hpc : pc < 4294967296) (hL : Laid w) (hn : 0 ≤ 40000) :
    Calls Tryd.prog 9 #[.agg MC] w fun e w' => e = .returned (.bool true) ∧ Below w.heap.size w w' := by
  have hb0 : Below w.heap.size w (w.alloc (.cells MC 52)) := (Below.refl _ _).alloc (Nat.le_refl _) _
  have hx := heap_alloc_new w (.cells MC 52)
  obtain ⟨-, -, -, c34, -⟩ := h.cells hx
  have hs := h.size
  have hone := one_machI h
  have HH := Lib.hid h
  have HBy := Lib.hid hB
  have HL := Lib.hid hL
  have HR := Lib.hid (And.intro hR hpc)
  have HN := Lib.hid hn
  clear h hB hL hR hpc hn
  go_enter Tryd.func9, Tryd.ntmps9
  go_upto_region 1 with fail
  have hX0 : w.heap.size < (w.alloc (.cells MC 52)).heap.size := lt_of_block hx
  generalize World.alloc w _ = W at hx c34 hb0 hX0 ⊢
  obtain ⟨X, hX⟩ : ∃ X, X = w.heap.size := ⟨_, rfl⟩
  rw [← hX] at hx c34 hX0 ⊢
  have HX := Lib.hid hX
  have HB := Lib.hid hb0
  clear hX hb0
  go_upto_region 3 with fail
  have hy := heap_alloc_new W (.cells zeroMC 52)
  have hby : Below W.heap.size W (W.alloc (.cells zeroMC 52)) := (Below.refl _ _).alloc (Nat.le_refl _) _
  have hx1 := (hby.block _ hX0).trans hx
  have hb2 : Below W.heap.size W ((W.alloc (.cells zeroMC 52)).setRow W.heap.size MC) := bel_setRow hby (Nat.le_refl _) MC
  have hy2 := setRow_heap _ W.heap.size _ MC 52 (0, 0) hy
  have hx2 := (hb2.block _ hX0).trans hx
  have HB2 := Lib.hid (HB.out.trans (hb2.mono HB.out.size))
  have hXY : X < W.heap.size := hX0
  clear hby hb2 hX0
  go_upto_region 4 with (first | (refine wpList_load_row rfl _ _ rfl X rfl 52 MC (0, 0) _ (by first | exact hx | exact hx1) Tryd.underlying52 rfl (infoMs hs) ?_) | (refine wpList_store_row rfl _ _ _ rfl W.heap.size MC rfl rfl 52 _ hy (infoMs hs) (by rw [hs]; rfl) hone ?_))
  clear hy hx1 hx c34
  generalize World.setRow _ _ _ = W2 at hy2 hx2 HB2 ⊢
  generalize W.heap.size = Y at hy2 hXY ⊢
  have hba : Below W2.heap.size W2 (W2.alloc (.cells #[] 5)) := (Below.refl _ _).alloc (Nat.le_refl _) _
  have hx3 := (hba.block _ (lt_of_block hx2)).trans hx2
  have hy3 := (hba.block _ (lt_of_block hy2)).trans hy2
  obtain ⟨-, -, -, c34, -⟩ := HH.out.cells hx3
  obtain ⟨-, -, -, y34, -⟩ := HH.out.cells hy3
  obtain ⟨go, hgo⟩ : ∃ g, g = W2.heap.size := ⟨_, rfl⟩
  have f34 : (W2.alloc (.cells #[] 5)).frozen? ⟨Y, 34, none⟩ = false := by simp [World.frozen?, hy3]
  have hx6 := (heap_setCell_other (W2.alloc (.cells #[] 5)) ⟨Y, 34, none⟩ X (.slice (some ⟨W2.heap.size, 0, none⟩) 0 0) (show X ≠ Y by omega)).trans hx3
  have hy6 : ((W2.alloc (.cells #[] 5)).setCell ⟨Y, 34, none⟩ (.slice (some ⟨W2.heap.size, 0, none⟩) 0 0)).heap[Y]? = some (.cells (MC.setIfInBounds 34 (.slice (some ⟨W2.heap.size, 0, none⟩) 0 0)) 52 (0, 0)) := heap_setCell_same _ Y 34 _ _ _ hy3
  have hO6 : Byt ((W2.alloc (.cells #[] 5)).setCell ⟨Y, 34, none⟩ (.slice (some ⟨W2.heap.size, 0, none⟩) 0 0)) (some ⟨W2.heap.size, 0, none⟩) 0 0 l := ⟨HBy.out.1.1, Nat.le_refl _, by omega, fun j hj => absurd hj (by omega), .inl rfl⟩
  have hB6 : Below w.heap.size w ((W2.alloc (.cells #[] 5)).setCell ⟨Y, 34, none⟩ (.slice (some ⟨W2.heap.size, 0, none⟩) 0 0)) := (HB2.out.trans (hba.mono HB2.out.size)).setCell (p := ⟨Y, 34, none⟩) (show w.heap.size ≤ Y by rw [← HX.out]; exact Nat.le_of_lt hXY) _
  have HGo := Lib.hid hgo
  clear hgo hba hx3 hy3 hx2 hy2
  go_upto_region 5 with fail
  clear c34 y34 f34
  rw [← HGo.out] at hx6 hy6 hO6 hB6 ⊢
  generalize World.setCell _ _ _ = W6 at hx6 hy6 hO6 hB6 ⊢
  have HO6 := Lib.hid hO6
  have HX6 := Lib.hid hx6
  have HY6 := Lib.hid hy6
  have HB6 := Lib.hid hB6
  have HBm := Lib.hid (show Byn W6 (some ad) 0 c l from ⟨HBy.out.1.below HB6.out, HBy.out.2⟩)
  have HL6 := Lib.hid (HL.out.below HB6.out)
  have hMo := HH.out.setMem (.slice (some ⟨go, 0, none⟩) 0 0)
  have hso := hMo.size
  have HMo := Lib.hid hMo
  have HP := Lib.hid (step_res hMo ⟨HO6.out, fun h => by cases h⟩ HR.out.1 HR.out.2 HL6.out)
  have HRr := Lib.hid (fun (w1 : World) (h1 : Byn w1 (some ad) 0 c l) => rstep_res HH.out h1 HR.out.1 HR.out.2)
  clear hO6 hB6 hMo
  generalize resF R fl pc fin l = r at HP HRr
  -- Step of the program
  go_wp2_with (refine wpList_load_row rfl _ _ rfl Y rfl 52 _ (0, 0) _ hy6 Tryd.underlying52 rfl (infoMs hso) ?_)
  refine HP.out.mono ?_
  rintro e w7 ⟨M1, rfl, hres, hb7⟩
  have hx7 := (hb7.block _ (lt_of_block hx6)).trans hx6
  have hy7 := (hb7.block _ (lt_of_block hy6)).trans hy6
  have h4 := heap_alloc_new w7 (.cells zeroMC 52)
  have hbp : Below w7.heap.size w7 ((w7.alloc (.cells zeroMC 52)).setRow w7.heap.size M1) := bel_setRow ((Below.refl _ _).alloc (Nat.le_refl _) _) (Nat.le_refl _) M1
  have hp8 := setRow_heap _ w7.heap.size _ M1 52 (0, 0) h4
  have hx8 := (hbp.block _ (lt_of_block hx7)).trans hx7
  have hy8 := (hbp.block _ (lt_of_block hy7)).trans hy7
  have hr8 := hres.below hbp
  have HB8 := Lib.hid (show Below W6.heap.size W6 _ from hb7.trans (hbp.mono hb7.size))
  obtain ⟨A1, c1, hV1, hg1⟩ := hr8
  have hg7 : r.L.length = 0 ∨ ∃ g, A1 = some ⟨g, 0, none⟩ ∧ W6.heap.size ≤ g ∧ g ≠ w7.heap.size ∧ MemC ((w7.alloc (.cells zeroMC 52)).setRow w7.heap.size M1) g r.L.length c1 r.L := by
    obtain ⟨A1', c1', hV1', hg7⟩ := hres
    have e : A1' = A1 ∧ c1' = c1 := by
      have q := hV1'.mem.symm.trans hV1.mem
      cases q
      exact ⟨rfl, rfl⟩
    obtain ⟨rfl, rfl⟩ := e
    rcases hg7 with h0 | ⟨g, rfl, hg, hM⟩
    · exact .inl h0
    · exact .inr ⟨g, rfl, hg, Nat.ne_of_lt hM.lt, hM.below hbp⟩
  have hs1 := hV1.size
  have hone1 := one_mach hV1
  have HV1 := Lib.hid hV1
  have HG1 := Lib.hid hg7
  clear hres hb7 hx6 hy6 hx7 hy7 hbp hV1 hg1 hg7 HP
  go_upto_region 6 with (refine wpList_store_row rfl _ _ _ rfl w7.heap.size M1 rfl rfl 52 _ h4 (infoMs hs1) (by rw [hs1]; rfl) hone1 ?_)
  clear h4 hone1
  generalize World.setRow _ _ _ = W8 at hp8 hx8 hy8 HB8 HG1 ⊢
  generalize w7.heap.size = P at hp8 HG1 ⊢
  -- Step of the reference
  have HRr8 := Lib.hid (HRr.out W8 ⟨HBm.out.1.below HB8.out, HBm.out.2⟩)
  clear HRr
  go_wp2_with (refine wpList_load_row rfl _ _ rfl X rfl 52 MC (0, 0) _ hx8 Tryd.underlying52 rfl (infoMs hs) ?_)
  refine HRr8.out.mono ?_
  rintro e w9 ⟨M2, rfl, hres, hb9⟩
  have hp9 := (hb9.block _ (lt_of_block hp8)).trans hp8
  have hx9 := (hb9.block _ (lt_of_block hx8)).trans hx8
  have hy9 := (hb9.block _ (lt_of_block hy8)).trans hy8
  have h4 := heap_alloc_new w9 (.cells zeroMC 52)
  have hbq : Below w9.heap.size w9 ((w9.alloc (.cells zeroMC 52)).setRow w9.heap.size M2) := bel_setRow ((Below.refl _ _).alloc (Nat.le_refl _) _) (Nat.le_refl _) M2
  have hq10 := setRow_heap _ w9.heap.size _ M2 52 (0, 0) h4
  have hb10 := hb9.trans (hbq.mono hb9.size)
  have hp10 := (hbq.block _ (lt_of_block hp9)).trans hp9
  have hx10 := (hbq.block _ (lt_of_block hx9)).trans hx9
  have hy10 := (hbq.block _ (lt_of_block hy9)).trans hy9
  obtain ⟨A2, c2, hV2, hg2⟩ := hres.below hbq
  have hs2 := hV2.size
  have hone2 := one_mach hV2
  have HV2 := Lib.hid hV2
  have HG2 := Lib.hid hg2
  have HG3 : Hid (r.L.length = 0 ∨ ∃ g, A1 = some ⟨g, 0, none⟩ ∧ W6.heap.size ≤ g ∧ g ≠ P ∧ MemC ((w9.alloc (.cells zeroMC 52)).setRow w9.heap.size M2) g r.L.length c1 r.L) := Lib.hid (by
    rcases HG1.out with h0 | ⟨g, rfl, hg, hgP, hM⟩
    · exact .inl h0
    · exact .inr ⟨g, rfl, hg, hgP, hM.below hb10⟩)
  have HB10 := Lib.hid (HB8.out.trans (hb10.mono HB8.out.size))
  clear hres hb9 hp8 hx8 hy8 hp9 hx9 hy9 hbq hb10 hV2 hg2 HRr8 HG1 HB8
  go_upto_region 7 with (refine wpList_store_row rfl _ _ _ rfl w9.heap.size M2 rfl rfl 52 _ h4 (infoMs hs2) (by rw [hs2]; rfl) hone2 ?_)
  clear h4 hone2
  generalize World.setRow _ _ _ = W10 at hq10 hp10 hx10 hy10 HB10 HG2 HG3 ⊢
  generalize w9.heap.size = Q at hq10 ⊢
  -- both are the same
  have HSm := Lib.hid (sameM_yes (w := W10) HV1.out HV2.out (strI r.L)
    (fun w1 hb => conv_of rfl (by rcases HG3.out with h0 | ⟨g, rfl, -, -, hM⟩; exact .inl h0; exact .inr ⟨g, rfl, hM.below hb⟩))
    (fun w1 hb => conv_of rfl (by rcases HG2.out with h0 | ⟨g, rfl, -, hM⟩; exact .inl h0; exact .inr ⟨g, rfl, hM.below hb⟩)))
  go_wp2_with (first | (refine wpList_load_row rfl _ _ rfl P rfl 52 M1 (0, 0) _ hp10 Tryd.underlying52 rfl (infoMs hs1) ?_) | (refine wpList_load_row rfl _ _ rfl Q rfl 52 M2 (0, 0) _ hq10 Tryd.underlying52 rfl (infoMs hs2) ?_))
  refine HSm.out.mono ?_
  rintro e w11 ⟨rfl, hb11⟩
  have hp11 := (hb11.block _ (lt_of_block hp10)).trans hp10
  have hx11 := (hb11.block _ (lt_of_block hx10)).trans hx10
  have hy11 := (hb11.block _ (lt_of_block hy10)).trans hy10
  have hlp : LpR W6 w11 P M1 A1 r.L.length c1 := by
    refine ⟨HB10.out.trans (hb11.mono HB10.out.size), hp11, ?_⟩
    rcases HG3.out with h0 | ⟨g, rfl, hg, hgP, hM⟩
    · exact .inl h0
    · exact .inr ⟨g, r.L, rfl, hgP, hg, hM.below hb11⟩
  have HLp := Lib.hid hlp
  clear hp10 hx10 hy10 hq10 hp11 hb11 hlp HSm HG2 HG3 HB10 hs1 hs2 hs hso
  generalize hn1 : r.L.length = n1 at HLp HV1
  clear hn1
  go_upto_region 10 with fail
  clear hx11 hy11 hone
  go_loopw [8] (fun zi wr => ∃ k : Nat, k ≤ n1 ∧ zi = .int .i64 (k : Int) ∧ LpR W6 wr P M1 A1 n1 c1) (fun zi _ => n1 - (intOf zi).toNat)
  case atStart => exact ⟨0, by omega, rfl, HLp.out⟩
  case round =>
    obtain ⟨k, hk, rfl, hbr, hpr, hgr⟩ := hrel
    obtain ⟨-, -, -, p34, -⟩ := (HV1.out.mac hpr).cells
    by_cases hlt : k < n1 ∧ k < 64
    · obtain ⟨h1, h2⟩ := hlt
      rcases hgr with h0 | ⟨g, L, rfl, hgP, hg, hM⟩
      · omega
      · obtain ⟨B, off, e0, -, cm, b0, b1⟩ := hM.byt.at_ h1
        have fm := hM.free k
        obtain ⟨rfl, rfl⟩ : g = B ∧ 0 = off := by
          cases e0
          exact ⟨rfl, rfl⟩
        rw [Nat.zero_add] at cm
        have hN := hM.set k h1 ((L[k]! + 1) % 256) (by omega)
        obtain ⟨x, hx⟩ : ∃ x : Nat, L[k]! = (x : Int) := ⟨(L[k]!).toNat, by omega⟩
        rw [hx] at cm hN b0 b1
        have HNew : Hid (LpR W6 (wr.setCell ⟨g, k, none⟩ (.int .u8 (((x : Int) + 1) % 256))) P M1 (some ⟨g, 0, none⟩) n1 c1) := Lib.hid
          ⟨hbr.setCell (p := ⟨g, k, none⟩) hg _, (heap_setCell_other wr ⟨g, k, none⟩ P _ (Ne.symm hgP)).trans hpr, .inr ⟨g, _, rfl, hgP, hg, hN⟩⟩
        have i1 : (k : Int) < (n1 : Int) := by omega
        have i2 : (k : Int) < 64 := by omega
        clear hN hM hbr hpr hx e0
        go_wp2_with fail
        go_roundw
        case rel => exact ⟨k + 1, by omega, by go_num, HNew.out⟩
        case measure => simp [intOf]; omega
    · have hb2 := HB6.out.trans (hbr.mono HB6.out.size)
      have q1 := str_conv (HO6.out.below hbr)
      have q2 := str_conv (HBm.out.1.below hbr)
      obtain ⟨-, -, -, x34, -⟩ := HH.out.cells ((hbr.block _ (lt_of_block HX6.out)).trans HX6.out)
      obtain ⟨-, -, -, y34, -⟩ := HMo.out.cells ((hbr.block _ (lt_of_block HY6.out)).trans HY6.out)
      have HK := Lib.hid (known_any wr (HL6.out.below hbr))
      have HB2 := Lib.hid hb2
      clear hbr hpr hgr hb2
      generalize strI l = S at q1 q2
      by_cases h1 : k < n1
      · have h2 : ¬ (k : Int) < 64 := by omega
        have i1 : (k : Int) < (n1 : Int) := by omega
        clear hlt h1
        go_wp2_with fail
        refine HK.out.mono ?_
        rintro e w20 ⟨rfl, hb20⟩
        go_wp2
        go_ret
        exact ⟨rfl, HB2.out.trans (hb20.mono HB2.out.size)⟩
      · obtain rfl : k = n1 := by omega
        clear hlt h1
        go_wp2_with fail
        refine HK.out.mono ?_
        rintro e w20 ⟨rfl, hb20⟩
        go_wp2
        go_ret
        exact ⟨rfl, HB2.out.trans (hb20.mono HB2.out.size)⟩
theorem steps_walk (h : MachI MC R fl pc (.slice A n c) fin) (hR : ∀ j, R j < 4294967296) (hpc : pc < 4294967296) (hB : Byn w A n c l) (hL : Laid w) : Calls Tryd.prog 9 #[.agg MC] w fun e w' => e = .returned (.bool true) ∧ Below w.heap.size w w' := by
  by_cases hn : n ≤ 40000
  · by_cases h0 : n = 0
    · subst h0
      rcases A with _ | ad
      · have hc := hB.2 rfl
        subst hc
        exact steps_nil h hB hR hpc hL (by decide)
      · exact steps_empty h hB hR hpc hL (by decide)
    · exact steps_some h hB hR hpc hL hn (by omega)
  · exact steps_long h hL hn
end
end Go.Proofs.YthkaclmnbahieaaDoor
