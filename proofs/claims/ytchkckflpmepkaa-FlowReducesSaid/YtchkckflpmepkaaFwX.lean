/-
  loop of the reference.
-/
import Derived.Test.YtchkckflpmepkaaFwW
import Derived.Deep.RegionHeld3
namespace Go.Proofs.Ytchkckflpmepkaa
open Go.RowKit

/-- The loop of a head by the reference, behind some edges. -/
def rlE (G : List (List Nat)) (h : Nat) (E : List Edg) : NS := fun j => decide (∃ e ∈ E, e.2 = h ∧ (j = h ∨ wy G (-1) 0 j = true ∧ wy G (h : Int) j e.1 = true))
/-- .. and behind some nodes of one more edge. -/
def rlP (G : List (List Nat)) (h : Nat) (E : List Edg) (s k : Nat) : NS := fun j => rlE G h E j || (decide (j = h) || (decide (j < k) && (wy G (-1) 0 j && wy G (h : Int) j s)))
theorem keepR {I k : Nat} {a b : World} (h : KeepS I a b) : KeepS I a (b.drewN k) := ⟨h.os, h.tape, h.output, h.size, h.block⟩
theorem BoolB.no_int {w : World} {B n : Nat} {s : NS} (h : BoolB w B n s) {o : Nat} {k : IntKind} {x : Int} (hc : w.cell? ⟨B, o, none⟩ = some (.int k x)) : False := by
  obtain ⟨arr, h1, h2, h3⟩ := h
  simp only [World.cell?, h1] at hc
  by_cases ho : o < n
  · rw [h3 o ho] at hc
    cases hc
  · rw [Array.getElem?_eq_none (by omega)] at hc
    cases hc
theorem edg_keepB {w wr : World} {A : Option Addr} {m S n : Nat} {s : NS} {l : List Edg} (h : m = 0 ∨ ∃ b off, A = some ⟨b, off, none⟩ ∧ b < w.heap.size ∧ ∀ j, j < m → w.cell? ⟨b, off + j * 2, none⟩ = some (.int .i64 ((l[j]!).1 : Int)) ∧ w.cell? ⟨b, off + j * 2 + 1, none⟩ = some (.int .i64 ((l[j]!).2 : Int)))
    (hS : BoolB w S n s) (hk : KeepS S w wr) {j : Nat} (hj : j < m) : ∃ b off, A = some ⟨b, off, none⟩ ∧ b < wr.heap.size ∧ wr.cell? ⟨b, off + j * 2, none⟩ = some (.int .i64 ((l[j]!).1 : Int)) ∧ wr.cell? ⟨b, off + j * 2 + 1, none⟩ = some (.int .i64 ((l[j]!).2 : Int)) := by
  rcases h with h | ⟨b, off, h4, h5, h6⟩
  · omega
  · have hne : b ≠ S := fun e => by
      subst e
      exact hS.no_int (h6 j hj).1
    have hblk := hk.block b h5 hne
    exact ⟨b, off, h4, Nat.lt_of_lt_of_le h5 hk.size, (World.cell?_of_block (w := w) hblk).trans (h6 j hj).1, (World.cell?_of_block (w := w) hblk).trans (h6 j hj).2⟩
section
variable {G : List (List Nat)} {h : Nat} {E : List Edg} {s k : Nat}
theorem rlE_nil (j : Nat) : non j = rlE G h [] j := by simp [rlE, non]
theorem rlE_skip {i : Nat} (hi : i < E.length) (he : E[i]!.2 ≠ h) (j : Nat) : rlE G h (E.take i) j = rlE G h (E.take (i + 1)) j := by
  unfold rlE
  rw [takeE_succ hi, decide_eq_decide]
  constructor
  · rintro ⟨x, hx, hh⟩
    exact ⟨x, List.mem_append_left _ hx, hh⟩
  · rintro ⟨x, hx, hh⟩
    rcases List.mem_append.1 hx with hx | hx
    · exact ⟨x, hx, hh⟩
    · rw [List.mem_singleton] at hx
      rw [hx] at hh
      exact absurd hh.1 he
theorem rlP_zero (j : Nat) : put (rlE G h E) h j = rlP G h E s 0 j := by
  unfold put rlP
  split
  · rename_i e
    simp [e]
  · rename_i e
    simp [e]
theorem rlP_same (hs : (k ≠ h ∧ wy G (-1) 0 k = true ∧ wy G (h : Int) k s = true) → False) (j : Nat) : rlP G h E s k j = rlP G h E s (k + 1) j := by
  unfold rlP
  rw [Bool.eq_iff_iff]
  simp only [Bool.or_eq_true, Bool.and_eq_true, decide_eq_true_eq]
  constructor
  · rintro (h1 | h1 | ⟨h1, h2, h3⟩)
    · exact .inl h1
    · exact .inr (.inl h1)
    · exact .inr (.inr ⟨by omega, h2, h3⟩)
  · rintro (h1 | h1 | ⟨h1, h2, h3⟩)
    · exact .inl h1
    · exact .inr (.inl h1)
    · by_cases e : j = k
      · subst e
        by_cases eh : j = h
        · exact .inr (.inl eh)
        · exact (hs ⟨eh, h2, h3⟩).elim
      · exact .inr (.inr ⟨by omega, h2, h3⟩)
theorem rlP_put (h1 : wy G (-1) 0 k = true) (h2 : wy G (h : Int) k s = true) (j : Nat) : put (rlP G h E s k) k j = rlP G h E s (k + 1) j := by
  unfold put rlP
  split
  · rename_i e
    subst e
    rw [h1, h2]
    simp
  · rename_i e
    rw [Bool.eq_iff_iff]
    simp only [Bool.or_eq_true, Bool.and_eq_true, decide_eq_true_eq]
    constructor
    · rintro (h1 | h1 | ⟨h1, h2, h3⟩)
      · exact .inl h1
      · exact .inr (.inl h1)
      · exact .inr (.inr ⟨by omega, h2, h3⟩)
    · rintro (h1 | h1 | ⟨h1, h2, h3⟩)
      · exact .inl h1
      · exact .inr (.inl h1)
      · exact .inr (.inr ⟨by omega, h2, h3⟩)
theorem rlP_end (_ : okG G) {i : Nat} (hi : i < E.length) (he : E[i]!.2 = h) (j : Nat) (hj : j < G.length) : rlP G h (E.take i) E[i]!.1 G.length j = rlE G h (E.take (i + 1)) j := by
  unfold rlP
  rw [Bool.eq_iff_iff]
  simp only [Bool.or_eq_true, Bool.and_eq_true, decide_eq_true_eq]
  unfold rlE
  rw [takeE_succ hi]
  simp only [decide_eq_true_eq]
  constructor
  · rintro (⟨x, hx, hh⟩ | h1 | ⟨_, h2, h3⟩)
    · exact ⟨x, List.mem_append_left _ hx, hh⟩
    · exact ⟨E[i]!, by simp, he, .inl h1⟩
    · exact ⟨E[i]!, by simp, he, .inr ⟨h2, h3⟩⟩
  · rintro ⟨x, hx, hh⟩
    rcases List.mem_append.1 hx with hx | hx
    · exact .inl ⟨x, hx, hh⟩
    · rw [List.mem_singleton] at hx
      subst hx
      rcases hh.2 with h1 | ⟨h2, h3⟩
      · exact .inr (.inl h1)
      · exact .inr (.inr ⟨hj, h2, h3⟩)
end
section
variable {w : World} {A : Option Addr} {n c : Nat} {G : List (List Nat)}
set_option maxRecDepth 100000 in
set_option maxHeartbeats 8000000 in
theorem refLoop_any (hG : okG G) (h : MG w A n c G) (hd : Nat) (hdn : hd < n) : Calls Try.prog 60 #[.slice A n c, .int .i64 (hd : Int)] w fun e w' => ∃ g, e = .returned (.slice (some ⟨g, 0, none⟩) n n) ∧ BoolB w' g n (rlE G hd (bkL G)) ∧ w.heap.size ≤ g ∧ Below w.heap.size w w' := by
  obtain ⟨i0, hi, hz0, hz1, hz2⟩ := info_parts infoB
  have n10 : n ≤ 10 := by rw [h.1]; exact hG.2.1
  have n1 : 0 < n := by rw [h.1]; exact hG.1
  have hcap := h.2.1
  have hmax := h.2.2.1
  have HRE := Lib.hid (fun w1 (hb : Below w.heap.size w w1) => reach_any hG (h.below hb) 0 n1 (-1))
  have HRC := Lib.hid (fun w1 (hb : Below w.heap.size w w1) a ha => reach_any hG (h.below hb) a ha (hd : Int))
  have HBK := Lib.hid (fun w1 (hb : Below w.heap.size w w1) => refBacks_any hG (h.below hb))
  have HLT := Lib.hid (fun i (hi : i < (bkL G).length) => show (bkL G)[i]!.1 < n by
    have hm : (bkL G)[i]! ∈ bkL G := by rw [show (bkL G)[i]! = (bkL G)[i] by simp [hi]]; exact List.getElem_mem _
    rw [h.1]
    exact (bkL_mem hG hm).1)
  have hEl := bkL_len (G := G)
  have HF := Lib.hid (show rlE G hd (bkL G) = rlE G hd ((bkL G).take (bkL G).length) by rw [List.take_length])
  have HSK := Lib.hid (fun i hi he j => rlE_skip (G := G) (h := hd) (E := bkL G) (i := i) hi he j)
  have HPE := Lib.hid (fun i hi he j hj => h.1 ▸ rlP_end (h := hd) (E := bkL G) hG (i := i) hi he j (h.1 ▸ hj))
  generalize rlE G hd (bkL G) = Z at HF ⊢
  generalize bkL G = E at HBK HLT hEl HF HSK HPE
  obtain ⟨T, hT⟩ : ∃ T, T = wy G (-1) 0 := ⟨_, rfl⟩
  rw [← hT] at HRE
  have HT := Lib.hid hT
  clear h hG hT
  go_enter Try.func60, Try.ntmps60
  go_upto_region 2 with (refine wpList_make_row _ rfl _ _ 56 rfl 4 i0 (.bool false) Try.underlying56 hi hz0 hz1 rfl .i64 .i64 n rfl rfl (by rw [hz2]; omega) (by omega) ?_)
  have hb0 : Below w.heap.size w (w.alloc (.cells (madeCells #[.bool false] n) 4)) := (Below.refl _ _).alloc (Nat.le_refl _) _
  have hO := BoolB.made w n
  generalize World.alloc w _ = W0 at hb0 hO ⊢
  go_wp2_with fail
  have hO0 := hO.lt
  refine (HRE.out W0 hb0).mono ?_
  rintro e w1 ⟨gT, rfl, hB, hgT, hb1⟩
  replace hO := hO.below hb1
  have hb2 := hb0.trans (hb1.mono hb0.size)
  have hgO : gT ≠ w.heap.size := by omega
  clear hb0 hb1 hgT hO0
  go_wp2_with fail
  refine (HBK.out w1 hb2).mono ?_
  rintro e w2 ⟨vE, rfl, hE, hb3⟩
  replace hO := hO.below hb3
  replace hB := hB.below hb3
  have hb4 := hb2.trans (hb3.mono hb2.size)
  clear hb2 hb3
  obtain ⟨AE, m, cE, rfl, hm, hcE, hmE, hcells⟩ := hE
  subst hm
  have HCE := Lib.hid hcells
  have HO1 := Lib.hid hO
  have HBT := Lib.hid hB
  clear hcells hB
  go_wp2
  go_loopw [8] (fun zi wr => ∃ i : Nat, i ≤ E.length ∧ zi = .int .i64 (i : Int) ∧ Below w.heap.size w wr ∧ BoolB wr w.heap.size n (rlE G hd (E.take i)) ∧ KeepS w.heap.size w2 wr) (fun zi _ => E.length - (intOf zi).toNat)
  case atStart => exact ⟨0, by omega, rfl, hb4, hO.congr (fun j _ => rlE_nil j), KeepS.refl _ _⟩
  case round =>
    clear hb4 hO
    obtain ⟨i, hi, rfl, hb, hO, hK⟩ := hrel
    by_cases hlt : i < E.length
    · obtain ⟨b', off', rfl, hbs', hc1, hc2⟩ := edg_keepB HCE.out HO1.out hK hlt
      have hp := HLT.out i hlt
      by_cases hq : E[i]!.2 = hd
      · have HPE1 := Lib.hid (HPE.out i hlt hq)
        rw [hq] at hc2
        obtain ⟨p, hpE⟩ : ∃ p, E[i]!.1 = p := ⟨_, rfl⟩
        rw [hpE] at hc1 hp HPE1
        have HPP := Lib.hid hpE
        have e1 : ((hd : Int) != (hd : Int)) = false := by simp
        obtain ⟨hcell, hfree⟩ := hO.cell hdn
        generalize rlE G hd (E.take i) hd = cb at hcell
        have hO2 := (hO.put hd).congr (fun j _ => rlP_zero (s := p) j)
        have hb2 := hb.setCell (p := ⟨w.heap.size, hd, none⟩) (Nat.le_refl _) (.bool true)
        have hK2 := hK.set hd (.bool true)
        clear hpE hq
        go_upto_region 9 with fail
        generalize World.setCell wr _ _ = W3 at hO2 hb2 hK2 ⊢
        clear hO hb hK hcell hfree hc1 hc2 hbs'
        go_wp2
        go_loopw [9] (fun zi wr => ∃ k : Nat, k ≤ n ∧ zi = .int .i64 (k : Int) ∧ Below w.heap.size w wr ∧ BoolB wr w.heap.size n (rlP G hd (E.take i) p k) ∧ KeepS w.heap.size w2 wr) (fun zi _ => n - (intOf zi).toNat)
        case atStart => exact ⟨0, by omega, rfl, hb2, hO2, hK2⟩
        case round =>
          clear hO2 hb2 hK2
          obtain ⟨k, hk, rfl, hb, hO, hK⟩ := hrel
          by_cases hkl : k < n
          · by_cases hkh : k = hd
            · have hO2 := hO.congr (fun j _ => rlP_same (G := G) (h := hd) (E := E.take i) (s := p) (k := k) (fun hh => hh.1 hkh) j)
              have e2 : ((k : Int) != (hd : Int)) = false := by rw [hkh]; simp
              have HO2 := Lib.hid hO2
              clear hO hO2 hkh
              go_wp2
              go_region
              go_wp2
              go_roundw
              case rel => exact ⟨k + 1, by omega, by go_num, drewR hb, HO2.out, keepR hK⟩
              case measure => simp [intOf]; omega
            · have e2 : ((k : Int) != (hd : Int)) = true := by simp; omega
              obtain ⟨hcT, -⟩ := (HBT.out.block (hK.block _ HBT.out.lt hgO)).cell hkl
              have hgTl := Nat.lt_of_lt_of_le HBT.out.lt hK.size
              cases hT : T k
              · rw [hT] at hcT
                have hO2 := hO.congr (fun j _ => rlP_same (G := G) (h := hd) (E := E.take i) (s := p) (k := k) (fun hh => by rw [← HT.out, hT] at hh; cases hh.2.1) j)
                have HO2 := Lib.hid hO2
                clear hO hO2 hkh hT
                go_wp2
                go_region
                go_wp2
                go_roundw
                case rel => exact ⟨k + 1, by omega, by go_num, drewR hb, HO2.out, keepR hK⟩
                case measure => simp [intOf]; omega
              · rw [hT] at hcT
                obtain ⟨b', off', q1, hbs', hc1, -⟩ := edg_keepB HCE.out HO1.out hK hlt
                injection q1 with q1
                injection q1 with q1 q2 _
                subst q1 q2
                rw [HPP.out] at hc1
                have hbw := hb
                have HS := Lib.hid (show ∀ W, Below wr.heap.size wr W → W.cell? ⟨gT, k, none⟩ = some (.bool true) ∧ W.cell? ⟨b', off' + i * 2, none⟩ = some (.int .i64 (p : Int)) from fun W h => ⟨(h.cell (p := ⟨gT, k, none⟩) hgTl).trans hcT, (h.cell (p := ⟨b', off' + i * 2, none⟩) hbs').trans hc1⟩)
                obtain ⟨B, hB⟩ : ∃ B, wy G (hd : Int) k p = B := ⟨_, rfl⟩
                have HR2 := Lib.hid (fun W (hW : Below wr.heap.size wr W) => (HRC.out W (hbw.trans (hW.mono hbw.size)) k hkl).mono (R' := fun e w' => ∃ g, e = .returned (.slice (some ⟨g, 0, none⟩) n n) ∧ w'.cell? ⟨g, p, none⟩ = some (.bool B) ∧ g < w'.heap.size ∧ Below wr.heap.size wr w') (fun e w' ⟨g, h1, h2, _, h4⟩ => ⟨g, h1, by rw [← hB]; exact (h2.cell hp).1, h2.lt, hW.trans (h4.mono hW.size)⟩))
                have HO := Lib.hid hO
                cases B
                · have hO2 := Lib.hid (hO.congr (fun j _ => rlP_same (G := G) (h := hd) (E := E.take i) (s := p) (k := k) (fun hh => by rw [hB] at hh; cases hh.2.2) j))
                  clear hO hkh hT hB hbw
                  go_wp2
                  refine wp_region_held_drew (S := (fun W => W.cell? ⟨gT, k, none⟩ = some (.bool true) ∧ W.cell? ⟨b', off' + i * 2, none⟩ = some (.int .i64 (p : Int)))) (by kernel_rfl) ?_ (fun hHeld => ?_)
                  · exact HS.out _ (drewR (Below.refl _ _))
                  refine wpAnyH_take (i := 0) (oi := ({ dst := some 39, op := Op.move (Operand.tmp 9), type := 3, pos := "ref.go:218", after := #[], guard := none } : Oper)) (v := ?av0) rfl (by kernel_rfl) (by kernel_rfl) (by kernel_rfl) (fun _ _ _ h => h) (Or.inl ⟨by rfl, ?ay0⟩) (by assumption) ?ar0
                  case ay0 =>
                    intro w hSw
                    (try dsimp only at hSw)
                    go_simp
                    (try with_reducible rfl)
                  try simp only [Act.put, List.setIfInBounds_toArray, List.set_cons_zero, List.set_cons_succ]
                  refine wpAnyH_take (i := 1) (oi := ({ dst := some 40, op := Op.move (Operand.tmp 1), type := 3, pos := "ref.go:218", after := #[], guard := none } : Oper)) (v := ?av1) rfl (by kernel_rfl) (by kernel_rfl) (by kernel_rfl) (fun _ _ _ h => h) (Or.inl ⟨by rfl, ?ay1⟩) (by assumption) ?ar1
                  case ay1 =>
                    intro w hSw
                    (try dsimp only at hSw)
                    go_simp
                    (try with_reducible rfl)
                  try simp only [Act.put, List.setIfInBounds_toArray, List.set_cons_zero, List.set_cons_succ]
                  refine wpAnyH_take (i := 2) (oi := ({ dst := some 41, op := Op.binOp BinOp.neq 3 (Operand.tmp 39) (Operand.tmp 40) 3, type := 4, pos := "ref.go:218", after := #[{ on := 0, ground := Ground.data }, { on := 1, ground := Ground.data }], guard := none } : Oper)) (v := ?av2) rfl (by kernel_rfl) (by kernel_rfl) (by kernel_rfl) (fun _ _ _ h => h) (Or.inl ⟨by rfl, ?ay2⟩) (by assumption) ?ar2
                  case ay2 =>
                    intro w hSw
                    (try dsimp only at hSw)
                    go_simp
                    (try with_reducible rfl)
                  try simp only [Act.put, List.setIfInBounds_toArray, List.set_cons_zero, List.set_cons_succ]
                  refine wpAnyH_take (i := 3) (oi := ({ dst := some 42, op := Op.move (Operand.tmp 41), type := 4, pos := "ref.go:218", after := #[{ on := 2, ground := Ground.data }], guard := none } : Oper)) (v := ?av3) rfl (by kernel_rfl) (by kernel_rfl) (by kernel_rfl) (fun _ _ _ h => h) (Or.inl ⟨by rfl, ?ay3⟩) (by assumption) ?ar3
                  case ay3 =>
                    intro w hSw
                    (try dsimp only at hSw)
                    go_simp
                    (try with_reducible rfl)
                  try simp only [Act.put, List.setIfInBounds_toArray, List.set_cons_zero, List.set_cons_succ]
                  refine wpAnyH_take (i := 4) (oi := ({ dst := some 43, op := Op.move (Operand.tmp 6), type := 56, pos := "ref.go:218", after := #[{ on := 3, ground := Ground.guard }], guard := some (3, true) } : Oper)) (v := ?av4) rfl (by kernel_rfl) (by kernel_rfl) (by kernel_rfl) (fun _ _ _ h => h) (Or.inl ⟨by rfl, ?ay4⟩) (by assumption) ?ar4
                  case ay4 =>
                    intro w hSw
                    (try dsimp only at hSw)
                    go_simp
                    (try with_reducible rfl)
                  try simp only [Act.put, List.setIfInBounds_toArray, List.set_cons_zero, List.set_cons_succ]
                  refine wpAnyH_take (i := 5) (oi := ({ dst := some 44, op := Op.move (Operand.tmp 9), type := 3, pos := "ref.go:218", after := #[{ on := 3, ground := Ground.guard }], guard := some (3, true) } : Oper)) (v := ?av5) rfl (by kernel_rfl) (by kernel_rfl) (by kernel_rfl) (fun _ _ _ h => h) (Or.inl ⟨by rfl, ?ay5⟩) (by assumption) ?ar5
                  case ay5 =>
                    intro w hSw
                    (try dsimp only at hSw)
                    go_simp
                    (try with_reducible rfl)
                  try simp only [Act.put, List.setIfInBounds_toArray, List.set_cons_zero, List.set_cons_succ]
                  refine wpAnyH_take (i := 6) (oi := ({ dst := some 45, op := Op.indexAddr 56 (Operand.tmp 43) (Operand.tmp 44), type := 0, pos := "ref.go:218", after := #[{ on := 4, ground := Ground.data }, { on := 5, ground := Ground.data }, { on := 3, ground := Ground.guard }], guard := some (3, true) } : Oper)) (v := ?av6) rfl (by kernel_rfl) (by kernel_rfl) (by kernel_rfl) (fun _ _ _ h => h) (Or.inl ⟨by rfl, ?ay6⟩) (by assumption) ?ar6
                  case ay6 =>
                    intro w hSw
                    (try dsimp only at hSw)
                    go_simp
                    (try with_reducible rfl)
                  try simp only [Act.put, List.setIfInBounds_toArray, List.set_cons_zero, List.set_cons_succ]
                  refine wpAnyH_take (i := 7) (oi := ({ dst := some 46, op := Op.load 4 (Operand.tmp 45), type := 4, pos := "ref.go:218", after := #[{ on := 6, ground := Ground.data }, { on := 3, ground := Ground.guard }], guard := some (3, true) } : Oper)) (v := ?av7) rfl (by kernel_rfl) (by kernel_rfl) (by kernel_rfl) (fun _ _ _ h => h) (Or.inl ⟨by rfl, ?ay7⟩) (by assumption) ?ar7
                  case ay7 =>
                    intro w hSw
                    (try dsimp only at hSw)
                    go_simp
                    (try with_reducible rfl)
                  try simp only [Act.put, List.setIfInBounds_toArray, List.set_cons_zero, List.set_cons_succ]
                  refine wpAnyH_take (i := 8) (oi := ({ dst := some 47, op := Op.pick (Operand.tmp 42) (Operand.tmp 46) (Operand.const (Value.bool false)), type := 4, pos := "ref.go:218", after := #[{ on := 3, ground := Ground.data }, { on := 7, ground := Ground.data }], guard := none } : Oper)) (v := ?av8) rfl (by kernel_rfl) (by kernel_rfl) (by kernel_rfl) (fun _ _ _ h => h) (Or.inl ⟨by rfl, ?ay8⟩) (by assumption) ?ar8
                  case ay8 =>
                    intro w hSw
                    (try dsimp only at hSw)
                    go_simp
                    (try with_reducible rfl)
                  try simp only [Act.put, List.setIfInBounds_toArray, List.set_cons_zero, List.set_cons_succ]
                  refine wpAnyH_take (i := 9) (oi := ({ dst := some 48, op := Op.move (Operand.tmp 47), type := 4, pos := "ref.go:218", after := #[{ on := 8, ground := Ground.data }, { on := 3, ground := Ground.chain }], guard := none } : Oper)) (v := ?av9) rfl (by kernel_rfl) (by kernel_rfl) (by kernel_rfl) (fun _ _ _ h => h) (Or.inl ⟨by rfl, ?ay9⟩) (by assumption) ?ar9
                  case ay9 =>
                    intro w hSw
                    (try dsimp only at hSw)
                    go_simp
                    (try with_reducible rfl)
                  try simp only [Act.put, List.setIfInBounds_toArray, List.set_cons_zero, List.set_cons_succ]
                  refine wpAnyH_take (i := 10) (oi := ({ dst := some 49, op := Op.move (Operand.tmp 0), type := 22, pos := "ref.go:218", after := #[{ on := 9, ground := Ground.guard }], guard := some (9, true) } : Oper)) (v := ?av10) rfl (by kernel_rfl) (by kernel_rfl) (by kernel_rfl) (fun _ _ _ h => h) (Or.inl ⟨by rfl, ?ay10⟩) (by assumption) ?ar10
                  case ay10 =>
                    intro w hSw
                    (try dsimp only at hSw)
                    go_simp
                    (try with_reducible rfl)
                  try simp only [Act.put, List.setIfInBounds_toArray, List.set_cons_zero, List.set_cons_succ]
                  refine wpAnyH_take (i := 11) (oi := ({ dst := some 50, op := Op.move (Operand.tmp 9), type := 3, pos := "ref.go:218", after := #[{ on := 9, ground := Ground.guard }], guard := some (9, true) } : Oper)) (v := ?av11) rfl (by kernel_rfl) (by kernel_rfl) (by kernel_rfl) (fun _ _ _ h => h) (Or.inl ⟨by rfl, ?ay11⟩) (by assumption) ?ar11
                  case ay11 =>
                    intro w hSw
                    (try dsimp only at hSw)
                    go_simp
                    (try with_reducible rfl)
                  try simp only [Act.put, List.setIfInBounds_toArray, List.set_cons_zero, List.set_cons_succ]
                  refine wpAnyH_take (i := 12) (oi := ({ dst := some 51, op := Op.move (Operand.tmp 1), type := 3, pos := "ref.go:218", after := #[{ on := 9, ground := Ground.guard }], guard := some (9, true) } : Oper)) (v := ?av12) rfl (by kernel_rfl) (by kernel_rfl) (by kernel_rfl) (fun _ _ _ h => h) (Or.inl ⟨by rfl, ?ay12⟩) (by assumption) ?ar12
                  case ay12 =>
                    intro w hSw
                    (try dsimp only at hSw)
                    go_simp
                    (try with_reducible rfl)
                  try simp only [Act.put, List.setIfInBounds_toArray, List.set_cons_zero, List.set_cons_succ]
                  refine wpAnyH_take (i := 14) (oi := ({ dst := some 53, op := Op.move (Operand.tmp 7), type := 33, pos := "ref.go:218", after := #[{ on := 9, ground := Ground.guard }], guard := some (9, true) } : Oper)) (v := ?av14) rfl (by kernel_rfl) (by kernel_rfl) (by kernel_rfl) (fun _ _ _ h => h) (Or.inl ⟨by rfl, ?ay14⟩) (by assumption) ?ar14
                  case ay14 =>
                    intro w hSw
                    (try dsimp only at hSw)
                    go_simp
                    (try with_reducible rfl)
                  try simp only [Act.put, List.setIfInBounds_toArray, List.set_cons_zero, List.set_cons_succ]
                  refine wpAnyH_take (i := 15) (oi := ({ dst := some 54, op := Op.move (Operand.tmp 8), type := 3, pos := "ref.go:218", after := #[{ on := 9, ground := Ground.guard }], guard := some (9, true) } : Oper)) (v := ?av15) rfl (by kernel_rfl) (by kernel_rfl) (by kernel_rfl) (fun _ _ _ h => h) (Or.inl ⟨by rfl, ?ay15⟩) (by assumption) ?ar15
                  case ay15 =>
                    intro w hSw
                    (try dsimp only at hSw)
                    go_simp
                    (try with_reducible rfl)
                  try simp only [Act.put, List.setIfInBounds_toArray, List.set_cons_zero, List.set_cons_succ]
                  refine wpAnyH_take (i := 16) (oi := ({ dst := some 55, op := Op.indexAddr 33 (Operand.tmp 53) (Operand.tmp 54), type := 0, pos := "ref.go:218", after := #[{ on := 14, ground := Ground.data }, { on := 15, ground := Ground.data }, { on := 9, ground := Ground.guard }], guard := some (9, true) } : Oper)) (v := ?av16) rfl (by kernel_rfl) (by kernel_rfl) (by kernel_rfl) (fun _ _ _ h => h) (Or.inl ⟨by rfl, ?ay16⟩) (by assumption) ?ar16
                  case ay16 =>
                    intro w hSw
                    (try dsimp only at hSw)
                    go_simp
                    (try with_reducible rfl)
                  try simp only [Act.put, List.setIfInBounds_toArray, List.set_cons_zero, List.set_cons_succ]
                  refine wpAnyH_take (i := 17) (oi := ({ dst := some 56, op := Op.indexAddr 50 (Operand.tmp 55) (Operand.const (Value.int IntKind.i64 0)), type := 0, pos := "ref.go:218", after := #[{ on := 16, ground := Ground.data }, { on := 9, ground := Ground.guard }], guard := some (9, true) } : Oper)) (v := ?av17) rfl (by kernel_rfl) (by kernel_rfl) (by kernel_rfl) (fun _ _ _ h => h) (Or.inl ⟨by rfl, ?ay17⟩) (by assumption) ?ar17
                  case ay17 =>
                    intro w hSw
                    (try dsimp only at hSw)
                    go_simp
                    (try with_reducible rfl)
                  try simp only [Act.put, List.setIfInBounds_toArray, List.set_cons_zero, List.set_cons_succ]
                  refine wpAnyH_take (i := 18) (oi := ({ dst := some 57, op := Op.load 3 (Operand.tmp 56), type := 3, pos := "ref.go:218", after := #[{ on := 17, ground := Ground.data }, { on := 9, ground := Ground.guard }], guard := some (9, true) } : Oper)) (v := ?av18) rfl (by kernel_rfl) (by kernel_rfl) (by kernel_rfl) (fun _ _ _ h => h) (Or.inl ⟨by rfl, ?ay18⟩) (by assumption) ?ar18
                  case ay18 =>
                    intro w hSw
                    (try dsimp only at hSw)
                    go_simp
                    (try with_reducible rfl)
                  try simp only [Act.put, List.setIfInBounds_toArray, List.set_cons_zero, List.set_cons_succ]
                  refine wpAnyH_ready (rs := [13]) (by kernel_rfl) (by simp) ?_
                  refine AllReadyH.cons (o := ({ dst := some 52, op := Op.call { callee := Callee.value (Operand.func 44), args := #[Operand.tmp 49, Operand.tmp 50, Operand.tmp 51], argTypes := #[22, 3, 3] }, type := 56, pos := "ref.go:218", after := #[{ on := 10, ground := Ground.data }, { on := 11, ground := Ground.data }, { on := 12, ground := Ground.data }, { on := 9, ground := Ground.chain }, { on := 9, ground := Ground.guard }], guard := some (9, true) } : Oper)) rfl (fun K hKK => ?_) AllReadyH.nil
                  go_simp
                  refine (HR2.out _ (drewR (Below.refl _ _))).mono ?_
                  rintro e w3 ⟨g3, rfl, hc3, hg3, hb3⟩
                  refine hKK.out _ _ (HS.out _ hb3) (fun hS13 => ?_)
                  try simp only [Act.put, List.setIfInBounds_toArray, List.set_cons_zero, List.set_cons_succ]
                  refine wpAnyH_take (i := 19) (oi := ({ dst := some 58, op := Op.indexAddr 56 (Operand.tmp 52) (Operand.tmp 57), type := 0, pos := "ref.go:218", after := #[{ on := 13, ground := Ground.data }, { on := 18, ground := Ground.data }, { on := 9, ground := Ground.guard }], guard := some (9, true) } : Oper)) (v := ?av19) rfl (by kernel_rfl) (by kernel_rfl) (by kernel_rfl) (fun _ _ _ h => h) (Or.inl ⟨by rfl, ?ay19⟩) (by assumption) ?ar19
                  case ay19 =>
                    intro w hSw
                    (try dsimp only at hSw)
                    go_simp
                    (try with_reducible rfl)
                  try simp only [Act.put, List.setIfInBounds_toArray, List.set_cons_zero, List.set_cons_succ]
                  refine wpAnyH_ready (rs := [20]) (by kernel_rfl) (by simp) ?_
                  refine AllReadyH.cons (o := ({ dst := some 59, op := Op.load 4 (Operand.tmp 58), type := 4, pos := "ref.go:218", after := #[{ on := 19, ground := Ground.data }, { on := 9, ground := Ground.guard }], guard := some (9, true) } : Oper)) rfl (fun K hKK => ?_) AllReadyH.nil
                  go_simp
                  refine hKK.out _ _ (HS.out _ hb3) (fun hS20 => ?_)
                  try simp only [Act.put, List.setIfInBounds_toArray, List.set_cons_zero, List.set_cons_succ]
                  refine wpAnyH_take (i := 21) (oi := ({ dst := some 60, op := Op.pick (Operand.tmp 48) (Operand.tmp 59) (Operand.const (Value.bool false)), type := 4, pos := "ref.go:218", after := #[{ on := 9, ground := Ground.data }, { on := 20, ground := Ground.data }], guard := none } : Oper)) (v := ?av21) rfl (by kernel_rfl) (by kernel_rfl) (by kernel_rfl) (fun _ _ _ h => h) (Or.inl ⟨by rfl, ?ay21⟩) (by assumption) ?ar21
                  case ay21 =>
                    intro w hSw
                    (try dsimp only at hSw)
                    go_simp
                    (try with_reducible rfl)
                  try simp only [Act.put, List.setIfInBounds_toArray, List.set_cons_zero, List.set_cons_succ]
                  refine wpAnyH_done (by kernel_rfl) ?_ _
                  go_wp2
                  go_roundw
                  case rel => exact ⟨k + 1, by omega, by go_num, hb.trans (hb3.mono hb.size), hO2.out.below hb3, hK.trans (KeepS.of_below hb3)⟩
                  case measure => simp [intOf]; omega
                · have HPUT := Lib.hid (fun j => rlP_put (G := G) (h := hd) (E := E.take i) (s := p) (k := k) (by rw [← HT.out]; exact hT) hB j)
                  clear hO hkh hT hB hbw
                  go_wp2
                  refine wp_region_held_drew (S := (fun W => W.cell? ⟨gT, k, none⟩ = some (.bool true) ∧ W.cell? ⟨b', off' + i * 2, none⟩ = some (.int .i64 (p : Int)))) (by kernel_rfl) ?_ (fun hHeld => ?_)
                  · exact HS.out _ (drewR (Below.refl _ _))
                  refine wpAnyH_take (i := 0) (oi := ({ dst := some 39, op := Op.move (Operand.tmp 9), type := 3, pos := "ref.go:218", after := #[], guard := none } : Oper)) (v := ?bv0) rfl (by kernel_rfl) (by kernel_rfl) (by kernel_rfl) (fun _ _ _ h => h) (Or.inl ⟨by rfl, ?by0⟩) (by assumption) ?br0
                  case by0 =>
                    intro w hSw
                    (try dsimp only at hSw)
                    go_simp
                    (try with_reducible rfl)
                  try simp only [Act.put, List.setIfInBounds_toArray, List.set_cons_zero, List.set_cons_succ]
                  refine wpAnyH_take (i := 1) (oi := ({ dst := some 40, op := Op.move (Operand.tmp 1), type := 3, pos := "ref.go:218", after := #[], guard := none } : Oper)) (v := ?bv1) rfl (by kernel_rfl) (by kernel_rfl) (by kernel_rfl) (fun _ _ _ h => h) (Or.inl ⟨by rfl, ?by1⟩) (by assumption) ?br1
                  case by1 =>
                    intro w hSw
                    (try dsimp only at hSw)
                    go_simp
                    (try with_reducible rfl)
                  try simp only [Act.put, List.setIfInBounds_toArray, List.set_cons_zero, List.set_cons_succ]
                  refine wpAnyH_take (i := 2) (oi := ({ dst := some 41, op := Op.binOp BinOp.neq 3 (Operand.tmp 39) (Operand.tmp 40) 3, type := 4, pos := "ref.go:218", after := #[{ on := 0, ground := Ground.data }, { on := 1, ground := Ground.data }], guard := none } : Oper)) (v := ?bv2) rfl (by kernel_rfl) (by kernel_rfl) (by kernel_rfl) (fun _ _ _ h => h) (Or.inl ⟨by rfl, ?by2⟩) (by assumption) ?br2
                  case by2 =>
                    intro w hSw
                    (try dsimp only at hSw)
                    go_simp
                    (try with_reducible rfl)
                  try simp only [Act.put, List.setIfInBounds_toArray, List.set_cons_zero, List.set_cons_succ]
                  refine wpAnyH_take (i := 3) (oi := ({ dst := some 42, op := Op.move (Operand.tmp 41), type := 4, pos := "ref.go:218", after := #[{ on := 2, ground := Ground.data }], guard := none } : Oper)) (v := ?bv3) rfl (by kernel_rfl) (by kernel_rfl) (by kernel_rfl) (fun _ _ _ h => h) (Or.inl ⟨by rfl, ?by3⟩) (by assumption) ?br3
                  case by3 =>
                    intro w hSw
                    (try dsimp only at hSw)
                    go_simp
                    (try with_reducible rfl)
                  try simp only [Act.put, List.setIfInBounds_toArray, List.set_cons_zero, List.set_cons_succ]
                  refine wpAnyH_take (i := 4) (oi := ({ dst := some 43, op := Op.move (Operand.tmp 6), type := 56, pos := "ref.go:218", after := #[{ on := 3, ground := Ground.guard }], guard := some (3, true) } : Oper)) (v := ?bv4) rfl (by kernel_rfl) (by kernel_rfl) (by kernel_rfl) (fun _ _ _ h => h) (Or.inl ⟨by rfl, ?by4⟩) (by assumption) ?br4
                  case by4 =>
                    intro w hSw
                    (try dsimp only at hSw)
                    go_simp
                    (try with_reducible rfl)
                  try simp only [Act.put, List.setIfInBounds_toArray, List.set_cons_zero, List.set_cons_succ]
                  refine wpAnyH_take (i := 5) (oi := ({ dst := some 44, op := Op.move (Operand.tmp 9), type := 3, pos := "ref.go:218", after := #[{ on := 3, ground := Ground.guard }], guard := some (3, true) } : Oper)) (v := ?bv5) rfl (by kernel_rfl) (by kernel_rfl) (by kernel_rfl) (fun _ _ _ h => h) (Or.inl ⟨by rfl, ?by5⟩) (by assumption) ?br5
                  case by5 =>
                    intro w hSw
                    (try dsimp only at hSw)
                    go_simp
                    (try with_reducible rfl)
                  try simp only [Act.put, List.setIfInBounds_toArray, List.set_cons_zero, List.set_cons_succ]
                  refine wpAnyH_take (i := 6) (oi := ({ dst := some 45, op := Op.indexAddr 56 (Operand.tmp 43) (Operand.tmp 44), type := 0, pos := "ref.go:218", after := #[{ on := 4, ground := Ground.data }, { on := 5, ground := Ground.data }, { on := 3, ground := Ground.guard }], guard := some (3, true) } : Oper)) (v := ?bv6) rfl (by kernel_rfl) (by kernel_rfl) (by kernel_rfl) (fun _ _ _ h => h) (Or.inl ⟨by rfl, ?by6⟩) (by assumption) ?br6
                  case by6 =>
                    intro w hSw
                    (try dsimp only at hSw)
                    go_simp
                    (try with_reducible rfl)
                  try simp only [Act.put, List.setIfInBounds_toArray, List.set_cons_zero, List.set_cons_succ]
                  refine wpAnyH_take (i := 7) (oi := ({ dst := some 46, op := Op.load 4 (Operand.tmp 45), type := 4, pos := "ref.go:218", after := #[{ on := 6, ground := Ground.data }, { on := 3, ground := Ground.guard }], guard := some (3, true) } : Oper)) (v := ?bv7) rfl (by kernel_rfl) (by kernel_rfl) (by kernel_rfl) (fun _ _ _ h => h) (Or.inl ⟨by rfl, ?by7⟩) (by assumption) ?br7
                  case by7 =>
                    intro w hSw
                    (try dsimp only at hSw)
                    go_simp
                    (try with_reducible rfl)
                  try simp only [Act.put, List.setIfInBounds_toArray, List.set_cons_zero, List.set_cons_succ]
                  refine wpAnyH_take (i := 8) (oi := ({ dst := some 47, op := Op.pick (Operand.tmp 42) (Operand.tmp 46) (Operand.const (Value.bool false)), type := 4, pos := "ref.go:218", after := #[{ on := 3, ground := Ground.data }, { on := 7, ground := Ground.data }], guard := none } : Oper)) (v := ?bv8) rfl (by kernel_rfl) (by kernel_rfl) (by kernel_rfl) (fun _ _ _ h => h) (Or.inl ⟨by rfl, ?by8⟩) (by assumption) ?br8
                  case by8 =>
                    intro w hSw
                    (try dsimp only at hSw)
                    go_simp
                    (try with_reducible rfl)
                  try simp only [Act.put, List.setIfInBounds_toArray, List.set_cons_zero, List.set_cons_succ]
                  refine wpAnyH_take (i := 9) (oi := ({ dst := some 48, op := Op.move (Operand.tmp 47), type := 4, pos := "ref.go:218", after := #[{ on := 8, ground := Ground.data }, { on := 3, ground := Ground.chain }], guard := none } : Oper)) (v := ?bv9) rfl (by kernel_rfl) (by kernel_rfl) (by kernel_rfl) (fun _ _ _ h => h) (Or.inl ⟨by rfl, ?by9⟩) (by assumption) ?br9
                  case by9 =>
                    intro w hSw
                    (try dsimp only at hSw)
                    go_simp
                    (try with_reducible rfl)
                  try simp only [Act.put, List.setIfInBounds_toArray, List.set_cons_zero, List.set_cons_succ]
                  refine wpAnyH_take (i := 10) (oi := ({ dst := some 49, op := Op.move (Operand.tmp 0), type := 22, pos := "ref.go:218", after := #[{ on := 9, ground := Ground.guard }], guard := some (9, true) } : Oper)) (v := ?bv10) rfl (by kernel_rfl) (by kernel_rfl) (by kernel_rfl) (fun _ _ _ h => h) (Or.inl ⟨by rfl, ?by10⟩) (by assumption) ?br10
                  case by10 =>
                    intro w hSw
                    (try dsimp only at hSw)
                    go_simp
                    (try with_reducible rfl)
                  try simp only [Act.put, List.setIfInBounds_toArray, List.set_cons_zero, List.set_cons_succ]
                  refine wpAnyH_take (i := 11) (oi := ({ dst := some 50, op := Op.move (Operand.tmp 9), type := 3, pos := "ref.go:218", after := #[{ on := 9, ground := Ground.guard }], guard := some (9, true) } : Oper)) (v := ?bv11) rfl (by kernel_rfl) (by kernel_rfl) (by kernel_rfl) (fun _ _ _ h => h) (Or.inl ⟨by rfl, ?by11⟩) (by assumption) ?br11
                  case by11 =>
                    intro w hSw
                    (try dsimp only at hSw)
                    go_simp
                    (try with_reducible rfl)
                  try simp only [Act.put, List.setIfInBounds_toArray, List.set_cons_zero, List.set_cons_succ]
                  refine wpAnyH_take (i := 12) (oi := ({ dst := some 51, op := Op.move (Operand.tmp 1), type := 3, pos := "ref.go:218", after := #[{ on := 9, ground := Ground.guard }], guard := some (9, true) } : Oper)) (v := ?bv12) rfl (by kernel_rfl) (by kernel_rfl) (by kernel_rfl) (fun _ _ _ h => h) (Or.inl ⟨by rfl, ?by12⟩) (by assumption) ?br12
                  case by12 =>
                    intro w hSw
                    (try dsimp only at hSw)
                    go_simp
                    (try with_reducible rfl)
                  try simp only [Act.put, List.setIfInBounds_toArray, List.set_cons_zero, List.set_cons_succ]
                  refine wpAnyH_take (i := 14) (oi := ({ dst := some 53, op := Op.move (Operand.tmp 7), type := 33, pos := "ref.go:218", after := #[{ on := 9, ground := Ground.guard }], guard := some (9, true) } : Oper)) (v := ?bv14) rfl (by kernel_rfl) (by kernel_rfl) (by kernel_rfl) (fun _ _ _ h => h) (Or.inl ⟨by rfl, ?by14⟩) (by assumption) ?br14
                  case by14 =>
                    intro w hSw
                    (try dsimp only at hSw)
                    go_simp
                    (try with_reducible rfl)
                  try simp only [Act.put, List.setIfInBounds_toArray, List.set_cons_zero, List.set_cons_succ]
                  refine wpAnyH_take (i := 15) (oi := ({ dst := some 54, op := Op.move (Operand.tmp 8), type := 3, pos := "ref.go:218", after := #[{ on := 9, ground := Ground.guard }], guard := some (9, true) } : Oper)) (v := ?bv15) rfl (by kernel_rfl) (by kernel_rfl) (by kernel_rfl) (fun _ _ _ h => h) (Or.inl ⟨by rfl, ?by15⟩) (by assumption) ?br15
                  case by15 =>
                    intro w hSw
                    (try dsimp only at hSw)
                    go_simp
                    (try with_reducible rfl)
                  try simp only [Act.put, List.setIfInBounds_toArray, List.set_cons_zero, List.set_cons_succ]
                  refine wpAnyH_take (i := 16) (oi := ({ dst := some 55, op := Op.indexAddr 33 (Operand.tmp 53) (Operand.tmp 54), type := 0, pos := "ref.go:218", after := #[{ on := 14, ground := Ground.data }, { on := 15, ground := Ground.data }, { on := 9, ground := Ground.guard }], guard := some (9, true) } : Oper)) (v := ?bv16) rfl (by kernel_rfl) (by kernel_rfl) (by kernel_rfl) (fun _ _ _ h => h) (Or.inl ⟨by rfl, ?by16⟩) (by assumption) ?br16
                  case by16 =>
                    intro w hSw
                    (try dsimp only at hSw)
                    go_simp
                    (try with_reducible rfl)
                  try simp only [Act.put, List.setIfInBounds_toArray, List.set_cons_zero, List.set_cons_succ]
                  refine wpAnyH_take (i := 17) (oi := ({ dst := some 56, op := Op.indexAddr 50 (Operand.tmp 55) (Operand.const (Value.int IntKind.i64 0)), type := 0, pos := "ref.go:218", after := #[{ on := 16, ground := Ground.data }, { on := 9, ground := Ground.guard }], guard := some (9, true) } : Oper)) (v := ?bv17) rfl (by kernel_rfl) (by kernel_rfl) (by kernel_rfl) (fun _ _ _ h => h) (Or.inl ⟨by rfl, ?by17⟩) (by assumption) ?br17
                  case by17 =>
                    intro w hSw
                    (try dsimp only at hSw)
                    go_simp
                    (try with_reducible rfl)
                  try simp only [Act.put, List.setIfInBounds_toArray, List.set_cons_zero, List.set_cons_succ]
                  refine wpAnyH_take (i := 18) (oi := ({ dst := some 57, op := Op.load 3 (Operand.tmp 56), type := 3, pos := "ref.go:218", after := #[{ on := 17, ground := Ground.data }, { on := 9, ground := Ground.guard }], guard := some (9, true) } : Oper)) (v := ?bv18) rfl (by kernel_rfl) (by kernel_rfl) (by kernel_rfl) (fun _ _ _ h => h) (Or.inl ⟨by rfl, ?by18⟩) (by assumption) ?br18
                  case by18 =>
                    intro w hSw
                    (try dsimp only at hSw)
                    go_simp
                    (try with_reducible rfl)
                  try simp only [Act.put, List.setIfInBounds_toArray, List.set_cons_zero, List.set_cons_succ]
                  refine wpAnyH_ready (rs := [13]) (by kernel_rfl) (by simp) ?_
                  refine AllReadyH.cons (o := ({ dst := some 52, op := Op.call { callee := Callee.value (Operand.func 44), args := #[Operand.tmp 49, Operand.tmp 50, Operand.tmp 51], argTypes := #[22, 3, 3] }, type := 56, pos := "ref.go:218", after := #[{ on := 10, ground := Ground.data }, { on := 11, ground := Ground.data }, { on := 12, ground := Ground.data }, { on := 9, ground := Ground.chain }, { on := 9, ground := Ground.guard }], guard := some (9, true) } : Oper)) rfl (fun K hKK => ?_) AllReadyH.nil
                  go_simp
                  refine (HR2.out _ (drewR (Below.refl _ _))).mono ?_
                  rintro e w3 ⟨g3, rfl, hc3, hg3, hb3⟩
                  refine hKK.out _ _ (HS.out _ hb3) (fun hS13 => ?_)
                  try simp only [Act.put, List.setIfInBounds_toArray, List.set_cons_zero, List.set_cons_succ]
                  refine wpAnyH_take (i := 19) (oi := ({ dst := some 58, op := Op.indexAddr 56 (Operand.tmp 52) (Operand.tmp 57), type := 0, pos := "ref.go:218", after := #[{ on := 13, ground := Ground.data }, { on := 18, ground := Ground.data }, { on := 9, ground := Ground.guard }], guard := some (9, true) } : Oper)) (v := ?bv19) rfl (by kernel_rfl) (by kernel_rfl) (by kernel_rfl) (fun _ _ _ h => h) (Or.inl ⟨by rfl, ?by19⟩) (by assumption) ?br19
                  case by19 =>
                    intro w hSw
                    (try dsimp only at hSw)
                    go_simp
                    (try with_reducible rfl)
                  try simp only [Act.put, List.setIfInBounds_toArray, List.set_cons_zero, List.set_cons_succ]
                  refine wpAnyH_ready (rs := [20]) (by kernel_rfl) (by simp) ?_
                  refine AllReadyH.cons (o := ({ dst := some 59, op := Op.load 4 (Operand.tmp 58), type := 4, pos := "ref.go:218", after := #[{ on := 19, ground := Ground.data }, { on := 9, ground := Ground.guard }], guard := some (9, true) } : Oper)) rfl (fun K hKK => ?_) AllReadyH.nil
                  go_simp
                  refine hKK.out _ _ (HS.out _ hb3) (fun hS20 => ?_)
                  try simp only [Act.put, List.setIfInBounds_toArray, List.set_cons_zero, List.set_cons_succ]
                  refine wpAnyH_take (i := 21) (oi := ({ dst := some 60, op := Op.pick (Operand.tmp 48) (Operand.tmp 59) (Operand.const (Value.bool false)), type := 4, pos := "ref.go:218", after := #[{ on := 9, ground := Ground.data }, { on := 20, ground := Ground.data }], guard := none } : Oper)) (v := ?bv21) rfl (by kernel_rfl) (by kernel_rfl) (by kernel_rfl) (fun _ _ _ h => h) (Or.inl ⟨by rfl, ?by21⟩) (by assumption) ?br21
                  case by21 =>
                    intro w hSw
                    (try dsimp only at hSw)
                    go_simp
                    (try with_reducible rfl)
                  try simp only [Act.put, List.setIfInBounds_toArray, List.set_cons_zero, List.set_cons_succ]
                  refine wpAnyH_done (by kernel_rfl) ?_ _
                  have hb4 := hb.trans (hb3.mono hb.size)
                  have hO4 := HO.out.below hb3
                  have hK4 := hK.trans (KeepS.of_below hb3)
                  obtain ⟨hcell, hfree⟩ := hO4.cell hkl
                  have hO5 := Lib.hid ((hO4.put k).congr (fun j _ => HPUT.out j))
                  have hb5 := Lib.hid (hb4.setCell (p := ⟨w.heap.size, k, none⟩) (Nat.le_refl _) (.bool true))
                  have hK5 := Lib.hid (hK4.set k (.bool true))
                  generalize rlP G hd (E.take i) p k k = cb at hcell
                  clear hb hK hb3 hO4 hb4 hK4 hc3 hg3 hcT hc1 HO
                  go_wp2
                  go_roundw
                  case rel => exact ⟨k + 1, by omega, by go_num, hb5.out, hO5.out, hK5.out⟩
                  case measure => simp [intOf]; omega
          · obtain rfl : k = n := by omega
            have hO2 := Lib.hid (hO.congr HPE1.out)
            clear hO
            go_wp2
            go_roundw
            case rel => exact ⟨i + 1, by omega, by go_num, hb, hO2.out, hK⟩
            case measure => simp [intOf]; omega
      · have hO2 := Lib.hid (hO.congr (fun j _ => HSK.out i hlt hq j))
        have e1 : (((E[i]!.2 : Nat) : Int) != (hd : Int)) = true := bne_iff_ne.2 (by omega)
        generalize E[i]! = x at hc1 hc2 hp e1
        clear hq hO
        go_wp2
        go_roundw
        case rel => exact ⟨i + 1, by omega, by go_num, hb, hO2.out, hK⟩
        case measure => simp [intOf]; omega
    · obtain rfl : i = E.length := by omega
      rw [← HF.out] at hO
      go_wp2
      go_ret
      exact ⟨w.heap.size, rfl, hO, Nat.le_refl _, hb⟩
end
end Go.Proofs.Ytchkckflpmepkaa
