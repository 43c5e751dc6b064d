/-
  Validate of the program.
-/
import Derived.Test.YtbohigjfdnnomaaGreatDoorTeF
namespace Go.Proofs.YtbohigjfdnnomaaGreatDoor
open Go.RowKit

theorem val_len {T : List Nd} (h : T.length < 1 ∨ 300 < T.length) : valF T = 3 := by
  unfold valF; rw [if_pos h]
section
variable {T : List Nd} (hl : ¬ (T.length < 1 ∨ 300 < T.length))
include hl
theorem val_nod {j : Nat} (hj : j < T.length) (h : nodB T[j]! j = false) : valF T = 1 := by
  have : nodsB T = false := Bool.eq_false_iff.2 fun hh => by
    have := List.all_eq_true.1 hh j (List.mem_range.2 hj)
    rw [h] at this
    cases this
  unfold valF
  rw [if_neg hl, this]
  rfl
theorem val_fit (hn : ∀ k, k < T.length → nodB T[k]! k = true) {j : Nat} (hj : j < T.length) (h : fitB T T[j]! = false) : valF T = 6 := by
  have h1 : nodsB T = true := List.all_eq_true.2 fun k hk => hn k (List.mem_range.1 hk)
  have h2 : fitsB T = false := Bool.eq_false_iff.2 fun hh => by
    have := List.all_eq_true.1 hh j (List.mem_range.2 hj)
    rw [h] at this
    cases this
  unfold valF
  rw [if_neg hl, h1, h2]
  rfl
theorem val_one (hn : ∀ k, k < T.length → nodB T[k]! k = true) (hf : ∀ k, k < T.length → fitB T T[k]! = true) {k i : Nat} (hk : k < T.length) (hi : i < k) (h : oneB T[i]! T[k]! = false) : valF T = 7 := by
  have h1 : nodsB T = true := List.all_eq_true.2 fun k hk => hn k (List.mem_range.1 hk)
  have h2 : fitsB T = true := List.all_eq_true.2 fun k hk => hf k (List.mem_range.1 hk)
  have h3 : oneW T = false := Bool.eq_false_iff.2 fun hh => by
    have := List.all_eq_true.1 (List.all_eq_true.1 hh k (List.mem_range.2 hk)) i (List.mem_range.2 hi)
    rw [h] at this
    cases this
  unfold valF
  rw [if_neg hl, h1, h2, h3]
  rfl
theorem val_yes (hn : ∀ k, k < T.length → nodB T[k]! k = true) (hf : ∀ k, k < T.length → fitB T T[k]! = true) (ho : ∀ k, k < T.length → ∀ i, i < k → oneB T[i]! T[k]! = true) : valF T = 0 :=
  val_zero.2 ⟨by omega, hn, hf, ho⟩
end
theorem widF_ex {T : List Nd} {v : Nat} : ∀ k, widF T k v ≠ 0 → ∃ j, j < k ∧ T[j]!.op = 33 ∧ T[j]!.imm = (v : Int) ∧ T[j]!.width = widF T k v
  | 0, h => absurd rfl h
  | k + 1, h => by
    rw [widF] at h ⊢
    by_cases e : T[k]!.op = 33 ∧ T[k]!.imm = (v : Int)
    · rw [if_pos e]
      exact ⟨k, by omega, e.1, e.2, rfl⟩
    · rw [if_neg e] at h ⊢
      obtain ⟨j, h1, h2⟩ := widF_ex k h
      exact ⟨j, by omega, h2⟩
theorem one_iff {x y : Nd} : oneB x y = true ↔ (x.op = 33 → y.op = 33 → x.imm = y.imm → x.width = y.width) := by
  unfold oneB
  rw [Bool.not_eq_true', Bool.and_eq_false_iff, Bool.and_eq_false_iff, Bool.and_eq_false_iff, decide_eq_false_iff_not, decide_eq_false_iff_not, decide_eq_false_iff_not, decide_eq_false_iff_not]
  constructor
  · rintro (h | h | h | h) h1 h2 h3
    · exact absurd h1 h
    · exact absurd h2 h
    · exact absurd h3 h
    · exact Decidable.not_not.1 h
  · intro h
    by_cases h1 : x.op = 33
    · by_cases h2 : y.op = 33
      · by_cases h3 : x.imm = y.imm
        · exact .inr (.inr (.inr fun hh => hh (h h1 h2 h3)))
        · exact .inr (.inr (.inl h3))
      · exact .inr (.inl h2)
    · exact .inl h1
theorem one_bad {T : List Nd} {k v : Nat} (ho : T[k]!.op = 33) (hv : T[k]!.imm = (v : Int)) (h0 : widF T k v ≠ 0) (h : widF T k v ≠ T[k]!.width) : ∃ i, i < k ∧ oneB T[i]! T[k]! = false := by
  obtain ⟨j, h1, h2, h3, h4⟩ := widF_ex k h0
  refine ⟨j, h1, Bool.eq_false_iff.2 fun hh => ?_⟩
  have := one_iff.1 hh h2 ho (h3.trans hv.symm)
  omega
theorem one_good {T : List Nd} {k v : Nat} (hp : ∀ j, j < k → 1 ≤ T[j]!.width) (h : ∀ q, q < k → ∀ i, i < q → oneB T[i]! T[q]! = true) (_ : T[k]!.op = 33) (hv : T[k]!.imm = (v : Int)) (hw : widF T k v = 0 ∨ widF T k v = T[k]!.width) (i : Nat) (hi : i < k) : oneB T[i]! T[k]! = true := by
  refine one_iff.2 fun h1 h2 h3 => ?_
  have := widF_var h k (Nat.le_refl _) i hi h1 v (h3.trans hv)
  have := hp i hi
  rcases hw with hw | hw <;> omega
theorem one_other {T : List Nd} {k : Nat} (ho : T[k]!.op ≠ 33) (i : Nat) : oneB T[i]! T[k]! = true := one_iff.2 fun _ h => absurd h ho
/-- A block of four numbers. -/
def I4 (w : World) (B : Nat) (f : Nat → Int) : Prop := w.heap[B]? = some (.cells #[.int .i64 (f 0), .int .i64 (f 1), .int .i64 (f 2), .int .i64 (f 3)] 88 (0, 0))
theorem I4.put {w : World} {B : Nat} {f g : Nat → Int} (h : I4 w B f) {j : Nat} (hj : j < 4) (v : Int) (hg : ∀ i, i < 4 → g i = if i = j then v else f i) : I4 (w.setCell ⟨B, j, none⟩ (.int .i64 v)) B g := by
  unfold I4 at h ⊢
  rw [hg 0 (by omega), hg 1 (by omega), hg 2 (by omega), hg 3 (by omega), heap_setCell_same w B j _ _ _ h]
  match j, hj with
  | 0, _ => rfl
  | 1, _ => rfl
  | 2, _ => rfl
  | 3, _ => rfl
theorem I4.cell {w : World} {B : Nat} {f : Nat → Int} (h : I4 w B f) {j : Nat} (hj : j < 4) : w.cell? ⟨B, j, none⟩ = some (.int .i64 (f j)) ∧ w.frozen? ⟨B, j, none⟩ = false := by
  unfold I4 at h
  refine ⟨?_, by simp [World.frozen?, h]⟩
  match j, hj with
  | 0, _ => simp [World.cell?, h]
  | 1, _ => simp [World.cell?, h]
  | 2, _ => simp [World.cell?, h]
  | 3, _ => simp [World.cell?, h]
theorem I4.below {w w' : World} {B : Nat} {f : Nat → Int} (h : I4 w B f) (hb : Below w.heap.size w w') : I4 w' B f := (hb.block _ (lt_of_block h)).trans h
theorem I4.congr {w : World} {B : Nat} {f g : Nat → Int} (h : I4 w B f) (hg : ∀ i, i < 4 → g i = f i) : I4 w B g := by
  unfold I4 at h ⊢
  rw [hg 0 (by omega), hg 1 (by omega), hg 2 (by omega), hg 3 (by omega)]
  exact h
theorem widF_put {T : List Nd} {k v : Nat} (ho : T[k]!.op = 33) (hv : T[k]!.imm = (v : Int)) (i : Nat) : widF T (k + 1) i = if i = v then T[k]!.width else widF T k i := by
  rw [widF]
  by_cases e : i = v
  · rw [if_pos e, if_pos ⟨ho, by rw [hv, e]⟩]
  · rw [if_neg e, if_neg (fun h => e (by have := h.2; omega))]
theorem widF_other {T : List Nd} {k : Nat} (ho : T[k]!.op ≠ 33) (i : Nat) : widF T (k + 1) i = widF T k i := by
  rw [widF, if_neg (fun h => ho h.1)]
/-- The number of a variable of a right node. -/
theorem var_imm {x : Nd} {k : Nat} (h : nodB x k = true) (ho : x.op = 33) (h0 : 0 ≤ x.imm) : ∃ v : Nat, x.imm = (v : Int) ∧ v < 4 := by
  have h1 := (nod_iff.1 h).2.2.2.2.2
  unfold immB at h1
  rw [if_neg (by omega), if_pos ho] at h1
  have := of_decide_eq_true h1
  exact ⟨x.imm.toNat, by omega, by omega⟩
set_option maxRecDepth 100000 in
set_option maxHeartbeats 8000000 in
theorem validate_any {w : World} {A : Option Addr} {n c : Nat} {T : List Nd} (h : Term w A n c T) : Calls Tryz.prog 30 #[.slice A n c] w fun e w' => e = .returned (.int .i64 (valF T)) ∧ Below w.heap.size w w' := by
  have hcap := h.2.1
  have hmax := h.2.2.1
  by_cases hbad : T.length < 1 ∨ 300 < T.length
  · have HV := Lib.hid (val_len hbad)
    rw [← h.1] at hbad
    clear h
    rcases hbad with h1 | h1
    · go_enter Tryz.func30, Tryz.ntmps30
      go_wp2
      go_ret
      exact ⟨ret_i HV.out.symm, Below.refl _ _⟩
    · have h2 : ¬ n < 1 := by omega
      go_enter Tryz.func30, Tryz.ntmps30
      go_wp2
      go_ret
      exact ⟨ret_i HV.out.symm, Below.refl _ _⟩
  · have HNOD := Lib.hid (fun j (hj : j < n) => val_nod hbad (j := j) (by rw [← h.1]; exact hj))
    have HFIT := Lib.hid (fun (hn : ∀ k, k < n → nodB T[k]! k = true) j (hj : j < n) => val_fit hbad (by rw [← h.1]; exact hn) (j := j) (by rw [← h.1]; exact hj))
    have HONE := Lib.hid (fun (hn : ∀ k, k < n → nodB T[k]! k = true) (hf : ∀ k, k < n → fitB T T[k]! = true) k i (hk : k < n) (hi : i < k) => val_one hbad (by rw [← h.1]; exact hn) (by rw [← h.1]; exact hf) (k := k) (i := i) (by rw [← h.1]; exact hk) hi)
    have HYES := Lib.hid (fun (hn : ∀ k, k < n → nodB T[k]! k = true) (hf : ∀ k, k < n → fitB T T[k]! = true) (ho : ∀ k, k < n → ∀ i, i < k → oneB T[i]! T[k]! = true) => val_yes hbad (by rw [← h.1]; exact hn) (by rw [← h.1]; exact hf) (by rw [← h.1]; exact ho))
    have H := Lib.hid h
    rw [← h.1] at hbad
    have n1 : 1 ≤ n := by omega
    have n300 : n ≤ 300 := by omega
    clear h hbad
    generalize valF T = V at HNOD HFIT HONE HYES ⊢
    go_enter Tryz.func30, Tryz.ntmps30
    go_wp2
    go_loopw [20] (fun zi wr => ∃ i : Nat, i ≤ n ∧ zi = .int .i64 (i : Int) ∧ Below w.heap.size w wr ∧ Hid (∀ j, j < i → nodB T[j]! j = true)) (fun zi _ => n - (intOf zi).toNat)
    case atStart => exact ⟨0, by omega, rfl, Below.refl _ _, Lib.hid fun j hj => absurd hj (by omega)⟩
    case round =>
      obtain ⟨i, hi, rfl, hb, HJ⟩ := hrel
      by_cases hlt : i < n
      · obtain ⟨b, off, A', n', c', rfl, hbs, ⟨a0, a1, a2, a3, a4⟩, hI, h0, h1⟩ := (H.out.below hb).at_ hlt
        have hb0 := hb.alloc hb.size (.cells #[.int .i64 (T[i]!).op, .int .i64 (T[i]!).width, .int .i64 (T[i]!).flags, .slice A' n' c', .int .u32 (T[i]!).imm] 38)
        have hI0 := hI.below ((Below.refl _ _).alloc (Nat.le_refl _) (.cells #[.int .i64 (T[i]!).op, .int .i64 (T[i]!).width, .int .i64 (T[i]!).flags, .slice A' n' c', .int .u32 (T[i]!).imm] 38))
        have HX := Lib.hid (fun w1 hI => isNode_any T[i]! A' n' c' i w1 hI h0 h1)
        cases hB : nodB T[i]! i
        · have HE := Lib.hid (HNOD.out i hlt hB)
          rw [hB] at HX
          clear hB hI h0 h1 HNOD HFIT HONE HYES
          generalize T[i]! = x at a0 a1 a2 a3 a4 hb0 hI0 HX
          obtain ⟨op, wid, fl, args, imm⟩ := x
          simp only at a0 a1 a2 a3 a4 hb0 hI0 HX
          go_wp2_with fail
          refine (HX.out _ hI0).mono ?_
          rintro e w3 ⟨rfl, hb3⟩
          have hb4 := hb0.trans (hb3.mono hb0.size)
          clear hb0 hb hb3
          go_wp2
          exact bodyPost_ret (results_tmp rfl _ _ _) rfl ⟨by exact ret_i HE.out.symm, hb4⟩
        · have HJ2 := Lib.hid (show ∀ j, j < i + 1 → nodB T[j]! j = true from fun j hj => by
            by_cases e : j = i
            · rw [e]; exact hB
            · exact HJ.out j (by omega))
          rw [hB] at HX
          clear hB hI h0 h1
          generalize T[i]! = x at a0 a1 a2 a3 a4 hb0 hI0 HX
          obtain ⟨op, wid, fl, args, imm⟩ := x
          simp only at a0 a1 a2 a3 a4 hb0 hI0 HX
          go_wp2_with fail
          refine (HX.out _ hI0).mono ?_
          rintro e w3 ⟨rfl, hb3⟩
          have hb4 := hb0.trans (hb3.mono hb0.size)
          clear hb0 hb hb3 a0 a1 a2 a3 a4
          go_wp2
          go_roundw
          case rel => exact ⟨i + 1, by omega, by go_num, hb4, HJ2⟩
          case measure => simp [intOf]; omega
      · obtain rfl : i = n := by omega
        have HN := HJ
        clear HJ HNOD hlt hi
        go_wp2
        go_loopw [32] (fun zi wq => ∃ k : Nat, k ≤ i ∧ zi = .int .i64 (k : Int) ∧ Below w.heap.size w wq ∧ Hid (∀ j, j < k → fitB T T[j]! = true)) (fun zi _ => i - (intOf zi).toNat)
        case atStart => exact ⟨0, by omega, rfl, hb, Lib.hid fun j hj => absurd hj (by omega)⟩
        case round =>
          clear hb
          obtain ⟨k, hk, rfl, hb, HJ⟩ := hrel
          rename World => wq
          by_cases hlt : k < i
          · obtain ⟨b, off, A', n', c', rfl, hbs, ⟨a0, a1, a2, a3, a4⟩, hI, h0, h1⟩ := (H.out.below hb).at_ hlt
            have hb0 := hb.alloc hb.size (.cells #[.int .i64 (T[k]!).op, .int .i64 (T[k]!).width, .int .i64 (T[k]!).flags, .slice A' n' c', .int .u32 (T[k]!).imm] 38)
            have hnod := nod_iff.1 (HN.out k hlt)
            have hI0 := hI.below ((Below.refl _ _).alloc (Nat.le_refl _) (.cells #[.int .i64 (T[k]!).op, .int .i64 (T[k]!).width, .int .i64 (T[k]!).flags, .slice A' n' c', .int .u32 (T[k]!).imm] 38))
            have HX := Lib.hid (fun w1 hT hI => fit_any (w := w1) (n := i) (c := c) (A := some ⟨b, off, none⟩) (T := T) hT T[k]! A' n' c' hI (decide_eq_true hnod.1) (by have := hnod.2.2.2.1; rw [← hI.1] at this; exact this) (fun q hq => by have := hnod.2.2.2.2.1 q (by rw [← hI.1]; exact hq); omega))
            have hT0 := H.out.below hb0
            clear hnod hI h0 h1
            cases hB : fitB T T[k]!
            · have HE := Lib.hid (HFIT.out HN.out k hlt hB)
              rw [hB] at HX
              clear hB HFIT HONE HYES
              generalize T[k]! = x at a0 a1 a2 a3 a4 hb0 hI0 hT0 HX
              obtain ⟨op, wid, fl, args, imm⟩ := x
              simp only at a0 a1 a2 a3 a4 hb0 hI0 hT0 HX
              go_wp2_with fail
              refine (HX.out _ hT0 hI0).mono ?_
              rintro e w3 ⟨rfl, hb3⟩
              have hb4 := hb0.trans (hb3.mono hb0.size)
              clear hb0 hb hb3
              go_wp2
              exact bodyPost_ret (results_tmp rfl _ _ _) rfl ⟨by exact ret_i HE.out.symm, hb4⟩
            · have HJ2 := Lib.hid (show ∀ j, j < k + 1 → fitB T T[j]! = true from fun j hj => by
                by_cases e : j = k
                · rw [e]; exact hB
                · exact HJ.out j (by omega))
              rw [hB] at HX
              clear hB
              generalize T[k]! = x at a0 a1 a2 a3 a4 hb0 hI0 hT0 HX
              obtain ⟨op, wid, fl, args, imm⟩ := x
              simp only at a0 a1 a2 a3 a4 hb0 hI0 hT0 HX
              go_wp2_with fail
              refine (HX.out _ hT0 hI0).mono ?_
              rintro e w3 ⟨rfl, hb3⟩
              have hb4 := hb0.trans (hb3.mono hb0.size)
              clear hb0 hb hb3 a0 a1 a2 a3 a4
              go_wp2
              go_roundw
              case rel => exact ⟨k + 1, by omega, by go_num, hb4, HJ2⟩
              case measure => simp [intOf]; omega
          · obtain rfl : k = i := by omega
            have HF := HJ
            clear HJ HFIT hlt hk
            have HYES2 := Lib.hid (HYES.out HN.out HF.out)
            have HONE2 := Lib.hid (HONE.out HN.out HF.out)
            clear HYES HONE HF
            go_upto_region 16 with fail
            have hI4 : I4 (wq.alloc (.cells #[.int .i64 0, .int .i64 0, .int .i64 0, .int .i64 0] 88)) wq.heap.size (widF T 0) := heap_alloc_new wq _
            have hb1 := hb.alloc hb.size (.cells #[.int .i64 0, .int .i64 0, .int .i64 0, .int .i64 0] 88)
            have hB0 := hb.size
            generalize World.alloc wq _ = W1 at hI4 hb1 ⊢
            generalize wq.heap.size = B at hI4 hB0 ⊢
            clear hb
            go_wp2
            go_loopw [43] (fun zi wv => ∃ i : Nat, i ≤ k ∧ zi = .int .i64 (i : Int) ∧ Below w.heap.size w wv ∧ I4 wv B (widF T i) ∧ Hid (∀ q, q < i → ∀ j, j < q → oneB T[j]! T[q]! = true)) (fun zi _ => k - (intOf zi).toNat)
            case atStart => exact ⟨0, by omega, rfl, hb1, hI4, Lib.hid fun j hj => absurd hj (by omega)⟩
            case round =>
              clear hb1 hI4
              obtain ⟨i, hi, rfl, hb, hI4, HJ⟩ := hrel
              rename World => wv
              by_cases hlt : i < k
              · obtain ⟨b, off, A', n', c', rfl, hbs, ⟨a0, a1, a2, a3, a4⟩, hI, h0, h1⟩ := (H.out.below hb).at_ hlt
                have HBAD := Lib.hid (fun v ho hv h0 h1 => (one_bad (T := T) (k := i) (v := v) ho hv h0 h1).elim fun j hj => HONE2.out i j hlt hj.1 hj.2)
                have HGOOD := Lib.hid (fun v ho hv hw => show ∀ q, q < i + 1 → ∀ j, j < q → oneB T[j]! T[q]! = true from fun q hq j hj => by
                  by_cases e : q = i
                  · subst e
                    exact one_good (v := v) (fun j hj => (nod_iff.1 (HN.out j (by omega))).2.2.1.1) HJ.out ho hv hw j hj
                  · exact HJ.out q (by omega) j hj)
                have HOTH := Lib.hid (fun ho => show ∀ q, q < i + 1 → ∀ j, j < q → oneB T[j]! T[q]! = true from fun q hq j hj => by
                  by_cases e : q = i
                  · subst e
                    exact one_other ho j
                  · exact HJ.out q (by omega) j hj)
                have HVAR := Lib.hid (fun ho => var_imm (HN.out i hlt) ho h0)
                have HPUT := Lib.hid (fun v ho hv j => widF_put (T := T) (k := i) (v := v) ho hv j)
                have HPN := Lib.hid (fun ho j => widF_other (T := T) (k := i) ho j)
                obtain ⟨g, hg⟩ : ∃ g, widF T (i + 1) = g := ⟨_, rfl⟩
                have HGE := Lib.hid hg
                rw [hg] at HPUT HPN
                clear hg
                generalize widF T i = f at hI4 HBAD HGOOD HPUT HPN
                by_cases ho : T[i]!.op = 33
                · obtain ⟨v, hv, hv4⟩ := HVAR.out ho
                  have HB1 := Lib.hid (HBAD.out v ho hv)
                  have HG1 := Lib.hid (HGOOD.out v ho hv)
                  have HP1 := Lib.hid (HPUT.out v ho hv)
                  clear HBAD HGOOD HOTH HVAR HPUT HPN hI h0 h1
                  generalize T[i]! = x at a0 a1 a2 a3 a4 HB1 HG1 HP1 ho hv
                  obtain ⟨op, wid, fl, args, imm⟩ := x
                  simp only at a0 a1 a2 a3 a4 HB1 HG1 HP1 ho hv
                  subst ho hv
                  have hv4i : (v : Int) < 4 := by omega
                  go_upto_region 20 with fail
                  have hx := heap_alloc_new wv (.cells #[.int .i64 33, .int .i64 wid, .int .i64 fl, .slice A' n' c', .int .u32 (v : Int)] 38)
                  have hb2 := hb.alloc hb.size (.cells #[.int .i64 33, .int .i64 wid, .int .i64 fl, .slice A' n' c', .int .u32 (v : Int)] 38)
                  have hI5 := hI4.below ((Below.refl _ _).alloc (Nat.le_refl _) (.cells #[.int .i64 33, .int .i64 wid, .int .i64 fl, .slice A' n' c', .int .u32 (v : Int)] 38))
                  generalize World.alloc wv _ = W2 at hx hb2 hI5 ⊢
                  generalize wv.heap.size = D at hx ⊢
                  clear hb hI4 a0 a1 a2 a3 a4
                  obtain ⟨s, hs⟩ : ∃ s, f v = s := ⟨_, rfl⟩
                  have HS := Lib.hid (show ∀ W, Below W2.heap.size W2 W → W.cell? ⟨D, 1, none⟩ = some (.int .i64 wid) ∧ W.cell? ⟨D, 4, none⟩ = some (.int .u32 (v : Int)) ∧ W.cell? ⟨B, v, none⟩ = some (.int .i64 s) from fun W hW => by
                    obtain ⟨-, d1, -, -, d4⟩ := cells5 (x := ⟨33, wid, fl, args, (v : Int)⟩) ((hW.block _ (lt_of_block hx)).trans hx)
                    have d5 := ((hI5.below hW).cell hv4).1
                    rw [hs] at d5
                    exact ⟨d1, d4, d5⟩)
                  have HI5 := Lib.hid hI5
                  have HB2 := Lib.hid hb2
                  have HX := Lib.hid hx
                  rw [hs] at HB1 HG1
                  clear hx hI5 hb2 hs
                  by_cases q0 : s = 0
                  · have e0 : (s != 0) = false := by simp [q0]
                    have HJ2 := Lib.hid (HG1.out (.inl q0))
                    clear q0 HB1 HG1
                    refine wp_region_held_drew (S := (fun W => W.cell? ⟨D, 1, none⟩ = some (.int .i64 wid) ∧ W.cell? ⟨D, 4, none⟩ = some (.int .u32 (v : Int)) ∧ W.cell? ⟨B, v, none⟩ = some (.int .i64 s))) (by kernel_rfl) ?_ (fun hHeld => ?_)
                    · exact HS.out _ (by first | exact Below.refl _ _ | exact drewD (Below.refl _ _) | exact drewR (Below.refl _ _))
                    refine wpAnyH_take (i := 0) (oi := ({ dst := some 50, op := Op.fieldAddr 38 (Operand.tmp 9) 4, type := 0, pos := "validate.go:25", after := #[], guard := none } : Oper)) (v := ?a1_v0) rfl (by kernel_rfl) (by kernel_rfl) (by kernel_rfl) (fun _ _ _ h => h) (Or.inl ⟨by rfl, ?a1_y0⟩) (by assumption) ?a1_r0
                    case a1_y0 =>
                      intro w hSw
                      (try dsimp only at hSw)
                      go_simp
                      (try with_reducible rfl)
                    try simp only [Act.put, List.setIfInBounds_toArray, List.set_cons_zero, List.set_cons_succ]
                    refine wpAnyH_take (i := 1) (oi := ({ dst := some 51, op := Op.load 36 (Operand.tmp 50), type := 36, pos := "validate.go:25", after := #[{ on := 0, ground := Ground.data }], guard := none } : Oper)) (v := ?a2_v1) rfl (by kernel_rfl) (by kernel_rfl) (by kernel_rfl) (fun _ _ _ h => h) (Or.inl ⟨by rfl, ?a2_y1⟩) (by assumption) ?a2_r1
                    case a2_y1 =>
                      intro w hSw
                      (try dsimp only at hSw)
                      go_simp
                      (try with_reducible rfl)
                    try simp only [Act.put, List.setIfInBounds_toArray, List.set_cons_zero, List.set_cons_succ]
                    refine wpAnyH_take (i := 2) (oi := ({ dst := some 52, op := Op.indexAddr 88 (Operand.tmp 7) (Operand.tmp 51), type := 0, pos := "validate.go:25", after := #[{ on := 1, ground := Ground.data }], guard := none } : Oper)) (v := ?a3_v2) rfl (by kernel_rfl) (by kernel_rfl) (by kernel_rfl) (fun _ _ _ h => h) (Or.inl ⟨by rfl, ?a3_y2⟩) (by assumption) ?a3_r2
                    case a3_y2 =>
                      intro w hSw
                      (try dsimp only at hSw)
                      go_simp
                      (try with_reducible rfl)
                    try simp only [Act.put, List.setIfInBounds_toArray, List.set_cons_zero, List.set_cons_succ]
                    refine wpAnyH_take (i := 3) (oi := ({ dst := some 53, op := Op.load 3 (Operand.tmp 52), type := 3, pos := "validate.go:25", after := #[{ on := 2, ground := Ground.data }], guard := none } : Oper)) (v := ?a4_v3) rfl (by kernel_rfl) (by kernel_rfl) (by kernel_rfl) (fun _ _ _ h => h) (Or.inl ⟨by rfl, ?a4_y3⟩) (by assumption) ?a4_r3
                    case a4_y3 =>
                      intro w hSw
                      (try dsimp only at hSw)
                      go_simp
                      (try with_reducible rfl)
                    try simp only [Act.put, List.setIfInBounds_toArray, List.set_cons_zero, List.set_cons_succ]
                    refine wpAnyH_take (i := 4) (oi := ({ dst := some 54, op := Op.binOp BinOp.neq 3 (Operand.tmp 53) (Operand.const (Value.int IntKind.i64 0)) 3, type := 4, pos := "validate.go:25", after := #[{ on := 3, ground := Ground.data }], guard := none } : Oper)) (v := ?a5_v4) rfl (by kernel_rfl) (by kernel_rfl) (by kernel_rfl) (fun _ _ _ h => h) (Or.inl ⟨by rfl, ?a5_y4⟩) (by assumption) ?a5_r4
                    case a5_y4 =>
                      intro w hSw
                      (try dsimp only at hSw)
                      go_simp
                      (try with_reducible rfl)
                    try simp only [Act.put, List.setIfInBounds_toArray, List.set_cons_zero, List.set_cons_succ]
                    refine wpAnyH_take (i := 5) (oi := ({ dst := some 55, op := Op.move (Operand.tmp 54), type := 4, pos := "validate.go:25", after := #[{ on := 4, ground := Ground.data }], guard := none } : Oper)) (v := ?a6_v5) rfl (by kernel_rfl) (by kernel_rfl) (by kernel_rfl) (fun _ _ _ h => h) (Or.inl ⟨by rfl, ?a6_y5⟩) (by assumption) ?a6_r5
                    case a6_y5 =>
                      intro w hSw
                      (try dsimp only at hSw)
                      go_simp
                      (try with_reducible rfl)
                    try simp only [Act.put, List.setIfInBounds_toArray, List.set_cons_zero, List.set_cons_succ]
                    refine wpAnyH_take (i := 6) (oi := ({ dst := some 56, op := Op.fieldAddr 38 (Operand.tmp 9) 4, type := 0, pos := "validate.go:25", after := #[{ on := 5, ground := Ground.guard }], guard := some (5, true) } : Oper)) rfl (by kernel_rfl) (by kernel_rfl) (by kernel_rfl) (fun _ _ _ h => h) (Or.inr ⟨by rfl, rfl⟩) (by assumption) ?a7_r6
                    try simp only [Act.put, List.setIfInBounds_toArray, List.set_cons_zero, List.set_cons_succ]
                    refine wpAnyH_take (i := 7) (oi := ({ dst := some 57, op := Op.load 36 (Operand.tmp 56), type := 36, pos := "validate.go:25", after := #[{ on := 6, ground := Ground.data }, { on := 5, ground := Ground.guard }], guard := some (5, true) } : Oper)) rfl (by kernel_rfl) (by kernel_rfl) (by kernel_rfl) (fun _ _ _ h => h) (Or.inr ⟨by rfl, rfl⟩) (by assumption) ?a8_r7
                    try simp only [Act.put, List.setIfInBounds_toArray, List.set_cons_zero, List.set_cons_succ]
                    refine wpAnyH_take (i := 8) (oi := ({ dst := some 58, op := Op.indexAddr 88 (Operand.tmp 7) (Operand.tmp 57), type := 0, pos := "validate.go:25", after := #[{ on := 7, ground := Ground.data }, { on := 5, ground := Ground.guard }], guard := some (5, true) } : Oper)) rfl (by kernel_rfl) (by kernel_rfl) (by kernel_rfl) (fun _ _ _ h => h) (Or.inr ⟨by rfl, rfl⟩) (by assumption) ?a9_r8
                    try simp only [Act.put, List.setIfInBounds_toArray, List.set_cons_zero, List.set_cons_succ]
                    refine wpAnyH_take (i := 9) (oi := ({ dst := some 59, op := Op.load 3 (Operand.tmp 58), type := 3, pos := "validate.go:25", after := #[{ on := 8, ground := Ground.data }, { on := 5, ground := Ground.guard }], guard := some (5, true) } : Oper)) rfl (by kernel_rfl) (by kernel_rfl) (by kernel_rfl) (fun _ _ _ h => h) (Or.inr ⟨by rfl, rfl⟩) (by assumption) ?a10_r9
                    try simp only [Act.put, List.setIfInBounds_toArray, List.set_cons_zero, List.set_cons_succ]
                    refine wpAnyH_take (i := 10) (oi := ({ dst := some 60, op := Op.fieldAddr 38 (Operand.tmp 9) 1, type := 0, pos := "validate.go:25", after := #[{ on := 5, ground := Ground.guard }], guard := some (5, true) } : Oper)) rfl (by kernel_rfl) (by kernel_rfl) (by kernel_rfl) (fun _ _ _ h => h) (Or.inr ⟨by rfl, rfl⟩) (by assumption) ?a11_r10
                    try simp only [Act.put, List.setIfInBounds_toArray, List.set_cons_zero, List.set_cons_succ]
                    refine wpAnyH_take (i := 11) (oi := ({ dst := some 61, op := Op.load 3 (Operand.tmp 60), type := 3, pos := "validate.go:25", after := #[{ on := 10, ground := Ground.data }, { on := 5, ground := Ground.guard }], guard := some (5, true) } : Oper)) rfl (by kernel_rfl) (by kernel_rfl) (by kernel_rfl) (fun _ _ _ h => h) (Or.inr ⟨by rfl, rfl⟩) (by assumption) ?a12_r11
                    try simp only [Act.put, List.setIfInBounds_toArray, List.set_cons_zero, List.set_cons_succ]
                    refine wpAnyH_take (i := 12) (oi := ({ dst := some 62, op := Op.binOp BinOp.neq 3 (Operand.tmp 59) (Operand.tmp 61) 3, type := 4, pos := "validate.go:25", after := #[{ on := 9, ground := Ground.data }, { on := 11, ground := Ground.data }, { on := 5, ground := Ground.guard }], guard := some (5, true) } : Oper)) rfl (by kernel_rfl) (by kernel_rfl) (by kernel_rfl) (fun _ _ _ h => h) (Or.inr ⟨by rfl, rfl⟩) (by assumption) ?a13_r12
                    try simp only [Act.put, List.setIfInBounds_toArray, List.set_cons_zero, List.set_cons_succ]
                    refine wpAnyH_take (i := 13) (oi := ({ dst := some 63, op := Op.pick (Operand.tmp 55) (Operand.tmp 62) (Operand.const (Value.bool false)), type := 4, pos := "validate.go:25", after := #[{ on := 5, ground := Ground.data }, { on := 12, ground := Ground.data }], guard := none } : Oper)) (v := ?a14_v13) rfl (by kernel_rfl) (by kernel_rfl) (by kernel_rfl) (fun _ _ _ h => h) (Or.inl ⟨by rfl, ?a14_y13⟩) (by assumption) ?a14_r13
                    case a14_y13 =>
                      intro w hSw
                      (try dsimp only at hSw)
                      go_simp
                      (try with_reducible rfl)
                    try simp only [Act.put, List.setIfInBounds_toArray, List.set_cons_zero, List.set_cons_succ]
                    refine wpAnyH_done (by kernel_rfl) ?_ _
                    have HI6 := Lib.hid (show I4 W2.drew B f from HI5.out)
                    have HX6 := Lib.hid (show W2.drew.heap[D]? = some (.cells #[.int .i64 33, .int .i64 wid, .int .i64 fl, .slice A' n' c', .int .u32 (v : Int)] 38 (0, 0)) from HX.out)
                    have HB6 := Lib.hid (drewD HB2.out)
                    clear HS HI5 HX HB2
                    generalize W2.drew = W3 at HI6 HX6 HB6 ⊢
                    obtain ⟨-, d1, -, -, d4⟩ := cells5 (x := ⟨33, wid, fl, args, (v : Int)⟩) HX6.out
                    simp only at d1 d4
                    obtain ⟨hcell, hfree⟩ := HI6.out.cell hv4
                    have hdl := lt_of_block HI6.out
                    have hI7 := Lib.hid (HI6.out.put (g := g) hv4 wid (fun j _ => HP1.out j))
                    have hb7 := Lib.hid (HB6.out.setCell (p := ⟨B, v, none⟩) hB0 (.int .i64 wid))
                    go_wp2
                    go_roundw
                    case rel => exact ⟨i + 1, by omega, by go_num, hb7.out, by rw [HGE.out]; exact hI7.out, HJ2⟩
                    case measure => simp [intOf]; omega
                  · have e0 : (s != 0) = true := by simp [q0]
                    by_cases q1 : s = wid
                    · have e1 : (s != wid) = false := by simp [q1]
                      have HJ2 := Lib.hid (HG1.out (.inr q1))
                      clear q0 q1 HB1 HG1
                      refine wp_region_held_drew (S := (fun W => W.cell? ⟨D, 1, none⟩ = some (.int .i64 wid) ∧ W.cell? ⟨D, 4, none⟩ = some (.int .u32 (v : Int)) ∧ W.cell? ⟨B, v, none⟩ = some (.int .i64 s))) (by kernel_rfl) ?_ (fun hHeld => ?_)
                      · exact HS.out _ (by first | exact Below.refl _ _ | exact drewD (Below.refl _ _) | exact drewR (Below.refl _ _))
                      refine wpAnyH_take (i := 0) (oi := ({ dst := some 50, op := Op.fieldAddr 38 (Operand.tmp 9) 4, type := 0, pos := "validate.go:25", after := #[], guard := none } : Oper)) (v := ?b1_v0) rfl (by kernel_rfl) (by kernel_rfl) (by kernel_rfl) (fun _ _ _ h => h) (Or.inl ⟨by rfl, ?b1_y0⟩) (by assumption) ?b1_r0
                      case b1_y0 =>
                        intro w hSw
                        (try dsimp only at hSw)
                        go_simp
                        (try with_reducible rfl)
                      try simp only [Act.put, List.setIfInBounds_toArray, List.set_cons_zero, List.set_cons_succ]
                      refine wpAnyH_take (i := 1) (oi := ({ dst := some 51, op := Op.load 36 (Operand.tmp 50), type := 36, pos := "validate.go:25", after := #[{ on := 0, ground := Ground.data }], guard := none } : Oper)) (v := ?b2_v1) rfl (by kernel_rfl) (by kernel_rfl) (by kernel_rfl) (fun _ _ _ h => h) (Or.inl ⟨by rfl, ?b2_y1⟩) (by assumption) ?b2_r1
                      case b2_y1 =>
                        intro w hSw
                        (try dsimp only at hSw)
                        go_simp
                        (try with_reducible rfl)
                      try simp only [Act.put, List.setIfInBounds_toArray, List.set_cons_zero, List.set_cons_succ]
                      refine wpAnyH_take (i := 2) (oi := ({ dst := some 52, op := Op.indexAddr 88 (Operand.tmp 7) (Operand.tmp 51), type := 0, pos := "validate.go:25", after := #[{ on := 1, ground := Ground.data }], guard := none } : Oper)) (v := ?b3_v2) rfl (by kernel_rfl) (by kernel_rfl) (by kernel_rfl) (fun _ _ _ h => h) (Or.inl ⟨by rfl, ?b3_y2⟩) (by assumption) ?b3_r2
                      case b3_y2 =>
                        intro w hSw
                        (try dsimp only at hSw)
                        go_simp
                        (try with_reducible rfl)
                      try simp only [Act.put, List.setIfInBounds_toArray, List.set_cons_zero, List.set_cons_succ]
                      refine wpAnyH_take (i := 3) (oi := ({ dst := some 53, op := Op.load 3 (Operand.tmp 52), type := 3, pos := "validate.go:25", after := #[{ on := 2, ground := Ground.data }], guard := none } : Oper)) (v := ?b4_v3) rfl (by kernel_rfl) (by kernel_rfl) (by kernel_rfl) (fun _ _ _ h => h) (Or.inl ⟨by rfl, ?b4_y3⟩) (by assumption) ?b4_r3
                      case b4_y3 =>
                        intro w hSw
                        (try dsimp only at hSw)
                        go_simp
                        (try with_reducible rfl)
                      try simp only [Act.put, List.setIfInBounds_toArray, List.set_cons_zero, List.set_cons_succ]
                      refine wpAnyH_take (i := 4) (oi := ({ dst := some 54, op := Op.binOp BinOp.neq 3 (Operand.tmp 53) (Operand.const (Value.int IntKind.i64 0)) 3, type := 4, pos := "validate.go:25", after := #[{ on := 3, ground := Ground.data }], guard := none } : Oper)) (v := ?b5_v4) rfl (by kernel_rfl) (by kernel_rfl) (by kernel_rfl) (fun _ _ _ h => h) (Or.inl ⟨by rfl, ?b5_y4⟩) (by assumption) ?b5_r4
                      case b5_y4 =>
                        intro w hSw
                        (try dsimp only at hSw)
                        go_simp
                        (try with_reducible rfl)
                      try simp only [Act.put, List.setIfInBounds_toArray, List.set_cons_zero, List.set_cons_succ]
                      refine wpAnyH_take (i := 5) (oi := ({ dst := some 55, op := Op.move (Operand.tmp 54), type := 4, pos := "validate.go:25", after := #[{ on := 4, ground := Ground.data }], guard := none } : Oper)) (v := ?b6_v5) rfl (by kernel_rfl) (by kernel_rfl) (by kernel_rfl) (fun _ _ _ h => h) (Or.inl ⟨by rfl, ?b6_y5⟩) (by assumption) ?b6_r5
                      case b6_y5 =>
                        intro w hSw
                        (try dsimp only at hSw)
                        go_simp
                        (try with_reducible rfl)
                      try simp only [Act.put, List.setIfInBounds_toArray, List.set_cons_zero, List.set_cons_succ]
                      refine wpAnyH_take (i := 6) (oi := ({ dst := some 56, op := Op.fieldAddr 38 (Operand.tmp 9) 4, type := 0, pos := "validate.go:25", after := #[{ on := 5, ground := Ground.guard }], guard := some (5, true) } : Oper)) (v := ?b7_v6) rfl (by kernel_rfl) (by kernel_rfl) (by kernel_rfl) (fun _ _ _ h => h) (Or.inl ⟨by rfl, ?b7_y6⟩) (by assumption) ?b7_r6
                      case b7_y6 =>
                        intro w hSw
                        (try dsimp only at hSw)
                        go_simp
                        (try with_reducible rfl)
                      try simp only [Act.put, List.setIfInBounds_toArray, List.set_cons_zero, List.set_cons_succ]
                      refine wpAnyH_take (i := 7) (oi := ({ dst := some 57, op := Op.load 36 (Operand.tmp 56), type := 36, pos := "validate.go:25", after := #[{ on := 6, ground := Ground.data }, { on := 5, ground := Ground.guard }], guard := some (5, true) } : Oper)) (v := ?b8_v7) rfl (by kernel_rfl) (by kernel_rfl) (by kernel_rfl) (fun _ _ _ h => h) (Or.inl ⟨by rfl, ?b8_y7⟩) (by assumption) ?b8_r7
                      case b8_y7 =>
                        intro w hSw
                        (try dsimp only at hSw)
                        go_simp
                        (try with_reducible rfl)
                      try simp only [Act.put, List.setIfInBounds_toArray, List.set_cons_zero, List.set_cons_succ]
                      refine wpAnyH_take (i := 8) (oi := ({ dst := some 58, op := Op.indexAddr 88 (Operand.tmp 7) (Operand.tmp 57), type := 0, pos := "validate.go:25", after := #[{ on := 7, ground := Ground.data }, { on := 5, ground := Ground.guard }], guard := some (5, true) } : Oper)) (v := ?b9_v8) rfl (by kernel_rfl) (by kernel_rfl) (by kernel_rfl) (fun _ _ _ h => h) (Or.inl ⟨by rfl, ?b9_y8⟩) (by assumption) ?b9_r8
                      case b9_y8 =>
                        intro w hSw
                        (try dsimp only at hSw)
                        go_simp
                        (try with_reducible rfl)
                      try simp only [Act.put, List.setIfInBounds_toArray, List.set_cons_zero, List.set_cons_succ]
                      refine wpAnyH_take (i := 9) (oi := ({ dst := some 59, op := Op.load 3 (Operand.tmp 58), type := 3, pos := "validate.go:25", after := #[{ on := 8, ground := Ground.data }, { on := 5, ground := Ground.guard }], guard := some (5, true) } : Oper)) (v := ?b10_v9) rfl (by kernel_rfl) (by kernel_rfl) (by kernel_rfl) (fun _ _ _ h => h) (Or.inl ⟨by rfl, ?b10_y9⟩) (by assumption) ?b10_r9
                      case b10_y9 =>
                        intro w hSw
                        (try dsimp only at hSw)
                        go_simp
                        (try with_reducible rfl)
                      try simp only [Act.put, List.setIfInBounds_toArray, List.set_cons_zero, List.set_cons_succ]
                      refine wpAnyH_take (i := 10) (oi := ({ dst := some 60, op := Op.fieldAddr 38 (Operand.tmp 9) 1, type := 0, pos := "validate.go:25", after := #[{ on := 5, ground := Ground.guard }], guard := some (5, true) } : Oper)) (v := ?b11_v10) rfl (by kernel_rfl) (by kernel_rfl) (by kernel_rfl) (fun _ _ _ h => h) (Or.inl ⟨by rfl, ?b11_y10⟩) (by assumption) ?b11_r10
                      case b11_y10 =>
                        intro w hSw
                        (try dsimp only at hSw)
                        go_simp
                        (try with_reducible rfl)
                      try simp only [Act.put, List.setIfInBounds_toArray, List.set_cons_zero, List.set_cons_succ]
                      refine wpAnyH_take (i := 11) (oi := ({ dst := some 61, op := Op.load 3 (Operand.tmp 60), type := 3, pos := "validate.go:25", after := #[{ on := 10, ground := Ground.data }, { on := 5, ground := Ground.guard }], guard := some (5, true) } : Oper)) (v := ?b12_v11) rfl (by kernel_rfl) (by kernel_rfl) (by kernel_rfl) (fun _ _ _ h => h) (Or.inl ⟨by rfl, ?b12_y11⟩) (by assumption) ?b12_r11
                      case b12_y11 =>
                        intro w hSw
                        (try dsimp only at hSw)
                        go_simp
                        (try with_reducible rfl)
                      try simp only [Act.put, List.setIfInBounds_toArray, List.set_cons_zero, List.set_cons_succ]
                      refine wpAnyH_take (i := 12) (oi := ({ dst := some 62, op := Op.binOp BinOp.neq 3 (Operand.tmp 59) (Operand.tmp 61) 3, type := 4, pos := "validate.go:25", after := #[{ on := 9, ground := Ground.data }, { on := 11, ground := Ground.data }, { on := 5, ground := Ground.guard }], guard := some (5, true) } : Oper)) (v := ?b13_v12) rfl (by kernel_rfl) (by kernel_rfl) (by kernel_rfl) (fun _ _ _ h => h) (Or.inl ⟨by rfl, ?b13_y12⟩) (by assumption) ?b13_r12
                      case b13_y12 =>
                        intro w hSw
                        (try dsimp only at hSw)
                        go_simp
                        (try with_reducible rfl)
                      try simp only [Act.put, List.setIfInBounds_toArray, List.set_cons_zero, List.set_cons_succ]
                      refine wpAnyH_take (i := 13) (oi := ({ dst := some 63, op := Op.pick (Operand.tmp 55) (Operand.tmp 62) (Operand.const (Value.bool false)), type := 4, pos := "validate.go:25", after := #[{ on := 5, ground := Ground.data }, { on := 12, ground := Ground.data }], guard := none } : Oper)) (v := ?b14_v13) rfl (by kernel_rfl) (by kernel_rfl) (by kernel_rfl) (fun _ _ _ h => h) (Or.inl ⟨by rfl, ?b14_y13⟩) (by assumption) ?b14_r13
                      case b14_y13 =>
                        intro w hSw
                        (try dsimp only at hSw)
                        go_simp
                        (try with_reducible rfl)
                      try simp only [Act.put, List.setIfInBounds_toArray, List.set_cons_zero, List.set_cons_succ]
                      refine wpAnyH_done (by kernel_rfl) ?_ _
                      have HI6 := Lib.hid (show I4 W2.drew B f from HI5.out)
                      have HX6 := Lib.hid (show W2.drew.heap[D]? = some (.cells #[.int .i64 33, .int .i64 wid, .int .i64 fl, .slice A' n' c', .int .u32 (v : Int)] 38 (0, 0)) from HX.out)
                      have HB6 := Lib.hid (drewD HB2.out)
                      clear HS HI5 HX HB2
                      generalize W2.drew = W3 at HI6 HX6 HB6 ⊢
                      obtain ⟨-, d1, -, -, d4⟩ := cells5 (x := ⟨33, wid, fl, args, (v : Int)⟩) HX6.out
                      simp only at d1 d4
                      obtain ⟨hcell, hfree⟩ := HI6.out.cell hv4
                      have hdl := lt_of_block HI6.out
                      have hI7 := Lib.hid (HI6.out.put (g := g) hv4 wid (fun j _ => HP1.out j))
                      have hb7 := Lib.hid (HB6.out.setCell (p := ⟨B, v, none⟩) hB0 (.int .i64 wid))
                      go_wp2
                      go_roundw
                      case rel => exact ⟨i + 1, by omega, by go_num, hb7.out, by rw [HGE.out]; exact hI7.out, HJ2⟩
                      case measure => simp [intOf]; omega
                    · have e1 : (s != wid) = true := by simp [q1]
                      have HE := Lib.hid (HB1.out q0 q1)
                      clear q0 q1 HB1 HG1
                      refine wp_region_held_drew (S := (fun W => W.cell? ⟨D, 1, none⟩ = some (.int .i64 wid) ∧ W.cell? ⟨D, 4, none⟩ = some (.int .u32 (v : Int)) ∧ W.cell? ⟨B, v, none⟩ = some (.int .i64 s))) (by kernel_rfl) ?_ (fun hHeld => ?_)
                      · exact HS.out _ (by first | exact Below.refl _ _ | exact drewD (Below.refl _ _) | exact drewR (Below.refl _ _))
                      refine wpAnyH_take (i := 0) (oi := ({ dst := some 50, op := Op.fieldAddr 38 (Operand.tmp 9) 4, type := 0, pos := "validate.go:25", after := #[], guard := none } : Oper)) (v := ?c1_v0) rfl (by kernel_rfl) (by kernel_rfl) (by kernel_rfl) (fun _ _ _ h => h) (Or.inl ⟨by rfl, ?c1_y0⟩) (by assumption) ?c1_r0
                      case c1_y0 =>
                        intro w hSw
                        (try dsimp only at hSw)
                        go_simp
                        (try with_reducible rfl)
                      try simp only [Act.put, List.setIfInBounds_toArray, List.set_cons_zero, List.set_cons_succ]
                      refine wpAnyH_take (i := 1) (oi := ({ dst := some 51, op := Op.load 36 (Operand.tmp 50), type := 36, pos := "validate.go:25", after := #[{ on := 0, ground := Ground.data }], guard := none } : Oper)) (v := ?c2_v1) rfl (by kernel_rfl) (by kernel_rfl) (by kernel_rfl) (fun _ _ _ h => h) (Or.inl ⟨by rfl, ?c2_y1⟩) (by assumption) ?c2_r1
                      case c2_y1 =>
                        intro w hSw
                        (try dsimp only at hSw)
                        go_simp
                        (try with_reducible rfl)
                      try simp only [Act.put, List.setIfInBounds_toArray, List.set_cons_zero, List.set_cons_succ]
                      refine wpAnyH_take (i := 2) (oi := ({ dst := some 52, op := Op.indexAddr 88 (Operand.tmp 7) (Operand.tmp 51), type := 0, pos := "validate.go:25", after := #[{ on := 1, ground := Ground.data }], guard := none } : Oper)) (v := ?c3_v2) rfl (by kernel_rfl) (by kernel_rfl) (by kernel_rfl) (fun _ _ _ h => h) (Or.inl ⟨by rfl, ?c3_y2⟩) (by assumption) ?c3_r2
                      case c3_y2 =>
                        intro w hSw
                        (try dsimp only at hSw)
                        go_simp
                        (try with_reducible rfl)
                      try simp only [Act.put, List.setIfInBounds_toArray, List.set_cons_zero, List.set_cons_succ]
                      refine wpAnyH_take (i := 3) (oi := ({ dst := some 53, op := Op.load 3 (Operand.tmp 52), type := 3, pos := "validate.go:25", after := #[{ on := 2, ground := Ground.data }], guard := none } : Oper)) (v := ?c4_v3) rfl (by kernel_rfl) (by kernel_rfl) (by kernel_rfl) (fun _ _ _ h => h) (Or.inl ⟨by rfl, ?c4_y3⟩) (by assumption) ?c4_r3
                      case c4_y3 =>
                        intro w hSw
                        (try dsimp only at hSw)
                        go_simp
                        (try with_reducible rfl)
                      try simp only [Act.put, List.setIfInBounds_toArray, List.set_cons_zero, List.set_cons_succ]
                      refine wpAnyH_take (i := 4) (oi := ({ dst := some 54, op := Op.binOp BinOp.neq 3 (Operand.tmp 53) (Operand.const (Value.int IntKind.i64 0)) 3, type := 4, pos := "validate.go:25", after := #[{ on := 3, ground := Ground.data }], guard := none } : Oper)) (v := ?c5_v4) rfl (by kernel_rfl) (by kernel_rfl) (by kernel_rfl) (fun _ _ _ h => h) (Or.inl ⟨by rfl, ?c5_y4⟩) (by assumption) ?c5_r4
                      case c5_y4 =>
                        intro w hSw
                        (try dsimp only at hSw)
                        go_simp
                        (try with_reducible rfl)
                      try simp only [Act.put, List.setIfInBounds_toArray, List.set_cons_zero, List.set_cons_succ]
                      refine wpAnyH_take (i := 5) (oi := ({ dst := some 55, op := Op.move (Operand.tmp 54), type := 4, pos := "validate.go:25", after := #[{ on := 4, ground := Ground.data }], guard := none } : Oper)) (v := ?c6_v5) rfl (by kernel_rfl) (by kernel_rfl) (by kernel_rfl) (fun _ _ _ h => h) (Or.inl ⟨by rfl, ?c6_y5⟩) (by assumption) ?c6_r5
                      case c6_y5 =>
                        intro w hSw
                        (try dsimp only at hSw)
                        go_simp
                        (try with_reducible rfl)
                      try simp only [Act.put, List.setIfInBounds_toArray, List.set_cons_zero, List.set_cons_succ]
                      refine wpAnyH_take (i := 6) (oi := ({ dst := some 56, op := Op.fieldAddr 38 (Operand.tmp 9) 4, type := 0, pos := "validate.go:25", after := #[{ on := 5, ground := Ground.guard }], guard := some (5, true) } : Oper)) (v := ?c7_v6) rfl (by kernel_rfl) (by kernel_rfl) (by kernel_rfl) (fun _ _ _ h => h) (Or.inl ⟨by rfl, ?c7_y6⟩) (by assumption) ?c7_r6
                      case c7_y6 =>
                        intro w hSw
                        (try dsimp only at hSw)
                        go_simp
                        (try with_reducible rfl)
                      try simp only [Act.put, List.setIfInBounds_toArray, List.set_cons_zero, List.set_cons_succ]
                      refine wpAnyH_take (i := 7) (oi := ({ dst := some 57, op := Op.load 36 (Operand.tmp 56), type := 36, pos := "validate.go:25", after := #[{ on := 6, ground := Ground.data }, { on := 5, ground := Ground.guard }], guard := some (5, true) } : Oper)) (v := ?c8_v7) rfl (by kernel_rfl) (by kernel_rfl) (by kernel_rfl) (fun _ _ _ h => h) (Or.inl ⟨by rfl, ?c8_y7⟩) (by assumption) ?c8_r7
                      case c8_y7 =>
                        intro w hSw
                        (try dsimp only at hSw)
                        go_simp
                        (try with_reducible rfl)
                      try simp only [Act.put, List.setIfInBounds_toArray, List.set_cons_zero, List.set_cons_succ]
                      refine wpAnyH_take (i := 8) (oi := ({ dst := some 58, op := Op.indexAddr 88 (Operand.tmp 7) (Operand.tmp 57), type := 0, pos := "validate.go:25", after := #[{ on := 7, ground := Ground.data }, { on := 5, ground := Ground.guard }], guard := some (5, true) } : Oper)) (v := ?c9_v8) rfl (by kernel_rfl) (by kernel_rfl) (by kernel_rfl) (fun _ _ _ h => h) (Or.inl ⟨by rfl, ?c9_y8⟩) (by assumption) ?c9_r8
                      case c9_y8 =>
                        intro w hSw
                        (try dsimp only at hSw)
                        go_simp
                        (try with_reducible rfl)
                      try simp only [Act.put, List.setIfInBounds_toArray, List.set_cons_zero, List.set_cons_succ]
                      refine wpAnyH_take (i := 9) (oi := ({ dst := some 59, op := Op.load 3 (Operand.tmp 58), type := 3, pos := "validate.go:25", after := #[{ on := 8, ground := Ground.data }, { on := 5, ground := Ground.guard }], guard := some (5, true) } : Oper)) (v := ?c10_v9) rfl (by kernel_rfl) (by kernel_rfl) (by kernel_rfl) (fun _ _ _ h => h) (Or.inl ⟨by rfl, ?c10_y9⟩) (by assumption) ?c10_r9
                      case c10_y9 =>
                        intro w hSw
                        (try dsimp only at hSw)
                        go_simp
                        (try with_reducible rfl)
                      try simp only [Act.put, List.setIfInBounds_toArray, List.set_cons_zero, List.set_cons_succ]
                      refine wpAnyH_take (i := 10) (oi := ({ dst := some 60, op := Op.fieldAddr 38 (Operand.tmp 9) 1, type := 0, pos := "validate.go:25", after := #[{ on := 5, ground := Ground.guard }], guard := some (5, true) } : Oper)) (v := ?c11_v10) rfl (by kernel_rfl) (by kernel_rfl) (by kernel_rfl) (fun _ _ _ h => h) (Or.inl ⟨by rfl, ?c11_y10⟩) (by assumption) ?c11_r10
                      case c11_y10 =>
                        intro w hSw
                        (try dsimp only at hSw)
                        go_simp
                        (try with_reducible rfl)
                      try simp only [Act.put, List.setIfInBounds_toArray, List.set_cons_zero, List.set_cons_succ]
                      refine wpAnyH_take (i := 11) (oi := ({ dst := some 61, op := Op.load 3 (Operand.tmp 60), type := 3, pos := "validate.go:25", after := #[{ on := 10, ground := Ground.data }, { on := 5, ground := Ground.guard }], guard := some (5, true) } : Oper)) (v := ?c12_v11) rfl (by kernel_rfl) (by kernel_rfl) (by kernel_rfl) (fun _ _ _ h => h) (Or.inl ⟨by rfl, ?c12_y11⟩) (by assumption) ?c12_r11
                      case c12_y11 =>
                        intro w hSw
                        (try dsimp only at hSw)
                        go_simp
                        (try with_reducible rfl)
                      try simp only [Act.put, List.setIfInBounds_toArray, List.set_cons_zero, List.set_cons_succ]
                      refine wpAnyH_take (i := 12) (oi := ({ dst := some 62, op := Op.binOp BinOp.neq 3 (Operand.tmp 59) (Operand.tmp 61) 3, type := 4, pos := "validate.go:25", after := #[{ on := 9, ground := Ground.data }, { on := 11, ground := Ground.data }, { on := 5, ground := Ground.guard }], guard := some (5, true) } : Oper)) (v := ?c13_v12) rfl (by kernel_rfl) (by kernel_rfl) (by kernel_rfl) (fun _ _ _ h => h) (Or.inl ⟨by rfl, ?c13_y12⟩) (by assumption) ?c13_r12
                      case c13_y12 =>
                        intro w hSw
                        (try dsimp only at hSw)
                        go_simp
                        (try with_reducible rfl)
                      try simp only [Act.put, List.setIfInBounds_toArray, List.set_cons_zero, List.set_cons_succ]
                      refine wpAnyH_take (i := 13) (oi := ({ dst := some 63, op := Op.pick (Operand.tmp 55) (Operand.tmp 62) (Operand.const (Value.bool false)), type := 4, pos := "validate.go:25", after := #[{ on := 5, ground := Ground.data }, { on := 12, ground := Ground.data }], guard := none } : Oper)) (v := ?c14_v13) rfl (by kernel_rfl) (by kernel_rfl) (by kernel_rfl) (fun _ _ _ h => h) (Or.inl ⟨by rfl, ?c14_y13⟩) (by assumption) ?c14_r13
                      case c14_y13 =>
                        intro w hSw
                        (try dsimp only at hSw)
                        go_simp
                        (try with_reducible rfl)
                      try simp only [Act.put, List.setIfInBounds_toArray, List.set_cons_zero, List.set_cons_succ]
                      refine wpAnyH_done (by kernel_rfl) ?_ _
                      go_wp2
                      exact bodyPost_ret (results_tmp rfl _ _ _) rfl ⟨by exact ret_i HE.out.symm, drewD HB2.out⟩
                · have HJ2 := Lib.hid (HOTH.out ho)
                  have hI5 := hI4.congr (g := g) (fun j _ => HPN.out ho j)
                  clear HBAD HGOOD HOTH HVAR HPUT HPN hI h0 h1 hI4
                  generalize T[i]! = x at a0 a1 a2 a3 a4 ho
                  obtain ⟨op, wid, fl, args, imm⟩ := x
                  simp only at a0 a1 a2 a3 a4 ho
                  have e0 : (op != 33) = true := by simp [ho]
                  have hb2 := hb.alloc hb.size (.cells #[.int .i64 op, .int .i64 wid, .int .i64 fl, .slice A' n' c', .int .u32 imm] 38)
                  have hI6 := hI5.below ((Below.refl _ _).alloc (Nat.le_refl _) (.cells #[.int .i64 op, .int .i64 wid, .int .i64 fl, .slice A' n' c', .int .u32 imm] 38))
                  clear ho hb hI5
                  go_wp2
                  go_roundw
                  case rel => exact ⟨i + 1, by omega, by go_num, hb2, by rw [HGE.out]; exact hI6, HJ2⟩
                  case measure => simp [intOf]; omega
              · obtain rfl : i = k := by omega
                have HE := Lib.hid (HYES2.out HJ.out)
                go_wp2
                go_ret
                exact ⟨ret_i HE.out.symm, hb⟩
end Go.Proofs.YtbohigjfdnnomaaGreatDoor
