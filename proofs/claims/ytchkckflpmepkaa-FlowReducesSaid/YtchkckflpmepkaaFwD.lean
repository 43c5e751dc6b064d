/-
  Sets of the program: before, successors; goes of the reference.
-/
import Derived.Test.YtchkckflpmepkaaFwC
namespace Go.Proofs.Ytchkckflpmepkaa
open Go.RowKit

/-- The successors, as a set. -/
def sucS (G : List (List Nat)) (v : Nat) : NS := fun j => decide (j ∈ suc G v)
/-- The nodes before another one. -/
def befS (G : List (List Nat)) (v : Nat) : NS := fun a => decide (v ∈ suc G a)
theorem suc_out {G : List (List Nat)} {v : Nat} (h : G.length ≤ v) : suc G v = [] := by
  unfold suc
  simp [h]
  rfl
theorem befS_lt {G : List (List Nat)} {v a : Nat} (h : befS G v a = true) : a < G.length := by
  apply Classical.byContradiction
  intro hh
  have h1 := of_decide_eq_true h
  rw [suc_out (by omega)] at h1
  cases h1
theorem at_get {l : List Nat} {q : Nat} (h : q < l.length) : l[q]! ∈ l := by
  rw [show l[q]! = l[q] by simp [h]]
  exact List.getElem_mem _
theorem mem_at {l : List Nat} {x : Nat} : x ∈ l ↔ ∃ q, q < l.length ∧ l[q]! = x := by
  constructor
  · intro h
    obtain ⟨q, hq, e⟩ := List.mem_iff_getElem.1 h
    exact ⟨q, hq, by simp [hq, e]⟩
  · rintro ⟨q, hq, rfl⟩
    exact at_get hq
theorem mem_take {l : List Nat} {x k : Nat} : x ∈ l.take k ↔ ∃ q, q < k ∧ q < l.length ∧ l[q]! = x := by
  constructor
  · intro h
    obtain ⟨q, hq, e⟩ := List.mem_iff_getElem.1 h
    rw [List.length_take] at hq
    rw [List.getElem_take] at e
    exact ⟨q, by omega, by omega, by simp [show q < l.length by omega, e]⟩
  · rintro ⟨q, h1, h2, rfl⟩
    refine List.mem_iff_getElem.2 ⟨q, by rw [List.length_take]; omega, ?_⟩
    rw [List.getElem_take]
    simp [h2]
theorem take_succ {l : List Nat} {k : Nat} (h : k < l.length) : l.take (k + 1) = l.take k ++ [l[k]!] := by
  rw [List.take_succ_eq_append_getElem h, show l[k]! = l[k] by simp [h]]
/-- Storing the result of a set into its cell, and handing it out. -/
theorem setRow_get (w : World) (g : Nat) (old new : Array Value) (t : TypeId) (h : w.heap[g]? = some (.cells old t (0, 0))) : (w.setRow g new).heap[g]? = some (.cells new t (0, 0)) := by
  have hlt := lt_of_block h
  have h' : w.heap[g] = .cells old t (0, 0) := by simpa [Array.getElem?_eq_getElem hlt] using h
  show (w.heap.modify g _)[g]? = _
  rw [Array.getElem?_eq_getElem (by simpa using hlt), Array.getElem_modify_self, h']
theorem setRow_ne (w : World) (g : Nat) (new : Array Value) {k : Nat} (h : k ≠ g) : (w.setRow g new).heap[k]? = w.heap[k]? := by
  show (w.heap.modify g _)[k]? = _
  rw [Array.getElem?_modify, if_neg (fun e => h e.symm)]
theorem setRow_below {B : Nat} {a w : World} (h : Below B a w) {g : Nat} (hg : B ≤ g) (new : Array Value) : Below B a (w.setRow g new) :=
  ⟨h.os, h.tape, h.output, Nat.le_trans h.size (by show _ ≤ (w.heap.modify g _).size; simp), fun k hk => (setRow_ne w g new (by omega)).trans (h.block k hk)⟩
theorem SetB.congr {w : World} {B : Nat} {s t : NS} (h : SetB w B s) (e : ∀ j, j < 10 → s j = t j) : SetB w B t := by
  unfold SetB at h ⊢
  rw [← setA_ext e]
  exact h
theorem SetB.ne {w : World} {B P o : Nat} {s : NS} {u : Value} (h : SetB w B s) (hne : B ≠ P) : SetB (w.setCell ⟨P, o, none⟩ u) B s := h.block (heap_setCell_other w ⟨P, o, none⟩ B u hne)
theorem put_take {l : List Nat} {q : Nat} (h : q < l.length) (j : Nat) : put (fun j => decide (j ∈ l.take q)) l[q]! j = decide (j ∈ l.take (q + 1)) := by
  rw [take_succ h, Bool.eq_iff_iff, decide_eq_true_iff, List.mem_append, List.mem_singleton]
  unfold put
  split
  · rename_i e
    exact ⟨fun _ => .inr e, fun _ => rfl⟩
  · rename_i e
    rw [decide_eq_true_iff]
    exact ⟨fun h => .inl h, fun h => h.elim id (fun h => absurd h e)⟩
section
variable {w : World} {A : Option Addr} {n c : Nat} {G : List (List Nat)}
set_option maxRecDepth 100000 in
set_option maxHeartbeats 4000000 in
theorem goes_any (h : MG w A n c G) (a : Nat) (ha : a < n) (b : Int) : Calls Try.prog 48 #[.slice A n c, .int .i64 (a : Int), .int .i64 b] w fun e w' => e = .returned (.bool (decide (∃ x ∈ suc G a, (x : Int) = b))) ∧ w = w' := by
  obtain ⟨b0, off, A', n', c', rfl, hbs, hc, hr⟩ := h.at_ ha
  have hr1 := hr.1
  have hcap := h.2.1
  have hmax := h.2.2.1
  have hcap' := hr.2.1
  have hmax' := hr.2.2.1
  generalize suc G a = l at hr hr1
  have HR := Lib.hid hr
  have HR1 := Lib.hid hr1
  clear h hr hr1
  obtain ⟨B, hB⟩ : ∃ B, B = decide (∃ x ∈ l, (x : Int) = b) := ⟨_, rfl⟩
  rw [← hB]
  have HB := Lib.hid hB
  clear hB
  go_enter Try.func48, Try.ntmps48
  go_wp2
  go_loop [7] (fun zi => ∃ i : Nat, i ≤ n' ∧ zi = .int .i64 (i : Int) ∧ Hid (∀ j, j < i → ((l[j]! : Nat) : Int) ≠ b)) (fun zi => n' - (intOf zi).toNat)
  case atStart => exact ⟨0, by omega, rfl, Lib.hid fun j hj => absurd hj (by omega)⟩
  case round =>
    obtain ⟨i, hi, rfl, HJ⟩ := hrel
    by_cases hlt : i < n'
    · obtain ⟨b', off', rfl, hbs', hc'⟩ := HR.out.at_ hlt
      by_cases hx : ((l[i]! : Nat) : Int) = b
      · have HE := Lib.hid (show B = true by
          rw [HB.out]
          exact decide_eq_true ⟨_, at_get (by rw [← HR1.out]; exact hlt), hx⟩)
        rw [hx] at hc'
        have hpp : (b == b) = true := beq_self_eq_true b
        clear hx
        go_wp2
        go_ret
        exact ⟨ret_b (by rw [HE.out]), rfl⟩
      · have HJ2 := Lib.hid (show ∀ j, j < i + 1 → ((l[j]! : Nat) : Int) ≠ b from fun j hj => by
          by_cases hji : j = i
          · rw [hji]; exact hx
          · exact HJ.out j (by omega))
        have hpp : (((l[i]! : Nat) : Int) == b) = false := beq_false_of_ne hx
        generalize l[i]! = p at hc' hpp
        clear hx
        go_wp2
        go_roundw
        case rel => exact ⟨i + 1, by omega, by go_num, HJ2⟩
        case measure => simp [intOf]; omega
    · obtain rfl : i = n' := by omega
      have HE := Lib.hid (show B = false by
        rw [HB.out]
        refine decide_eq_false ?_
        rintro ⟨x, hx, e⟩
        obtain ⟨q, hq, rfl⟩ := mem_at.1 hx
        exact HJ.out q (by rw [HR1.out]; exact hq) e)
      go_wp2
      go_ret
      exact ⟨ret_b (by rw [HE.out]), rfl⟩
set_option maxRecDepth 100000 in
set_option maxHeartbeats 4000000 in
theorem successors_any (hG : okG G) (h : MG w A n c G) (v : Nat) (hv : v < n) : Calls Try.prog 61 #[.slice A n c, .int .i64 (v : Int)] w fun e w' => e = .returned (.agg (setA (sucS G v))) ∧ Below w.heap.size w w' := by
  obtain ⟨b0, off, A', n', c', rfl, hbs, hc, hr⟩ := h.at_ hv
  have hr1 := hr.1
  have hcap := h.2.1
  have hmax := h.2.2.1
  have hcap' := hr.2.1
  have hmax' := hr.2.2.1
  have HLT := Lib.hid (show ∀ q, q < n' → (suc G v)[q]! < 10 from fun q hq => by
    have := hG.2.2.2 v _ (at_get (l := suc G v) (q := q) (by omega))
    have := hG.2.1
    omega)
  have HT := Lib.hid (show ∀ j, sucS G v j = decide (j ∈ (suc G v).take n') from fun j => by
    unfold sucS
    rw [hr1, List.take_length])
  generalize sucS G v = T at HT ⊢
  generalize suc G v = l at hr hr1 HLT HT
  have HR := Lib.hid hr
  have HR1 := Lib.hid hr1
  clear h hr hr1 hG
  go_enter Try.func61, Try.ntmps61
  go_wp2_with fail
  have hb0 : Below w.heap.size w ((w.alloc (.cells #[.bool false, .bool false, .bool false, .bool false, .bool false, .bool false, .bool false, .bool false, .bool false, .bool false] 52)).alloc (.cells #[.bool false, .bool false, .bool false, .bool false, .bool false, .bool false, .bool false, .bool false, .bool false, .bool false] 52)) := ((Below.refl _ _).alloc (Nat.le_refl _) _).alloc (by simp) _
  have hR := (SetB.zero w).below (((Below.refl (w.alloc (.cells #[.bool false, .bool false, .bool false, .bool false, .bool false, .bool false, .bool false, .bool false, .bool false, .bool false] 52)).heap.size _)).alloc (Nat.le_refl _) (.cells #[.bool false, .bool false, .bool false, .bool false, .bool false, .bool false, .bool false, .bool false, .bool false, .bool false] 52))
  have hS := SetB.zero (w.alloc (.cells #[.bool false, .bool false, .bool false, .bool false, .bool false, .bool false, .bool false, .bool false, .bool false, .bool false] 52))
  generalize World.alloc (World.alloc w _) _ = W0 at hb0 hR hS ⊢
  rw [show (w.alloc (.cells #[.bool false, .bool false, .bool false, .bool false, .bool false, .bool false, .bool false, .bool false, .bool false, .bool false] 52)).heap.size = w.heap.size + 1 by simp] at hS
  go_loopw [13] (fun zi wr => ∃ i : Nat, i ≤ n' ∧ zi = .int .i64 (i : Int) ∧ Below w.heap.size w wr ∧ SetB wr w.heap.size non ∧ SetB wr (w.heap.size + 1) (fun j => decide (j ∈ l.take i))) (fun zi _ => n' - (intOf zi).toNat)
  case atStart => exact ⟨0, by omega, rfl, hb0, hR, hS.congr (fun j _ => by simp [non])⟩
  case round =>
    obtain ⟨i, hi, rfl, hb, hR, hS⟩ := hrel
    by_cases hlt : i < n'
    · obtain ⟨b', off', rfl, hbs', hc'⟩ := (HR.out.below hb).at_ hlt
      have hp := HLT.out i hlt
      have hS2 := (hS.put hp).congr (fun j _ => put_take (by rw [← HR1.out]; exact hlt) j)
      have hR2 := hR.ne (P := w.heap.size + 1) (o := l[i]!) (u := .bool true) (by omega)
      have hb2 := hb.setCell (p := ⟨w.heap.size + 1, l[i]!, none⟩) (show w.heap.size ≤ w.heap.size + 1 by omega) (.bool true)
      obtain ⟨hcell, hfree⟩ := hS.cell hp
      have hcell := Lib.hid hcell
      generalize l[i]! = p at hc' hp hS2 hR2 hb2 hcell hfree
      clear hS hR hb
      have hS2 := Lib.hid hS2
      have hR2 := Lib.hid hR2
      have hb2 := Lib.hid hb2
      have hcell := hcell.out
      generalize decide (p ∈ l.take i) = cb at hcell
      go_wp2
      go_roundw
      case rel => exact ⟨i + 1, by omega, by go_num, hb2.out, hR2.out, hS2.out⟩
      case measure => simp [intOf]; omega
    · obtain rfl : i = n' := by omega
      have hS := hS.congr (fun j _ => (HT.out j).symm)
      unfold SetB at hS hR
      go_wp2_with (first | (refine wpList_load_row rfl 52 (.tmp 5) rfl (w.heap.size + 1) rfl 52 (setA T) (0, 0) _ hS Try.underlying52 rfl (setA_info T) ?_) | (refine wpList_store_row rfl _ _ _ rfl w.heap.size (setA T) rfl rfl 52 _ hR (setA_info T) (by rw [setA_size, setA_size]) (setA_one T) ?_))
      exact bodyPost_ret (results_cell_row rfl _ _ w.heap.size 52 (setA T) (0, 0) _ rfl (setRow_get _ _ _ _ _ hR) Try.underlying52 rfl (setA_info T)) rfl ⟨rfl, setRow_below hb (Nat.le_refl _) _⟩
end
end Go.Proofs.Ytchkckflpmepkaa
