/-
  heads and loop of the program.
-/
import Derived.Test.YtchkckflpmepkaaFwU
namespace Go.Proofs.Ytchkckflpmepkaa
open Go.RowKit

theorem edg_get {w wr : World} {A : Option Addr} {m : Nat} {l : List Edg} (h : m = 0 ∨ ∃ b off, A = some ⟨b, off, none⟩ ∧ b < w.heap.size ∧ ∀ j, j < m → w.cell? ⟨b, off + j * 2, none⟩ = some (.int .i64 ((l[j]!).1 : Int)) ∧ w.cell? ⟨b, off + j * 2 + 1, none⟩ = some (.int .i64 ((l[j]!).2 : Int)))
    (hb : Below w.heap.size w wr) {j : Nat} (hj : j < m) : ∃ b off, A = some ⟨b, off, none⟩ ∧ b < wr.heap.size ∧ wr.cell? ⟨b, off + j * 2, none⟩ = some (.int .i64 ((l[j]!).1 : Int)) ∧ wr.cell? ⟨b, off + j * 2 + 1, none⟩ = some (.int .i64 ((l[j]!).2 : Int)) := by
  rcases h with h | ⟨b, off, h4, h5, h6⟩
  · omega
  · exact ⟨b, off, h4, Nat.lt_of_lt_of_le h5 hb.size, (hb.cell (p := ⟨b, off + j * 2, none⟩) h5).trans (h6 j hj).1, (hb.cell (p := ⟨b, off + j * 2 + 1, none⟩) h5).trans (h6 j hj).2⟩
theorem SetB.no_int {w : World} {S : Nat} {s : NS} (h : SetB w S s) {o : Nat} {k : IntKind} {x : Int} (hc : w.cell? ⟨S, o, none⟩ = some (.int k x)) : False := by
  unfold SetB at h
  simp only [World.cell?, h] at hc
  by_cases ho : o < 10
  · rw [setA_at s ho] at hc
    cases hc
  · rw [Array.getElem?_eq_none (by rw [setA_size]; omega)] at hc
    cases hc
theorem edg_keep {w wr : World} {A : Option Addr} {m S : Nat} {s : NS} {l : List Edg} (h : m = 0 ∨ ∃ b off, A = some ⟨b, off, none⟩ ∧ b < w.heap.size ∧ ∀ j, j < m → w.cell? ⟨b, off + j * 2, none⟩ = some (.int .i64 ((l[j]!).1 : Int)) ∧ w.cell? ⟨b, off + j * 2 + 1, none⟩ = some (.int .i64 ((l[j]!).2 : Int)))
    (hS : SetB w S s) (hk : KeepS S w wr) {j : Nat} (hj : j < m) : ∃ b off, A = some ⟨b, off, none⟩ ∧ b < wr.heap.size ∧ wr.cell? ⟨b, off + j * 2, none⟩ = some (.int .i64 ((l[j]!).1 : Int)) ∧ wr.cell? ⟨b, off + j * 2 + 1, none⟩ = some (.int .i64 ((l[j]!).2 : Int)) := by
  rcases h with h | ⟨b, off, h4, h5, h6⟩
  · omega
  · have hne : b ≠ S := fun e => by
      subst e
      exact hS.no_int (h6 j hj).1
    have hblk := hk.block b h5 hne
    exact ⟨b, off, h4, Nat.lt_of_lt_of_le h5 hk.size, (World.cell?_of_block (w := w) hblk).trans (h6 j hj).1, (World.cell?_of_block (w := w) hblk).trans (h6 j hj).2⟩
theorem bkL_mem {G : List (List Nat)} (hG : okG G) {e : Edg} (h : e ∈ bkL G) : e.1 < G.length ∧ e.2 < G.length ∧ wy G (-1) 0 e.1 = true ∧ sucS G e.1 e.2 = true ∧ domB G e.2 e.1 = true := by
  unfold bkL at h
  obtain ⟨a, ha, h⟩ := List.mem_flatMap.1 h
  unfold bkF at h
  obtain ⟨b, hb, rfl⟩ := List.mem_map.1 h
  rw [List.mem_filter] at hb
  have h1 := (mem_setL.1 ha).2
  have h2 := (mem_setL.1 hb.1).2
  exact ⟨wy_lt hG hG.1 h1, sucS_lt hG h2, h1, h2, hb.2⟩
theorem bkL_len {G : List (List Nat)} : (bkL G).length ≤ 100 := by
  have h := bkP_len G (setL (wy G (-1) 0) 10).length (Nat.le_refl _)
  have h2 := setL_le (wy G (-1) 0) 10
  unfold bkP at h
  rw [List.take_length] at h
  have : (bkL G).length ≤ 10 * (setL (wy G (-1) 0) 10).length := h
  omega
/-- The heads of some edges. -/
def hdS (E : List Edg) : NS := fun h => decide (∃ e ∈ E, e.2 = h)
theorem takeE_succ {l : List Edg} {k : Nat} (h : k < l.length) : l.take (k + 1) = l.take k ++ [l[k]!] := by
  rw [List.take_succ_eq_append_getElem h, show l[k]! = l[k] by simp [h]]
theorem hd_put {E : List Edg} {i : Nat} (h : i < E.length) (j : Nat) : put (hdS (E.take i)) (E[i]!).2 j = hdS (E.take (i + 1)) j := by
  unfold put hdS
  rw [takeE_succ h]
  split
  · rename_i e
    exact (decide_eq_true ⟨E[i]!, by simp, e.symm⟩).symm
  · rename_i e
    rw [decide_eq_decide]
    constructor
    · rintro ⟨x, hx, h⟩
      exact ⟨x, List.mem_append_left _ hx, h⟩
    · rintro ⟨x, hx, h⟩
      rcases List.mem_append.1 hx with hx | hx
      · exact ⟨x, hx, h⟩
      · rw [List.mem_singleton] at hx
        rw [hx] at h
        exact absurd h.symm e
section
variable {w : World} {A : Option Addr} {n c : Nat} {G : List (List Nat)}
set_option maxRecDepth 100000 in
set_option maxHeartbeats 8000000 in
theorem heads_any (hG : okG G) (h : MG w A n c G) : Calls Try.prog 58 #[.slice A n c] w fun e w' => e = .returned (.agg (setA (hdS (bkL G)))) ∧ Below w.heap.size w w' := by
  have HC := Lib.hid (fun w1 (hb : Below w.heap.size w w1) => backs_any hG (h.below hb))
  have HLT := Lib.hid (fun i (hi : i < (bkL G).length) => show (bkL G)[i]!.2 < 10 by
    have hm : (bkL G)[i]! ∈ bkL G := by rw [show (bkL G)[i]! = (bkL G)[i] by simp [hi]]; exact List.getElem_mem _
    have := (bkL_mem hG hm).2.1
    have := hG.2.1
    omega)
  have hEl := bkL_len (G := G)
  have HT := Lib.hid (show ∀ j, hdS (bkL G) j = hdS ((bkL G).take (bkL G).length) j from fun j => by rw [List.take_length])
  generalize hdS (bkL G) = T at HT ⊢
  generalize bkL G = E at HC HLT hEl HT
  clear h hG
  go_enter Try.func58, Try.ntmps58
  go_wp2_with fail
  have hb0 : Below w.heap.size w ((w.alloc (.cells zV 52)).alloc (.cells zV 52)) := ((Below.refl _ _).alloc (Nat.le_refl _) _).alloc (by simp) _
  have hR := (SetB.zero w).below (((Below.refl (w.alloc (.cells zV 52)).heap.size _)).alloc (Nat.le_refl _) (.cells zV 52))
  have hS := SetB.zero (w.alloc (.cells zV 52))
  generalize World.alloc (World.alloc w _) _ = W0 at hb0 hR hS ⊢
  rw [show (w.alloc (.cells zV 52)).heap.size = w.heap.size + 1 by simp] at hS
  refine (HC.out W0 hb0).mono ?_
  rintro e w1 ⟨v, rfl, hE, hb1⟩
  replace hR := hR.below hb1
  replace hS := hS.below hb1
  replace hb0 := hb0.trans (hb1.mono hb0.size)
  obtain ⟨AE, m, cE, rfl, hm, hcE, hmE, hcells⟩ := hE
  subst hm
  have hSz := lt_of_block hS
  have HCE := Lib.hid hcells
  have HS1 := Lib.hid hS
  clear hb1 hcells
  go_wp2
  go_loopw [9] (fun zi wr => ∃ i : Nat, i ≤ E.length ∧ zi = .int .i64 (i : Int) ∧ Below w.heap.size w wr ∧ SetB wr w.heap.size non ∧ SetB wr (w.heap.size + 1) (hdS (E.take i)) ∧ KeepS (w.heap.size + 1) w1 wr) (fun zi _ => E.length - (intOf zi).toNat)
  case atStart => exact ⟨0, by omega, rfl, hb0, hR, hS.congr (fun j _ => by simp [hdS, non]), KeepS.refl _ _⟩
  case round =>
    clear hb0 hR hS
    obtain ⟨i, hi, rfl, hb, hR, hS, hK⟩ := hrel
    by_cases hlt : i < E.length
    · obtain ⟨b', off', rfl, hbs', hc1, hc2⟩ := edg_keep HCE.out HS1.out hK hlt
      have hp := HLT.out i hlt
      have HPUT := Lib.hid (fun j => hd_put hlt j)
      generalize E[i]! = x at hc1 hc2 hp HPUT
      obtain ⟨p, q⟩ := x
      simp only at hc1 hc2 hp HPUT
      go_upto_region 5 with fail
      have hcc := two_cells (heap_alloc_new wr (.cells #[.int .i64 (p : Int), .int .i64 (q : Int)] 50))
      have hbA := (Below.refl wr.heap.size wr).alloc (Nat.le_refl _) (.cells #[.int .i64 (p : Int), .int .i64 (q : Int)] 50)
      have hb2 := hb.trans (hbA.mono hb.size)
      have hR2 := hR.below hbA
      have hS2 := hS.below hbA
      have hK2 := hK.trans (KeepS.of_below hbA)
      generalize World.alloc wr _ = W1 at hcc hb2 hR2 hS2 hK2 ⊢
      clear hbA hb hR hS hK hc1 hc2 hbs'
      obtain ⟨h0, h1⟩ := hcc
      clear h0
      have hS3 := Lib.hid ((hS2.put hp).congr (fun j _ => HPUT.out j))
      have hR3 := Lib.hid (hR2.ne (P := w.heap.size + 1) (o := q) (u := .bool true) (by omega))
      have hb3 := Lib.hid (hb2.setCell (p := ⟨w.heap.size + 1, q, none⟩) (show w.heap.size ≤ w.heap.size + 1 by omega) (.bool true))
      have hK3 := Lib.hid (hK2.set q (.bool true))
      obtain ⟨hcell, hfree⟩ := hS2.cell hp
      generalize hdS (E.take i) q = cb at hcell
      clear hb2 hR2 hS2 hK2
      go_wp2
      go_roundw
      case rel => exact ⟨i + 1, by omega, by go_num, hb3.out, hR3.out, hS3.out, hK3.out⟩
      case measure => simp [intOf]; omega
    · obtain rfl : i = E.length := by omega
      have hS := hS.congr (fun j _ => (HT.out j).symm)
      unfold SetB at hS hR
      go_wp2_with (first | (refine wpList_load_row rfl 52 (.tmp 3) rfl (w.heap.size + 1) rfl 52 (setA T) (0, 0) _ hS Try.underlying52 rfl (setA_info T) ?_) | (refine wpList_store_row rfl _ _ _ rfl w.heap.size (setA T) rfl rfl 52 _ hR (setA_info T) (by rw [setA_size, setA_size]) (setA_one T) ?_))
      exact bodyPost_ret (results_cell_row rfl _ _ w.heap.size 52 (setA T) (0, 0) _ rfl (setRow_get _ _ _ _ _ hR) Try.underlying52 rfl (setA_info T)) rfl ⟨rfl, setRow_below hb (Nat.le_refl _) _⟩
end
end Go.Proofs.Ytchkckflpmepkaa
