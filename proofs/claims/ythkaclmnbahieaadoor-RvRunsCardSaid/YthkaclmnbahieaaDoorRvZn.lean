/-
  memory of the program: where the bytes are not there, and loads. memory of the program: stores. execute of the program: loads and stores.
-/
import Derived.Test.YthkaclmnbahieaaDoorRvZk
namespace Go.Proofs.YthkaclmnbahieaaDoor
open Go.RowKit

/-- How many bytes a load or a store takes. -/
def szF (op : Nat) : Nat := if op = 25 ∨ op = 28 then 1 else if op = 26 ∨ op = 29 then 2 else 4
theorem szF_lim (op : Nat) : 1 ≤ szF op ∧ szF op ≤ 4 := by
  unfold szF
  repeat (first | omega | split)
abbrev szA : Array Value := #[.int .i64 1, .int .i64 2, .int .i64 4, .int .i64 1, .int .i64 2, .int .i64 4]
theorem ix6 (op : Nat) (hop : 25 ≤ op ∧ op ≤ 30) (w : World) : (Instr.index 145 (.agg #[.int .i64 1, .int .i64 2, .int .i64 4, .int .i64 1, .int .i64 2, .int .i64 4]) (.int .i64 ((op : Int) - 25))).run Tryd.prog w = .ok (.int .i64 (szF op : Nat)) w := by
  obtain rfl | rfl | rfl | rfl | rfl | rfl : op = 25 ∨ op = 26 ∨ op = 27 ∨ op = 28 ∨ op = 29 ∨ op = 30 := by omega
  all_goals kernel_rfl
/-- A part of bytes. -/
theorem byt_part {w : World} {M o n c : Nat} {l : List Int} (h : Byt w (some ⟨M, o, none⟩) n c l) (P k : Nat) (hk : 1 ≤ k) (hp : P + k ≤ n) : Byt w (some ⟨M, o + P, none⟩) k (c - P) ((l.drop P).take k) := by
  have hc := h.2.1
  have h1 := byt_drop h (k := P) (by omega)
  have h2 := byt_take h1 (k := k) (by omega)
  have e : dropA (some ⟨M, o, none⟩) c P = some ⟨M, o + P, none⟩ := by
    unfold dropA
    rw [if_neg (by omega)]
    simp [Addr.add]
  rw [e] at h2
  exact h2
/-- The number at a place. -/
def ldF (l : List Int) (P k : Nat) : Nat := numP ((l.drop P).take k) k
section
variable {w : World} {G : Nat} {R : Nat → Nat} {fl : Int} {at_ fin : Nat} {A : Option Addr} {n c : Nat}
set_option maxRecDepth 100000 in
set_option maxHeartbeats 4000000 in
theorem mem_no (h : MacC w G R fl at_ (.slice A n c) fin) (op d a b : Nat) (imm : Int) (hop : 25 ≤ op ∧ op ≤ 30) (P : Nat) (hP : P < 4294967296) (hn : n ≤ 40000) (hno : n < P + szF op) :
    Calls Tryd.prog 84 #[.pointer (some ⟨G, 0, none⟩), rvA op d a b imm, .int .u32 (P : Nat)] w fun e w' => e = .returned (.bool false) ∧ Below w.heap.size w w' := by
  have hb0 : Below w.heap.size w (w.alloc (.cells #[.int .i64 op, .int .i64 d, .int .i64 a, .int .i64 b, .int .i64 imm] 23)) := (Below.refl _ _).alloc (Nat.le_refl _) _
  have hx := heap_alloc_new w (.cells #[.int .i64 op, .int .i64 d, .int .i64 a, .int .i64 b, .int .i64 imm] 23)
  have h0 := h.below hb0
  have HK := Lib.hid hb0
  have hI := ix6 op hop
  have HB := Lib.hid (fun k (hk : k ≤ 4) hno => bytes_no h0 P hP k hk hn hno)
  have ls := szF_lim op
  obtain ⟨s, hs⟩ : ∃ s, s = szF op := ⟨_, rfl⟩
  rw [← hs] at hI hno ls
  have iop : (op : Int) ≤ 30 ∧ 25 ≤ (op : Int) := by omega
  clear h hb0 h0 hs
  go_enter Tryd.func84, Tryd.ntmps84
  go_upto_region 1 with fail
  generalize World.alloc w _ = W at hx HK HB ⊢
  generalize w.heap.size = X at hx ⊢
  obtain ⟨x0, x1, x2, x3, x4⟩ := cells5r hx
  clear hx
  go_wp2_with fail
  refine (HB.out s ls.2 hno).mono ?_
  rintro e w2 ⟨rfl, rfl⟩
  go_wp2
  exact bodyPost_ret (v := .bool false) (by simp [results, Tryd.results84, go_sem]) rfl ⟨rfl, HK.out⟩
set_option maxRecDepth 100000 in
set_option maxHeartbeats 4000000 in
theorem mem_load {M o : Nat} {l : List Int} (h : MacC w G R fl at_ (.slice (some ⟨M, o, none⟩) n c) fin) (hB : Byt w (some ⟨M, o, none⟩) n c l) (op d a b : Nat) (imm : Int) (hop : 25 ≤ op ∧ op ≤ 27) (hd : d < 32) (P : Nat) (hn : n ≤ 40000) (hno : P + szF op ≤ n) :
    Calls Tryd.prog 84 #[.pointer (some ⟨G, 0, none⟩), rvA op d a b imm, .int .u32 (P : Nat)] w fun e w' => e = .returned (.bool true) ∧ MacC w' G (setRF R d (ldF l P (szF op))) fl at_ (.slice (some ⟨M, o, none⟩) n c) fin ∧ KeepI G w w' := by
  have hb0 : Below w.heap.size w (w.alloc (.cells #[.int .i64 op, .int .i64 d, .int .i64 a, .int .i64 b, .int .i64 imm] 23)) := (Below.refl _ _).alloc (Nat.le_refl _) _
  have hx := heap_alloc_new w (.cells #[.int .i64 op, .int .i64 d, .int .i64 a, .int .i64 b, .int .i64 imm] 23)
  have h0 := h.below hb0
  have HK := Lib.hid (KeepI.of_below (I := G) hb0)
  have hI := ix6 op (by omega)
  have ls := szF_lim op
  have HY := Lib.hid (fun k (hk : 1 ≤ k ∧ k ≤ 4) hno => bytes_yes h0 P k hk.1 hk.2 hn hB.2.1 hno)
  have HP := Lib.hid (byt_part (hB.below hb0) P (szF op) ls.1 hno)
  have HM := Lib.hid h0
  unfold ldF
  obtain ⟨s, hs⟩ : ∃ s, s = szF op := ⟨_, rfl⟩
  rw [← hs] at hI hno ls HP ⊢
  have iop : (op : Int) ≤ 27 ∧ 25 ≤ (op : Int) := by omega
  obtain ⟨L, hL⟩ : ∃ L, L = (l.drop P).take s := ⟨_, rfl⟩
  rw [← hL] at HP ⊢
  clear h hb0 h0 hs hL hB
  go_enter Tryd.func84, Tryd.ntmps84
  go_upto_region 1 with fail
  generalize World.alloc w _ = W at hx HK HY HP HM ⊢
  generalize w.heap.size = X at hx ⊢
  obtain ⟨x0, x1, x2, x3, x4⟩ := cells5r hx
  clear hx x2 x3 x4
  go_wp2_with fail
  refine (HY.out s ls hno).mono ?_
  rintro e w2 ⟨rfl, rfl⟩
  go_wp2_with fail
  go_still_tail 5, (by kernel_rfl)
  still_call (number_any (w := w2.drew) ⟨HP.out.1, HP.out.2.1, HP.out.2.2.1, HP.out.2.2.2.1, HP.out.2.2.2.2⟩ ls.2)
  repeat still_step
  refine wpStill_nil ?_
  change wpList _ _ _ _ _ _
  go_wp2_with fail
  refine (set_mac (HM.out.drewN 1) d hd _).mono ?_
  rintro e w2 ⟨rfl, hM2, hK2⟩
  have HK2 := Lib.hid ((HK.out.drewN 1).trans hK2)
  have HM2 := Lib.hid hM2
  clear hM2 hK2 x0 x1
  go_wp2
  exact bodyPost_ret (v := .bool true) (by simp [results, Tryd.results84, go_sem]) rfl ⟨rfl, HM2.out, HK2.out⟩
end
end Go.Proofs.YthkaclmnbahieaaDoor

namespace Go.Proofs.YthkaclmnbahieaaDoor
open Go.RowKit

/-- A memory of its own. -/
structure MemC (w : World) (M n c : Nat) (l : List Int) : Prop where
  len : n = l.length
  cap : n ≤ c
  most : c ≤ 9223372036854775807
  byte : ∀ j, j < n → 0 ≤ l[j]! ∧ l[j]! < 256
  ex : ∃ (cs : Array Value) (T : TypeId), w.heap[M]? = some (.cells cs T (0, 0)) ∧ n ≤ cs.size ∧ ∀ j, j < n → cs[j]? = some (.int .u8 l[j]!)
theorem MemC.byt {w : World} {M n c : Nat} {l : List Int} (h : MemC w M n c l) : Byt w (some ⟨M, 0, none⟩) n c l := by
  obtain ⟨cs, T, hM, -, hc⟩ := h.ex
  refine ⟨h.len, h.cap, h.most, h.byte, .inr ⟨M, 0, rfl, lt_of_block hM, fun j hj => ?_⟩⟩
  simp [World.cell?, hM, hc j hj]
theorem MemC.free {w : World} {M n c : Nat} {l : List Int} (h : MemC w M n c l) (o : Nat) : w.frozen? ⟨M, o, none⟩ = false := by
  obtain ⟨cs, T, hM, -⟩ := h.ex
  simp [World.frozen?, hM]
theorem MemC.block {w w' : World} {M n c : Nat} {l : List Int} (h : MemC w M n c l) (hb : w'.heap[M]? = w.heap[M]?) : MemC w' M n c l := by
  obtain ⟨cs, T, hM, r⟩ := h.ex
  exact ⟨h.len, h.cap, h.most, h.byte, cs, T, hb.trans hM, r⟩
theorem MemC.lt {w : World} {M n c : Nat} {l : List Int} (h : MemC w M n c l) : M < w.heap.size := by
  obtain ⟨cs, T, hM, -⟩ := h.ex
  exact lt_of_block hM
theorem MemC.below {w w' : World} {M n c : Nat} {l : List Int} (h : MemC w M n c l) (hb : Below w.heap.size w w') : MemC w' M n c l := h.block (hb.block M h.lt)
theorem MemC.keep {w w' : World} {M n c G : Nat} {l : List Int} (h : MemC w M n c l) (hk : KeepI G w w') (hn : M ≠ G) : MemC w' M n c l := h.block (hk.block M h.lt hn)
theorem get_set {l : List Int} {p j : Nat} {v : Int} (hj : j < l.length) : (l.set p v)[j]! = if j = p then v else l[j]! := by
  rw [getElem!_pos (l.set p v) j (by simpa using hj), List.getElem_set, getElem!_pos l j hj]
  by_cases e : j = p
  · rw [if_pos e, if_pos e.symm]
  · rw [if_neg e, if_neg (Ne.symm e)]
theorem MemC.set {w : World} {M n c : Nat} {l : List Int} (h : MemC w M n c l) (p : Nat) (hp : p < n) (v : Int) (hv : 0 ≤ v ∧ v < 256) : MemC (w.setCell ⟨M, p, none⟩ (.int .u8 v)) M n c (l.set p v) := by
  obtain ⟨cs, T, hM, hs, hc⟩ := h.ex
  have hl := h.len
  refine ⟨by simpa using h.len, h.cap, h.most, fun j hj => ?_, _, T, heap_setCell_same w M p _ _ _ hM, by simpa using hs, fun j hj => ?_⟩
  · rw [get_set (by omega)]
    split
    · exact hv
    · exact h.byte j hj
  · rw [get_set (by omega), Array.getElem?_setIfInBounds]
    by_cases e : j = p
    · subst e
      rw [if_pos rfl, if_pos rfl, if_pos (by omega)]
    · rw [if_neg (Ne.symm e), if_neg e]
      exact hc j hj
theorem MacC.keep {w w' : World} {G M : Nat} {R : Nat → Nat} {fl : Int} {at_ fin : Nat} {mem : Value} (h : MacC w G R fl at_ mem fin) (hk : KeepI M w w') (hn : G ≠ M) : MacC w' G R fl at_ mem fin := by
  obtain ⟨MC, hG, hr⟩ := h.ex
  exact ⟨MC, (hk.block G (lt_of_block hG) hn).trans hG, hr⟩
/-- Bytes written at a place, the lowest first. -/
def stF (l : List Int) (P v : Nat) : Nat → List Int
  | 0 => l
  | k + 1 => (stF l P v k).set (P + k) ((v / 2 ^ (8 * k) % 256 : Nat) : Int)
section
variable {w : World} {G : Nat} {R : Nat → Nat} {fl : Int} {at_ fin : Nat} {n c : Nat}
set_option maxRecDepth 100000 in
set_option maxHeartbeats 4000000 in
theorem mem_store {M : Nat} {l : List Int} (h : MacC w G R fl at_ (.slice (some ⟨M, 0, none⟩) n c) fin) (hB : MemC w M n c l) (hGM : G ≠ M) (op d a b : Nat) (imm : Int) (hop : 28 ≤ op ∧ op ≤ 30) (hb : b < 32) (_ : R b < 4294967296) (P : Nat) (hn : n ≤ 40000) (hno : P + szF op ≤ n) :
    Calls Tryd.prog 84 #[.pointer (some ⟨G, 0, none⟩), rvA op d a b imm, .int .u32 (P : Nat)] w fun e w' => e = .returned (.bool true) ∧ MemC w' M n c (stF l P (R b) (szF op)) ∧ KeepI M w w' := by
  have hb0 : Below w.heap.size w (w.alloc (.cells #[.int .i64 op, .int .i64 d, .int .i64 a, .int .i64 b, .int .i64 imm] 23)) := (Below.refl _ _).alloc (Nat.le_refl _) _
  have hx := heap_alloc_new w (.cells #[.int .i64 op, .int .i64 d, .int .i64 a, .int .i64 b, .int .i64 imm] 23)
  have h0 := h.below hb0
  have HK := Lib.hid (KeepI.of_below (I := M) hb0)
  have hI := ix6 op (by omega)
  have ls := szF_lim op
  have HY := Lib.hid (fun k (hk : 1 ≤ k ∧ k ≤ 4) hno => bytes_yes h0 P k hk.1 hk.2 hn hB.cap hno)
  have HP := Lib.hid (hB.below hb0)
  have hXM : w.heap.size ≠ M := Nat.ne_of_gt hB.lt
  have HM := Lib.hid h0
  have hcap := hB.cap
  have hmost := hB.most
  obtain ⟨s, hs⟩ : ∃ s, s = szF op := ⟨_, rfl⟩
  rw [← hs] at hI hno ls ⊢
  obtain ⟨V, hV⟩ : ∃ V, V = R b := ⟨_, rfl⟩
  rw [← hV]
  have HV := Lib.hid hV
  clear hV
  have iop : (op : Int) ≤ 30 ∧ 27 < (op : Int) := by omega
  clear h hb0 h0 hs hB
  go_enter Tryd.func84, Tryd.ntmps84
  go_upto_region 1 with fail
  generalize World.alloc w _ = W at hx HK HY HP HM ⊢
  obtain ⟨X, hX⟩ : ∃ X, X = w.heap.size := ⟨_, rfl⟩
  rw [← hX] at hx hXM ⊢
  clear hX
  have HX := Lib.hid hx
  obtain ⟨x0, x1, x2, x3, x4⟩ := cells5r hx
  clear hx x2 x3 x4
  go_wp2_with fail
  refine (HY.out s ls hno).mono ?_
  rintro e w2 ⟨rfl, rfl⟩
  go_upto_region 9 with fail
  go_loopw [36] (fun zi wr => ∃ k : Nat, k ≤ s ∧ zi = .int .i64 (k : Int) ∧ MemC wr M n c (stF l P V k) ∧ KeepI M w2 wr) (fun zi _ => s - (intOf zi).toNat)
  case atStart => exact ⟨0, by omega, rfl, HP.out, KeepI.refl _ _⟩
  case round =>
    obtain ⟨k, hk, rfl, hM, hK⟩ := hrel
    by_cases hlt : k < s
    · have x0' := (hK.block X (lt_of_block HX.out) hXM).trans HX.out
      obtain ⟨-, -, -, x3, -⟩ := cells5r x0'
      have hG := HM.out.keep hK hGM
      obtain ⟨c0, -⟩ := hG.cells
      have cb := c0 b hb
      rw [← HV.out] at cb
      obtain ⟨B, off, e0, -, cm, -, -⟩ := hM.byt.at_ (j := P + k) (by omega)
      have fm := hM.free (P + k)
      obtain ⟨rfl, rfl⟩ : M = B ∧ 0 = off := by
        cases e0
        exact ⟨rfl, rfl⟩
      rw [Nat.zero_add] at cm
      have hN := hM.set (P + k) (by omega) ((V / 2 ^ (8 * k) % 256 : Nat) : Int) (by omega)
      have hKN := hK.set (P + k) (.int .u8 ((V / 2 ^ (8 * k) % 256 : Nat) : Int))
      have HN := Lib.hid (And.intro hN hKN)
      have hbi : (b : Int) < 32 := by omega
      generalize (stF l P V k)[P + k]! = old at cm
      clear hM hK hG c0 x0' hN hKN e0
      obtain rfl | rfl | rfl | rfl : k = 0 ∨ k = 1 ∨ k = 2 ∨ k = 3 := by omega
      · go_wp2_with fail
        go_still_tail 14, (by kernel_rfl)
        simp only [show IntKind.i64.wrap 0 = 0 from rfl]
        repeat still_step
        refine wpStill_nil ?_
        change wpList _ _ _ _ _ wr.drew
        rw [show IntKind.u8.wrap (V : Int) = ((V / 1 % 256 : Nat) : Int) by show (V : Int) % 256 = _; omega]
        replace HN : Hid (MemC (wr.setCell ⟨M, P, none⟩ (.int .u8 ((V / 1 % 256 : Nat) : Int))) M n c (stF l P V 1) ∧ KeepI M w2 (wr.setCell ⟨M, P, none⟩ (.int .u8 ((V / 1 % 256 : Nat) : Int)))) := HN
        replace cm : wr.drew.cell? ⟨M, P, none⟩ = _ := cm
        replace fm : wr.drew.frozen? ⟨M, P, none⟩ = _ := fm
        generalize V / 1 % 256 = Z at HN ⊢
        go_wp2
        go_roundw
        case rel => exact ⟨1, by omega, rfl, HN.out.1.block rfl, HN.out.2.drewN 1⟩
        case measure => simp [intOf]; omega
      · go_wp2_with fail
        go_still_tail 14, (by kernel_rfl)
        simp only [show IntKind.i64.wrap 8 = 8 from rfl]
        repeat still_step
        refine wpStill_nil ?_
        change wpList _ _ _ _ _ wr.drew
        rw [show IntKind.u8.wrap ((V : Int) / 256) = ((V / 256 % 256 : Nat) : Int) by show ((V : Int) / 256) % 256 = _; omega]
        replace HN : Hid (MemC (wr.setCell ⟨M, P + 1, none⟩ (.int .u8 ((V / 256 % 256 : Nat) : Int))) M n c (stF l P V 2) ∧ KeepI M w2 (wr.setCell ⟨M, P + 1, none⟩ (.int .u8 ((V / 256 % 256 : Nat) : Int)))) := HN
        replace cm : wr.drew.cell? ⟨M, P + 1, none⟩ = _ := cm
        replace fm : wr.drew.frozen? ⟨M, P + 1, none⟩ = _ := fm
        generalize V / 256 % 256 = Z at HN ⊢
        go_wp2
        go_roundw
        case rel => exact ⟨2, by omega, rfl, HN.out.1.block rfl, HN.out.2.drewN 1⟩
        case measure => simp [intOf]; omega
      · go_wp2_with fail
        go_still_tail 14, (by kernel_rfl)
        simp only [show IntKind.i64.wrap 16 = 16 from rfl]
        repeat still_step
        refine wpStill_nil ?_
        change wpList _ _ _ _ _ wr.drew
        rw [show IntKind.u8.wrap ((V : Int) / 65536) = ((V / 65536 % 256 : Nat) : Int) by show ((V : Int) / 65536) % 256 = _; omega]
        replace HN : Hid (MemC (wr.setCell ⟨M, P + 2, none⟩ (.int .u8 ((V / 65536 % 256 : Nat) : Int))) M n c (stF l P V 3) ∧ KeepI M w2 (wr.setCell ⟨M, P + 2, none⟩ (.int .u8 ((V / 65536 % 256 : Nat) : Int)))) := HN
        replace cm : wr.drew.cell? ⟨M, P + 2, none⟩ = _ := cm
        replace fm : wr.drew.frozen? ⟨M, P + 2, none⟩ = _ := fm
        generalize V / 65536 % 256 = Z at HN ⊢
        go_wp2
        go_roundw
        case rel => exact ⟨3, by omega, rfl, HN.out.1.block rfl, HN.out.2.drewN 1⟩
        case measure => simp [intOf]; omega
      · go_wp2_with fail
        go_still_tail 14, (by kernel_rfl)
        simp only [show IntKind.i64.wrap 24 = 24 from rfl]
        repeat still_step
        refine wpStill_nil ?_
        change wpList _ _ _ _ _ wr.drew
        rw [show IntKind.u8.wrap ((V : Int) / 16777216) = ((V / 16777216 % 256 : Nat) : Int) by show ((V : Int) / 16777216) % 256 = _; omega]
        replace HN : Hid (MemC (wr.setCell ⟨M, P + 3, none⟩ (.int .u8 ((V / 16777216 % 256 : Nat) : Int))) M n c (stF l P V 4) ∧ KeepI M w2 (wr.setCell ⟨M, P + 3, none⟩ (.int .u8 ((V / 16777216 % 256 : Nat) : Int)))) := HN
        replace cm : wr.drew.cell? ⟨M, P + 3, none⟩ = _ := cm
        replace fm : wr.drew.frozen? ⟨M, P + 3, none⟩ = _ := fm
        generalize V / 16777216 % 256 = Z at HN ⊢
        go_wp2
        go_roundw
        case rel => exact ⟨4, by omega, rfl, HN.out.1.block rfl, HN.out.2.drewN 1⟩
        case measure => simp [intOf]; omega
    · obtain rfl : k = s := by omega
      go_wp2
      exact bodyPost_ret (v := .bool true) (by simp [results, Tryd.results84, go_sem]) rfl ⟨rfl, hM, HK.out.trans hK⟩
end
end Go.Proofs.YthkaclmnbahieaaDoor

namespace Go.Proofs.YthkaclmnbahieaaDoor
open Go.RowKit

theorem Keep2.of_other {I X : Nat} {a b : World} (h : KeepI X a b) : Keep2 I X a b := ⟨h.os, h.tape, h.output, h.size, fun k hk _ hx => h.block k hk hx⟩
theorem Keep2.setG {I X : Nat} {a b : World} (h : Keep2 I X a b) (o : Nat) (v : Value) : Keep2 I X a (b.setCell ⟨I, o, none⟩ v) :=
  ⟨h.os, h.tape, h.output, by simpa using h.size, fun k hk hn hx => (heap_setCell_other b ⟨I, o, none⟩ k v hn).trans (h.block k hk hn hx)⟩
section
variable {w : World} {G M n c : Nat} {R : Nat → Nat} {fl : Int} {at_ fin : Nat} {l : List Int}
set_option maxRecDepth 100000 in
set_option maxHeartbeats 4000000 in
theorem exec_mem_no (h : MacC w G R fl at_ (.slice (some ⟨M, 0, none⟩) n c) fin) (hR : ∀ j, R j < 4294967296) (_ : at_ < 4294967296) (op d a b : Nat) (imm : Int) (hop : 25 ≤ op ∧ op ≤ 30) (_ : d < 32) (ha : a < 32) (hb : b < 32) (hn : n ≤ 40000) (hno : n < (R a + wr32 imm) % 4294967296 + szF op) :
    Calls Tryd.prog 70 #[.pointer (some ⟨G, 0, none⟩), rvA op d a b imm] w fun e w' => e = .returned (.bool false) ∧ MacC w' G R fl at_ (.slice (some ⟨M, 0, none⟩) n c) fin ∧ KeepI G w w' := by
  have hb0 : Below w.heap.size w (w.alloc (.cells #[.int .i64 op, .int .i64 d, .int .i64 a, .int .i64 b, .int .i64 imm] 23)) := (Below.refl _ _).alloc (Nat.le_refl _) _
  have hx := heap_alloc_new w (.cells #[.int .i64 op, .int .i64 d, .int .i64 a, .int .i64 b, .int .i64 imm] 23)
  have h0 := h.below hb0
  have HR := Lib.hid hR
  have HK := Lib.hid (KeepI.of_below (I := G) hb0)
  clear h hb0 hR
  go_enter Tryd.func70, Tryd.ntmps70
  go_upto_region 1 with fail
  generalize World.alloc w _ = W at hx h0 HK ⊢
  generalize w.heap.size = X at hx ⊢
  obtain ⟨x0, x1, x2, x3, x4⟩ := cells5r hx
  have HM := Lib.hid h0
  obtain ⟨c0, -, c33, -, -⟩ := h0.cells
  have ca := c0 a ha
  have cb := c0 b hb
  clear c0 hx h0
  obtain ⟨va, hva⟩ : ∃ v, v = R a := ⟨_, rfl⟩
  obtain ⟨vb, hvb⟩ : ∃ v, v = R b := ⟨_, rfl⟩
  have la : va < 4294967296 := hva ▸ HR.out a
  have lb : vb < 4294967296 := hvb ▸ HR.out b
  rw [← hva] at ca
  rw [← hvb] at cb
  have HV := Lib.hid (And.intro hva hvb)
  clear hva hvb HR
  have ia : (a : Int) < 32 := by omega
  have ib : (b : Int) < 32 := by omega
  have io : (op : Int) ≤ 30 := by omega
  have io2 : (24 : Int) < (op : Int) := by omega
  clear ha hb
  go_quiet (fail)
  replace x0 : (W.drewN nq).cell? _ = _ := x0
  replace x1 : (W.drewN nq).cell? _ = _ := x1
  replace x2 : (W.drewN nq).cell? _ = _ := x2
  replace x3 : (W.drewN nq).cell? _ = _ := x3
  replace x4 : (W.drewN nq).cell? _ = _ := x4
  replace c33 : (W.drewN nq).cell? _ = _ := c33
  have f33 := HM.out.free 33
  replace f33 : (W.drewN nq).frozen? _ = _ := f33
  have f35 := HM.out.free 35
  replace f35 : (W.drewN nq).frozen? _ = _ := f35
  replace HM := Lib.hid (HM.out.drewN nq)
  replace HK := Lib.hid (HK.out.drewN nq)
  clear ca cb
  generalize W.drewN nq = W1 at x0 x1 x2 x3 x4 c33 f33 f35 HM HK ⊢
  rw [← wr32_cast imm]
  obtain ⟨I, hI⟩ : ∃ I, I = wr32 imm := ⟨_, rfl⟩
  rw [← hI]
  have lI : I < 4294967296 := hI ▸ wr32_lt imm
  have HI := Lib.hid hI
  clear hI
  obtain ⟨N, hN⟩ : ∃ N, N = (at_ + 4) % 4294967296 := ⟨_, rfl⟩
  have eN : ((at_ : Int) + 4) % 4294967296 = (N : Int) := by omega
  have lN : N < 4294967296 := by omega
  have HN := Lib.hid hN
  clear hN
  obtain ⟨P, hP⟩ : ∃ P, P = (va + I) % 4294967296 := ⟨_, rfl⟩
  have eP : ((va : Int) + (I : Int)) % 4294967296 = (P : Int) := by omega
  have lP : P < 4294967296 := by omega
  have HP := Lib.hid (show (R a + wr32 imm) % 4294967296 = P by rw [hP, HV.out.1, HI.out])
  clear hP
  rw [HP.out] at hno
  go_wp2_with fail
  rw [eN]
  refine (mem_no HM.out op d a b imm hop P lP hn hno).mono ?_
  rintro e w2 ⟨rfl, hb2⟩
  go_wp2
  exact bodyPost_ret (v := .bool false) (by simp [results, Tryd.results70, go_sem]) rfl ⟨rfl, HM.out.below hb2, HK.out.trans (KeepI.of_below hb2)⟩
set_option maxRecDepth 100000 in
set_option maxHeartbeats 4000000 in
theorem exec_load (h : MacC w G R fl at_ (.slice (some ⟨M, 0, none⟩) n c) fin) (hR : ∀ j, R j < 4294967296) (_ : at_ < 4294967296) (op d a b : Nat) (imm : Int) (hop : 25 ≤ op ∧ op ≤ 27) (hd : d < 32) (ha : a < 32) (hb : b < 32) (hB : MemC w M n c l) (_ : G ≠ M) (hn : n ≤ 40000) (hno : (R a + wr32 imm) % 4294967296 + szF op ≤ n) :
    Calls Tryd.prog 70 #[.pointer (some ⟨G, 0, none⟩), rvA op d a b imm] w fun e w' => e = .returned (.bool true) ∧ MacC w' G (setRF R d (ldF l ((R a + wr32 imm) % 4294967296) (szF op))) fl ((at_ + 4) % 4294967296) (.slice (some ⟨M, 0, none⟩) n c) fin ∧ KeepI G w w' := by
  have hb0 : Below w.heap.size w (w.alloc (.cells #[.int .i64 op, .int .i64 d, .int .i64 a, .int .i64 b, .int .i64 imm] 23)) := (Below.refl _ _).alloc (Nat.le_refl _) _
  have hx := heap_alloc_new w (.cells #[.int .i64 op, .int .i64 d, .int .i64 a, .int .i64 b, .int .i64 imm] 23)
  have h0 := h.below hb0
  have HR := Lib.hid hR
  have HK := Lib.hid (KeepI.of_below (I := G) hb0)
  have HB := Lib.hid (hB.below hb0)
  clear h hb0 hR hB
  go_enter Tryd.func70, Tryd.ntmps70
  go_upto_region 1 with fail
  generalize World.alloc w _ = W at hx h0 HK HB ⊢
  generalize w.heap.size = X at hx ⊢
  obtain ⟨x0, x1, x2, x3, x4⟩ := cells5r hx
  have HM := Lib.hid h0
  obtain ⟨c0, -, c33, -, -⟩ := h0.cells
  have ca := c0 a ha
  have cb := c0 b hb
  clear c0 hx h0
  obtain ⟨va, hva⟩ : ∃ v, v = R a := ⟨_, rfl⟩
  obtain ⟨vb, hvb⟩ : ∃ v, v = R b := ⟨_, rfl⟩
  have la : va < 4294967296 := hva ▸ HR.out a
  have lb : vb < 4294967296 := hvb ▸ HR.out b
  rw [← hva] at ca
  rw [← hvb] at cb
  have HV := Lib.hid (And.intro hva hvb)
  clear hva hvb HR
  have ia : (a : Int) < 32 := by omega
  have ib : (b : Int) < 32 := by omega
  have io : (op : Int) ≤ 27 := by omega
  have io2 : (24 : Int) < (op : Int) := by omega
  clear ha hb
  go_quiet (fail)
  replace x0 : (W.drewN nq).cell? _ = _ := x0
  replace x1 : (W.drewN nq).cell? _ = _ := x1
  replace x2 : (W.drewN nq).cell? _ = _ := x2
  replace x3 : (W.drewN nq).cell? _ = _ := x3
  replace x4 : (W.drewN nq).cell? _ = _ := x4
  replace c33 : (W.drewN nq).cell? _ = _ := c33
  have f33 := HM.out.free 33
  replace f33 : (W.drewN nq).frozen? _ = _ := f33
  have f35 := HM.out.free 35
  replace f35 : (W.drewN nq).frozen? _ = _ := f35
  replace HM := Lib.hid (HM.out.drewN nq)
  replace HK := Lib.hid (HK.out.drewN nq)
  replace HB := Lib.hid (show MemC (W.drewN nq) M n c l from HB.out.block rfl)
  clear ca cb
  generalize W.drewN nq = W1 at x0 x1 x2 x3 x4 c33 f33 f35 HM HK HB ⊢
  rw [← wr32_cast imm]
  obtain ⟨I, hI⟩ : ∃ I, I = wr32 imm := ⟨_, rfl⟩
  rw [← hI]
  have lI : I < 4294967296 := hI ▸ wr32_lt imm
  have HI := Lib.hid hI
  clear hI
  obtain ⟨N, hN⟩ : ∃ N, N = (at_ + 4) % 4294967296 := ⟨_, rfl⟩
  have eN : ((at_ : Int) + 4) % 4294967296 = (N : Int) := by omega
  have lN : N < 4294967296 := by omega
  have HN := Lib.hid hN
  clear hN
  obtain ⟨P, hP⟩ : ∃ P, P = (va + I) % 4294967296 := ⟨_, rfl⟩
  have eP : ((va : Int) + (I : Int)) % 4294967296 = (P : Int) := by omega
  have lP : P < 4294967296 := by omega
  have HP := Lib.hid (show (R a + wr32 imm) % 4294967296 = P by rw [hP, HV.out.1, HI.out])
  clear hP
  rw [HP.out] at hno
  have io3 : (op : Int) ≤ 30 := by omega
  go_wp2_with fail
  rw [eN]
  refine (mem_load HM.out HB.out.byt op d a b imm hop hd P hn hno).mono ?_
  rintro e w2 ⟨rfl, hM2, hK2⟩
  have HK2 := Lib.hid (HK.out.trans hK2)
  obtain ⟨-, -, c33', -, -⟩ := hM2.cells
  have f33' := hM2.free 33
  have HM2 := Lib.hid hM2
  clear hM2 hK2 x0 x1 x2 x3 x4 c33 f33 f35
  go_wp2
  refine bodyPost_ret (v := .bool true) (by simp [results, Tryd.results70, go_sem]) rfl ⟨rfl, ?_, HK2.out.set 33 _⟩
  rw [HP.out, ← HN.out]
  exact HM2.out.setAt N
set_option maxRecDepth 100000 in
set_option maxHeartbeats 4000000 in
theorem exec_store (h : MacC w G R fl at_ (.slice (some ⟨M, 0, none⟩) n c) fin) (hR : ∀ j, R j < 4294967296) (_ : at_ < 4294967296) (op d a b : Nat) (imm : Int) (hop : 28 ≤ op ∧ op ≤ 30) (_ : d < 32) (ha : a < 32) (hb : b < 32) (hB : MemC w M n c l) (hGM : G ≠ M) (hn : n ≤ 40000) (hno : (R a + wr32 imm) % 4294967296 + szF op ≤ n) :
    Calls Tryd.prog 70 #[.pointer (some ⟨G, 0, none⟩), rvA op d a b imm] w fun e w' => e = .returned (.bool true) ∧ MacC w' G R fl ((at_ + 4) % 4294967296) (.slice (some ⟨M, 0, none⟩) n c) fin ∧ MemC w' M n c (stF l ((R a + wr32 imm) % 4294967296) (R b) (szF op)) ∧ Keep2 G M w w' := by
  have hb0 : Below w.heap.size w (w.alloc (.cells #[.int .i64 op, .int .i64 d, .int .i64 a, .int .i64 b, .int .i64 imm] 23)) := (Below.refl _ _).alloc (Nat.le_refl _) _
  have hx := heap_alloc_new w (.cells #[.int .i64 op, .int .i64 d, .int .i64 a, .int .i64 b, .int .i64 imm] 23)
  have h0 := h.below hb0
  have HR := Lib.hid hR
  have HK := Lib.hid (KeepI.of_below (I := G) hb0)
  have HB := Lib.hid (hB.below hb0)
  clear h hb0 hR hB
  go_enter Tryd.func70, Tryd.ntmps70
  go_upto_region 1 with fail
  generalize World.alloc w _ = W at hx h0 HK HB ⊢
  generalize w.heap.size = X at hx ⊢
  obtain ⟨x0, x1, x2, x3, x4⟩ := cells5r hx
  have HM := Lib.hid h0
  obtain ⟨c0, -, c33, -, -⟩ := h0.cells
  have ca := c0 a ha
  have cb := c0 b hb
  clear c0 hx h0
  obtain ⟨va, hva⟩ : ∃ v, v = R a := ⟨_, rfl⟩
  obtain ⟨vb, hvb⟩ : ∃ v, v = R b := ⟨_, rfl⟩
  have la : va < 4294967296 := hva ▸ HR.out a
  have lb : vb < 4294967296 := hvb ▸ HR.out b
  rw [← hva] at ca
  rw [← hvb] at cb
  have HV := Lib.hid (And.intro hva hvb)
  clear hva hvb HR
  have hbb := hb
  have ia : (a : Int) < 32 := by omega
  have ib : (b : Int) < 32 := by omega
  have io : (op : Int) ≤ 30 := by omega
  have io2 : (27 : Int) < (op : Int) := by omega
  clear ha hb
  go_quiet (fail)
  replace x0 : (W.drewN nq).cell? _ = _ := x0
  replace x1 : (W.drewN nq).cell? _ = _ := x1
  replace x2 : (W.drewN nq).cell? _ = _ := x2
  replace x3 : (W.drewN nq).cell? _ = _ := x3
  replace x4 : (W.drewN nq).cell? _ = _ := x4
  replace c33 : (W.drewN nq).cell? _ = _ := c33
  have f33 := HM.out.free 33
  replace f33 : (W.drewN nq).frozen? _ = _ := f33
  have f35 := HM.out.free 35
  replace f35 : (W.drewN nq).frozen? _ = _ := f35
  replace HM := Lib.hid (HM.out.drewN nq)
  replace HK := Lib.hid (HK.out.drewN nq)
  replace HB := Lib.hid (show MemC (W.drewN nq) M n c l from HB.out.block rfl)
  clear ca cb
  generalize W.drewN nq = W1 at x0 x1 x2 x3 x4 c33 f33 f35 HM HK HB ⊢
  rw [← wr32_cast imm]
  obtain ⟨I, hI⟩ : ∃ I, I = wr32 imm := ⟨_, rfl⟩
  rw [← hI]
  have lI : I < 4294967296 := hI ▸ wr32_lt imm
  have HI := Lib.hid hI
  clear hI
  obtain ⟨N, hN⟩ : ∃ N, N = (at_ + 4) % 4294967296 := ⟨_, rfl⟩
  have eN : ((at_ : Int) + 4) % 4294967296 = (N : Int) := by omega
  have lN : N < 4294967296 := by omega
  have HN := Lib.hid hN
  clear hN
  obtain ⟨P, hP⟩ : ∃ P, P = (va + I) % 4294967296 := ⟨_, rfl⟩
  have eP : ((va : Int) + (I : Int)) % 4294967296 = (P : Int) := by omega
  have lP : P < 4294967296 := by omega
  have HP := Lib.hid (show (R a + wr32 imm) % 4294967296 = P by rw [hP, HV.out.1, HI.out])
  clear hP
  rw [HP.out] at hno
  have lRb : R b < 4294967296 := HV.out.2 ▸ lb
  have HRb := Lib.hid lRb
  clear lRb
  go_wp2_with fail
  rw [eN]
  refine (mem_store HM.out HB.out hGM op d a b imm hop hbb HRb.out P hn hno).mono ?_
  rintro e w2 ⟨rfl, hM2, hK2⟩
  have hG2 := HM.out.keep hK2 hGM
  have HK2 := Lib.hid ((Keep2.of_keep HK.out : Keep2 G M _ _).trans (Keep2.of_other hK2))
  obtain ⟨-, -, c33', -, -⟩ := hG2.cells
  have f33' := hG2.free 33
  have HM2 := Lib.hid hM2
  have HG2 := Lib.hid hG2
  clear hM2 hK2 hG2 x0 x1 x2 x3 x4 c33 f33 f35
  go_wp2
  refine bodyPost_ret (v := .bool true) (by simp [results, Tryd.results70, go_sem]) rfl ⟨rfl, ?_, ?_, HK2.out.setG 33 _⟩
  · rw [← HN.out]
    exact HG2.out.setAt N
  · rw [HP.out]
    exact HM2.out.block (heap_setCell_other _ ⟨G, 33, none⟩ M _ (Ne.symm hGM))
end
end Go.Proofs.YthkaclmnbahieaaDoor
