/-
  The widths of the variables, of both packages; two equal rows of numbers.
-/
import Derived.Test.YtbohigjfdnnomaaGreatDoorTeH
import Derived.Deep.OwnRows
namespace Go.Proofs.YtbohigjfdnnomaaGreatDoor
open Go.RowKit

theorem I4.zero (w : World) : I4 (w.alloc (.cells #[.int .i64 0, .int .i64 0, .int .i64 0, .int .i64 0] 88)) w.heap.size (fun _ => 0) := heap_alloc_new w _
/-- The widths as a list. -/
def widL (f : Nat → Int) : List Int := [f 0, f 1, f 2, f 3]
theorem widL_at (f : Nat → Int) {j : Nat} (h : j < 4) : (widL f)[j]! = f j := by
  match j, h with
  | 0, _ => rfl
  | 1, _ => rfl
  | 2, _ => rfl
  | 3, _ => rfl
/-- A block of four numbers is a slice of them. -/
theorem I4.ints {w : World} {B : Nat} {f : Nat → Int} (h : I4 w B f) : Ints w (some ⟨B, 0, none⟩) 4 4 (widL f) :=
  ⟨rfl, Nat.le_refl _, by omega, .inr ⟨B, 0, rfl, lt_of_block h, fun j hj => by rw [Nat.zero_add, widL_at f hj]; exact (h.cell hj).1⟩⟩
theorem I4.puts {w : World} {B : Nat} {g : Nat → Int} (h : I4 w B g) (f : Nat → Int) : I4 ((((w.setCell ⟨B, 0, none⟩ (.int .i64 (f 0))).setCell ⟨B, 1, none⟩ (.int .i64 (f 1))).setCell ⟨B, 2, none⟩ (.int .i64 (f 2))).setCell ⟨B, 3, none⟩ (.int .i64 (f 3))) B f :=
  ((((h.put (j := 0) (g := fun j => if j = 0 then f 0 else g j) (by omega) _ (fun _ _ => rfl)).put (j := 1) (g := fun j => if j = 1 then f 1 else if j = 0 then f 0 else g j) (by omega) _ (fun _ _ => rfl)).put (j := 2) (g := fun j => if j = 2 then f 2 else if j = 1 then f 1 else if j = 0 then f 0 else g j) (by omega) _ (fun _ _ => rfl)).put (j := 3) (g := fun j => if j = 3 then f 3 else if j = 2 then f 2 else if j = 1 then f 1 else if j = 0 then f 0 else g j) (by omega) _ (fun _ _ => rfl)).congr fun i hi => by
    match i, hi with
    | 0, _ => rfl
    | 1, _ => rfl
    | 2, _ => rfl
    | 3, _ => rfl
theorem below_puts4 {k : Nat} {w w' : World} (h : Below k w w') {B : Nat} (hB : k ≤ B) (f : Nat → Int) : Below k w ((((w'.setCell ⟨B, 0, none⟩ (.int .i64 (f 0))).setCell ⟨B, 1, none⟩ (.int .i64 (f 1))).setCell ⟨B, 2, none⟩ (.int .i64 (f 2))).setCell ⟨B, 3, none⟩ (.int .i64 (f 3))) :=
  (((h.setCell (p := ⟨B, 0, none⟩) hB _).setCell (p := ⟨B, 1, none⟩) hB _).setCell (p := ⟨B, 2, none⟩) hB _).setCell (p := ⟨B, 3, none⟩) hB _
/-- A made row of four numbers. -/
def I4m (w : World) (B : Nat) (f : Nat → Int) : Prop := w.heap[B]? = some (.cells #[.int .i64 (f 0), .int .i64 (f 1), .int .i64 (f 2), .int .i64 (f 3)] 3 (0, 0))
theorem I4m.put {w : World} {B : Nat} {f g : Nat → Int} (h : I4m w B f) {j : Nat} (hj : j < 4) (v : Int) (hg : ∀ i, i < 4 → g i = if i = j then v else f i) : I4m (w.setCell ⟨B, j, none⟩ (.int .i64 v)) B g := by
  unfold I4m at h ⊢
  rw [hg 0 (by omega), hg 1 (by omega), hg 2 (by omega), hg 3 (by omega), heap_setCell_same w B j _ _ _ h]
  match j, hj with
  | 0, _ => rfl
  | 1, _ => rfl
  | 2, _ => rfl
  | 3, _ => rfl
theorem I4m.cell {w : World} {B : Nat} {f : Nat → Int} (h : I4m w B f) {j : Nat} (hj : j < 4) : w.cell? ⟨B, j, none⟩ = some (.int .i64 (f j)) ∧ w.frozen? ⟨B, j, none⟩ = false := by
  unfold I4m at h
  refine ⟨?_, by simp [World.frozen?, h]⟩
  match j, hj with
  | 0, _ => simp [World.cell?, h]
  | 1, _ => simp [World.cell?, h]
  | 2, _ => simp [World.cell?, h]
  | 3, _ => simp [World.cell?, h]
theorem I4m.below {w w' : World} {B : Nat} {f : Nat → Int} (h : I4m w B f) (hb : Below w.heap.size w w') : I4m w' B f := (hb.block _ (lt_of_block h)).trans h
theorem I4m.congr {w : World} {B : Nat} {f g : Nat → Int} (h : I4m w B f) (hg : ∀ i, i < 4 → g i = f i) : I4m w B g := by
  unfold I4m at h ⊢
  rw [hg 0 (by omega), hg 1 (by omega), hg 2 (by omega), hg 3 (by omega)]
  exact h
theorem I4m.ints {w : World} {B : Nat} {f : Nat → Int} (h : I4m w B f) : Ints w (some ⟨B, 0, none⟩) 4 4 (widL f) :=
  ⟨rfl, Nat.le_refl _, by omega, .inr ⟨B, 0, rfl, lt_of_block h, fun j hj => by rw [Nat.zero_add, widL_at f hj]; exact (h.cell hj).1⟩⟩
theorem four_made (w : World) : I4m (w.alloc (.cells (madeCells #[.int .i64 0] 4) 3)) w.heap.size (fun _ => 0) := by
  have := heap_alloc_new w (.cells (madeCells #[.int .i64 0] 4) 3)
  rw [show madeCells #[Value.int .i64 0] 4 = #[.int .i64 0, .int .i64 0, .int .i64 0, .int .i64 0] by kernel_rfl] at this
  rw [show madeCells #[Value.int .i64 0] 4 = #[.int .i64 0, .int .i64 0, .int .i64 0, .int .i64 0] by kernel_rfl]
  exact this
theorem infoSize4 : (Tryz.prog.info? 88).map (·.size) = some 4 := by kernel_rfl
/-- Each variable of a term is one of the four. -/
def VarsOk (T : List Nd) : Prop := ∀ k, k < T.length → T[k]!.op = 33 → ∃ v : Nat, T[k]!.imm = (v : Int) ∧ v < 4
theorem vars_ok {T : List Nd} (h : valF T = 0) (hi : ∀ k, k < T.length → 0 ≤ T[k]!.imm) : VarsOk T := fun k hk ho => var_imm ((val_zero.1 h).2.1 k hk) ho (hi k hk)
theorem Term.imm {w : World} {A : Option Addr} {n c : Nat} {T : List Nd} (h : Term w A n c T) (k : Nat) (hk : k < T.length) : 0 ≤ T[k]!.imm := by
  obtain ⟨_, _, _, _, _, _, _, _, _, h0, _⟩ := h.at_ (j := k) (by rw [h.1]; exact hk)
  exact h0
set_option maxRecDepth 100000 in
set_option maxHeartbeats 8000000 in
theorem widths_any {w : World} {A : Option Addr} {n c : Nat} {T : List Nd} (h : Term w A n c T) (hv : VarsOk T) : Calls Tryz.prog 72 #[.slice A n c] w fun e w' => e = .returned (.agg #[.int .i64 (widF T n 0), .int .i64 (widF T n 1), .int .i64 (widF T n 2), .int .i64 (widF T n 3)]) ∧ Below w.heap.size w w' := by
  have hcap := h.2.1
  have hmax := h.2.2.1
  have HV := Lib.hid (show ∀ k, k < n → T[k]!.op = 33 → ∃ v : Nat, T[k]!.imm = (v : Int) ∧ v < 4 by rw [h.1]; exact hv)
  have H := Lib.hid h
  clear h hv
  go_enter Tryz.func72, Tryz.ntmps72
  go_upto_region 1 with fail
  have hR : I4 (w.alloc (.cells #[.int .i64 0, .int .i64 0, .int .i64 0, .int .i64 0] 88)) w.heap.size (fun _ => 0) := I4.zero w
  have hb0 := (Below.refl w.heap.size w).alloc (Nat.le_refl _) (.cells #[.int .i64 0, .int .i64 0, .int .i64 0, .int .i64 0] 88)
  have hz : (w.alloc (.cells #[.int .i64 0, .int .i64 0, .int .i64 0, .int .i64 0] 88)).heap.size = w.heap.size + 1 := by simp
  generalize World.alloc w _ = W0 at hR hb0 hz ⊢
  go_upto_region 2 with fail
  have hL := I4.zero W0
  have hR1 := hR.below ((Below.refl W0.heap.size W0).alloc (Nat.le_refl _) (.cells #[.int .i64 0, .int .i64 0, .int .i64 0, .int .i64 0] 88))
  have hb1 := hb0.alloc hb0.size (.cells #[.int .i64 0, .int .i64 0, .int .i64 0, .int .i64 0] 88)
  generalize World.alloc W0 _ = W1 at hL hR1 hb1 ⊢
  rw [hz] at hL
  have hL2 := hL.congr (g := widF T 0) (fun _ _ => rfl)
  clear hL hb0 hR
  go_wp2
  go_loopw [8] (fun zi wr => ∃ i : Nat, i ≤ n ∧ zi = .int .i64 (i : Int) ∧ Below w.heap.size w wr ∧ I4 wr (w.heap.size + 1) (widF T i) ∧ I4 wr w.heap.size (fun _ => 0)) (fun zi _ => n - (intOf zi).toNat)
  case atStart => exact ⟨0, by omega, rfl, hb1, hL2, hR1⟩
  case round =>
    clear hb1 hL2 hR1 hz
    obtain ⟨i, hi, rfl, hb, hL, hR⟩ := hrel
    by_cases hlt : i < n
    · obtain ⟨b, off, A', n', c', rfl, hbs, ⟨a0, a1, a2, a3, a4⟩, -⟩ := (H.out.below hb).at_ hlt
      have HVAR := Lib.hid (HV.out i hlt)
      have HPUT := Lib.hid (fun v ho hv j => widF_put (T := T) (k := i) (v := v) ho hv j)
      have HPN := Lib.hid (fun ho j => widF_other (T := T) (k := i) ho j)
      obtain ⟨g, hg⟩ : ∃ g, widF T (i + 1) = g := ⟨_, rfl⟩
      have HGE := Lib.hid hg
      rw [hg] at HPUT HPN
      clear hg
      generalize widF T i = f at hL HPUT HPN
      by_cases ho : T[i]!.op = 33
      · obtain ⟨v, hv, hv4⟩ := HVAR.out ho
        have HP1 := Lib.hid (HPUT.out v ho hv)
        clear HVAR HPUT HPN
        generalize T[i]! = x at a0 a1 a2 a3 a4 HP1 ho hv
        obtain ⟨op, wid, fl, args, imm⟩ := x
        simp only at a0 a1 a2 a3 a4 HP1 ho hv
        subst ho hv
        have hv4i : (v : Int) < 4 := by omega
        go_upto_region 5 with fail
        have hx := heap_alloc_new wr (.cells #[.int .i64 33, .int .i64 wid, .int .i64 fl, .slice A' n' c', .int .u32 (v : Int)] 38)
        have hb2 := hb.alloc hb.size (.cells #[.int .i64 33, .int .i64 wid, .int .i64 fl, .slice A' n' c', .int .u32 (v : Int)] 38)
        have hL5 := hL.below ((Below.refl _ _).alloc (Nat.le_refl _) (.cells #[.int .i64 33, .int .i64 wid, .int .i64 fl, .slice A' n' c', .int .u32 (v : Int)] 38))
        have hR5 := hR.below ((Below.refl _ _).alloc (Nat.le_refl _) (.cells #[.int .i64 33, .int .i64 wid, .int .i64 fl, .slice A' n' c', .int .u32 (v : Int)] 38))
        generalize World.alloc wr _ = W2 at hx hb2 hL5 hR5 ⊢
        generalize wr.heap.size = D at hx ⊢
        obtain ⟨d0, d1, -, -, d4⟩ := cells5 (x := ⟨33, wid, fl, args, (v : Int)⟩) hx
        simp only at d0 d1 d4
        obtain ⟨hcell, hfree⟩ := hL5.cell hv4
        have hdl := lt_of_block hx
        have hLl := lt_of_block hL5
        have HL7 := Lib.hid (hL5.put (g := g) hv4 wid (fun j _ => HP1.out j))
        have HR7 := Lib.hid (show I4 (W2.setCell ⟨w.heap.size + 1, v, none⟩ (.int .i64 wid)) w.heap.size (fun _ => 0) from (heap_setCell_other W2 ⟨w.heap.size + 1, v, none⟩ w.heap.size (.int .i64 wid) (by simp)).trans hR5)
        have HB7 := Lib.hid (hb2.setCell (p := ⟨w.heap.size + 1, v, none⟩) (show w.heap.size ≤ w.heap.size + 1 by omega) (.int .i64 wid))
        clear hb hL hR hx hb2 hL5 hR5 a0 a1 a2 a3 a4
        go_wp2
        go_roundw
        case rel => exact ⟨i + 1, by omega, by go_num, HB7.out, by rw [HGE.out]; exact HL7.out, HR7.out⟩
        case measure => simp [intOf]; omega
      · have hL5 := hL.congr (g := g) (fun j _ => HPN.out ho j)
        clear HVAR HPUT HPN hL
        generalize T[i]! = x at a0 a1 a2 a3 a4 ho
        obtain ⟨op, wid, fl, args, imm⟩ := x
        simp only at a0 a1 a2 a3 a4 ho
        have e0 : (op == 33) = false := beq_false_of_ne ho
        have hb2 := hb.alloc hb.size (.cells #[.int .i64 op, .int .i64 wid, .int .i64 fl, .slice A' n' c', .int .u32 imm] 38)
        have hL6 := hL5.below ((Below.refl _ _).alloc (Nat.le_refl _) (.cells #[.int .i64 op, .int .i64 wid, .int .i64 fl, .slice A' n' c', .int .u32 imm] 38))
        have hR6 := hR.below ((Below.refl _ _).alloc (Nat.le_refl _) (.cells #[.int .i64 op, .int .i64 wid, .int .i64 fl, .slice A' n' c', .int .u32 imm] 38))
        clear ho hb hL5 hR
        go_wp2
        go_roundw
        case rel => exact ⟨i + 1, by omega, by go_num, hb2, by rw [HGE.out]; exact hL6, hR6⟩
        case measure => simp [intOf]; omega
    · obtain rfl : i = n := by omega
      obtain ⟨f, hf⟩ : ∃ f, widF T i = f := ⟨_, rfl⟩
      rw [hf] at hL
      have HFE := Lib.hid (show Ending.returned (.agg #[.int .i64 (f 0), .int .i64 (f 1), .int .i64 (f 2), .int .i64 (f 3)]) = Ending.returned (.agg #[.int .i64 (widF T i 0), .int .i64 (widF T i 1), .int .i64 (widF T i 2), .int .i64 (widF T i 3)]) by rw [hf])
      clear hf
      have k0 := (hL.cell (j := 0) (by omega)).1
      have k1 := (hL.cell (j := 1) (by omega)).1
      have k2 := (hL.cell (j := 2) (by omega)).1
      have k3 := (hL.cell (j := 3) (by omega)).1
      have r0 := hR.cell (j := 0) (by omega)
      have r1 := hR.cell (j := 1) (by omega)
      have r2 := hR.cell (j := 2) (by omega)
      have r3 := hR.cell (j := 3) (by omega)
      have hLl := lt_of_block hL
      have hRl := lt_of_block hR
      clear H HV hlt
      have hF := hR.puts f
      have hbF := below_puts4 hb (B := w.heap.size) (Nat.le_refl _) f
      go_wp2
      generalize World.setCell _ _ _ = w9 at hF hbF ⊢
      exact bodyPost_ret (results_cell_row rfl _ _ w.heap.size 88 _ (0, 0) _ rfl hF Tryz.underlying88 rfl infoSize4) rfl ⟨by exact HFE.out, hbF⟩
/-- What Widths answers. -/
def resW (T : List Nd) : List Int := if valF T = 0 then widL (widF T T.length) else []
theorem ret_t {v : Value} {a b : Int} (h : b = a) : Ending.returned (.tuple #[v, .int .i64 a]) = .returned (.tuple #[v, .int .i64 b]) := by rw [h]
theorem ints_nil {w : World} {l : List Int} (h : l = []) : Ints w none 0 0 l := by
  rw [h]
  exact ⟨rfl, Nat.le_refl _, by omega, .inl rfl⟩
set_option maxRecDepth 100000 in
set_option maxHeartbeats 8000000 in
theorem refwidths_any {w : World} {A : Option Addr} {n c : Nat} {T : List Nd} (h : Term w A n c T) (hv : VarsOk T) : Calls Tryz.prog 68 #[.slice A n c] w fun e w' => (∃ B, e = .returned (.slice (some ⟨B, 0, none⟩) 4 4) ∧ I4m w' B (widF T n) ∧ w.heap.size ≤ B) ∧ Below w.heap.size w w' := by
  obtain ⟨i0, hi, hz0, hz1, hz2⟩ := info_parts infoI
  have hcap := h.2.1
  have hmax := h.2.2.1
  have HV := Lib.hid (show ∀ k, k < n → T[k]!.op = 33 → ∃ v : Nat, T[k]!.imm = (v : Int) ∧ v < 4 by rw [h.1]; exact hv)
  have H := Lib.hid h
  clear h hv
  go_enter Tryz.func68, Tryz.ntmps68
  go_upto_region 2 with (refine wpList_make_row _ rfl _ _ 35 rfl 3 i0 (.int .i64 0) Tryz.underlying35 hi hz0 hz1 rfl .i64 .i64 4 rfl rfl (by rw [hz2]; omega) (by omega) ?_)
  have hb1 := (Below.refl w.heap.size w).alloc (Nat.le_refl _) (.cells (madeCells #[.int .i64 0] 4) 3)
  have hL : I4m (w.alloc (.cells (madeCells #[.int .i64 0] 4) 3)) w.heap.size (widF T 0) := four_made w
  generalize World.alloc w _ = W1 at hb1 hL ⊢
  go_wp2
  go_loopw [4] (fun zi wr => ∃ i : Nat, i ≤ n ∧ zi = .int .i64 (i : Int) ∧ Below w.heap.size w wr ∧ I4m wr w.heap.size (widF T i)) (fun zi _ => n - (intOf zi).toNat)
  case atStart => exact ⟨0, by omega, rfl, hb1, hL⟩
  case round =>
    clear hb1 hL
    obtain ⟨i, hi', rfl, hb, hL⟩ := hrel
    by_cases hlt : i < n
    · obtain ⟨b, off, A', n', c', rfl, hbs, ⟨a0, a1, -, -, a4⟩, -⟩ := (H.out.below hb).at_ hlt
      have HVAR := Lib.hid (HV.out i hlt)
      have HPUT := Lib.hid (fun v ho hv j => widF_put (T := T) (k := i) (v := v) ho hv j)
      have HPN := Lib.hid (fun ho j => widF_other (T := T) (k := i) ho j)
      obtain ⟨g, hg⟩ : ∃ g, widF T (i + 1) = g := ⟨_, rfl⟩
      have HGE := Lib.hid hg
      rw [hg] at HPUT HPN
      clear hg
      generalize widF T i = f at hL HPUT HPN
      by_cases ho : T[i]!.op = 33
      · obtain ⟨v, hv, hv4⟩ := HVAR.out ho
        have HP1 := Lib.hid (HPUT.out v ho hv)
        clear HVAR HPUT HPN
        generalize T[i]! = x at a0 a1 a4 HP1 ho hv
        obtain ⟨op, wid, fl, args, imm⟩ := x
        simp only at a0 a1 a4 HP1 ho hv
        subst ho hv
        have hv4i : (v : Int) < 4 := by omega
        obtain ⟨hcell, hfree⟩ := hL.cell hv4
        have hLl := lt_of_block hL
        have HL7 := Lib.hid (hL.put (g := g) hv4 wid (fun j _ => HP1.out j))
        have HB7 := Lib.hid (hb.setCell (p := ⟨w.heap.size, v, none⟩) (Nat.le_refl _) (.int .i64 wid))
        clear HV H hL hb
        go_wp2
        go_region
        go_wp2
        exact ⟨⟨i + 1, by omega, by go_num, drewD HB7.out, by rw [HGE.out]; exact HL7.out⟩, by simp [intOf]; omega⟩
      · have hL5 := hL.congr (g := g) (fun j _ => HPN.out ho j)
        clear HVAR HPUT HPN hL
        generalize T[i]! = x at a0 a1 a4 ho
        obtain ⟨op, wid, fl, args, imm⟩ := x
        simp only at a0 a1 a4 ho
        have e0 : (op == 33) = false := beq_false_of_ne ho
        clear ho
        go_wp2
        go_roundw
        case rel => exact ⟨i + 1, by omega, by go_num, hb, by rw [HGE.out]; exact hL5⟩
        case measure => simp [intOf]; omega
    · obtain rfl : i = n := by omega
      have HL := Lib.hid hL
      go_wp2
      go_ret
      exact ⟨⟨w.heap.size, rfl, HL.out, Nat.le_refl _⟩, hb⟩
set_option maxRecDepth 100000 in
set_option maxHeartbeats 2000000 in
theorem sameInts_any {w : World} {A A2 : Option Addr} {n n2 c c2 : Nat} {l l2 : List Int} (h : Ints w A n c l) (h2 : Ints w A2 n2 c2 l2) :
    Calls Tryz.prog 53 #[.slice A n c, .slice A2 n2 c2] w fun e w' => e = .returned (.bool (decide (l = l2))) ∧ Below w.heap.size w w' := by
  have hcap := h.2.1
  have hmax := h.2.2.1
  have hcap2 := h2.2.1
  have hmax2 := h2.2.2.1
  by_cases hlen : n = n2
  · subst hlen
    have H := Lib.hid h
    have H2 := Lib.hid h2
    have HNO := Lib.hid (fun (i : Nat) (hd : l[i]! ≠ l2[i]!) => show decide (l = l2) = false from decide_eq_false fun e => hd (by rw [e]))
    have HYES := Lib.hid (fun (hd : ∀ i : Nat, i < n → l[i]! = l2[i]!) => show decide (l = l2) = true from decide_eq_true (List.ext_getElem (by rw [← h.1, h2.1]) fun i h3 h4 => by
      have := hd i (by rw [h.1]; exact h3)
      rw [getElem!_pos l i h3, getElem!_pos l2 i h4] at this
      exact this))
    generalize decide (l = l2) = B at HNO HYES ⊢
    clear h h2
    go_enter Tryz.func53, Tryz.ntmps53
    go_wp2
    go_loopw [5] (fun zi wr => ∃ i : Nat, i ≤ n ∧ zi = .int .i64 (i : Int) ∧ Below w.heap.size w wr ∧ Hid (∀ j, j < i → l[j]! = l2[j]!)) (fun zi _ => n - (intOf zi).toNat)
    case atStart => exact ⟨0, by omega, rfl, Below.refl _ _, Lib.hid fun j hj => absurd hj (by omega)⟩
    case round =>
      obtain ⟨i, hi, rfl, hb, HJ⟩ := hrel
      by_cases hlt : i < n
      · obtain ⟨b, off, rfl, hg, hc⟩ := (H.out.below hb).at_ hlt
        obtain ⟨b2, off2, rfl, hg2, hc2⟩ := (H2.out.below hb).at_ hlt
        have HN1 := Lib.hid (HNO.out i)
        have HJ2 := Lib.hid (show l[i]! = l2[i]! → ∀ j, j < i + 1 → l[j]! = l2[j]! from fun e j hj => by
          by_cases ej : j = i
          · rw [ej]; exact e
          · exact HJ.out j (by omega))
        generalize l[i]! = p at hc HN1 HJ2
        generalize l2[i]! = q at hc2 HN1 HJ2
        by_cases e : p = q
        · have e1 : (p != q) = false := by simp [e]
          have HJ3 := Lib.hid (HJ2.out e)
          clear e HJ2 HN1
          go_wp2
          go_region
          go_wp2
          go_roundw
          case rel => exact ⟨i + 1, by omega, by go_num, drewR hb, HJ3⟩
          case measure => simp [intOf]; omega
        · have e1 : (p != q) = true := by simp [e]
          have HE := Lib.hid (HN1.out e)
          clear e HJ2 HN1
          go_wp2
          go_region
          go_wp2
          exact bodyPost_ret (results_tmp rfl _ _ _) rfl ⟨by exact ret_b HE.out.symm, drewR hb⟩
      · obtain rfl : i = n := by omega
        have HE := Lib.hid (HYES.out HJ.out)
        go_wp2
        go_ret
        exact ⟨ret_b HE.out.symm, hb⟩
  · have HE := Lib.hid (show decide (l = l2) = false from decide_eq_false fun e => hlen (by rw [h.1, h2.1, e]))
    have e1 : (((n : Nat) : Int) != ((n2 : Nat) : Int)) = true := by simp; omega
    clear h h2 hlen
    go_enter Tryz.func53, Tryz.ntmps53
    go_wp2
    go_ret
    exact ⟨ret_b HE.out.symm, Below.refl _ _⟩
end Go.Proofs.YtbohigjfdnnomaaGreatDoor
