/-
  The walk of IaCodes.
-/
import Derived.Test.YtpekegeohcnhcaaIaYc
import Derived.Test.YtpekegeohcnhcaaIaS
import Derived.Test.YtpekegeohcnhcaaIaP
import Derived.Laws.AppendOwnNone
namespace Go.Proofs.Ytpekegeohcnhcaa
open Go.RowKit

theorem isBy_append {a b : List Int} (ha : isBy a) (hb : isBy b) : isBy (a ++ b) := fun x hx => by
  rcases List.mem_append.1 hx with h | h
  · exact ha x h
  · exact hb x h
theorem byt_take {w : World} {A : Option Addr} {n c k : Nat} {l : List Int} (h : Byt w A n c l) (hk : k ≤ n) : Byt w A k c (l.take k) := by
  obtain ⟨h1, h2, h3, h0, h4⟩ := h
  have e : ∀ j, j < k → (l.take k)[j]! = l[j]! := fun j hj => by
    simp [List.getElem!_eq_getElem?_getD, hj]
  refine ⟨by rw [List.length_take]; omega, by omega, h3, fun j hj => ?_, ?_⟩
  · rw [e j hj]; exact h0 j (by omega)
  · rcases h4 with h4 | ⟨b, off, hA, hb, hc⟩
    · exact .inl (by omega)
    · exact .inr ⟨b, off, hA, hb, fun j hj => by rw [e j hj]; exact hc j (by omega)⟩
theorem byt_news {w : World} {A : Option Addr} {n c : Nat} {l : List Int} (h : Byt w A n c l) (hn : 0 < n) : ∃ ad, A = some ad ∧ ∀ j u, (byV l)[j]? = some u → w.cell? (ad.add j) = some u := by
  obtain ⟨h1, h2, h3, h0, h4 | ⟨b, off, hA, hb, hc⟩⟩ := h
  · omega
  · refine ⟨_, hA, fun j u hu => ?_⟩
    have hj : j < l.length := by
      have := (List.getElem?_eq_some_iff.1 hu).1
      simpa [byV] using this
    rw [Addr.add_lit, hc j (by omega)]
    simp only [byV, List.getElem?_map, List.getElem?_eq_getElem hj, Option.map_some, Option.some.injEq] at hu
    rw [← hu]
    simp [hj]
theorem empty_own (w : World) (base : Nat) (hb : base ≤ w.heap.size) : (w.alloc (.cells #[] 5)).ownsRow base 5 1 (.slice (some ⟨w.heap.size, 0, none⟩) 0 0) 0 (byV []) :=
  own_lit (l := []) hb (heap_alloc_new w _) (by simp)
theorem append_empty_own {w : World} {base : Nat} {v : Value} {n : Nat} {xs : List Value} (h : w.ownsRow base 5 1 v (0 + n) (byV [] ++ xs)) : w.ownsRow base 5 1 v n xs := by
  rw [Nat.zero_add] at h
  exact h
/-- An append of bytes that may be nil. -/
theorem wpList_append_byt {w : World} {ops : Array Oper} {rest : List Oper} {o : Oper} {a : Act} {Q : Exit → Act → World → Prop} (hgd : o.guard = none) (s x : Operand)
    (ho : o.op = .call { callee := .builtin .append, args := #[s, x], argTypes := #[24, 24] })
    (base : Nat) (v : Value) (k : Nat) (xs : List Value) (hs : a.eval s = v) (hown : w.ownsRow base 5 1 v k xs) (A : Option Addr) (n c : Nat) (l : List Int) (hx : a.eval x = .slice A n c) (hB : Byn w A n c l)
    (hk : k ≤ 10000) (hn : n ≤ 10000) (hbase : base ≤ w.heap.size)
    (h : ∀ v' w', w'.ownsRow base 5 1 v' (k + n) (xs ++ byV l) → (∀ w0, Below w0.heap.size w0 w → w0.heap.size ≤ base → Below w0.heap.size w0 w') → wpList Try.prog ops Q rest (a.put o.dst v') w') : wpList Try.prog ops Q (o :: rest) a w := by
  obtain ⟨i0, hi, hz0, hz1, hz2⟩ := info_parts infoBy
  cases A with
  | none =>
    have hc := hB.2 rfl
    subst hc
    obtain ⟨⟨q1, -, -, -, q4 | ⟨_, _, q5, _⟩⟩, -⟩ := hB
    · subst q4
      obtain rfl : l = [] := List.eq_nil_of_length_eq_zero q1.symm
      refine wpList_append_own_none hgd s x 24 ho base 5 i0 1 Try.underlying24 hi v k xs hs hown hx ?_
      exact h v w (by simpa [byV] using hown) (fun _ hb _ => hb)
    · cases q5
  | some ad =>
    have hnews : ∀ j u, (byV l)[j]? = some u → w.cell? (ad.add j) = some u := by
      by_cases h0 : 0 < n
      · obtain ⟨ad', hA, hh⟩ := byt_news hB.1 h0
        injection hA with hA
        rw [hA]
        exact hh
      · intro j u hu
        have h1 := hB.1.1
        have h2 := (List.getElem?_eq_some_iff.1 hu).1
        rw [byV_length] at h2
        omega
    refine wpList_append_own w hgd s x 24 ho base 5 i0 (.int .u8 0) 1 1 Try.underlying24 hi hz0 hz1 hz2 rfl (by decide) v k xs hs hown ad n c (byV l) hx (by rw [byV_length, Nat.mul_one]; exact hB.1.1.symm) hnews (byV_one _) (by unfold maxLen; omega) (by omega) hbase ?_
    intro v' w' h1 hgr _
    exact h v' w' h1 (fun w0 hb hle => hb.grown hgr hb.size (fun g hg => Nat.le_trans hle (own_base hown g hg)))
set_option maxRecDepth 100000 in
set_option maxHeartbeats 8000000 in
theorem codes_long (op d s sz imm : Int) {A : Option Addr} {n c : Nat} {w : World} (hn : ¬ n ≤ 1000) : Calls Try.prog 3 #[aggI ⟨op, d, s, sz, imm⟩, .slice A n c] w fun e w' => e = .returned (.bool true) ∧ Below w.heap.size w w' := by
  have hn2 : 1000 < n := by omega
  clear hn
  go_enter Try.func3, Try.ntmps3
  go_wp2_with fail
  refine (known_any _).mono ?_
  rintro e w5 ⟨rfl, hw⟩
  have hb := ((Below.refl w.heap.size w).alloc (Nat.le_refl _) (.cells #[.int .i64 op, .int .i64 d, .int .i64 s, .int .i64 sz, .int .i64 imm] 23)).trans (hw.mono (by simp))
  clear hw
  go_wp2
  go_ret
  exact ⟨rfl, hb⟩
set_option maxRecDepth 100000 in
set_option maxHeartbeats 8000000 in
theorem codes_bad (op d s sz imm : Int) (hv : valB ⟨op, d, s, sz, imm⟩ = false) (h1 : -9223372036854775808 ≤ imm) (h2 : imm ≤ 9223372036854775807) {A : Option Addr} {n c : Nat} {l : List Int} {w : World} (_ : Byn w A n c l) : Calls Try.prog 3 #[aggI ⟨op, d, s, sz, imm⟩, .slice A n c] w fun e w' => e = .returned (.bool true) ∧ Below w.heap.size w w' := by
  have hE : errI ⟨op, d, s, sz, imm⟩ = 1 := by unfold errI; rw [hv]; rfl
  have hL : bytI ⟨op, d, s, sz, imm⟩ = [] := by unfold bytI; rw [hv]; rfl
  have H1 := Lib.hid (fun w1 => Encode_any ⟨op, d, s, sz, imm⟩ w1)
  have H2 := Lib.hid (fun w1 => rEncodeE_any ⟨op, d, s, sz, imm⟩ h1 h2 w1)
  have H3 := Lib.hid (fun w1 => Size_any ⟨op, d, s, sz, imm⟩ w1)
  have H4 := Lib.hid (fun w1 => validate_any ⟨op, d, s, sz, imm⟩ w1)
  unfold errI at hE
  rw [hE] at H4
  change errI _ = 1 at hE
  rw [hE, hL] at H1 H2 H3
  clear hv hE hL h1 h2
  by_cases hn : n ≤ 1000
  · go_enter Try.func3, Try.ntmps3
    go_wp2_with fail
    have hx := heap_alloc_new w (.cells #[.int .i64 op, .int .i64 d, .int .i64 s, .int .i64 sz, .int .i64 imm] 23)
    have hb : Below w.heap.size w (w.alloc (.cells #[.int .i64 op, .int .i64 d, .int .i64 s, .int .i64 sz, .int .i64 imm] 23)) := (Below.refl _ _).alloc (Nat.le_refl _) _
    generalize World.alloc w _ = W at hx hb ⊢
    refine (H1.out _).mono ?_
    rintro e w1 ⟨V1, rfl, ho1, hw⟩
    replace hx := (hw.block _ (lt_of_block hx)).trans hx
    obtain ⟨A1, c1, rfl, hB1⟩ := byt_own ho1 (by intro x hx; cases hx)
    replace hb := hb.trans (hw.mono hb.size)
    clear hw ho1
    obtain ⟨x0, x1, x2, x3, x4⟩ := cells5 hx
    go_wp2_with fail
    refine (H2.out _).mono ?_
    rintro e w2 ⟨V2, rfl, ho2, hw⟩
    replace hx := (hw.block _ (lt_of_block hx)).trans hx
    obtain ⟨A2, c2, rfl, hB2⟩ := byt_own ho2 (by intro x hx; cases hx)
    replace hB1 := hB1.below hw
    replace hb := hb.trans (hw.mono hb.size)
    clear hw ho2 x0 x1 x2 x3 x4
    obtain ⟨x0, x1, x2, x3, x4⟩ := cells5 hx
    go_wp2_with fail
    refine (H3.out _).mono ?_
    rintro e w3 ⟨rfl, hw⟩
    replace hx := (hw.block _ (lt_of_block hx)).trans hx
    replace hB1 := hB1.below hw
    replace hB2 := hB2.below hw
    replace hb := hb.trans (hw.mono hb.size)
    clear hw x0 x1 x2 x3 x4
    obtain ⟨x0, x1, x2, x3, x4⟩ := cells5 hx
    have e1 := str_conv hB1
    have e2 := str_conv hB2
    simp only [List.length_nil] at e1 e2
    generalize strI [] = S at e1 e2
    clear hB1 hB2
    go_wp2_with fail
    refine (H4.out _).mono ?_
    rintro e w4 ⟨rfl, hw⟩
    replace hb := hb.trans (hw.mono hb.size)
    clear hw x0 x1 x2 x3 x4 hx e1 e2
    go_wp2_with fail
    refine (known_any _).mono ?_
    rintro e w5 ⟨rfl, hw⟩
    replace hb := hb.trans (hw.mono hb.size)
    clear hw
    go_wp2
    go_ret
    exact ⟨rfl, hb⟩
  · exact codes_long op d s sz imm hn
theorem dec_of (x : Ins) (t : List Int) (hv : valB x = true) : decI (encF x ++ t) = x ∧ decN (encF x ++ t) = (encF x).length ∧ decB (encF x ++ t) = true := by
  unfold decI decN decB
  rw [dec_enc x t hv]
  exact ⟨rfl, rfl, rfl⟩
theorem dec_sh (x : Ins) (hv : valB x = true) : decI (encF x).dropLast = ⟨0, 0, 0, 0, 0⟩ ∧ decN (encF x).dropLast = 0 ∧ decB (encF x).dropLast = false := by
  unfold decI decN decB
  rw [enc_short x hv]
  exact ⟨rfl, rfl, rfl⟩
theorem enc_len (x : Ins) : (encF x).length ≤ 21 := by
  unfold encF
  rw [List.length_append]
  have := wr_len (rw_ x.op).w (rw_ x.op).o (rw_ x.op).n x
  split <;> simp <;> omega
set_option maxRecDepth 100000 in
set_option maxHeartbeats 8000000 in
theorem codes_good (op d s sz imm : Int) (hv : valB ⟨op, d, s, sz, imm⟩ = true) (h1 : -9223372036854775808 ≤ imm) (h2 : imm ≤ 9223372036854775807) {A : Option Addr} {n c : Nat} {l : List Int} {w : World} (hB : Byn w A n c l) (hn : n ≤ 1000) : Calls Try.prog 3 #[aggI ⟨op, d, s, sz, imm⟩, .slice A n c] w fun e w' => e = .returned (.bool true) ∧ Below w.heap.size w w' := by
  obtain ⟨i0, hi, hz0, hz1, hz2⟩ := info_parts infoBy
  have hE : errI ⟨op, d, s, sz, imm⟩ = 0 := by unfold errI; rw [hv]; rfl
  have hL : bytI ⟨op, d, s, sz, imm⟩ = encF ⟨op, d, s, sz, imm⟩ := by unfold bytI; rw [hv]; rfl
  have H1 := Lib.hid (fun w1 => Encode_any ⟨op, d, s, sz, imm⟩ w1)
  have H2 := Lib.hid (fun w1 => rEncodeE_any ⟨op, d, s, sz, imm⟩ h1 h2 w1)
  have H3 := Lib.hid (fun w1 => Size_any ⟨op, d, s, sz, imm⟩ w1)
  have H4 := Lib.hid (fun w1 => validate_any ⟨op, d, s, sz, imm⟩ w1)
  unfold errI at hE
  rw [hE] at H4
  change errI _ = 0 at hE
  rw [hE, hL] at H1 H2 H3
  have hby := enc_by _ hv
  have hp := enc_pos ⟨op, d, s, sz, imm⟩
  have hq := enc_len ⟨op, d, s, sz, imm⟩
  have HD := Lib.hid (dec_of _ l hv)
  have HS := Lib.hid (dec_sh _ hv)
  clear hv hE hL h1 h2
  generalize encF ⟨op, d, s, sz, imm⟩ = L at H1 H2 H3 hby hp hq HD HS
  obtain ⟨m, hm⟩ : ∃ m, L.length = m + 1 := ⟨L.length - 1, by omega⟩
  rw [hm] at H1 H2 H3 hq
  have HM := Lib.hid hm
  clear hm hp
  have HBY := Lib.hid hby
  clear hby
  go_enter Try.func3, Try.ntmps3
  go_wp2_with fail
  have hx := heap_alloc_new w (.cells #[.int .i64 op, .int .i64 d, .int .i64 s, .int .i64 sz, .int .i64 imm] 23)
  have hb : Below w.heap.size w (w.alloc (.cells #[.int .i64 op, .int .i64 d, .int .i64 s, .int .i64 sz, .int .i64 imm] 23)) := (Below.refl _ _).alloc (Nat.le_refl _) _
  generalize World.alloc w _ = W at hx hb ⊢
  obtain ⟨X, hX⟩ : ∃ X, X = w.heap.size := ⟨_, rfl⟩
  rw [← hX] at hx ⊢
  have HX := Lib.hid hX
  clear hX
  refine (H1.out _).mono ?_
  rintro e w1 ⟨V1, rfl, ho1, hw⟩
  replace hx := (hw.block _ (lt_of_block hx)).trans hx
  obtain ⟨A1, c1, rfl, hB1⟩ := byt_own (l := L) (by rw [HM.out]; exact ho1) HBY.out
  rw [HM.out] at hB1
  replace hb := hb.trans (hw.mono hb.size)
  clear hw ho1
  obtain ⟨x0, x1, x2, x3, x4⟩ := cells5 hx
  go_wp2_with fail
  refine (H2.out _).mono ?_
  rintro e w2 ⟨V2, rfl, ho2, hw⟩
  replace hx := (hw.block _ (lt_of_block hx)).trans hx
  obtain ⟨A2, c2, rfl, hB2⟩ := byt_own (l := L) (by rw [HM.out]; exact ho2) HBY.out
  rw [HM.out] at hB2
  replace hB1 := hB1.below hw
  replace hb := hb.trans (hw.mono hb.size)
  clear hw ho2 x0 x1 x2 x3 x4
  obtain ⟨x0, x1, x2, x3, x4⟩ := cells5 hx
  rw [HM.out]
  go_wp2_with fail
  refine (H3.out _).mono ?_
  rintro e w3 ⟨rfl, hw⟩
  replace hx := (hw.block _ (lt_of_block hx)).trans hx
  replace hB1 := hB1.below hw
  replace hB2 := hB2.below hw
  replace hb := hb.trans (hw.mono hb.size)
  clear hw x0 x1 x2 x3 x4
  obtain ⟨x0, x1, x2, x3, x4⟩ := cells5 hx
  have e1 := str_conv hB1
  have e2 := str_conv hB2
  generalize strI L = S at e1 e2
  clear hB2
  go_wp2_with fail
  refine (H4.out _).mono ?_
  rintro e w4 ⟨rfl, hw⟩
  replace hx := (hw.block _ (lt_of_block hx)).trans hx
  replace hB1 := hB1.below hw
  replace hb := hb.trans (hw.mono hb.size)
  clear hw x0 x1 x2 x3 x4 e1 e2
  obtain ⟨x0, x1, x2, x3, x4⟩ := cells5 hx
  have hE0 := empty_own w4 w4.heap.size (Nat.le_refl _)
  have hb0 : Below w4.heap.size w4 (w4.alloc (.cells #[] 5)) := (Below.refl _ _).alloc (Nat.le_refl _) _
  have hBa : Byn (w4.alloc (.cells #[] 5)) A1 (m + 1) c1 L := ⟨hB1.below hb0, fun h => by obtain ⟨ad, q, -⟩ := byt_news hB1 (by omega); rw [h] at q; cases q⟩
  clear hi hz0 hz1 hz2
  go_wp2_with (at_builtin; refine wpList_append_byt rfl _ _ rfl w4.heap.size _ _ _ rfl hE0 A1 (m + 1) c1 L rfl hBa (by omega) (by omega) hb0.size ?_)
  intro v5 w5 ho5 hgr
  have hb5 := hgr w4 hb0 (Nat.le_refl _)
  replace ho5 : w5.ownsRow w4.heap.size 5 1 v5 (m + 1) (byV L) := by simpa [byV] using ho5
  clear hgr hBa hE0 hb0
  have hBb : Byn w5 A n c l := ⟨hB.1.below (hb.trans (hb5.mono hb.size)), hB.2⟩
  go_wp2_with (at_builtin; refine wpList_append_byt rfl _ _ rfl w4.heap.size _ _ _ rfl ho5 A n c l rfl hBb (by omega) (by omega) hb5.size ?_)
  intro v6 w6 ho6 hgr
  replace hb5 := hgr w4 hb5 (Nat.le_refl _)
  rw [← byV_append] at ho6
  have hlen : (L ++ l).length = m + 1 + n := by rw [List.length_append, HM.out, ← hB.1.1]
  obtain ⟨A6, c6, rfl, hB6⟩ := byt_own (l := L ++ l) (by rw [hlen]; exact ho6) (isBy_append HBY.out hB.1.isBy)
  rw [hlen] at hB6 ⊢
  have HLEN := Lib.hid hlen
  clear hgr hBb ho5 ho6 hlen
  replace hx := (hb5.block _ (lt_of_block hx)).trans hx
  replace hB1 := hB1.below hb5
  replace hb := hb.trans (hb5.mono hb.size)
  clear hb5 x0 x1 x2 x3 x4
  go_wp2_with fail
  have hD := decode_any hB6
  rw [HD.out.1, HD.out.2.1, HD.out.2.2, HM.out] at hD
  refine hD.mono ?_
  rintro e w7 ⟨rfl, hw⟩
  clear hD
  replace hx := (hw.block _ (lt_of_block hx)).trans hx
  replace hB1 := hB1.below hw
  replace hb := hb.trans (hw.mono hb.size)
  clear hw hB6
  have hB3 := (byt_take hB1 (show m ≤ m + 1 by omega)).below ((Below.refl _ _).alloc (Nat.le_refl _) (.cells #[.int .i64 op, .int .i64 d, .int .i64 s, .int .i64 sz, .int .i64 imm] 23))
  have hxx := heap_alloc_old w7 (.cells #[.int .i64 op, .int .i64 d, .int .i64 s, .int .i64 sz, .int .i64 imm] 23) (lt_of_block hx)
  have hyy := heap_alloc_new w7 (.cells #[.int .i64 op, .int .i64 d, .int .i64 s, .int .i64 sz, .int .i64 imm] 23)
  have hbb := hb.alloc hb.size (.cells #[.int .i64 op, .int .i64 d, .int .i64 s, .int .i64 sz, .int .i64 imm] 23)
  have hm1 : (↑m + 1 : Int) - 1 = ↑m := by omega
  have hmc : m ≤ c1 := by have := hB1.2.1; omega
  have hmd : (↑m : Int) ≤ ↑c1 := by omega
  go_wp2_with fail
  have hL : L.take m = L.dropLast := by rw [List.dropLast_eq_take, HM.out]; rfl
  have hD := decode_any hB3
  rw [hL, HS.out.1, HS.out.2.1, HS.out.2.2] at hD
  rw [← hxx] at hx
  clear hL hB3 hxx hm1 hmc hmd hB1
  generalize World.alloc w7 _ = W8 at hx hyy hbb hD ⊢
  refine hD.mono ?_
  rintro e w8 ⟨rfl, hw⟩
  replace hx := (hw.block _ (lt_of_block hx)).trans hx
  replace hyy := (hw.block _ (lt_of_block hyy)).trans hyy
  replace hbb := hbb.trans (hw.mono hbb.size)
  clear hw hD hb
  have hb9 := hbb.alloc hbb.size (.cells #[.int .i64 0, .int .i64 0, .int .i64 0, .int .i64 0, .int .i64 0] 23)
  replace hx := (heap_alloc_old w8 (.cells #[.int .i64 0, .int .i64 0, .int .i64 0, .int .i64 0, .int .i64 0] 23) (lt_of_block hx)).trans hx
  replace hyy := (heap_alloc_old w8 (.cells #[.int .i64 0, .int .i64 0, .int .i64 0, .int .i64 0, .int .i64 0] 23) (lt_of_block hyy)).trans hyy
  generalize w7.heap.size = Y at hyy ⊢
  obtain ⟨x0, x1, x2, x3, x4⟩ := cells5 hx
  obtain ⟨y0, y1, y2, y3, y4⟩ := cells5 hyy
  go_wp2_with fail
  refine (known_any _).mono ?_
  rintro e w9 ⟨rfl, hw⟩
  have HF := Lib.hid (hb9.trans (hw.mono hb9.size))
  clear hb9 hw hbb hx hyy x0 x1 x2 x3 x4 y0 y1 y2 y3 y4
  go_wp2
  go_ret
  exact ⟨rfl, HF.out⟩
theorem codes_walk (x : Ins) (h1 : -9223372036854775808 ≤ x.imm) (h2 : x.imm ≤ 9223372036854775807) {A : Option Addr} {n c : Nat} {l : List Int} {w : World} (hB : Byn w A n c l) : Calls Try.prog 3 #[aggI x, .slice A n c] w fun e w' => e = .returned (.bool true) ∧ Below w.heap.size w w' := by
  obtain ⟨op, d, s, sz, imm⟩ := x
  cases hv : valB ⟨op, d, s, sz, imm⟩
  · exact codes_bad op d s sz imm hv h1 h2 hB
  · by_cases hn : n ≤ 1000
    · exact codes_good op d s sz imm hv h1 h2 hB hn
    · exact codes_long op d s sz imm hn
end Go.Proofs.Ytpekegeohcnhcaa
