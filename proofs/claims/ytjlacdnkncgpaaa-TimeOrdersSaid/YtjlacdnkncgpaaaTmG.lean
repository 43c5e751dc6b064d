/-
  Stretches of instructions in memory; Validate of both packages.
-/
import Derived.Test.YtjlacdnkncgpaaaTmF
namespace Go.Proofs.Ytjlacdnkncgpaaa
open Go.RowKit

/-- A stretch of instructions in memory. -/
def Lies (w : World) (b off : Nat) (zs : List Cod) : Prop := b < w.heap.size ∧ ∀ j, j < zs.length → ∀ i v, (encC zs[j]!)[i]? = some v → w.cell? ⟨b, off + j * 6 + i, none⟩ = some v
theorem Lies.below {w w' : World} {b off : Nat} {zs : List Cod} (h : Lies w b off zs) (hb : Below w.heap.size w w') : Lies w' b off zs :=
  ⟨Nat.lt_of_lt_of_le h.1 hb.size, fun j hj i v hv => (hb.cell (p := ⟨b, off + j * 6 + i, none⟩) h.1).trans (h.2 j hj i v hv)⟩
/-- The six cells of an instruction. -/
def At6 (w : World) (b o : Nat) (x : Cod) : Prop :=
  w.cell? ⟨b, o, none⟩ = some (.int .i64 x.op) ∧ w.cell? ⟨b, o + 1, none⟩ = some (.int .i64 x.d) ∧ w.cell? ⟨b, o + 2, none⟩ = some (.int .i64 x.a) ∧ w.cell? ⟨b, o + 3, none⟩ = some (.int .i64 x.b) ∧ w.cell? ⟨b, o + 4, none⟩ = some (.int .u32 x.imm) ∧ w.cell? ⟨b, o + 5, none⟩ = some (.int .i64 x.to)
theorem Lies.at_ {w : World} {b off : Nat} {zs : List Cod} (h : Lies w b off zs) {j : Nat} (hj : j < zs.length) : At6 w b (off + j * 6) zs[j]! := by
  have h' := h.2 j hj
  generalize zs[j]! = x at *
  exact ⟨h' 0 _ rfl, h' 1 _ rfl, h' 2 _ rfl, h' 3 _ rfl, h' 4 _ rfl, h' 5 _ rfl⟩
/-- A slice of instructions: the places before its length lie in memory. -/
def Tab (w : World) (A : Option Addr) (n c : Nat) (zs : List Cod) : Prop := n = zs.length ∧ n ≤ c ∧ c ≤ 9223372036854775807 ∧ (n = 0 ∨ ∃ b off, A = some ⟨b, off, none⟩ ∧ Lies w b off zs)
theorem Tab.below {w w' : World} {A : Option Addr} {n c : Nat} {zs : List Cod} (h : Tab w A n c zs) (hb : Below w.heap.size w w') : Tab w' A n c zs := by
  obtain ⟨h1, h2, h3, h4 | ⟨b, off, h4, h5⟩⟩ := h
  · exact ⟨h1, h2, h3, .inl h4⟩
  · exact ⟨h1, h2, h3, .inr ⟨b, off, h4, h5.below hb⟩⟩
theorem Tab.shape {w : World} {A : Option Addr} {n c : Nat} {zs : List Cod} (h : Tab w A n c zs) : n = zs.length := h.1
theorem Tab.at_ {w : World} {A : Option Addr} {n c : Nat} {zs : List Cod} (h : Tab w A n c zs) {j : Nat} (hj : j < n) : ∃ b off, A = some ⟨b, off, none⟩ ∧ b < w.heap.size ∧ At6 w b (off + j * 6) zs[j]! := by
  obtain ⟨h1, h2, h3, h4 | ⟨b, off, h4, h5⟩⟩ := h
  · omega
  · exact ⟨b, off, h4, h5.1, h5.at_ (by omega)⟩
/-- What Validate answers. -/
def valF (zs : List Cod) : Int := if 40 < zs.length then 3 else if zs.all valC then 0 else 1
theorem val_no {zs : List Cod} {j : Nat} (h40 : zs.length ≤ 40) (hj : j < zs.length) (h : valC zs[j]! = false) : valF zs = 1 := by
  unfold valF
  rw [if_neg (by omega), if_neg]
  rw [List.all_eq_true]
  intro hh
  rw [hh _ (by rw [show zs[j]! = zs[j] by simp [hj]]; exact List.getElem_mem _)] at h
  cases h
theorem val_yes {zs : List Cod} (h40 : zs.length ≤ 40) (h : ∀ j, j < zs.length → valC zs[j]! = true) : valF zs = 0 := by
  unfold valF
  rw [if_neg (by omega), if_pos]
  rw [List.all_eq_true]
  intro x hx
  obtain ⟨j, hj, rfl⟩ := List.mem_iff_getElem.1 hx
  have := h j hj
  rwa [show zs[j]! = zs[j] by simp [hj]] at this
theorem right_at (x : Cod) (B : Bool) (w : World) (h : valC x = B) : Calls Try.prog 36 #[aggC x] w fun e w' => e = .returned (.bool B) ∧ Below w.heap.size w w' := by
  subst h
  rw [← right_val]
  exact right_any x w
section
variable {w : World} {A : Option Addr} {n c : Nat} {zs : List Cod}
set_option maxRecDepth 100000 in
set_option maxHeartbeats 4000000 in
theorem refValidate_tab (h : Tab w A n c zs) : Calls Try.prog 16 #[.slice A n c] w fun e w' => e = .returned (.int .i64 (valF zs)) ∧ Below w.heap.size w w' := by
  have HT := Lib.hid h
  have HN := Lib.hid h.shape
  by_cases h40 : 40 < n
  · have HV := Lib.hid (show valF zs = 3 from if_pos (by rw [← HN.out]; exact h40))
    clear h
    go_enter Try.func16, Try.ntmps16
    go_wp2
    go_ret
    exact ⟨ret_i HV.out.symm, Below.refl _ _⟩
  · have hcap := h.2.1
    clear h
    go_enter Try.func16, Try.ntmps16
    go_wp2
    go_loopw [3] (fun zi wr => ∃ i : Nat, i ≤ n ∧ zi = .int .i64 (i : Int) ∧ Below w.heap.size w wr ∧ Hid (∀ j, j < i → valC zs[j]! = true)) (fun zi _ => n - (intOf zi).toNat)
    case atStart => exact ⟨0, by omega, rfl, Below.refl _ _, Lib.hid (fun j hj => absurd hj (by omega))⟩
    case round =>
      obtain ⟨i, hi, rfl, hb, HJ⟩ := hrel
      by_cases hlt : i < n
      · obtain ⟨b, off, rfl, hbs, ht⟩ := (HT.out.below hb).at_ hlt
        have HJ2 := Lib.hid (show valC zs[i]! = true → ∀ j, j < i + 1 → valC zs[j]! = true from fun h j hj => by
          by_cases hji : j = i
          · rw [hji]; exact h
          · exact HJ.out j (by omega))
        have HNO := Lib.hid (fun h => val_no (zs := zs) (j := i) (by rw [← HN.out]; omega) (by rw [← HN.out]; exact hlt) h)
        have HV := Lib.hid (fun w1 B hB => right_at zs[i]! B w1 hB)
        generalize zs[i]! = x at ht HJ2 HNO HV
        cases hB : valC x
        · have HV2 := Lib.hid (fun w1 => HV.out w1 false hB)
          have HE := Lib.hid (HNO.out hB)
          clear HJ HJ2 HNO hB HV
          obtain ⟨op, d, a, b', imm, to⟩ := x
          obtain ⟨c0, c1, c2, c3, c4, c5⟩ := ht
          simp only at c0 c1 c2 c3 c4 c5
          go_wp2_with fail
          refine (HV2.out wr).mono ?_
          rintro e w2 ⟨rfl, hb2⟩
          go_wp2
          go_ret
          exact ⟨ret_i HE.out.symm, hb.trans (hb2.mono hb.size)⟩
        · have HV2 := Lib.hid (fun w1 => HV.out w1 true hB)
          have HJ3 := Lib.hid (HJ2.out hB)
          clear HJ HJ2 HNO hB HV
          obtain ⟨op, d, a, b', imm, to⟩ := x
          obtain ⟨c0, c1, c2, c3, c4, c5⟩ := ht
          simp only at c0 c1 c2 c3 c4 c5
          go_wp2_with fail
          refine (HV2.out wr).mono ?_
          rintro e w2 ⟨rfl, hb2⟩
          clear c0 c1 c2 c3 c4 c5
          go_wp2
          go_roundw
          case rel => exact ⟨i + 1, by omega, by go_num, hb.trans (hb2.mono hb.size), HJ3⟩
          case measure => simp [intOf]; omega
      · obtain rfl : i = n := by omega
        have HE := Lib.hid (val_yes (by rw [← HN.out]; omega) (fun j hj => HJ.out j (by rw [HN.out]; exact hj)))
        go_wp2
        go_ret
        exact ⟨ret_i HE.out.symm, hb⟩
set_option maxRecDepth 100000 in
set_option maxHeartbeats 4000000 in
theorem validate_tab (h : Tab w A n c zs) : Calls Try.prog 15 #[.slice A n c] w fun e w' => e = .returned (.int .i64 (valF zs)) ∧ Below w.heap.size w w' := by
  have HT := Lib.hid h
  have HN := Lib.hid h.shape
  by_cases h40 : 40 < n
  · have HV := Lib.hid (show valF zs = 3 from if_pos (by rw [← HN.out]; exact h40))
    clear h
    go_enter Try.func15, Try.ntmps15
    go_wp2
    go_ret
    exact ⟨ret_i HV.out.symm, Below.refl _ _⟩
  · have hcap := h.2.1
    clear h
    go_enter Try.func15, Try.ntmps15
    go_wp2
    go_loopw [12] (fun zi wr => ∃ i : Nat, i ≤ n ∧ zi = .int .i64 (i : Int) ∧ Below w.heap.size w wr ∧ Hid (∀ j, j < i → valC zs[j]! = true)) (fun zi _ => n - (intOf zi).toNat)
    case atStart => exact ⟨0, by omega, rfl, Below.refl _ _, Lib.hid (fun j hj => absurd hj (by omega))⟩
    case round =>
      obtain ⟨i, hi, rfl, hb, HJ⟩ := hrel
      by_cases hlt : i < n
      · obtain ⟨b, off, rfl, hbs, ht⟩ := (HT.out.below hb).at_ hlt
        have HJ2 := Lib.hid (show valC zs[i]! = true → ∀ j, j < i + 1 → valC zs[j]! = true from fun h j hj => by
          by_cases hji : j = i
          · rw [hji]; exact h
          · exact HJ.out j (by omega))
        have HNO := Lib.hid (fun h => val_no (zs := zs) (j := i) (by rw [← HN.out]; omega) (by rw [← HN.out]; exact hlt) h)
        have HV := Lib.hid (fun w1 => Uses_any zs[i]! w1)
        generalize zs[i]! = x at ht HJ2 HNO HV
        have hval : valC x = (codB x && inB x.op 0 23) := rfl
        generalize usesR x = U at HV
        cases hC : codB x
        · have HE := Lib.hid (HNO.out (by rw [hval, hC]; rfl))
          rw [hC] at HV
          clear HJ HJ2 HNO hval hC
          obtain ⟨op, d, a, b', imm, to⟩ := x
          obtain ⟨c0, c1, c2, c3, c4, c5⟩ := ht
          simp only at c0 c1 c2 c3 c4 c5
          go_wp2_with fail
          have hb0 : Below w.heap.size w (wr.alloc (.cells #[.int .i64 op, .int .i64 d, .int .i64 a, .int .i64 b', .int .u32 imm, .int .i64 to] 47)) := hb.alloc hb.size _
          generalize World.alloc wr _ = W2 at hb0 ⊢
          refine (HV.out W2).mono ?_
          rintro e w2 ⟨v, rfl, -, hb2⟩
          go_wp2
          go_ret
          exact ⟨ret_i HE.out.symm, hb0.trans (hb2.mono hb0.size)⟩
        · rw [hC] at HV
          cases hI : inB x.op 0 23
          · have HE := Lib.hid (HNO.out (by rw [hval, hC, hI]; rfl))
            have HB := Lib.hid hI
            clear HJ HJ2 HNO hval hC hI
            obtain ⟨op, d, a, b', imm, to⟩ := x
            obtain ⟨c0, c1, c2, c3, c4, c5⟩ := ht
            simp only at c0 c1 c2 c3 c4 c5
            go_wp2_with fail
            have hb0 : Below w.heap.size w (wr.alloc (.cells #[.int .i64 op, .int .i64 d, .int .i64 a, .int .i64 b', .int .u32 imm, .int .i64 to] 47)) := hb.alloc hb.size _
            have hx := heap_alloc_new wr (.cells #[.int .i64 op, .int .i64 d, .int .i64 a, .int .i64 b', .int .u32 imm, .int .i64 to] 47)
            generalize World.alloc wr _ = W2 at hb0 hx ⊢
            refine (HV.out W2).mono ?_
            rintro e w2 ⟨v, rfl, -, hb2⟩
            obtain ⟨x0, -, -, -, -, -⟩ := cells6 ((hb2.block _ (lt_of_block hx)).trans hx)
            clear c0 c1 c2 c3 c4 c5
            go_wp2_with (go_at_call 32; ((with_reducible refine (isOp_at op false _ HB.out).mono ?_); rintro e w' ⟨rfl, rfl⟩))
            go_ret
            exact ⟨ret_i HE.out.symm, hb0.trans (hb2.mono hb0.size)⟩
          · have HJ3 := Lib.hid (HJ2.out (by rw [hval, hC, hI]; rfl))
            have HB := Lib.hid hI
            clear HJ HJ2 HNO hval hC hI
            obtain ⟨op, d, a, b', imm, to⟩ := x
            obtain ⟨c0, c1, c2, c3, c4, c5⟩ := ht
            simp only at c0 c1 c2 c3 c4 c5
            go_wp2_with fail
            have hb0 : Below w.heap.size w (wr.alloc (.cells #[.int .i64 op, .int .i64 d, .int .i64 a, .int .i64 b', .int .u32 imm, .int .i64 to] 47)) := hb.alloc hb.size _
            have hx := heap_alloc_new wr (.cells #[.int .i64 op, .int .i64 d, .int .i64 a, .int .i64 b', .int .u32 imm, .int .i64 to] 47)
            generalize World.alloc wr _ = W2 at hb0 hx ⊢
            refine (HV.out W2).mono ?_
            rintro e w2 ⟨v, rfl, -, hb2⟩
            obtain ⟨x0, -, -, -, -, -⟩ := cells6 ((hb2.block _ (lt_of_block hx)).trans hx)
            replace hb0 := hb0.trans (hb2.mono hb0.size)
            clear c0 c1 c2 c3 c4 c5 hb2 hx hb
            go_wp2_with (go_at_call 32; ((with_reducible refine (isOp_at op true _ HB.out).mono ?_); rintro e w' ⟨rfl, rfl⟩))
            go_roundw
            case rel => exact ⟨i + 1, by omega, by go_num, hb0, HJ3⟩
            case measure => simp [intOf]; omega
      · obtain rfl : i = n := by omega
        have HE := Lib.hid (val_yes (by rw [← HN.out]; omega) (fun j hj => HJ.out j (by rw [HN.out]; exact hj)))
        go_wp2
        go_ret
        exact ⟨ret_i HE.out.symm, hb⟩
end
end Go.Proofs.Ytjlacdnkncgpaaa
