/-
  Slices of numbers, also such as came in as arguments; which numbers they have; lists that have each number once.
-/
import Derived.Test.YtjlacdnkncgpaaaTmP
import Derived.Test.YtjlacdnkncgpaaaTmQ
import Derived.ChangeSlices
namespace Go.Proofs.Ytjlacdnkncgpaaa
open Go.ChangeShapes Go.WideShapes Go.ChangeAt Go.WideMaps Go.WideElems Go.RowKit Go.Deep

/-- A slice of numbers. -/
def Ints (w : World) (A : Option Addr) (n c : Nat) (l : List Int) : Prop := n = l.length ∧ n ≤ c ∧ c ≤ 9223372036854775807 ∧ (n = 0 ∨ ∃ b off, A = some ⟨b, off, none⟩ ∧ b < w.heap.size ∧ ∀ j, j < n → w.cell? ⟨b, off + j, none⟩ = some (.int .i64 l[j]!))
theorem Ints.below {w w' : World} {A : Option Addr} {n c : Nat} {l : List Int} (h : Ints w A n c l) (hb : Below w.heap.size w w') : Ints w' A n c l := by
  obtain ⟨h1, h2, h3, h4 | ⟨b, off, h4, h5, h6⟩⟩ := h
  · exact ⟨h1, h2, h3, .inl h4⟩
  · exact ⟨h1, h2, h3, .inr ⟨b, off, h4, Nat.lt_of_lt_of_le h5 hb.size, fun j hj => (hb.cell (p := ⟨b, off + j, none⟩) h5).trans (h6 j hj)⟩⟩
theorem Ints.at_ {w : World} {A : Option Addr} {n c : Nat} {l : List Int} (h : Ints w A n c l) {j : Nat} (hj : j < n) : ∃ b off, A = some ⟨b, off, none⟩ ∧ b < w.heap.size ∧ w.cell? ⟨b, off + j, none⟩ = some (.int .i64 l[j]!) := by
  obtain ⟨h1, h2, h3, h4 | ⟨b, off, h4, h5, h6⟩⟩ := h
  · omega
  · exact ⟨b, off, h4, h5, h6 j hj⟩
theorem get_take {l : List Int} {k j : Nat} (h : j < k) : (l.take k)[j]! = l[j]! := by
  rw [List.getElem!_eq_getElem?_getD, List.getElem!_eq_getElem?_getD, List.getElem?_take, if_pos h]
theorem Ints.take {w : World} {A : Option Addr} {n c : Nat} {l : List Int} (h : Ints w A n c l) {k : Nat} (hk : k ≤ n) : Ints w A k c (l.take k) := by
  obtain ⟨h1, h2, h3, h4⟩ := h
  refine ⟨by rw [List.length_take]; omega, by omega, h3, ?_⟩
  rcases h4 with h4 | ⟨b, off, h4, h5, h6⟩
  · exact .inl (by omega)
  · exact .inr ⟨b, off, h4, h5, fun j hj => by rw [get_take hj]; exact h6 j (by omega)⟩
set_option maxRecDepth 100000 in
theorem has_ints {w : World} {A : Option Addr} {n c : Nat} {l : List Int} (x : Int) (h : Ints w A n c l) :
    Calls Try.prog 55 #[.slice A n c, .int .i64 x] w fun e w' => e = .returned (.bool (memB l x)) ∧ w = w' := by
  have H := Lib.hid h
  have HN := Lib.hid h.1
  have hcap := h.2.1
  have hmax := h.2.2.1
  clear h
  go_enter Try.func55, Try.ntmps55
  go_wp2
  go_loopw [5] (fun zi wr => ∃ i : Nat, i ≤ n ∧ zi = .int .i64 (i : Int) ∧ wr = w ∧ Hid (∀ j, j < i → l[j]! ≠ x)) (fun zi _ => n - (intOf zi).toNat)
  case atStart => exact ⟨0, by omega, rfl, rfl, Lib.hid fun j hj => absurd hj (by omega)⟩
  case round =>
    obtain ⟨i, hi, rfl, rfl, HJ⟩ := hrel
    by_cases hlt : i < n
    · obtain ⟨b, off, rfl, hg, hc⟩ := H.out.at_ hlt
      obtain ⟨p, hp⟩ : ∃ p, l[i]! = p := ⟨_, rfl⟩
      rw [hp] at hc
      have HP := Lib.hid hp
      clear hp
      by_cases hx : p = x
      · subst hx
        have HM := Lib.hid (mem_yes (by rw [← HN.out]; exact hlt) HP.out)
        have hpp : (p == p) = true := beq_self_eq_true p
        go_wp2
        go_ret
        exact ⟨ret_b (by rw [HM.out]), rfl⟩
      · have hpp : (p == x) = false := beq_false_of_ne hx
        have HJ2 := Lib.hid (show ∀ j, j < i + 1 → l[j]! ≠ x from fun j hj => by
          by_cases hji : j = i
          · rw [hji, HP.out]; exact hx
          · exact HJ.out j (by omega))
        go_wp2
        go_roundw
        case rel => exact ⟨i + 1, by omega, by go_num, trivial, HJ2⟩
        case measure => simp [intOf]; omega
    · obtain rfl : i = n := by omega
      have HM := Lib.hid (mem_no (l := l) (x := x) (by rw [← HN.out]; exact HJ.out))
      go_wp2
      go_ret
      exact ⟨ret_b (by rw [HM.out]), rfl⟩
set_option maxRecDepth 100000 in
theorem index_ints {w : World} {A : Option Addr} {n c : Nat} {l : List Int} (x : Int) (h : Ints w A n c l) :
    Calls Try.prog 61 #[.slice A n c, .int .i64 x] w fun e w' => ∃ k : Int, e = .returned (.int .i64 k) ∧ (memB l x = true ∧ 0 ≤ k ∧ k ≤ 9223372036854775807 ∨ memB l x = false ∧ k = -1) ∧ w = w' := by
  have H := Lib.hid h
  have HN := Lib.hid h.1
  have hcap := h.2.1
  have hmax := h.2.2.1
  clear h
  go_enter Try.func61, Try.ntmps61
  go_wp2
  go_loopw [8] (fun zi wr => ∃ i : Nat, i ≤ n ∧ zi = .int .i64 (i : Int) ∧ wr = w ∧ Hid (∀ j, j < i → l[j]! ≠ x)) (fun zi _ => n - (intOf zi).toNat)
  case atStart => exact ⟨0, by omega, rfl, rfl, Lib.hid fun j hj => absurd hj (by omega)⟩
  case round =>
    obtain ⟨i, hi, rfl, rfl, HJ⟩ := hrel
    by_cases hlt : i < n
    · obtain ⟨b, off, rfl, hg, hc⟩ := H.out.at_ hlt
      obtain ⟨p, hp⟩ : ∃ p, l[i]! = p := ⟨_, rfl⟩
      rw [hp] at hc
      have HP := Lib.hid hp
      clear hp
      by_cases hx : p = x
      · subst hx
        have HM := Lib.hid (mem_yes (by rw [← HN.out]; exact hlt) HP.out)
        have hpp : (p == p) = true := beq_self_eq_true p
        go_wp2
        go_ret
        exact ⟨(i : Int), rfl, .inl ⟨HM.out, by omega, by omega⟩, rfl⟩
      · have hpp : (x == p) = false := beq_false_of_ne (fun e => hx e.symm)
        have HJ2 := Lib.hid (show ∀ j, j < i + 1 → l[j]! ≠ x from fun j hj => by
          by_cases hji : j = i
          · rw [hji, HP.out]; exact hx
          · exact HJ.out j (by omega))
        go_wp2
        go_roundw
        case rel => exact ⟨i + 1, by omega, by go_num, trivial, HJ2⟩
        case measure => simp [intOf]; omega
    · obtain rfl : i = n := by omega
      have HM := Lib.hid (mem_no (l := l) (x := x) (by rw [← HN.out]; exact HJ.out))
      go_wp2
      go_ret
      exact ⟨-1, rfl, .inr ⟨HM.out, rfl⟩, rfl⟩
set_option maxRecDepth 100000 in
theorem contains_ints {w : World} {A : Option Addr} {n c : Nat} {l : List Int} (x : Int) (B : Bool) (h : Ints w A n c l) (hB : memB l x = B) :
    Calls Try.prog 52 #[.slice A n c, .int .i64 x] w fun e w' => e = .returned (.bool B) ∧ w = w' := by
  subst hB
  have HI := Lib.hid (index_ints x h)
  clear h
  go_enter Try.func52, Try.ntmps52
  go_wp2_with fail
  refine HI.out.mono ?_
  rintro e w1 ⟨k, rfl, ⟨hm, h1, h2⟩ | ⟨hm, rfl⟩, rfl⟩
  · have HM := Lib.hid hm
    clear hm
    go_wp2
    go_ret
    exact ⟨ret_b (by rw [HM.out]), rfl⟩
  · have HM := Lib.hid hm
    clear hm
    go_wp2
    go_ret
    exact ⟨ret_b (by rw [HM.out]), rfl⟩
theorem cellsInt : Try.prog.cellsOf 3 = 1 := by kernel_rfl
section
variable {H : Type} {enc : TypeId × Value → H} {W : World} {base b0 : Nat} {held : Bool}
set_option maxRecDepth 100000 in
theorem open_nums {v : Value} {d : DataW H} {p : List MemPlace} (hv : Value.okWide Try.prog W .any b0 25 v) (h : DataW.Trod enc Try.prog W base (fun _ => true) held 25 v d p) :
    ∃ A n c l, v = .slice A n c ∧ Ints W A n c l := by
  obtain ⟨A, n, c, rfl⟩ := okWide_slice Try.underlying25 hv
  obtain ⟨fuel, hf⟩ := h
  rcases open_ints Try.underlying25 Try.underlying3 cellsInt hf with ⟨hcs, -⟩ | ⟨a, len, cap, zs, hcs, -, hl, hm, hz, -, hcell, hwz⟩
  · simp [Value.cells] at hcs
    obtain ⟨rfl, rfl, rfl⟩ := hcs
    exact ⟨_, _, _, [], rfl, rfl, Nat.le_refl _, by omega, .inl rfl⟩
  · simp [Value.cells] at hcs
    obtain ⟨rfl, rfl, rfl⟩ := hcs
    simp only [if_true] at hz
    unfold maxLen at hm
    by_cases hn : n = 0
    · subst hn
      exact ⟨_, _, _, [], rfl, rfl, hl, by omega, .inl rfl⟩
    · obtain ⟨ab, ao, spot⟩ := a
      have hspot : spot = none := by simpa [Addr.add] using World.cell?_spot (hcell 0 (by omega))
      subst hspot
      have hl' : (zs.take n).length = n := by simp; omega
      have hb : ab < W.heap.size := by
        have h0 := hcell 0 (by omega)
        rw [Addr.add_lit] at h0
        apply Classical.byContradiction
        intro hb
        have : W.heap[ab]? = none := Array.getElem?_eq_none (by omega)
        simp [World.cell?, this] at h0
      refine ⟨_, n, c, zs.take n, rfl, hl'.symm, hl, by omega, .inr ⟨ab, ao, rfl, hb, fun j hj => ?_⟩⟩
      have hc := hcell j (by omega)
      rw [Addr.add_lit] at hc
      rw [hc, get_take hj]
      simp [show j < zs.length by omega]
end
end Go.Proofs.Ytjlacdnkncgpaaa
