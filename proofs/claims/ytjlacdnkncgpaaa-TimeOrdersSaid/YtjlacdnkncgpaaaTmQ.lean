/-
  Which numbers a list has.
-/
import Derived.Test.YtjlacdnkncgpaaaTmL
namespace Go.Proofs.Ytjlacdnkncgpaaa
open Go.RowKit

def memB (l : List Int) (x : Int) : Bool := decide (x ∈ l)
theorem mem_yes {l : List Int} {x : Int} {i : Nat} (h : i < l.length) (e : l[i]! = x) : memB l x = true := by
  refine decide_eq_true ?_
  rw [← e, show l[i]! = l[i] by simp [h]]
  exact List.getElem_mem _
theorem mem_no {l : List Int} {x : Int} (h : ∀ j, j < l.length → l[j]! ≠ x) : memB l x = false := by
  refine decide_eq_false fun hm => ?_
  obtain ⟨j, hj, e⟩ := List.mem_iff_getElem.1 hm
  exact h j hj (by rw [show l[j]! = l[j] by simp [hj], e])
theorem mem_same {l m : List Int} {x : Int} (h : ∀ r, r ∈ l ↔ r ∈ m) : memB l x = memB m x := by
  unfold memB
  rw [decide_eq_decide]
  exact h x
set_option maxRecDepth 100000 in
theorem has_any {w : World} {v : Value} {l : List Int} (x : Int) (h : IntsAt w v l) (hl : l.length ≤ 1000) :
    Calls Try.prog 55 #[v, .int .i64 x] w fun e w' => e = .returned (.bool (memB l x)) ∧ w = w' := by
  obtain ⟨A, c, rfl, h⟩ := h
  obtain ⟨n, hn⟩ : ∃ n, n = l.length := ⟨_, rfl⟩
  rw [← hn] at h hl ⊢
  have H := Lib.hid h
  have HN := Lib.hid hn
  clear h hn
  go_enter Try.func55, Try.ntmps55
  go_wp2
  go_loopw [5] (fun zi wr => ∃ i : Nat, i ≤ n ∧ zi = .int .i64 (i : Int) ∧ wr = w ∧ Hid (∀ j, j < i → l[j]! ≠ x)) (fun zi _ => n - (intOf zi).toNat)
  case atStart => exact ⟨0, by omega, rfl, rfl, Lib.hid fun j hj => absurd hj (by omega)⟩
  case round =>
    obtain ⟨i, hi, rfl, rfl, HJ⟩ := hrel
    by_cases hlt : i < n
    · obtain ⟨g, rfl, hg, hc⟩ : ∃ g, A = some ⟨g, 0, none⟩ ∧ g < wr.heap.size ∧ wr.cell? ⟨g, i, none⟩ = some (.int .i64 l[i]!) := by
        rcases H.out with h | ⟨g, h1, h2, h3⟩
        · omega
        · exact ⟨g, h1, h2, h3 i hlt⟩
      have HP := Lib.hid (rfl : l[i]! = l[i]!)
      obtain ⟨p, hp⟩ : ∃ p, l[i]! = p := ⟨_, rfl⟩
      rw [hp] at hc
      replace HP := Lib.hid hp
      clear hp
      by_cases hx : p = x
      · subst hx
        have HM := Lib.hid (mem_yes (by rw [← HN.out]; exact hlt) HP.out)
        have hpp : (p == p) = true := beq_self_eq_true p
        go_wp2
        go_ret
        exact ⟨ret_b (by rw [HM.out]), rfl⟩
      · have hpp : (p == x) = false := beq_false_of_ne hx
        have HJ2 := Lib.hid (show ∀ j, j < i + 1 → l[j]! ≠ x from fun j hj => by
          by_cases hji : j = i
          · rw [hji, HP.out]; exact hx
          · exact HJ.out j (by omega))
        go_wp2
        go_roundw
        case rel => exact ⟨i + 1, by omega, by go_num, trivial, HJ2⟩
        case measure => simp [intOf]; omega
    · obtain rfl : i = n := by omega
      have HM := Lib.hid (mem_no (l := l) (x := x) (by rw [← HN.out]; exact HJ.out))
      go_wp2
      go_ret
      exact ⟨ret_b (by rw [HM.out]), rfl⟩
set_option maxRecDepth 100000 in
theorem index_any {w : World} {v : Value} {l : List Int} (x : Int) (h : IntsAt w v l) (hl : l.length ≤ 1000) :
    Calls Try.prog 61 #[v, .int .i64 x] w fun e w' => ∃ k : Int, e = .returned (.int .i64 k) ∧ (memB l x = true ∧ 0 ≤ k ∧ k ≤ 1000 ∨ memB l x = false ∧ k = -1) ∧ w = w' := by
  obtain ⟨A, c, rfl, h⟩ := h
  obtain ⟨n, hn⟩ : ∃ n, n = l.length := ⟨_, rfl⟩
  rw [← hn] at h hl ⊢
  have H := Lib.hid h
  have HN := Lib.hid hn
  clear h hn
  go_enter Try.func61, Try.ntmps61
  go_wp2
  go_loopw [8] (fun zi wr => ∃ i : Nat, i ≤ n ∧ zi = .int .i64 (i : Int) ∧ wr = w ∧ Hid (∀ j, j < i → l[j]! ≠ x)) (fun zi _ => n - (intOf zi).toNat)
  case atStart => exact ⟨0, by omega, rfl, rfl, Lib.hid fun j hj => absurd hj (by omega)⟩
  case round =>
    obtain ⟨i, hi, rfl, rfl, HJ⟩ := hrel
    by_cases hlt : i < n
    · obtain ⟨g, rfl, hg, hc⟩ : ∃ g, A = some ⟨g, 0, none⟩ ∧ g < wr.heap.size ∧ wr.cell? ⟨g, i, none⟩ = some (.int .i64 l[i]!) := by
        rcases H.out with h | ⟨g, h1, h2, h3⟩
        · omega
        · exact ⟨g, h1, h2, h3 i hlt⟩
      obtain ⟨p, hp⟩ : ∃ p, l[i]! = p := ⟨_, rfl⟩
      rw [hp] at hc
      have HP := Lib.hid hp
      clear hp
      by_cases hx : p = x
      · subst hx
        have HM := Lib.hid (mem_yes (by rw [← HN.out]; exact hlt) HP.out)
        have hpp : (p == p) = true := beq_self_eq_true p
        go_wp2
        go_ret
        exact ⟨(i : Int), rfl, .inl ⟨HM.out, by omega, by omega⟩, rfl⟩
      · have hpp : (x == p) = false := beq_false_of_ne (fun e => hx e.symm)
        have HJ2 := Lib.hid (show ∀ j, j < i + 1 → l[j]! ≠ x from fun j hj => by
          by_cases hji : j = i
          · rw [hji, HP.out]; exact hx
          · exact HJ.out j (by omega))
        go_wp2
        go_roundw
        case rel => exact ⟨i + 1, by omega, by go_num, trivial, HJ2⟩
        case measure => simp [intOf]; omega
    · obtain rfl : i = n := by omega
      have HM := Lib.hid (mem_no (l := l) (x := x) (by rw [← HN.out]; exact HJ.out))
      go_wp2
      go_ret
      exact ⟨-1, rfl, .inr ⟨HM.out, rfl⟩, rfl⟩
set_option maxRecDepth 100000 in
theorem contains_any {w : World} {v : Value} {l : List Int} (x : Int) (h : IntsAt w v l) (hl : l.length ≤ 1000) :
    Calls Try.prog 52 #[v, .int .i64 x] w fun e w' => e = .returned (.bool (memB l x)) ∧ w = w' := by
  have HI := Lib.hid (index_any x h hl)
  clear h
  go_enter Try.func52, Try.ntmps52
  go_wp2_with fail
  refine HI.out.mono ?_
  rintro e w1 ⟨k, rfl, ⟨hm, h1, h2⟩ | ⟨hm, rfl⟩, rfl⟩
  · have HM := Lib.hid hm
    clear hm
    go_wp2
    go_ret
    exact ⟨ret_b (by rw [HM.out]), rfl⟩
  · have HM := Lib.hid hm
    clear hm
    go_wp2
    go_ret
    exact ⟨ret_b (by rw [HM.out]), rfl⟩
end Go.Proofs.Ytjlacdnkncgpaaa
