/-
  Bytes as strings; Equal and HasPrefix of package bytes.
-/
import Derived.Test.YtpekegeohcnhcaaIaO
namespace Go.Proofs.Ytpekegeohcnhcaa
open Go.RowKit

/-- Bytes as a string's. -/
def strI (l : List Int) : ByteArray := ⟨(l.map fun x => UInt8.ofNat x.toNat).toArray⟩
def isBy (l : List Int) : Prop := ∀ x ∈ l, 0 ≤ x ∧ x < 256
theorem strI_inj {a b : List Int} (ha : isBy a) (hb : isBy b) (h : strI a = strI b) : a = b := by
  unfold strI at h
  injection h with h
  have h1 : a.map (fun x => UInt8.ofNat x.toNat) = b.map (fun x => UInt8.ofNat x.toNat) := by simpa using h
  have h2 := congrArg (List.map fun u : UInt8 => (u.toNat : Int)) h1
  rw [List.map_map, List.map_map] at h2
  have e : ∀ l : List Int, isBy l → l.map ((fun u : UInt8 => (u.toNat : Int)) ∘ fun x => UInt8.ofNat x.toNat) = l := by
    intro l hl
    conv => rhs; rw [← List.map_id l]
    apply List.map_congr_left
    intro x hx
    have := hl x hx
    simp
    omega
  rw [e a ha, e b hb] at h2
  exact h2
theorem Byt.isBy {w : World} {A : Option Addr} {n c : Nat} {l : List Int} (h : Byt w A n c l) : isBy l := by
  intro x hx
  obtain ⟨j, hj, rfl⟩ := List.mem_iff_getElem.1 hx
  have := h.2.2.2.1 j (by rw [h.1]; exact hj)
  simpa [hj] using this
theorem str_conv {w : World} {A : Option Addr} {n c : Nat} {l : List Int} (h : Byt w A n c l) : (convert 24 9 (.slice A n c)).run Try.prog w = .ok (.string (strI l)) w := by
  obtain ⟨h1, h2, h3, h0, h4⟩ := h
  by_cases hn : n = 0
  · subst hn
    obtain rfl : l = [] := List.eq_nil_of_length_eq_zero h1.symm
    rw [run_convert_bytes_string w 24 9 5 _ 0 c Try.underlying24 Try.underlying5 Try.underlying9]
    cases A <;> simp [Conv.bytesToString, loadCells]
    all_goals rfl
  · rcases h4 with h4 | ⟨b, off, rfl, h5, h6⟩
    · exact absurd h4 hn
    have := run_convert_bytes_back (P := Try.prog) w 24 9 5 ⟨b, off, none⟩ c (l.map fun x => UInt8.ofNat x.toNat) Try.underlying24 Try.underlying5 Try.underlying9 (fun j hjl => by
      have hjl2 : j < l.length := by simpa using hjl
      have g1 := h0 j (by omega)
      have g2 := h6 j (by omega)
      have e : (⟨b, off, none⟩ : Addr).add j = ⟨b, off + j, none⟩ := by
        unfold Addr.add
        split
        · rename_i h0
          simp
        · rfl
      rw [e, g2]
      have el : l[j]! = l[j] := by simp [hjl2]
      rw [el] at g1 ⊢
      simp
      omega)
    rw [List.length_map, ← h1] at this
    exact this
theorem byt_own {w : World} {base : Nat} {v : Value} {l : List Int} (h : w.ownsRow base 5 1 v l.length (byV l)) (hl : isBy l) : ∃ A c, v = .slice A l.length c ∧ Byt w A l.length c l := by
  have h0 := h
  have hj : ∀ j, j < l.length → 0 ≤ l[j]! ∧ l[j]! < 256 := fun j hj => by
    have := hl l[j] (List.getElem_mem hj)
    simpa [hj] using this
  rcases h.2 with ⟨rfl, h1⟩ | ⟨g, cap, cur, rfl, _, hh, h2, h3, _⟩
  · exact ⟨none, 0, by rw [h1], rfl, by omega, by omega, hj, .inl h1⟩
  · refine ⟨_, cap, rfl, rfl, h2, by unfold maxLen at h3; omega, hj, .inr ⟨g, 0, rfl, lt_of_block hh, fun j hjl => ?_⟩⟩
    have := h0.cells (g := g) rfl j (.int .u8 l[j]!) (by simp [byV, hjl])
    have e2 : (⟨g, 0, none⟩ : Addr).add j = ⟨g, 0 + j, none⟩ := by
      unfold Addr.add
      split
      · rename_i h0
        simp
      · simp
    rw [e2] at this
    exact this
theorem get_take {l : List Int} {k j : Nat} (h : j < k) : (l.take k)[j]! = l[j]! := by
  rw [List.getElem!_eq_getElem?_getD, List.getElem!_eq_getElem?_getD, List.getElem?_take, if_pos h]
theorem Byt.take {w : World} {A : Option Addr} {n c : Nat} {l : List Int} (h : Byt w A n c l) {k : Nat} (hk : k ≤ n) : Byt w A k c (l.take k) := by
  obtain ⟨h1, h2, h3, h0, h4⟩ := h
  refine ⟨by rw [List.length_take]; omega, by omega, h3, fun j hj => by rw [get_take hj]; exact h0 j (by omega), ?_⟩
  rcases h4 with h4 | ⟨b, off, h4, h5, h6⟩
  · exact .inl (by omega)
  · exact .inr ⟨b, off, h4, h5, fun j hj => by rw [get_take hj]; exact h6 j (by omega)⟩
theorem str_list {a b : List Int} : ((strI a).toList == (strI b).toList) = decide (strI a = strI b) := by
  rw [ByteArray.toList_eq, ByteArray.toList_eq]
  by_cases h : strI a = strI b
  · rw [h]; simp
  · rw [decide_eq_false h, beq_eq_false_iff_ne]
    intro e
    apply h
    cases ha : strI a
    cases hb : strI b
    rw [ha, hb] at e
    rw [ByteArray.mk.injEq]
    exact Array.toList_inj.1 e
set_option maxRecDepth 100000 in
set_option maxHeartbeats 2000000 in
theorem equal_at {w : World} {A A2 : Option Addr} {n c n2 c2 : Nat} {a b : List Int} (h : Byt w A n c a) (h2 : Byt w A2 n2 c2 b) (B : Bool) (hB : decide (a = b) = B) :
    Calls Try.prog 73 #[.slice A n c, .slice A2 n2 c2] w fun e w' => e = .returned (.bool B) ∧ w = w' := by
  have e1 := str_conv h
  have e2 := str_conv h2
  have hs : (strI a = strI b) ↔ a = b := ⟨strI_inj h.isBy h2.isBy, fun e => by rw [e]⟩
  have hB3 : ((strI a).toList == (strI b).toList) = B := by rw [str_list, ← hB, decide_eq_decide]; exact hs
  generalize strI a = sa at e1 hB3
  generalize strI b = sb at e2 hB3
  clear h h2 hs hB
  go_enter Try.func73, Try.ntmps73
  go_wp2
  go_ret
  exact ⟨ret_b rfl, rfl⟩
end Go.Proofs.Ytpekegeohcnhcaa
