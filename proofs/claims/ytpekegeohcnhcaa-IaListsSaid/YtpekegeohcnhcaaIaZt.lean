/-
  Small facts on bytes.
-/
import Derived.Test.YtpekegeohcnhcaaIaQ
import Derived.Test.YtpekegeohcnhcaaIaC
namespace Go.Proofs.Ytpekegeohcnhcaa
open Go.RowKit

theorem isBy_append {a b : List Int} (ha : isBy a) (hb : isBy b) : isBy (a ++ b) := fun x hx => by
  rcases List.mem_append.1 hx with h | h
  · exact ha x h
  · exact hb x h
theorem byt_take {w : World} {A : Option Addr} {n c k : Nat} {l : List Int} (h : Byt w A n c l) (hk : k ≤ n) : Byt w A k c (l.take k) := by
  obtain ⟨h1, h2, h3, h0, h4⟩ := h
  have e : ∀ j, j < k → (l.take k)[j]! = l[j]! := fun j hj => by
    simp [List.getElem!_eq_getElem?_getD, hj]
  refine ⟨by rw [List.length_take]; omega, by omega, h3, fun j hj => ?_, ?_⟩
  · rw [e j hj]; exact h0 j (by omega)
  · rcases h4 with h4 | ⟨b, off, hA, hb, hc⟩
    · exact .inl (by omega)
    · exact .inr ⟨b, off, hA, hb, fun j hj => by rw [e j hj]; exact hc j (by omega)⟩
theorem byt_news {w : World} {A : Option Addr} {n c : Nat} {l : List Int} (h : Byt w A n c l) (hn : 0 < n) : ∃ ad, A = some ad ∧ ∀ j u, (byV l)[j]? = some u → w.cell? (ad.add j) = some u := by
  obtain ⟨h1, h2, h3, h0, h4 | ⟨b, off, hA, hb, hc⟩⟩ := h
  · omega
  · refine ⟨_, hA, fun j u hu => ?_⟩
    have hj : j < l.length := by
      have := (List.getElem?_eq_some_iff.1 hu).1
      simpa [byV] using this
    rw [Addr.add_lit, hc j (by omega)]
    simp only [byV, List.getElem?_map, List.getElem?_eq_getElem hj, Option.map_some, Option.some.injEq] at hu
    rw [← hu]
    simp [hj]
theorem empty_own (w : World) (base : Nat) (hb : base ≤ w.heap.size) : (w.alloc (.cells #[] 5)).ownsRow base 5 1 (.slice (some ⟨w.heap.size, 0, none⟩) 0 0) 0 (byV []) :=
  own_lit (l := []) hb (heap_alloc_new w _) (by simp)
theorem append_empty_own {w : World} {base : Nat} {v : Value} {n : Nat} {xs : List Value} (h : w.ownsRow base 5 1 v (0 + n) (byV [] ++ xs)) : w.ownsRow base 5 1 v n xs := by
  rw [Nat.zero_add] at h
  exact h
end Go.Proofs.Ytpekegeohcnhcaa
