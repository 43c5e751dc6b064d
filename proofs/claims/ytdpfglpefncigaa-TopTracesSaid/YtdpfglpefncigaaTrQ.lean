/-
  A block of five cells as one word: what it holds, and that it may be written.
-/
import Derived.Test.YtdpfglpefncigaaTrT
namespace Go.Proofs.Ytdpfglpefncigaa
open Go.RowKit

/-- A block that holds a place and may be written. -/
def Box (W : World) (B : Nat) (p : Plc) : Prop := B < W.heap.size ∧
  (W.cell? ⟨B, 0, none⟩ = some (.int .i64 p.a) ∧ W.cell? ⟨B, 1, none⟩ = some (.int .i64 p.z) ∧ W.cell? ⟨B, 2, none⟩ = some (.int .i64 p.v) ∧ W.cell? ⟨B, 3, none⟩ = some (.int .i64 p.k) ∧ W.cell? ⟨B, 4, none⟩ = some (.int .i64 p.n)) ∧
  (W.frozen? ⟨B, 0, none⟩ = false ∧ W.frozen? ⟨B, 1, none⟩ = false ∧ W.frozen? ⟨B, 2, none⟩ = false ∧ W.frozen? ⟨B, 3, none⟩ = false ∧ W.frozen? ⟨B, 4, none⟩ = false)
theorem box_new (w : World) (p : Plc) (T : Nat) : Box (w.alloc (.cells #[.int .i64 p.a, .int .i64 p.z, .int .i64 p.v, .int .i64 p.k, .int .i64 p.n] T)) w.heap.size p := by
  refine ⟨by simp, ?_, new_free _ _ _ _, new_free _ _ _ _, new_free _ _ _ _, new_free _ _ _ _, new_free _ _ _ _⟩
  have h := heap_alloc_new w (.cells #[.int .i64 p.a, .int .i64 p.z, .int .i64 p.v, .int .i64 p.k, .int .i64 p.n] T)
  generalize World.alloc w _ = W at h ⊢
  refine ⟨?_, ?_, ?_, ?_, ?_⟩ <;> simp [World.cell?, h]
theorem Box.below {W W' : World} {B : Nat} {p : Plc} (h : Box W B p) (hb : Below W.heap.size W W') : Box W' B p := by
  obtain ⟨hB, ⟨h0, h1, h2, h3, h4⟩, f0, f1, f2, f3, f4⟩ := h
  exact ⟨Nat.lt_of_lt_of_le hB hb.size, ⟨keep_cell hb hB h0, keep_cell hb hB h1, keep_cell hb hB h2, keep_cell hb hB h3, keep_cell hb hB h4⟩,
    (hb.frozen (p := ⟨B, 0, none⟩) hB).trans f0, (hb.frozen (p := ⟨B, 1, none⟩) hB).trans f1, (hb.frozen (p := ⟨B, 2, none⟩) hB).trans f2, (hb.frozen (p := ⟨B, 3, none⟩) hB).trans f3, (hb.frozen (p := ⟨B, 4, none⟩) hB).trans f4⟩
theorem frozen_setCell_same (W : World) (a : Addr) (v : Value) (b : Addr) : (W.setCell a v).frozen? b = W.frozen? b := by
  simp [go_sem]
theorem Box.put {W : World} {B : Nat} {q : Plc} (h : Box W B q) (p : Plc) : Box (put5 W B p) B p := by
  obtain ⟨hB, ⟨h0, h1, h2, h3, h4⟩, f0, f1, f2, f3, f4⟩ := h
  refine ⟨by rw [put5_size]; exact hB, put5_at p h0 h1 h2 h3 h4, ?_, ?_, ?_, ?_, ?_⟩
  all_goals
    unfold put5
    simp only [frozen_setCell_same]
    assumption
theorem Box.drew {W : World} {B : Nat} {p : Plc} (h : Box W B p) : Box W.drew B p := h
theorem Box.same {W W' : World} {B : Nat} {p : Plc} (h : Box W B p) (hh : W'.heap[B]? = W.heap[B]?) (hs : W'.heap.size = W.heap.size) : Box W' B p := by
  obtain ⟨hB, ⟨h0, h1, h2, h3, h4⟩, f0, f1, f2, f3, f4⟩ := h
  have hc : ∀ o, W'.cell? ⟨B, o, none⟩ = W.cell? ⟨B, o, none⟩ := fun o => World.cell?_of_block hh
  have hf : ∀ o, W'.frozen? ⟨B, o, none⟩ = W.frozen? ⟨B, o, none⟩ := fun o => World.frozen?_of_block hh
  exact ⟨by omega, ⟨(hc 0).trans h0, (hc 1).trans h1, (hc 2).trans h2, (hc 3).trans h3, (hc 4).trans h4⟩, (hf 0).trans f0, (hf 1).trans f1, (hf 2).trans f2, (hf 3).trans f3, (hf 4).trans f4⟩
/-- A write into one block leaves another as it was. -/
theorem Box.put_other {W : World} {B C : Nat} {p : Plc} (h : Box W B p) (hne : B ≠ C) (q : Plc) : Box (put5 W C q) B p := by
  refine h.same ?_ (put5_size _ _ _)
  unfold put5
  rw [Below.heap_setCell _ _ _ _ hne, Below.heap_setCell _ _ _ _ hne, Below.heap_setCell _ _ _ _ hne, Below.heap_setCell _ _ _ _ hne, Below.heap_setCell _ _ _ _ hne]
end Go.Proofs.Ytdpfglpefncigaa
