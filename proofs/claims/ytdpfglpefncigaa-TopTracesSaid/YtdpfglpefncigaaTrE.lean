/-
  Tables in memory; Validate of package trace.
-/
import Derived.Test.YtdpfglpefncigaaTrD
import Derived.Lib.QuietBelow
namespace Go.Proofs.Ytdpfglpefncigaa
open Go.RowKit

/-- A table lies in memory. -/
def Lies (w : World) (b off : Nat) (zs : List Plc) : Prop := b < w.heap.size ∧ ∀ j, j < zs.length → ∀ i v, (encP zs[j]!)[i]? = some v → w.cell? ⟨b, off + j * 5 + i, none⟩ = some v
theorem Lies.below {w w' : World} {b off : Nat} {zs : List Plc} (h : Lies w b off zs) (hb : Below w.heap.size w w') : Lies w' b off zs :=
  ⟨Nat.lt_of_lt_of_le h.1 hb.size, fun j hj i v hv => (hb.cell (p := ⟨b, off + j * 5 + i, none⟩) h.1).trans (h.2 j hj i v hv)⟩
/-- The five cells of a place. -/
def At5 (w : World) (b o : Nat) (p : Plc) : Prop :=
  w.cell? ⟨b, o, none⟩ = some (.int .i64 p.a) ∧ w.cell? ⟨b, o + 1, none⟩ = some (.int .i64 p.z) ∧ w.cell? ⟨b, o + 2, none⟩ = some (.int .i64 p.v) ∧ w.cell? ⟨b, o + 3, none⟩ = some (.int .i64 p.k) ∧ w.cell? ⟨b, o + 4, none⟩ = some (.int .i64 p.n)
theorem Lies.at_ {w : World} {b off : Nat} {zs : List Plc} (h : Lies w b off zs) {j : Nat} (hj : j < zs.length) : At5 w b (off + j * 5) zs[j]! := by
  have h' := h.2 j hj
  generalize zs[j]! = p at *
  exact ⟨h' 0 _ rfl, h' 1 _ rfl, h' 2 _ rfl, h' 3 _ rfl, h' 4 _ rfl⟩
/-- Whether the place at a row is right, and comes behind the one before it. -/
def okAt (zs : List Plc) (j : Nat) : Bool := isPlB zs[j]! && (j == 0 || befB zs[j - 1]! zs[j]!)
theorem isPlace_at (p : Plc) (B : Bool) (w : World) (h : isPlB p = B) : Calls Try.prog 43 #[aggP p] w fun e w' => e = .returned (.bool B) ∧ Below w.heap.size w w' := by
  subst h
  exact isPlace_any p w
theorem compare_at (p q : Plc) (X : Int) (w : World) (h : cmpP p q = X) : Calls Try.prog 44 #[aggP p, aggP q] w fun e w' => e = .returned (.int .i64 X) ∧ Below w.heap.size w w' := by
  subst h
  exact compare_any p q w
theorem drewR {B : Nat} {a w : World} (h : Below B a w) : Below B a w.drew := ⟨h.os, h.tape, h.output, h.size, h.block⟩
theorem keep_cell {W W' : World} {B o : Nat} {v : Value} (hb : Below W.heap.size W W') (hB : B < W.heap.size) (h : W.cell? ⟨B, o, none⟩ = some v) : W'.cell? ⟨B, o, none⟩ = some v :=
  (hb.cell (p := ⟨B, o, none⟩) hB).trans h
theorem keep_below {W0 W W' : World} (hb : Below W.heap.size W W') (h : Below W0.heap.size W0 W) : Below W0.heap.size W0 W' := h.trans (hb.mono h.size)
end Go.Proofs.Ytdpfglpefncigaa
