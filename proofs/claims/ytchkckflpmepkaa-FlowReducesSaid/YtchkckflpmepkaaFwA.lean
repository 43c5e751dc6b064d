/-
  Slices of numbers, graphs and sets in memory.
-/
import Derived.Test.YtchkckflpmepkaaRows
import Derived.Test.YtchkckflpmepkaaFwM
import Derived.WalkKit
import Derived.IntWalk
import Derived.ProofKit
import Derived.Laws.Rows
import Derived.Laws.AppendOwn
import Derived.Laws.OwnMore
import Derived.WalkLawsBesides
import Derived.WalkSpells
import Derived.Outline
import Derived.OwnWalk
import Derived.OneCell
import Derived.Deep.QuietTactic
import Derived.BigQuiet
import Derived.StillTailTactics
import Derived.Below
import Derived.Lib.QuietBelow
import Derived.Laws.Tables
import Derived.Deep.Cut
import Derived.Great.BuildSlice
namespace Go.Proofs.Ytchkckflpmepkaa
open Go.RowKit

theorem ret_b {a b : Bool} (h : a = b) : Ending.returned (.bool a) = .returned (.bool b) := by rw [h]
theorem ret_i {k : IntKind} {a b : Int} (h : a = b) : Ending.returned (.int k a) = .returned (.int k b) := by rw [h]
theorem infoI : (Try.prog.info? 3).map (fun i => (i.zero, i.size, i.bytes)) = some (some (.int .i64 0), 1, 8) := by kernel_rfl
theorem infoB : (Try.prog.info? 4).map (fun i => (i.zero, i.size, i.bytes)) = some (some (.bool false), 1, 1) := by kernel_rfl
abbrev nV (l : List Nat) : List Value := l.map fun (x : Nat) => Value.int .i64 (x : Int)
theorem nV_len (l : List Nat) : (nV l).length = l.length := by simp
theorem nV_app (a b : List Nat) : nV (a ++ b) = nV a ++ nV b := by simp
/-- A slice of numbers. -/
def Nats (w : World) (A : Option Addr) (n c : Nat) (l : List Nat) : Prop := n = l.length ∧ n ≤ c ∧ c ≤ 9223372036854775807 ∧ (n = 0 ∨ ∃ b off, A = some ⟨b, off, none⟩ ∧ b < w.heap.size ∧ ∀ j, j < n → w.cell? ⟨b, off + j, none⟩ = some (.int .i64 ((l[j]! : Nat) : Int)))
theorem Nats.below {w w' : World} {A : Option Addr} {n c : Nat} {l : List Nat} (h : Nats w A n c l) (hb : Below w.heap.size w w') : Nats w' A n c l := by
  obtain ⟨h1, h2, h3, h4 | ⟨b, off, h4, h5, h6⟩⟩ := h
  · exact ⟨h1, h2, h3, .inl h4⟩
  · exact ⟨h1, h2, h3, .inr ⟨b, off, h4, Nat.lt_of_lt_of_le h5 hb.size, fun j hj => (hb.cell (p := ⟨b, off + j, none⟩) h5).trans (h6 j hj)⟩⟩
theorem Nats.at_ {w : World} {A : Option Addr} {n c : Nat} {l : List Nat} (h : Nats w A n c l) {j : Nat} (hj : j < n) : ∃ b off, A = some ⟨b, off, none⟩ ∧ b < w.heap.size ∧ w.cell? ⟨b, off + j, none⟩ = some (.int .i64 ((l[j]! : Nat) : Int)) := by
  obtain ⟨h1, h2, h3, h4 | ⟨b, off, h4, h5, h6⟩⟩ := h
  · omega
  · exact ⟨b, off, h4, h5, h6 j hj⟩
/-- A graph in memory. -/
def MG (w : World) (A : Option Addr) (n c : Nat) (G : List (List Nat)) : Prop := n = G.length ∧ n ≤ c ∧ c ≤ 9223372036854775807 ∧ (n = 0 ∨ ∃ b off, A = some ⟨b, off, none⟩ ∧ b < w.heap.size ∧ ∀ j, j < n → ∃ A' n' c', w.cell? ⟨b, off + j, none⟩ = some (.slice A' n' c') ∧ Nats w A' n' c' (suc G j))
theorem MG.below {w w' : World} {A : Option Addr} {n c : Nat} {G : List (List Nat)} (h : MG w A n c G) (hb : Below w.heap.size w w') : MG w' A n c G := by
  obtain ⟨h1, h2, h3, h4 | ⟨b, off, h4, h5, h6⟩⟩ := h
  · exact ⟨h1, h2, h3, .inl h4⟩
  · refine ⟨h1, h2, h3, .inr ⟨b, off, h4, Nat.lt_of_lt_of_le h5 hb.size, fun j hj => ?_⟩⟩
    obtain ⟨A', n', c', h7, h8⟩ := h6 j hj
    exact ⟨A', n', c', (hb.cell (p := ⟨b, off + j, none⟩) h5).trans h7, h8.below hb⟩
theorem MG.at_ {w : World} {A : Option Addr} {n c : Nat} {G : List (List Nat)} (h : MG w A n c G) {j : Nat} (hj : j < n) : ∃ b off A' n' c', A = some ⟨b, off, none⟩ ∧ b < w.heap.size ∧ w.cell? ⟨b, off + j, none⟩ = some (.slice A' n' c') ∧ Nats w A' n' c' (suc G j) := by
  obtain ⟨h1, h2, h3, h4 | ⟨b, off, h4, h5, h6⟩⟩ := h
  · omega
  · obtain ⟨A', n', c', h7, h8⟩ := h6 j hj
    exact ⟨b, off, A', n', c', h4, h5, h7, h8⟩
/-- A set as an array. -/
def setA (s : NS) : Array Value := Array.ofFn (n := 10) fun i => Value.bool (s i.val)
theorem setA_size (s : NS) : (setA s).size = 10 := by simp [setA]
theorem setA_at (s : NS) {j : Nat} (h : j < 10) : (setA s)[j]? = some (.bool (s j)) := by
  unfold setA
  rw [Array.getElem?_ofFn, dif_pos h]
theorem setA_ext {s t : NS} (h : ∀ j, j < 10 → s j = t j) : setA s = setA t := by
  unfold setA
  congr 1
  funext i
  rw [h i.val i.isLt]
theorem setA_put (s : NS) {v : Nat} (h : v < 10) : (setA s).setIfInBounds v (.bool true) = setA (put s v) := by
  apply Array.ext_getElem?
  intro j
  rw [Array.getElem?_setIfInBounds, setA_size]
  by_cases hj : v = j
  · subst hj
    rw [if_pos rfl, if_pos h, setA_at _ h, put_same]
  · rw [if_neg hj]
    by_cases h10 : j < 10
    · rw [setA_at _ h10, setA_at _ h10, put_ne (fun e => hj e.symm)]
    · rw [Array.getElem?_eq_none (by rw [setA_size]; omega), Array.getElem?_eq_none (by rw [setA_size]; omega)]
theorem setA_zero : (#[.bool false, .bool false, .bool false, .bool false, .bool false, .bool false, .bool false, .bool false, .bool false, .bool false] : Array Value) = setA non := by
  apply Array.ext_getElem?
  intro j
  have e : (#[.bool false, .bool false, .bool false, .bool false, .bool false, .bool false, .bool false, .bool false, .bool false, .bool false] : Array Value) = Array.replicate 10 (Value.bool false) := by kernel_rfl
  rw [e]
  by_cases h10 : j < 10
  · rw [setA_at _ h10]
    simp [h10, non]
  · rw [Array.getElem?_eq_none (by simp; omega), Array.getElem?_eq_none (by rw [setA_size]; omega)]
theorem setA_one (s : NS) : (setA s).all (·.oneCell') = true := by
  rw [Array.all_eq_true]
  intro i hi
  have := setA_at s (j := i) (by rw [setA_size] at hi; exact hi)
  rw [Array.getElem?_eq_getElem hi] at this
  injection this with this
  rw [this]
  rfl
theorem setA_info (s : NS) : (Try.prog.info? 52).map (·.size) = some (setA s).size := by
  rw [setA_size]
  kernel_rfl
theorem setA_idx (s : NS) {j : Nat} (h : j < 10) (W : World) : (Instr.index 52 (.agg (setA s)) (.int .i64 (j : Int))).run Try.prog W = .ok (.bool (s j)) W := by
  have h1 : ((j : Int)).toNat = j := rfl
  have h2 : 0 ≤ (j : Int) ∧ (j : Int) < 10 := by omega
  have ha := setA_at s h
  unfold Instr.index
  simp [run_underlying Try.underlying52, asIntOf, h, ha, go_sem]
/-- A set in memory. -/
def SetB (w : World) (B : Nat) (s : NS) : Prop := w.heap[B]? = some (.cells (setA s) 52 (0, 0))
theorem SetB.cell {w : World} {B : Nat} {s : NS} (h : SetB w B s) {j : Nat} (hj : j < 10) : w.cell? ⟨B, j, none⟩ = some (.bool (s j)) ∧ w.frozen? ⟨B, j, none⟩ = false := by
  unfold SetB at h
  refine ⟨?_, by simp [World.frozen?, h]⟩
  simp only [World.cell?, h]
  exact setA_at s hj
theorem SetB.put {w : World} {B : Nat} {s : NS} (h : SetB w B s) {v : Nat} (hv : v < 10) : SetB (w.setCell ⟨B, v, none⟩ (.bool true)) B (put s v) := by
  unfold SetB at h ⊢
  rw [heap_setCell_same w B v _ _ _ h, setA_put _ hv]
theorem SetB.block {w w' : World} {B : Nat} {s : NS} (h : SetB w B s) (hb : w'.heap[B]? = w.heap[B]?) : SetB w' B s := hb.trans h
theorem SetB.below {w w' : World} {B : Nat} {s : NS} (h : SetB w B s) (hb : Below w.heap.size w w') : SetB w' B s := h.block (hb.block _ (lt_of_block h))
theorem SetB.new (w : World) (s : NS) : SetB (w.alloc (.cells (setA s) 52)) w.heap.size s := heap_alloc_new w _
theorem SetB.zero (w : World) : SetB (w.alloc (.cells #[.bool false, .bool false, .bool false, .bool false, .bool false, .bool false, .bool false, .bool false, .bool false, .bool false] 52)) w.heap.size non := by
  rw [setA_zero]
  exact heap_alloc_new w _
theorem own_ne {w : World} {base e size k B : Nat} {v : Value} {us : Array Value} {t : TypeId} {fr : Nat × Nat} {xs : List Value} (h : w.ownsRow base e size v k xs) (hB : w.heap[B]? = some (.cells us t fr)) (hne : e ≠ t) : v.ownBlock ≠ some B := by
  rcases h.2 with ⟨rfl, _⟩ | ⟨g', cap, cur, rfl, _, hh, _⟩
  · simp [Value.ownBlock]
  · intro he
    have : g' = B := by simpa [Value.ownBlock] using he
    subst this
    rw [hB] at hh
    injection hh with hh
    injection hh with _ ht
    exact hne ht.symm
theorem grown_block {w w' : World} {row : Option Nat} {B : Nat} {o : Obj} (h : w.grownBy w' row) (hB : w.heap[B]? = some o) (hne : row ≠ some B) : w'.heap[B]? = some o := (h.block B (lt_of_block hB) (fun e => hne e.symm)).trans hB
theorem own_base {w : World} {base e size k : Nat} {v : Value} {xs : List Value} (h : w.ownsRow base e size v k xs) : ∀ g, v.ownBlock = some g → base ≤ g := by
  intro g hg
  rcases h.2 with ⟨rfl, _⟩ | ⟨g', cap, cur, rfl, hb, _⟩
  · simp [Value.ownBlock] at hg
  · have : g' = g := by simpa [Value.ownBlock] using hg
    omega
theorem own_below {w w' : World} {base e size k : Nat} {v : Value} {xs : List Value} (h : w.ownsRow base e size v k xs) (hb : Below w.heap.size w w') : w'.ownsRow base e size v k xs := by
  refine ⟨h.1, ?_⟩
  rcases h.2 with h2 | ⟨g, cap, cur, h1, h2, h3, h4⟩
  · exact .inl h2
  · exact .inr ⟨g, cap, cur, h1, h2, (hb.block _ (lt_of_block h3)).trans h3, h4⟩
theorem add_lit0 (g j : Nat) : (⟨g, 0, none⟩ : Addr).add j = ⟨g, j, none⟩ := by
  unfold Addr.add
  split
  · rename_i h0
    simp
  · simp
theorem own_cell {w : World} {base e size g cap n i : Nat} {xs : List Value} {x : Value} (h : w.ownsRow base e size (.slice (some ⟨g, 0, none⟩) n cap) n xs) (hx : xs[i]? = some x) :
    w.cell? ⟨g, i, none⟩ = some x ∧ w.frozen? ⟨g, i, none⟩ = false := by
  have hc := h.cells (g := g) rfl i x hx
  rw [add_lit0] at hc
  refine ⟨hc, ?_⟩
  rcases h.2 with ⟨h2, _⟩ | ⟨g', cap', cur, h2, h3, h4, _⟩
  · cases h2
  · injection h2 with h2 _ _
    injection h2 with h2
    injection h2 with h2 _
    subst h2
    simp [World.frozen?, h4]
theorem one_new (w : World) (v : Value) (t : TypeId) : ∀ j u, [v][j]? = some u → (w.alloc (.cells #[v] t)).cell? ((⟨w.heap.size, 0, none⟩ : Addr).add j) = some u := by
  intro j u hj
  match j, hj with
  | 0, hj =>
    simp at hj
    subst hj
    exact cell_of_one (heap_alloc_new w _)
  | j + 1, hj => simp at hj
/-- A row of numbers of the call's own is a slice of numbers. -/
theorem own_nats {w : World} {base n : Nat} {v : Value} {l : List Nat} (h : w.ownsRow base 3 1 v n (nV l)) : ∃ A c, v = .slice A n c ∧ Nats w A n c l := by
  have hl : n = l.length := by have := h.1; rw [nV_len] at this; omega
  have h0 := h
  rcases h.2 with ⟨rfl, h1⟩ | ⟨g, cap, cur, rfl, _, hh, h2, h3, _⟩
  · subst h1
    exact ⟨none, 0, rfl, hl, Nat.le_refl _, by omega, .inl rfl⟩
  · refine ⟨_, cap, rfl, hl, h2, by unfold maxLen at h3; omega, .inr ⟨g, 0, rfl, lt_of_block hh, fun j hj => ?_⟩⟩
    rw [Nat.zero_add]
    exact (own_cell h0 (x := .int .i64 ((l[j]! : Nat) : Int)) (by simp [nV, show j < l.length by omega])).1
end Go.Proofs.Ytchkckflpmepkaa
