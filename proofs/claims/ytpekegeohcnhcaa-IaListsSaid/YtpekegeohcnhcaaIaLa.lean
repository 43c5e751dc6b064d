/-
  Lists of instructions in memory; one that came in as an argument; own rows of instructions.
-/
import Derived.Test.YtpekegeohcnhcaaIaP
import Derived.Test.YtpekegeohcnhcaaIaS
import Derived.Test.YtpekegeohcnhcaaIaZt
import Derived.Test.YtpekegeohcnhcaaIaGe
import Derived.Laws.AppendOwnNone
import Derived.ChangeKeysEq
namespace Go.Proofs.Ytpekegeohcnhcaa
open Go.ChangeShapes Go.WideShapes Go.ChangeAt Go.WideMaps Go.WideElems Go.RowKit Go.Deep

/-- The cells of an instruction. -/
def insV (x : Ins) : List Value := [.int .i64 x.op, .int .i64 x.d, .int .i64 x.s, .int .i64 x.sz, .int .i64 x.imm]
/-- A stretch of instructions in memory. -/
def LiesI (w : World) (b off : Nat) (zs : List Ins) : Prop := b < w.heap.size ∧ ∀ j, j < zs.length → ∀ i v, (insV zs[j]!)[i]? = some v → w.cell? ⟨b, off + j * 5 + i, none⟩ = some v
theorem LiesI.below {w w' : World} {b off : Nat} {zs : List Ins} (h : LiesI w b off zs) (hb : Below w.heap.size w w') : LiesI w' b off zs :=
  ⟨Nat.lt_of_lt_of_le h.1 hb.size, fun j hj i v hv => (hb.cell (p := ⟨b, off + j * 5 + i, none⟩) h.1).trans (h.2 j hj i v hv)⟩
/-- The five cells of an instruction. -/
def At5 (w : World) (b o : Nat) (x : Ins) : Prop :=
  w.cell? ⟨b, o, none⟩ = some (.int .i64 x.op) ∧ w.cell? ⟨b, o + 1, none⟩ = some (.int .i64 x.d) ∧ w.cell? ⟨b, o + 2, none⟩ = some (.int .i64 x.s) ∧ w.cell? ⟨b, o + 3, none⟩ = some (.int .i64 x.sz) ∧ w.cell? ⟨b, o + 4, none⟩ = some (.int .i64 x.imm)
theorem LiesI.at_ {w : World} {b off : Nat} {zs : List Ins} (h : LiesI w b off zs) {j : Nat} (hj : j < zs.length) : At5 w b (off + j * 5) zs[j]! := by
  have h' := h.2 j hj
  generalize zs[j]! = x at *
  exact ⟨h' 0 _ rfl, h' 1 _ rfl, h' 2 _ rfl, h' 3 _ rfl, h' 4 _ rfl⟩
/-- Numbers that a field may hold. -/
def immIn (x : Ins) : Prop := -9223372036854775808 ≤ x.imm ∧ x.imm ≤ 9223372036854775807
/-- A slice of instructions: the places before its length lie in memory. -/
def TabI (w : World) (A : Option Addr) (n c : Nat) (zs : List Ins) : Prop := n = zs.length ∧ n ≤ c ∧ c ≤ 9223372036854775807 ∧ (n = 0 ∨ ∃ b off, A = some ⟨b, off, none⟩ ∧ LiesI w b off zs)
theorem TabI.below {w w' : World} {A : Option Addr} {n c : Nat} {zs : List Ins} (h : TabI w A n c zs) (hb : Below w.heap.size w w') : TabI w' A n c zs := by
  obtain ⟨h1, h2, h3, h4 | ⟨b, off, h4, h5⟩⟩ := h
  · exact ⟨h1, h2, h3, .inl h4⟩
  · exact ⟨h1, h2, h3, .inr ⟨b, off, h4, h5.below hb⟩⟩
theorem TabI.at_ {w : World} {A : Option Addr} {n c : Nat} {zs : List Ins} (h : TabI w A n c zs) {j : Nat} (hj : j < n) : ∃ b off, A = some ⟨b, off, none⟩ ∧ b < w.heap.size ∧ At5 w b (off + j * 5) zs[j]! := by
  obtain ⟨h1, h2, h3, h4 | ⟨b, off, h4, h5⟩⟩ := h
  · omega
  · exact ⟨b, off, h4, h5.1, h5.at_ (by omega)⟩
/-- The number in a cell. -/
def cellI (w : World) (b o : Nat) : Int := match w.cell? ⟨b, o, none⟩ with
  | some v => intOf v
  | none => 0
def insAt (w : World) (b o : Nat) : Ins := ⟨cellI w b o, cellI w b (o + 1), cellI w b (o + 2), cellI w b (o + 3), cellI w b (o + 4)⟩
theorem cellI_of {w : World} {b o : Nat} {k : Int} {q : IntKind} (h : w.cell? ⟨b, o, none⟩ = some (.int q k)) : cellI w b o = k := by
  unfold cellI
  rw [h]
  rfl
section
variable {H : Type} {enc : TypeId × Value → H} {W : World} {base b0 : Nat} {held : Bool}
set_option maxRecDepth 100000 in
/-- The cells of an instruction that reads as data are five numbers. -/
theorem ins_cells {sp : Nat → Bool} {fuel : Nat} {cs : List Value} {x : DataW H × List MemPlace} (h : DataW.trod enc Try.prog W base sp held fuel 23 cs = some x) :
    ∃ a z v k n : Int, cs = [.int .i64 a, .int .i64 z, .int .i64 v, .int .i64 k, .int .i64 n] ∧ (Lit.int .i64 n).wf = true := by
  obtain ⟨xs, n, _, hx, hcl, hlen, hg⟩ := DataW.trod_struct Try.underlying23 h
  rw [show Try.prog.cellsOf 23 = 5 by kernel_rfl] at hcl
  have c1 : Try.prog.cellsOf 3 = 1 := by kernel_rfl
  have g0 := hg 0 _ rfl
  have g1 := hg 1 _ rfl
  have g2 := hg 2 _ rfl
  have g3 := hg 3 _ rfl
  have g4 := hg 4 _ rfl
  match cs, hcl, xs, hlen, g0, g1, g2, g3, g4 with
  | [v0, v1, v2, v3, v4], _, [y0, y1, y2, y3, y4], _, g0, g1, g2, g3, g4 =>
    simp [c1] at g0 g1 g2 g3 g4
    obtain ⟨a, e0, -, -⟩ := DataW.trod_int Try.underlying3 g0
    obtain ⟨b, e1, -, -⟩ := DataW.trod_int Try.underlying3 g1
    obtain ⟨x, e2, -, -⟩ := DataW.trod_int Try.underlying3 g2
    obtain ⟨y, e3, -, -⟩ := DataW.trod_int Try.underlying3 g3
    obtain ⟨z, e4, -, w4⟩ := DataW.trod_int Try.underlying3 g4
    simp at e0 e1 e2 e3 e4
    subst e0 e1 e2 e3 e4
    exact ⟨a, b, x, y, z, rfl, w4⟩
set_option maxRecDepth 100000 in
theorem open_tabI {v : Value} {d : DataW H} {p : List MemPlace} (hv : Value.okWide Try.prog W .any b0 36 v) (h : DataW.Trod enc Try.prog W base (fun _ => true) held 36 v d p) :
    ∃ A n c zs, v = .slice A n c ∧ TabI W A n c zs ∧ ∀ j, j < n → immIn zs[j]! := by
  obtain ⟨A, n, c, rfl⟩ := okWide_slice Try.underlying36 hv
  obtain ⟨fuel, hf⟩ := h
  rcases open_slice Try.underlying36 hf with ⟨hcs, -⟩ | ⟨a, len, cap, m, n', D, Pl, hcs, -, hl, hm, hmm, -, hi⟩
  · simp [Value.cells] at hcs
    obtain ⟨rfl, rfl, rfl⟩ := hcs
    exact ⟨_, _, _, [], rfl, ⟨rfl, Nat.le_refl _, by omega, .inl rfl⟩, fun j hj => by omega⟩
  · simp [Value.cells] at hcs
    obtain ⟨rfl, rfl, rfl⟩ := hcs
    simp only [if_true] at hmm
    subst hmm
    unfold maxLen at hm
    rw [show Try.prog.cellsOf 23 = 5 by kernel_rfl] at hi
    obtain ⟨b, off, s⟩ := a
    have hall : ∀ i, i < n → ∃ a z v k q : Int, (∀ j, j < 5 → W.cell? ((⟨b, off, s⟩ : Addr).add (i * 5 + j)) = [Value.int .i64 a, .int .i64 z, .int .i64 v, .int .i64 k, .int .i64 q][j]?) ∧ (Lit.int .i64 q).wf = true := by
      intro i hin
      obtain ⟨cs', hc, ht⟩ := hi i (by omega)
      obtain ⟨_, _, hat⟩ := World.cells?_some hc
      obtain ⟨a, z, v, k, q, rfl, hw⟩ := ins_cells ht
      refine ⟨a, z, v, k, q, fun j hj => ?_, hw⟩
      rw [← add_add]
      exact hat j hj
    by_cases hn : n = 0
    · subst hn
      exact ⟨_, _, _, [], rfl, ⟨rfl, hl, by omega, .inl rfl⟩, fun j hj => by omega⟩
    · have hsp : s = none := by
        obtain ⟨a, z, v, k, q, h, -⟩ := hall 0 (by omega)
        have h0 := h 0 (by omega)
        cases s with
        | none => rfl
        | some s0 =>
          simp [Addr.add, World.cell?] at h0
          split at h0 <;> simp at h0
      subst hsp
      have hadd : ∀ k, (⟨b, off, none⟩ : Addr).add k = ⟨b, off + k, none⟩ := fun k => by
        unfold Addr.add
        by_cases hk : k = 0
        · rw [if_pos hk, hk]
          rfl
        · rw [if_neg hk]
      have key : ∀ j, j < n → ∃ a z v' k q : Int, ((List.range n).map fun i => insAt W b (off + i * 5))[j]! = ⟨a, z, v', k, q⟩ ∧ (Lit.int .i64 q).wf = true ∧ At5 W b (off + j * 5) ⟨a, z, v', k, q⟩ := by
        intro j hj
        obtain ⟨a, z, v', k, q, h, hw⟩ := hall j hj
        have h0 := h 0 (by omega)
        have h1 := h 1 (by omega)
        have h2 := h 2 (by omega)
        have h3 := h 3 (by omega)
        have h4 := h 4 (by omega)
        rw [hadd] at h0 h1 h2 h3 h4
        simp only [← Nat.add_assoc, Nat.add_zero] at h0 h1 h2 h3 h4
        refine ⟨a, z, v', k, q, ?_, hw, h0, h1, h2, h3, h4⟩
        have : ((List.range n).map fun i => insAt W b (off + i * 5))[j]! = insAt W b (off + j * 5) := by simp [hj]
        rw [this]
        unfold insAt
        rw [cellI_of h0, cellI_of h1, cellI_of h2, cellI_of h3, cellI_of h4]
      refine ⟨_, _, _, (List.range n).map fun i => insAt W b (off + i * 5), rfl, ⟨by simp, hl, by omega, .inr ⟨b, off, rfl, ?_, ?_⟩⟩, ?_⟩
      · obtain ⟨a, z, v, k, q, h, -⟩ := hall 0 (by omega)
        have h0 := h 0 (by omega)
        rw [hadd] at h0
        apply Classical.byContradiction
        intro hb
        have : W.heap[b]? = none := Array.getElem?_eq_none (by omega)
        simp [World.cell?, this] at h0
      · intro j hj i v hv
        rw [List.length_map, List.length_range] at hj
        obtain ⟨a, z, v', k, q, e, -, h0, h1, h2, h3, h4⟩ := key j hj
        rw [e] at hv
        match i, hv with
        | 0, hv => rw [← hv]; exact h0
        | 1, hv => rw [← hv]; exact h1
        | 2, hv => rw [← hv]; exact h2
        | 3, hv => rw [← hv]; exact h3
        | 4, hv => rw [← hv]; exact h4
      · intro j hj
        obtain ⟨a, z, v', k, q, e, hw, -⟩ := key j hj
        rw [e]
        exact wf_int hw
end
def inssV (ps : List Ins) : List Value := ps.flatMap insV
theorem inssV_append (a b : List Ins) : inssV (a ++ b) = inssV a ++ inssV b := by simp [inssV]
theorem inssV_at : ∀ (ps : List Ins) (j i : Nat) (v : Value), j < ps.length → (insV ps[j]!)[i]? = some v → (inssV ps)[j * 5 + i]? = some v
  | [], j, _, _, h, _ => absurd h (by simp)
  | p :: ps, 0, i, v, _, h => by
    have hi : i < (insV p).length := (List.getElem?_eq_some_iff.1 h).1
    show (insV p ++ inssV ps)[0 * 5 + i]? = some v
    rw [List.getElem?_append_left (by omega), Nat.zero_mul, Nat.zero_add]
    exact h
  | p :: ps, j + 1, i, v, hj, h => by
    show (insV p ++ inssV ps)[(j + 1) * 5 + i]? = some v
    have hl : (insV p).length = 5 := rfl
    rw [List.getElem?_append_right (by omega), hl, show (j + 1) * 5 + i - 5 = j * 5 + i by omega]
    exact inssV_at ps j i v (by simpa using hj) (by simpa using h)
theorem liesI_own {w : World} {base g cap : Nat} {ps : List Ins} (h : w.ownsRow base 23 5 (.slice (some ⟨g, 0, none⟩) ps.length cap) ps.length (inssV ps)) : LiesI w g 0 ps := by
  refine ⟨(h.lt g rfl).2, fun j hj i v hv => ?_⟩
  have := h.cells (g := g) rfl (j * 5 + i) v (inssV_at ps j i v hj hv)
  have e : (⟨g, 0, none⟩ : Addr).add (j * 5 + i) = ⟨g, 0 + j * 5 + i, none⟩ := by
    unfold Addr.add
    split
    · rename_i h0
      simp at h0
      simp
    · simp
  rw [← e]
  exact this
/-- A row of the call's own is a list. -/
theorem tabI_own {w : World} {base : Nat} {v : Value} {ps : List Ins} (h : w.ownsRow base 23 5 v ps.length (inssV ps)) : ∃ A c, v = .slice A ps.length c ∧ TabI w A ps.length c ps := by
  have h0 := h
  rcases h.2 with ⟨rfl, h1⟩ | ⟨g, cap, cur, rfl, _, _, h2, h3, _⟩
  · have hp : ps = [] := List.eq_nil_of_length_eq_zero h1
    subst hp
    exact ⟨none, 0, rfl, rfl, Nat.le_refl _, by omega, .inl rfl⟩
  · exact ⟨_, cap, rfl, rfl, h2, by unfold maxLen at h3; omega, .inr ⟨g, 0, rfl, liesI_own h0⟩⟩
theorem infoIns : (Try.prog.info? 23).map (fun i => (i.zero, i.size, i.bytes)) = some (some (.agg #[.int .i64 0, .int .i64 0, .int .i64 0, .int .i64 0, .int .i64 0]), 5, 40) := by kernel_rfl
theorem news5 {W : World} {B : Nat} {a b c d e : Value} {t : TypeId} {fr : Nat × Nat} (h : W.heap[B]? = some (.cells #[a, b, c, d, e] t fr)) : ∀ j u, [a, b, c, d, e][j]? = some u → W.cell? ((⟨B, 0, none⟩ : Addr).add j) = some u := by
  obtain ⟨h0, h1, h2, h3, h4⟩ := cells5 h
  intro j u hj
  match j, hj with
  | 0, hj => simp at hj; subst hj; exact h0
  | 1, hj => simp at hj; subst hj; exact h1
  | 2, hj => simp at hj; subst hj; exact h2
  | 3, hj => simp at hj; subst hj; exact h3
  | 4, hj => simp at hj; subst hj; exact h4
  | n + 5, hj => simp at hj
/-! The mathematics of lists. -/
def bytesL (xs : List Ins) : List Int := xs.flatMap encF
def allV (xs : List Ins) : Bool := xs.all valB
/-- What bytes begin with, instruction by instruction; k: the most. -/
def listL : Nat → List Int → List Ins
  | 0, _ => []
  | k + 1, l => match decF l with
    | some x => x :: listL k (l.drop (encF x).length)
    | none => []
theorem bytesL_append (a b : List Ins) : bytesL (a ++ b) = bytesL a ++ bytesL b := by simp [bytesL]
theorem listL_valid : ∀ (k : Nat) (l : List Int), allV (listL k l) = true
  | 0, _ => rfl
  | k + 1, l => by
    unfold listL
    cases h : decF l with
    | none => rfl
    | some x =>
      have ih := listL_valid k (l.drop (encF x).length)
      show (valB x && allV (listL k (l.drop (encF x).length))) = true
      rw [(dec_some h).1, ih]
      rfl
theorem listL_pre : ∀ (k : Nat) (l : List Int), ∃ t, bytesL (listL k l) ++ t = l
  | 0, l => ⟨l, rfl⟩
  | k + 1, l => by
    unfold listL
    cases h : decF l with
    | none => exact ⟨l, rfl⟩
    | some x =>
      obtain ⟨-, t, ht⟩ := dec_some h
      have e : l.drop (encF x).length = t := by rw [← ht]; simp
      obtain ⟨t2, ht2⟩ := listL_pre k (l.drop (encF x).length)
      refine ⟨t2, ?_⟩
      show (encF x ++ bytesL (listL k (l.drop (encF x).length))) ++ t2 = l
      rw [List.append_assoc, ht2, e]
      exact ht
theorem listL_enc : ∀ (xs : List Ins) (k : Nat), allV xs = true → (bytesL xs).length ≤ k → listL k (bytesL xs) = xs
  | [], 0, _, _ => rfl
  | [], k + 1, _, _ => by
    unfold listL
    have : decF (bytesL []) = none := by decide
    rw [this]
  | x :: xs, 0, _, hk => by
    have := enc_pos x
    have : (bytesL (x :: xs)).length = (encF x).length + (bytesL xs).length := by simp [bytesL]
    omega
  | x :: xs, k + 1, hv, hk => by
    have hv' : valB x = true ∧ allV xs = true := by
      have : (valB x && allV xs) = true := hv
      simpa using this
    have e : bytesL (x :: xs) = encF x ++ bytesL xs := rfl
    have hp := enc_pos x
    unfold listL
    rw [e, dec_enc x _ hv'.1]
    simp only [List.drop_left]
    rw [listL_enc xs k hv'.2 (by rw [e, List.length_append] at hk; omega)]
/-- Nothing more is read behind them, if the most is not reached. -/
theorem listL_end : ∀ (k : Nat) (l : List Int), l.length ≤ k → decF (l.drop (bytesL (listL k l)).length) = none
  | 0, l, h => by
    obtain rfl : l = [] := List.eq_nil_of_length_eq_zero (by omega)
    decide
  | k + 1, l, h => by
    unfold listL
    cases hd : decF l with
    | none => exact hd
    | some x =>
      obtain ⟨-, t, ht⟩ := dec_some hd
      have hp := enc_pos x
      have ih := listL_end k (l.drop (encF x).length) (by simp; omega)
      show decF (l.drop (encF x ++ bytesL (listL k (l.drop (encF x).length))).length) = none
      rw [List.length_append, ← List.drop_drop]
      exact ih


theorem encLen (x : Ins) : 0 < (encF x).length ∧ (encF x).length ≤ 21 := by
  refine ⟨enc_pos x, ?_⟩
  unfold encF
  rw [List.length_append]
  have := wr_len (rw_ x.op).w (rw_ x.op).o (rw_ x.op).n x
  split <;> simp <;> omega
theorem bytesL_by : ∀ (xs : List Ins), allV xs = true → isBy (bytesL xs)
  | [], _ => fun _ h => absurd h (by simp [bytesL])
  | x :: xs, h => by
    have hv : valB x = true ∧ allV xs = true := by
      have : (valB x && allV xs) = true := h
      simpa using this
    exact isBy_append (enc_by x hv.1) (bytesL_by xs hv.2)
theorem bytesL_len : ∀ (xs : List Ins), xs.length ≤ (bytesL xs).length ∧ (bytesL xs).length ≤ 21 * xs.length
  | [] => by simp [bytesL]
  | x :: xs => by
    have := bytesL_len xs
    have := encLen x
    have e : (bytesL (x :: xs)).length = (encF x).length + (bytesL xs).length := by simp [bytesL]
    rw [e, List.length_cons]
    omega
theorem take_next {xs : List Ins} {k : Nat} (h : k < xs.length) : xs.take (k + 1) = xs.take k ++ [xs[k]!] := by
  rw [List.take_succ_eq_append_getElem h, show xs[k]! = xs[k] by simp [h]]
theorem allV_at {xs : List Ins} (h : allV xs = true) {k : Nat} (hk : k < xs.length) : valB xs[k]! = true := by
  rw [show xs[k]! = xs[k] by simp [hk]]
  exact List.all_eq_true.1 h _ (List.getElem_mem _)
theorem allV_of {xs : List Ins} (h : ∀ j, j < xs.length → valB xs[j]! = true) : allV xs = true := by
  unfold allV
  rw [List.all_eq_true]
  intro x hx
  obtain ⟨j, hj, rfl⟩ := List.mem_iff_getElem.1 hx
  have := h j hj
  rwa [show xs[j]! = xs[j] by simp [hj]] at this
theorem allV_no {xs : List Ins} {j : Nat} (hj : j < xs.length) (h : valB xs[j]! = false) : allV xs = false := by
  cases e : allV xs
  · rfl
  · rw [allV_at e hj] at h
    cases h
/-- An append of bytes that are known. -/
theorem append_bytes {w : World} {ops : Array Oper} {rest : List Oper} {o : Oper} {a : Act} {Q : Exit → Act → World → Prop} (hgd : o.guard = none) (s x : Operand)
    (ho : o.op = .call { callee := .builtin .append, args := #[s, x], argTypes := #[24, 24] })
    (base : Nat) (v : Value) (k : Nat) (xs : List Value) (hs : a.eval s = v) (hown : w.ownsRow base 5 1 v k xs) (A : Option Addr) (n c : Nat) (l : List Int) (hx : a.eval x = .slice A n c) (hB : Byt w A n c l) (hp : 0 < n)
    (hk : k ≤ 10000) (hn : n ≤ 10000) (hbase : base ≤ w.heap.size)
    (h : ∀ v' w', w'.ownsRow base 5 1 v' (k + n) (xs ++ byV l) → (∀ w0, Below w0.heap.size w0 w → w0.heap.size ≤ base → Below w0.heap.size w0 w') → wpList Try.prog ops Q rest (a.put o.dst v') w') : wpList Try.prog ops Q (o :: rest) a w := by
  obtain ⟨i0, hi, hz0, hz1, hz2⟩ := info_parts infoBy
  obtain ⟨ad, hA, hnews⟩ := byt_news hB hp
  subst hA
  refine wpList_append_own w hgd s x 24 ho base 5 i0 (.int .u8 0) 1 1 Try.underlying24 hi hz0 hz1 hz2 rfl (by decide) v k xs hs hown ad n c (byV l) hx (by rw [byV_length, Nat.mul_one]; exact hB.1.symm) hnews (byV_one _) (by unfold maxLen; omega) (by omega) hbase ?_
  intro v' w' h1 hgr _
  exact h v' w' h1 (fun w0 hb hle => hb.grown hgr hb.size (fun g hg => Nat.le_trans hle (own_base hown g hg)))
def bysE (xs : List Ins) : Int := if allV xs then 0 else 1
def bysL (xs : List Ins) : List Int := if allV xs then bytesL xs else []
set_option maxRecDepth 100000 in
set_option maxHeartbeats 8000000 in
theorem Bytes_bad {w : World} {A : Option Addr} {n c : Nat} {zs : List Ins} (h : TabI w A n c zs) (hv : allV zs = false) :
    Calls Try.prog 15 #[.slice A n c] w fun e w' => e = .returned (.tuple #[.slice none 0 0, .int .i64 1]) ∧ Below w.heap.size w w' := by
  have HT := Lib.hid h
  have HL := Lib.hid h.1
  have hcap := h.2.1
  have hmax := h.2.2.1
  have HNV := Lib.hid hv
  have HV := Lib.hid (fun x E (he : errI x = E) w1 => validate_at x E he w1)
  clear h hv
  go_enter Try.func15, Try.ntmps15
  go_wp2_with fail
  go_loopw [12] (fun zi wr => ∃ k : Nat, k ≤ n ∧ zi = .int .i64 k ∧ Hid (∀ j, j < k → valB zs[j]! = true) ∧ Below w.heap.size w wr) (fun zi _ => n - (intOf zi).toNat)
  case atStart => exact ⟨0, by omega, rfl, Lib.hid (fun j hj => by omega), Below.refl _ _⟩
  case round =>
    obtain ⟨k, hk, rfl, HK, hb⟩ := hrel
    by_cases hlt : k < n
    · obtain ⟨b0, off, rfl, hbs, ht⟩ := (HT.out.below hb).at_ hlt
      cases hq : valB zs[k]!
      · have HVV := Lib.hid (HV.out zs[k]! 1 (by unfold errI; rw [hq]; rfl))
        generalize zs[k]! = x at ht HVV hq
        obtain ⟨op, d, s, sz, imm⟩ := x
        obtain ⟨c0, c1, c2, c3, c4⟩ := ht
        simp only at c0 c1 c2 c3 c4
        clear hq
        go_wp2_with fail
        generalize hA : World.alloc wr _ = W
        have hb1 := below_new hA (Below.refl _ _)
        replace hb := hb.trans (hb1.mono hb.size)
        clear hA hb1
        refine (HVV.out _).mono ?_
        rintro e w2 ⟨rfl, hw⟩
        replace hb := hb.trans (hw.mono hb.size)
        clear hw
        go_wp2
        exact bodyPost_ret (res2 rfl _ _) rfl ⟨rfl, hb⟩
      · have HVV := Lib.hid (HV.out zs[k]! 0 (by unfold errI; rw [hq]; rfl))
        have HQ := Lib.hid hq
        generalize hxx : zs[k]! = x at ht HVV hq
        have HXX := Lib.hid hxx
        clear hxx
        obtain ⟨op, d, s, sz, imm⟩ := x
        obtain ⟨c0, c1, c2, c3, c4⟩ := ht
        simp only at c0 c1 c2 c3 c4
        clear hq
        go_wp2_with fail
        generalize hA : World.alloc wr _ = W
        have hb1 := below_new hA (Below.refl _ _)
        replace hb := hb.trans (hb1.mono hb.size)
        clear hA hb1
        refine (HVV.out _).mono ?_
        rintro e w2 ⟨rfl, hw⟩
        replace hb := hb.trans (hw.mono hb.size)
        clear hw c0 c1 c2 c3 c4 hbs
        go_wp2_with fail
        go_roundw
        case rel => exact ⟨k + 1, by omega, by go_num, Lib.hid (fun j hj => by
          by_cases e : j = k
          · subst e; exact HQ.out
          · exact HK.out j (by omega)), hb⟩
        case measure => simp [intOf]; omega
    · exact absurd (allV_of (fun j hj => HK.out j (by have := HL.out; omega))) (by rw [HNV.out]; exact Bool.false_ne_true)
set_option maxRecDepth 100000 in
set_option maxHeartbeats 8000000 in
theorem Bytes_good {w : World} {A : Option Addr} {n c : Nat} {zs : List Ins} (h : TabI w A n c zs) (hv : allV zs = true) (hlen : (bytesL zs).length ≤ 9000) :
    Calls Try.prog 15 #[.slice A n c] w fun e w' => ∃ V, e = .returned (.tuple #[V, .int .i64 0]) ∧ w'.ownsRow w.heap.size 5 1 V (bytesL zs).length (byV (bytesL zs)) ∧ Below w.heap.size w w' := by
  have HT := Lib.hid h
  have HL := Lib.hid h.1
  have hcap := h.2.1
  have hmax := h.2.2.1
  have HAV := Lib.hid hv
  have HLEN := Lib.hid hlen
  have HV := Lib.hid (fun x E (he : errI x = E) w1 => validate_at x E he w1)
  have HE := Lib.hid (fun x (he : valB x = true) => encode_any x he)
  clear h hv hlen
  go_enter Try.func15, Try.ntmps15
  go_wp2_with fail
  go_loopw [12] (fun zi wr => ∃ k : Nat, k ≤ n ∧ zi = .int .i64 k ∧ Below w.heap.size w wr) (fun zi _ => n - (intOf zi).toNat)
  case atStart => exact ⟨0, by omega, rfl, Below.refl _ _⟩
  case round =>
    obtain ⟨k, hk, rfl, hb⟩ := hrel
    by_cases hlt : k < n
    · obtain ⟨b0, off, rfl, hbs, ht⟩ := (HT.out.below hb).at_ hlt
      have hq := allV_at HAV.out (show k < zs.length by rw [← HL.out]; exact hlt)
      have HVV := Lib.hid (HV.out zs[k]! 0 (by unfold errI; rw [hq]; rfl))
      clear hq
      generalize zs[k]! = x at ht HVV
      obtain ⟨op, d, s, sz, imm⟩ := x
      obtain ⟨c0, c1, c2, c3, c4⟩ := ht
      simp only at c0 c1 c2 c3 c4
      go_wp2_with fail
      generalize hA : World.alloc wr _ = W
      have hb1 := below_new hA (Below.refl _ _)
      replace hb := hb.trans (hb1.mono hb.size)
      clear hA hb1
      refine (HVV.out _).mono ?_
      rintro e w2 ⟨rfl, hw⟩
      replace hb := hb.trans (hw.mono hb.size)
      clear hw c0 c1 c2 c3 c4 hbs
      go_wp2_with fail
      go_roundw
      case rel => exact ⟨k + 1, by omega, by go_num, hb⟩
      case measure => simp [intOf]; omega
    · obtain rfl : k = n := by omega
      clear hlt hk
      go_wp2_with fail
      go_loopw [7, 24] (fun vl zi w3 => ∃ k2 : Nat, k2 ≤ k ∧ zi = .int .i64 k2 ∧ w3.ownsRow w.heap.size 5 1 vl (bytesL (zs.take k2)).length (byV (bytesL (zs.take k2))) ∧ Below w.heap.size w w3) (fun _ zi _ => k - (intOf zi).toNat)
      case atStart => exact ⟨0, by omega, rfl, World.ownsRow_nil _ _ _ _, hb⟩
      case round =>
        obtain ⟨k2, hk2, rfl, hown, hb3⟩ := hrel
        by_cases hlt2 : k2 < k
        · obtain ⟨b0, off, rfl, hbs, ht⟩ := (HT.out.below hb3).at_ hlt2
          have hk2z : k2 < zs.length := by rw [← HL.out]; exact hlt2
          have hq := allV_at HAV.out hk2z
          have HEE := Lib.hid (fun w1 => HE.out _ hq w1)
          have HIB := Lib.hid (enc_by _ hq)
          obtain ⟨hp0, hp1⟩ := encLen zs[k2]!
          have HS := Lib.hid (show bytesL (zs.take (k2 + 1)) = bytesL (zs.take k2) ++ encF zs[k2]! by rw [take_next hk2z, bytesL_append]; simp [bytesL])
          have hsm : (bytesL (zs.take k2)).length ≤ 9000 := by
            have h1 : bytesL zs = bytesL (zs.take k2) ++ bytesL (zs.drop k2) := by rw [← bytesL_append, List.take_append_drop]
            have h2 := HLEN.out
            rw [h1, List.length_append] at h2
            omega
          have HOWN := Lib.hid hown
          clear hown hq hk2z
          generalize bytesL (zs.take k2) = Lk at HOWN HS hsm
          generalize hxx : zs[k2]! = x at ht HEE HIB hp0 hp1 HS
          clear hxx
          generalize encF x = Lx at HEE HIB hp0 hp1 HS
          obtain ⟨q, hq⟩ : ∃ q, Lx.length = q := ⟨_, rfl⟩
          rw [hq] at HEE hp0 hp1
          have HQ := Lib.hid hq
          clear hq
          obtain ⟨op, d, s, sz, imm⟩ := x
          obtain ⟨c0, c1, c2, c3, c4⟩ := ht
          simp only at c0 c1 c2 c3 c4
          go_wp2_with fail
          generalize hA : World.alloc _ _ = W
          have hb1 := below_one hA
          have hown1 := own_below HOWN.out hb1
          replace hb3 := hb3.trans (hb1.mono hb3.size)
          clear hA hb1 HOWN
          refine (HEE.out _).mono ?_
          rintro e w4 ⟨V4, rfl, ho4, hw⟩
          obtain ⟨A4, c4', rfl, hB4⟩ := byt_own (l := Lx) (by rw [HQ.out]; exact ho4) HIB.out
          rw [HQ.out] at hB4 ⊢
          have hown2 := own_below hown1 hw
          replace hb3 := hb3.trans (hw.mono hb3.size)
          clear hw ho4 hown1 c0 c1 c2 c3 c4 hbs
          go_wp2_with (at_builtin; refine append_bytes rfl _ _ rfl w.heap.size _ Lk.length _ rfl hown2 A4 q c4' Lx rfl hB4 hp0 (by omega) (by omega) hb3.size ?_)
          intro v5 w5 ho5 hgr
          replace hb3 := hgr w hb3 (Nat.le_refl _)
          have HO5 := Lib.hid (show w5.ownsRow w.heap.size 5 1 v5 (bytesL (zs.take (k2 + 1))).length (byV (bytesL (zs.take (k2 + 1)))) by
            rw [HS.out, List.length_append, HQ.out, byV_append]
            exact ho5)
          clear ho5 hgr hown2 hB4
          go_wp2_with fail
          go_roundw
          case rel => exact ⟨k2 + 1, by omega, by go_num, HO5.out, hb3⟩
          case measure => simp [intOf]; omega
        · obtain rfl : k2 = k := by omega
          rw [show zs.take k2 = zs by rw [HL.out]; simp] at hown
          have HO := Lib.hid hown
          clear hown hlt2 hk2
          go_wp2
          exact bodyPost_ret (res2 rfl _ _) rfl ⟨_, rfl, HO.out, hb3⟩


/-- The address of the rest of a slice. -/
def dropA (A : Option Addr) (c k : Nat) : Option Addr := if c = k then A else A.map (·.add k)
theorem slice_from (w : World) (A : Option Addr) (n c k : Nat) (hk : k ≤ n) : (Instr.slice 24 (.slice A n c) (some (.int .i64 k)) none none).run Try.prog w = .ok (.slice (dropA A c k) (n - k) (c - k)) w := by
  rw [run_slice_l w 24 A n c (by rw [Try.underlying24]; kernel_rfl) .i64 k (by omega) (by omega)]
  have hs : (sizeOf (Try.prog.elem 24)).run Try.prog w = .ok 1 w := by
    rw [show Try.prog.elem 24 = 5 by kernel_rfl]
    obtain ⟨i0, hi, -⟩ := info_parts infoBy
    rw [run_sizeOf _ hi, cellsU8]
  simp [sliced, dropA, Result.andThen, hs]
theorem byt_drop {w : World} {A : Option Addr} {n c k : Nat} {l : List Int} (h : Byt w A n c l) (hk : k ≤ n) : Byt w (dropA A c k) (n - k) (c - k) (l.drop k) := by
  obtain ⟨h1, h2, h3, h0, h4⟩ := h
  have e : ∀ j, j < n - k → (l.drop k)[j]! = l[k + j]! := fun j hj => by
    simp [List.getElem!_eq_getElem?_getD, List.getElem?_drop]
  refine ⟨by rw [List.length_drop]; omega, by omega, by omega, fun j hj => ?_, ?_⟩
  · rw [e j hj]; exact h0 (k + j) (by omega)
  · by_cases hn : n - k = 0
    · exact .inl hn
    · rcases h4 with h4 | ⟨b, off, hA, hb, hc⟩
      · omega
      · refine .inr ⟨b, off + k, ?_, hb, fun j hj => ?_⟩
        · unfold dropA
          rw [if_neg (by omega), hA]
          simp [Addr.add_lit]
        · rw [e j hj, Nat.add_assoc]
          exact hc (k + j) (by omega)
theorem listL_none {l : List Int} (h : decF l = none) : ∀ m, listL m l = []
  | 0 => rfl
  | m + 1 => by unfold listL; rw [h]
theorem listL_some {l : List Int} {x : Ins} (h : decF l = some x) (m : Nat) : listL (m + 1) l = x :: listL m (l.drop (encF x).length) := by
  show (match decF l with | some x => x :: listL m (l.drop (encF x).length) | none => []) = _
  rw [h]
theorem dec_parts {l : List Int} : (∀ x, decF l = some x → decI l = x ∧ decN l = (encF x).length ∧ decB l = true) ∧ (decF l = none → decB l = false) := by
  unfold decI decN decB
  exact ⟨fun x h => by rw [h]; exact ⟨rfl, rfl, rfl⟩, fun h => by rw [h]⟩
set_option maxRecDepth 100000 in
set_option maxHeartbeats 8000000 in
theorem List_any {w : World} {A : Option Addr} {n c : Nat} {l : List Int} (hB : Byt w A n c l) (hn : n ≤ 10000) :
    Calls Try.prog 17 #[.slice A n c] w fun e w' => ∃ V, e = .returned (.tuple #[V, .int .i64 ((bytesL (listL n l)).length : Nat)]) ∧ w'.ownsRow w.heap.size 23 5 V (listL n l).length (inssV (listL n l)) ∧ Below w.heap.size w w' := by
  obtain ⟨i0, hi, hz0, hz1, hz2⟩ := info_parts infoIns
  have HB := Lib.hid hB
  have HLL := Lib.hid hB.1
  have hcap := hB.2.1
  have hmax := hB.2.2.1
  clear hB
  go_enter Try.func17, Try.ntmps17
  go_wp2_with fail
  go_loopw [4, 5] (fun vl za wr => ∃ (ys : List Ins) (m k : Nat), Hid (listL n l = ys ++ listL m (l.drop k)) ∧ Hid (ys.length + m = n ∧ (bytesL ys).length = k) ∧ k ≤ n ∧ za = .int .i64 k ∧ wr.ownsRow w.heap.size 23 5 vl ys.length (inssV ys) ∧ Below w.heap.size w wr) (fun _ za _ => n - (intOf za).toNat)
  case atStart => exact ⟨[], n, 0, Lib.hid (by simp), Lib.hid ⟨by simp, rfl⟩, by omega, rfl, World.ownsRow_nil _ _ _ _, Below.refl _ _⟩
  case round =>
    obtain ⟨ys, m, k, HE, HM, hk, rfl, hown, hb⟩ := hrel
    have hs := fun W => slice_from W A n c k hk
    have hD := decode_any (byt_drop (HB.out.below hb) hk)
    have HP := Lib.hid (dec_parts (l := l.drop k))
    have hylen : ys.length ≤ 10000 := by have := HM.out.1; omega
    cases hF : decF (l.drop k) with
    | none =>
      rw [HP.out.2 hF] at hD
      have HR := Lib.hid (show listL n l = ys by rw [HE.out, listL_none hF, List.append_nil])
      have HK := Lib.hid HM.out.2
      clear hF HE HM HP
      generalize decI (l.drop k) = x at hD
      generalize (decN (l.drop k) : Int) = q at hD
      obtain ⟨op, d, s, sz, imm⟩ := x
      have HD := Lib.hid hD
      clear hD
      go_wp2_with fail
      refine HD.out.mono ?_
      rintro e w2 ⟨rfl, hw⟩
      have hown2 := own_below hown hw
      replace hb := hb.trans (hw.mono hb.size)
      have hown3 := own_below hown2 (below_one (rfl : w2.alloc (.cells #[.int .i64 op, .int .i64 d, .int .i64 s, .int .i64 sz, .int .i64 imm] 23) = _))
      have hb3 := hb.alloc hb.size (.cells #[.int .i64 op, .int .i64 d, .int .i64 s, .int .i64 sz, .int .i64 imm] 23)
      have HO := Lib.hid hown3
      clear hown hown2 hown3 hw hb HD hs
      go_wp2
      refine bodyPost_ret (res2 rfl _ _) rfl ⟨_, ?_, by rw [HR.out]; exact HO.out, hb3⟩
      rw [HR.out, HK.out]
      rfl
    | some x =>
      obtain ⟨e1, e2, e3⟩ := HP.out.1 x hF
      rw [e1, e2, e3] at hD
      obtain ⟨hv, t, ht⟩ := dec_some hF
      obtain ⟨hp0, hp1⟩ := encLen x
      have hkl : k + (encF x).length ≤ n := by
        have h1 : (l.drop k).length = n - k := by rw [List.length_drop, HLL.out]
        rw [← ht, List.length_append] at h1
        omega
      obtain ⟨m', hm'⟩ : ∃ m', m = m' + 1 := by
        cases m with
        | succ m' => exact ⟨m', rfl⟩
        | zero =>
          have h1 := HM.out
          have h2 := (bytesL_len ys).1
          omega
      have HE2 := Lib.hid (show listL n l = (ys ++ [x]) ++ listL m' (l.drop (k + (encF x).length)) by
        rw [HE.out, hm', listL_some hF, List.drop_drop]
        simp)
      have HM2 := Lib.hid (show (ys ++ [x]).length + m' = n ∧ (bytesL (ys ++ [x])).length = k + (encF x).length from
        ⟨by have := HM.out.1; simp; omega, by rw [bytesL_append, List.length_append, HM.out.2]; simp [bytesL]⟩)
      clear hF e1 e2 e3 ht hv hm' HE HM HP
      generalize hql : (encF x).length = q at hD hp0 hp1 hkl HE2 HM2
      clear hql
      have HD := Lib.hid hD
      clear hD
      have HIV := Lib.hid (show inssV (ys ++ [x]) = inssV ys ++ insV x by rw [inssV_append]; simp [inssV])
      obtain ⟨op, d, s, sz, imm⟩ := x
      go_wp2_with fail
      refine HD.out.mono ?_
      rintro e w2 ⟨rfl, hw⟩
      have hown2 := own_below hown hw
      replace hb := hb.trans (hw.mono hb.size)
      have hown3 := own_below hown2 (below_one (rfl : w2.alloc (.cells #[.int .i64 op, .int .i64 d, .int .i64 s, .int .i64 sz, .int .i64 imm] 23) = _))
      have hb3 := hb.alloc hb.size (.cells #[.int .i64 op, .int .i64 d, .int .i64 s, .int .i64 sz, .int .i64 imm] 23)
      clear hown hown2 hw hb HD hs
      have hb4 := hb3.size
      have hzz : (w2.alloc (.cells #[.int .i64 op, .int .i64 d, .int .i64 s, .int .i64 sz, .int .i64 imm] 23)).heap.size = w2.heap.size + 1 := by simp
      have hnw := heap_alloc_new (w2.alloc (.cells #[.int .i64 op, .int .i64 d, .int .i64 s, .int .i64 sz, .int .i64 imm] 23)) (.cells #[.int .i64 op, .int .i64 d, .int .i64 s, .int .i64 sz, .int .i64 imm] 23)
      rw [hzz] at hb4 hnw
      have HNW := Lib.hid hnw
      have HZZ := Lib.hid hzz
      clear hnw hzz
      go_wp2_with (at_builtin; refine wpList_append_own _ rfl _ _ 36 rfl w.heap.size 23 i0 (.agg #[.int .i64 0, .int .i64 0, .int .i64 0, .int .i64 0, .int .i64 0]) 5 40 Try.underlying36 hi hz0 hz1 hz2 rfl (by decide) _ ys.length _ rfl (hown3.alloc _) ⟨w2.heap.size + 1, 0, none⟩ 1 1 [.int .i64 op, .int .i64 d, .int .i64 s, .int .i64 sz, .int .i64 imm] rfl rfl ?k1 ?k2 ?k3 ?k4 ?k5 ?_)
      case k1 => exact news5 HNW.out
      case k2 => intro u hu; simp at hu; rcases hu with rfl | rfl | rfl | rfl | rfl <;> rfl
      case k3 => unfold maxLen; omega
      case k4 => omega
      case k5 => simp; omega
      intro v5 w5 ho5 hgr _
      have hb5 : Below w.heap.size w w5 := (hb3.alloc (by rw [HZZ.out]; exact hb4) _).grown hgr (by simp; omega) (own_base (hown3.alloc (.cells #[.int .i64 op, .int .i64 d, .int .i64 s, .int .i64 sz, .int .i64 imm] 23)))
      have HO5 := Lib.hid (show w5.ownsRow w.heap.size 23 5 v5 (ys ++ [(⟨op, d, s, sz, imm⟩ : Ins)]).length (inssV (ys ++ [(⟨op, d, s, sz, imm⟩ : Ins)])) by
        rw [HIV.out, List.length_append]
        exact ho5)
      clear ho5 hgr hown3 hb3 hb4 HNW HZZ
      go_wp2
      go_roundw
      case rel => exact ⟨_, m', k + q, HE2, HM2, hkl, by go_num, HO5.out, hb5⟩
      case measure => simp [intOf]; omega
end Go.Proofs.Ytpekegeohcnhcaa
