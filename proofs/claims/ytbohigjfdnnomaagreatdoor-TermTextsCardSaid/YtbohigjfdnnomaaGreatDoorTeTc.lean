/-
  The pool in memory; Add.
-/
import Derived.Test.YtbohigjfdnnomaaGreatDoorTeTb
import Derived.Laws.CopyOwn
namespace Go.Proofs.YtbohigjfdnnomaaGreatDoor
open Go.RowKit

/-- The cells of a row of nodes. -/
def nodC (y : Nd) (v : Value) : List Value := [.int .i64 y.op, .int .i64 y.width, .int .i64 y.flags, v, .int .u32 y.imm]
def rowC (out : List Nd) (av : Nat → Value) : List Value := (List.range out.length).flatMap fun i => nodC out[i]! (av i)
theorem flatMap_congr' {α β : Type} {l : List α} {f g : α → List β} (h : ∀ a ∈ l, f a = g a) : l.flatMap f = l.flatMap g := by
  induction l with
  | nil => rfl
  | cons a l ih => rw [List.flatMap_cons, List.flatMap_cons, h a (by simp), ih (fun b hb => h b (by simp [hb]))]
theorem rowC_app (out : List Nd) (y : Nd) (av : Nat → Value) (v : Value) : rowC (out ++ [y]) (fun i => if i = out.length then v else av i) = rowC out av ++ nodC y v := by
  unfold rowC
  rw [List.length_append, List.length_singleton, List.range_succ, List.flatMap_append]
  congr 1
  · refine flatMap_congr' fun i hi => ?_
    have hi := List.mem_range.1 hi
    rw [getN_app hi]
    exact congrArg (nodC out[i]!) (if_neg (by omega))
  · simp
theorem rowC_len (out : List Nd) (av : Nat → Value) : (rowC out av).length = out.length * 5 := by
  unfold rowC
  rw [List.length_flatMap]
  simp [nodC, List.map_const']
theorem rowC_at (av : Nat → Value) {out : List Nd} {i : Nat} (hi : i < out.length) {j : Nat} (hj : j < 5) : (rowC out av)[i * 5 + j]? = (nodC out[i]! (av i))[j]? := by
  unfold rowC
  have key : ∀ (m : Nat), i < m → ∀ (f : Nat → List Value), (∀ k, (f k).length = 5) → ((List.range m).flatMap f)[i * 5 + j]? = (f i)[j]? := by
    intro m
    induction m with
    | zero => intro h; omega
    | succ m ih =>
      intro him f hf
      rw [List.range_succ, List.flatMap_append]
      have hl : ((List.range m).flatMap f).length = m * 5 := by
        rw [List.length_flatMap]
        simp [hf, List.map_const']
      by_cases e : i < m
      · rw [List.getElem?_append_left (by rw [hl]; omega)]
        exact ih e f hf
      · obtain rfl : i = m := by omega
        rw [List.getElem?_append_right (by rw [hl]; omega), hl]
        simp [show i * 5 + j - i * 5 = j by omega]
  exact key _ hi _ (fun k => rfl)
/-- A pool in memory: the struct in block P, its map in M; F are the blocks that belong to it. -/
structure PoolW (w : World) (base P M : Nat) (F : Nat → Prop) (out : List Nd) (nv : Value) (av : Nat → Value) (D : DataW Unit) : Prop where
  blk : w.heap[P]? = some (.cells #[nv, .map (some M)] 75 (0, 0))
  row : w.ownsRow base 38 5 nv out.length (rowC out av)
  args : ∀ i, i < out.length → w.ownsRow base 3 1 (av i) (out[i]!).args.length (iV (out[i]!).args)
  argF : ∀ i, i < out.length → ∀ b, (av i).ownBlock = some b → F b ∧ b ≠ P ∧ b ≠ M ∧ nv.ownBlock ≠ some b
  map : w.ownsMap Tryz.prog 99 (plainElem Tryz.prog 3) M out.length D
  mok : MapOK D out
  fine : ∀ i, i < out.length → Fine out[i]!
  once : Once out
  fP : F P
  fM : F M
  nvF : ∀ b, nv.ownBlock = some b → F b ∧ b ≠ P ∧ b ≠ M
  ne : P ≠ M
  lt : ∀ b, F b → b < w.heap.size ∧ base ≤ b
def Pool (w : World) (base P M : Nat) (F : Nat → Prop) (out : List Nd) : Prop := ∃ nv av D, PoolW w base P M F out nv av D
/-- Only the blocks of F turn. -/
structure KeepF (F : Nat → Prop) (w w' : World) : Prop where
  os : w'.os = w.os
  tape : w'.tape = w.tape
  output : w'.output = w.output
  size : w.heap.size ≤ w'.heap.size
  block : ∀ b, b < w.heap.size → ¬ F b → w'.heap[b]? = w.heap[b]?
theorem KeepF.refl (F : Nat → Prop) (w : World) : KeepF F w w := ⟨rfl, rfl, rfl, Nat.le_refl _, fun _ _ _ => rfl⟩
theorem KeepF.trans {F G : Nat → Prop} {a b c : World} (h : KeepF F a b) (h2 : KeepF G b c) (hG : ∀ k, G k → F k ∨ a.heap.size ≤ k) : KeepF F a c :=
  ⟨h2.os.trans h.os, h2.tape.trans h.tape, h2.output.trans h.output, Nat.le_trans h.size h2.size, fun k hk hn => (h2.block k (Nat.lt_of_lt_of_le hk h.size) (fun hg => (hG k hg).elim hn (fun hh => by omega))).trans (h.block k hk hn)⟩
theorem KeepF.below {F : Nat → Prop} {B : Nat} {a w : World} (h : KeepF F a w) (hF : ∀ k, F k → B ≤ k) (hB : B ≤ a.heap.size) : Below B a w := ⟨h.os, h.tape, h.output, h.size, fun k hk => h.block k (by omega) (fun hf => by have := hF k hf; omega)⟩
theorem keep_of_below {F : Nat → Prop} {a w : World} (h : Below a.heap.size a w) : KeepF F a w := ⟨h.os, h.tape, h.output, h.size, fun k hk _ => h.block k hk⟩
theorem ownsRow_keep {w w' : World} {base e size k : Nat} {v : Value} {xs : List Value} (h : w.ownsRow base e size v k xs) (hb : ∀ b, v.ownBlock = some b → w'.heap[b]? = w.heap[b]?) : w'.ownsRow base e size v k xs := by
  refine ⟨h.1, ?_⟩
  rcases h.2 with h2 | ⟨g, cap, cur, rfl, h2, h3, h4⟩
  · exact .inl h2
  · exact .inr ⟨g, cap, cur, rfl, h2, (hb g rfl).trans h3, h4⟩
theorem own_lt {w : World} {base e size k : Nat} {v : Value} {xs : List Value} (h : w.ownsRow base e size v k xs) : ∀ g, v.ownBlock = some g → g < w.heap.size := by
  intro g hg
  rcases h.2 with ⟨rfl, _⟩ | ⟨g', cap, cur, rfl, hb, hh, _⟩
  · simp [Value.ownBlock] at hg
  · have : g' = g := by simpa [Value.ownBlock] using hg
    rw [← this]
    exact lt_of_block hh
/-- A pool stays where its blocks do. -/
theorem PoolW.keep {w w' : World} {base P M : Nat} {F : Nat → Prop} {out : List Nd} {nv : Value} {av : Nat → Value} {D : DataW Unit} (h : PoolW w base P M F out nv av D) (hs : w.heap.size ≤ w'.heap.size) (hb : ∀ b, F b → w'.heap[b]? = w.heap[b]?) : PoolW w' base P M F out nv av D where
  blk := (hb P h.fP).trans h.blk
  row := ownsRow_keep h.row fun b e => hb b (h.nvF b e).1
  args i hi := ownsRow_keep (h.args i hi) fun b e => hb b (h.argF i hi b e).1
  argF := h.argF
  map := by
    obtain ⟨es, clock, hM, r⟩ := h.map
    exact ⟨es, clock, (hb M h.fM).trans hM, r⟩
  mok := h.mok
  fine := h.fine
  once := h.once
  fP := h.fP
  fM := h.fM
  nvF := h.nvF
  ne := h.ne
  lt b hf := ⟨Nat.lt_of_lt_of_le (h.lt b hf).1 hs, (h.lt b hf).2⟩
theorem PoolW.below {w w' : World} {base P M : Nat} {F : Nat → Prop} {out : List Nd} {nv : Value} {av : Nat → Value} {D : DataW Unit} (h : PoolW w base P M F out nv av D) (hb : Below w.heap.size w w') : PoolW w' base P M F out nv av D := h.keep hb.size fun b hf => hb.block b (h.lt b hf).1
theorem infoN : (Tryz.prog.info? 38).map (fun i => (i.zero, i.size, i.bytes)) = some (some (.agg #[.int .i64 0, .int .i64 0, .int .i64 0, .slice none 0 0, .int .u32 0]), 5, 56) := by kernel_rfl
theorem wp_append_at {P : Program} {w : World} {o : Oper} {a : Act} {K : Act → World → Prop} {Q : Exit → Act → World → Prop} (s x : Operand) (t : TypeId)
    (ho : o.op = .call { callee := .builtin .append, args := #[s, x], argTypes := #[t, t] })
    (base : Nat) (e : TypeId) (i : TypeInfo) (z : Value) (size bytes : Nat) (ht : P.underlying t = some (.slice e)) (hi : P.info? e = some i) (hz : i.zero = some z)
    (hsize : i.size = size) (hby : i.bytes = bytes) (hzs : z.cells.size = size) (hsz : 0 < size)
    (v : Value) (n : Nat) (xs : List Value) (hs : a.eval s = v) (hown : w.ownsRow base e size v n xs)
    (ad : Addr) (m c : Nat) (news : List Value) (hx : a.eval x = .slice (some ad) m c) (hl : news.length = m * size) (hnews : ∀ j u, news[j]? = some u → w.cell? (ad.add j) = some u) (h1 : ∀ u ∈ news, u.oneCell' = true)
    (h63 : n + m ≤ maxLen) (hbytes : (n + m) * bytes ≤ 140737488355328) (hbase : base ≤ w.heap.size)
    (h : ∀ v' w', w'.ownsRow base e size v' (n + m) (xs ++ news) → w.grownBy w' v.ownBlock → (v' = .slice none 0 0 ↔ v = .slice none 0 0 ∧ m = 0) → (v'.ownBlock = v.ownBlock ∨ v'.ownBlock = some w.heap.size) → K (a.put o.dst v') w') : o.wp P a w K Q := by
  obtain ⟨v', w', hr, h2, h3, h4, h5⟩ := run_append_own_at (P := P) w base t o.type e i z size bytes ht hi hz hsize hby hzs hsz v n xs hown ad m c news hl hnews h1 h63 hbytes hbase
  unfold Oper.wp execOp
  simp only [ho, resolve, invoke, builtin, Sem.run_bind, Sem.run_pure, Result.andThen_ok, List.map_toArray, List.map_cons, List.map_nil, hs, hx, hr]
  exact h v' w' h2 h3 h4 h5
theorem splice_key (a b c d : Value) (l : List Int) (h : l.length ≤ 3) : (splice [a, b, c, d, .int .i64 0, .int .i64 0, .int .i64 0] 4 (iV l)).toArray = #[a, b, c, d, .int .i64 (argK l 0), .int .i64 (argK l 1), .int .i64 (argK l 2)] := by
  match l, h with
  | [], _ => rfl
  | [x], _ => rfl
  | [x, y], _ => rfl
  | [x, y, z], _ => rfl
theorem five_new (w : World) (a b c d e : Value) (t : TypeId) : ∀ j u, [a, b, c, d, e][j]? = some u → (w.alloc (.cells #[a, b, c, d, e] t)).cell? ((⟨w.heap.size, 0, none⟩ : Addr).add j) = some u := by
  intro j u hj
  have h := heap_alloc_new w (.cells #[a, b, c, d, e] t)
  rw [add_lit0]
  simp only [World.cell?, h]
  match j, hj with
  | 0, hj => exact hj
  | 1, hj => exact hj
  | 2, hj => exact hj
  | 3, hj => exact hj
  | 4, hj => exact hj
/-- The cells of a key. -/
theorem cells7 {W : World} {B : Nat} {a b c d e f g : Value} {t : TypeId} (h : W.heap[B]? = some (.cells #[a, b, c, d, e, f, g] t (0, 0))) : W.cell? ⟨B, 0, none⟩ = some a ∧ W.cell? ⟨B, 1, none⟩ = some b ∧ W.cell? ⟨B, 2, none⟩ = some c ∧ W.cell? ⟨B, 3, none⟩ = some d ∧ W.cell? ⟨B, 4, none⟩ = some e ∧ W.cell? ⟨B, 5, none⟩ = some f ∧ W.cell? ⟨B, 6, none⟩ = some g := by
  refine ⟨?_, ?_, ?_, ?_, ?_, ?_, ?_⟩ <;> simp [World.cell?, h]
theorem cells2 {W : World} {B : Nat} {a b : Value} {t : TypeId} (h : W.heap[B]? = some (.cells #[a, b] t (0, 0))) : (W.cell? ⟨B, 0, none⟩ = some a ∧ W.frozen? ⟨B, 0, none⟩ = false) ∧ W.cell? ⟨B, 1, none⟩ = some b := by
  refine ⟨⟨?_, ?_⟩, ?_⟩ <;> simp [World.cell?, World.frozen?, h]
theorem zeroInt (w : World) : (zeroValue 3).run Tryz.prog w = .ok (.int .i64 0) w := by kernel_rfl
section
variable {w : World} {base P M : Nat} {F : Nat → Prop} {out : List Nd} {nv : Value} {av : Nat → Value} {D : DataW Unit}
theorem pool_slice (h : PoolW w base P M F out nv av D) : ∃ A c, nv = .slice A out.length c ∧ out.length ≤ c := by
  rcases h.row.2 with ⟨h1, h2⟩ | ⟨g, cap, cur, h1, -, -, h2, -⟩
  · exact ⟨none, 0, by rw [h2]; exact h1, by omega⟩
  · exact ⟨_, cap, h1, h2⟩
set_option maxRecDepth 100000 in
/-- What a look into the pool's map gives. -/
theorem pool_look (h : PoolW w base P M F out nv av D) {y : Nd} (hy : Fine y) : (Instr.lookup 73 (.map (some M)) (keyV y) true).run Tryz.prog w = .ok (.tuple #[.int .i64 (if ix out y < out.length then ((ix out y : Nat) : Int) else 0), .bool (decide (ix out y < out.length))]) w := by
  obtain ⟨v, ps, hrun, hR⟩ := h.map.look_ok keyLaw Tryz.underlying73 (zeroInt w) (plainElem_int (H := Unit) Tryz.underlying3 (wf64 (by omega))) (keyL_of hy)
  obtain ⟨h1, h2⟩ := h.mok y hy
  rw [hrun, h1]
  obtain ⟨a, rfl, hz, -⟩ := plainElem_int_inv Tryz.underlying3 hR
  by_cases hi : ix out y < out.length
  · rw [h2 hi] at hz
    injection hz with hz _
    injection hz with hz
    injection hz with _ hz
    rw [if_pos hi, hz]
  · have hno := Go.Maps.atKey_of_not_has (D := D) (k := keyL y) (by rw [h1]; exact decide_eq_false hi) (.lit (.int .i64 0))
    rw [hno] at hz
    injection hz with hz _
    injection hz with hz
    injection hz with _ hz
    rw [if_neg hi, ← hz]
end
theorem Ints.move {w W : World} {A : Option Addr} {n c : Nat} {l : List Int} (h : Ints w A n c l) (hs : w.heap.size ≤ W.heap.size) (hb : ∀ b off, A = some ⟨b, off, none⟩ → b < w.heap.size → W.heap[b]? = w.heap[b]?) : Ints W A n c l := by
  obtain ⟨h1, h2, h3, h4 | ⟨b, off, h4, h5, h6⟩⟩ := h
  · exact ⟨h1, h2, h3, .inl h4⟩
  · refine ⟨h1, h2, h3, .inr ⟨b, off, h4, Nat.lt_of_lt_of_le h5 hs, fun j hj => ?_⟩⟩
    rw [← h6 j hj]
    simp only [World.cell?, hb b off h4 h5]
theorem own_slice {w : World} {base e size k : Nat} {v : Value} {xs : List Value} (h : w.ownsRow base e size v k xs) : ∃ A c, v = .slice A k c ∧ k ≤ c ∧ c ≤ 9223372036854775807 := by
  rcases h.2 with ⟨h1, h2⟩ | ⟨g, cap, cur, h1, -, -, h2, h3, -⟩
  · exact ⟨none, 0, by rw [h2]; exact h1, by omega, by omega⟩
  · exact ⟨_, cap, h1, h2, by unfold maxLen at h3; omega⟩
theorem own_base' {w : World} {base base' e size k : Nat} {v : Value} {xs : List Value} (h : w.ownsRow base e size v k xs) (hb : base' ≤ base) : w.ownsRow base' e size v k xs := by
  refine ⟨h.1, ?_⟩
  rcases h.2 with h2 | ⟨g, cap, cur, h1, h2, h3⟩
  · exact .inl h2
  · exact .inr ⟨g, cap, cur, h1, Nat.le_trans hb h2, h3⟩
/-- A pool with a new node. -/
theorem pool_new {w W : World} {base P M : Nat} {F : Nat → Prop} {out : List Nd} {nv : Value} {av : Nat → Value} {D : DataW Unit} (h : PoolW w base P M F out nv av D) {y : Nd} (hy : Fine y) (hn : ¬ ix out y < out.length) {nv' v' : Value} (hsz : w.heap.size ≤ W.heap.size) (hbase : base ≤ w.heap.size)
    (hblk : W.heap[P]? = some (.cells #[nv', .map (some M)] 75 (0, 0))) (hmap : W.ownsMap Tryz.prog 99 (plainElem Tryz.prog 3) M (out.length + 1) (D.put (keyL y) (.lit (.int .i64 ((out.length : Nat) : Int)))))
    (hrow : W.ownsRow base 38 5 nv' (out.length + 1) (rowC out av ++ nodC y v')) (harg : W.ownsRow w.heap.size 3 1 v' y.args.length (iV y.args))
    (hloc : nv'.ownBlock = nv.ownBlock ∨ ∃ g, nv'.ownBlock = some g ∧ w.heap.size ≤ g) (hv : ∀ b, v'.ownBlock = some b → nv'.ownBlock ≠ some b)
    (hkeep : ∀ b, b < w.heap.size → b ≠ P → b ≠ M → nv.ownBlock ≠ some b → W.heap[b]? = w.heap[b]?) :
    ∃ F', Pool W base P M F' (addP out y) ∧ (∀ b, F b → F' b) ∧ ∀ b, F' b → F b ∨ w.heap.size ≤ b := by
  have hPl := (h.lt P h.fP).1
  have hMl := (h.lt M h.fM).1
  have hvb : ∀ b, v'.ownBlock = some b → w.heap.size ≤ b ∧ b < W.heap.size := fun b hb => ⟨own_base harg b hb, own_lt harg b hb⟩
  have hnb : ∀ b, nv'.ownBlock = some b → (F b ∨ w.heap.size ≤ b) ∧ b ≠ P ∧ b ≠ M := fun b hb => by
    rcases hloc with e | ⟨g, e, hg⟩
    · rw [e] at hb
      have := h.nvF b hb
      exact ⟨.inl this.1, this.2⟩
    · rw [e] at hb
      injection hb with hb
      subst hb
      exact ⟨.inr hg, by omega, by omega⟩
  refine ⟨fun b => F b ∨ v'.ownBlock = some b ∨ nv'.ownBlock = some b, ⟨nv', fun i => if i = out.length then v' else av i, D.put (keyL y) (.lit (.int .i64 ((out.length : Nat) : Int))), ?_⟩, fun b hb => .inl hb, ?_⟩
  · rw [addP_new hn]
    have hlen : (out ++ [y]).length = out.length + 1 := by simp
    refine { blk := hblk, row := by rw [hlen, rowC_app]; exact hrow, args := fun i hi => ?_, argF := fun i hi b hb => ?_, map := by rw [hlen]; exact hmap, mok := mapOK_put h.map.isMap h.mok hy hn, fine := fun i hi => ?_, once := by rw [← addP_new hn]; exact addP_once h.once y, fP := .inl h.fP, fM := .inl h.fM, nvF := fun b hb => ⟨.inr (.inr hb), (hnb b hb).2⟩, ne := h.ne, lt := fun b hb => ?_ }
    · rw [hlen] at hi
      by_cases e : i = out.length
      · subst e
        simp only [if_pos]
        rw [getN_last]
        refine ⟨harg.1, ?_⟩
        rcases harg.2 with h2 | ⟨g, cap, cur, h1, h2, h3⟩
        · exact .inl h2
        · exact .inr ⟨g, cap, cur, h1, Nat.le_trans hbase h2, h3⟩
      · simp only [if_neg e]
        rw [getN_app (by omega)]
        refine ownsRow_keep (h.args i (by omega)) fun b hb => ?_
        obtain ⟨f1, f2, f3, f4⟩ := h.argF i (by omega) b hb
        exact hkeep b (h.lt b f1).1 f2 f3 f4
    · rw [hlen] at hi
      by_cases e : i = out.length
      · simp only [e, if_pos] at hb
        have := hvb b hb
        exact ⟨.inr (.inl hb), by omega, by omega, hv b hb⟩
      · simp only [if_neg e] at hb
        obtain ⟨f1, f2, f3, f4⟩ := h.argF i (by omega) b hb
        refine ⟨.inl f1, f2, f3, fun e => ?_⟩
        rcases hloc with e2 | ⟨g, e2, hg⟩
        · exact f4 (e2.symm.trans e)
        · rw [e2] at e
          injection e with e
          subst e
          have := (h.lt _ f1).1
          omega
    · rw [hlen] at hi
      by_cases e : i = out.length
      · subst e
        rw [getN_last]
        exact hy
      · rw [getN_app (by omega)]
        exact h.fine i (by omega)
    · rcases hb with hb | hb | hb
      · exact ⟨Nat.lt_of_lt_of_le (h.lt b hb).1 hsz, (h.lt b hb).2⟩
      · have := hvb b hb
        omega
      · have h1 := own_lt hrow b hb
        have h2 := own_base hrow b hb
        exact ⟨h1, h2⟩
  · intro b hb
    rcases hb with hb | hb | hb
    · exact .inl hb
    · exact .inr (hvb b hb).1
    · exact (hnb b hb).1
theorem clone_any {w : World} {A : Option Addr} {n c : Nat} {l : List Int} (h : Ints w A n c l) (hA : n = 0 → A = none ∧ c = 0) (hn : n ≤ 100) : Calls Tryz.prog 62 #[.slice A n c] w fun e w' => (∃ A' c', e = .returned (.slice A' n c') ∧ w'.ownsRow w.heap.size 3 1 (.slice A' n c') n (iV l)) ∧ Below w.heap.size w w' := by
  by_cases h0 : n = 0
  · subst h0
    obtain ⟨rfl, rfl⟩ := hA rfl
    refine (clone_nil w).mono fun e w' ⟨h1, h2⟩ => ?_
    subst h2
    have hl : l = [] := List.eq_nil_of_length_eq_zero h.1.symm
    rw [hl]
    exact ⟨⟨none, 0, h1, World.ownsRow_nil _ _ _ _⟩, Below.refl _ _⟩
  · obtain ⟨b, off, rfl, -, -⟩ := h.at_ (j := 0) (by omega)
    refine (clone_ints h (by omega) hn).mono fun e w' ⟨⟨v', h1, h2⟩, h3⟩ => ?_
    rcases h2.2 with ⟨hv, hz⟩ | ⟨g, cap, cur, hv, -⟩
    · omega
    · subst hv
      exact ⟨⟨_, _, h1, h2⟩, h3⟩
set_option maxRecDepth 100000 in
set_option maxHeartbeats 8000000 in
theorem poolAdd_any {w : World} {base P M : Nat} {F : Nat → Prop} {out : List Nd} (h : Pool w base P M F out) (y : Nd) {A : Option Addr} {n c : Nat} (hI : Ints w A n c y.args) (hA : n = 0 → A = none ∧ c = 0) (hAF : ∀ b off, A = some ⟨b, off, none⟩ → ¬ F b) (hy : Fine y) (hlen : out.length < 1000000) :
    Calls Tryz.prog 41 #[.pointer (some ⟨P, 0, none⟩), .agg #[.int .i64 y.op, .int .i64 y.width, .int .i64 y.flags, .slice A n c, .int .u32 y.imm]] w fun e w' => e = .returned (.int .i64 ((ix out y : Nat) : Int)) ∧ (∃ F', Pool w' base P M F' (addP out y) ∧ (∀ b, F b → F' b) ∧ ∀ b, F' b → F b ∨ w.heap.size ≤ b) ∧ KeepF F w w' := by
  obtain ⟨nv, av, D, h⟩ := h
  have n3 : n ≤ 3 := by have := fine_len hy; have := hI.1; omega
  have H := Lib.hid h
  have HII := Lib.hid hI
  have HA := Lib.hid hA
  have HAF := Lib.hid hAF
  have HY := Lib.hid hy
  have hcap := hI.2.1
  have hmax := hI.2.2.1
  have HPB := Lib.hid h.blk
  have HN := Lib.hid hI.1
  clear h hI hA hAF hy
  obtain ⟨op, wid, fl, args, imm⟩ := y
  simp only at HII HN ⊢
  go_enter Tryz.func41, Tryz.ntmps41
  go_upto_region 1 with fail
  have hx := heap_alloc_new w (.cells #[.int .i64 op, .int .i64 wid, .int .i64 fl, .slice A n c, .int .u32 imm] 38)
  have hb : Below w.heap.size w (w.alloc (.cells #[.int .i64 op, .int .i64 wid, .int .i64 fl, .slice A n c, .int .u32 imm] 38)) := (Below.refl _ _).alloc (Nat.le_refl _) _
  generalize World.alloc w _ = W1 at hx hb ⊢
  obtain ⟨X, hXE⟩ : ∃ X, w.heap.size = X := ⟨_, rfl⟩
  have HXE := Lib.hid hXE
  rw [hXE] at hx ⊢
  obtain ⟨b0, b1, b2, b3, b4⟩ := cells5 (x := ⟨op, wid, fl, args, imm⟩) hx
  simp only at b0 b1 b2 b3 b4
  have hXl := lt_of_block hx
  clear hXE
  go_upto_region 2 with fail
  have hKk := heap_alloc_new W1 (.cells #[.int .i64 op, .int .i64 wid, .int .i64 fl, .int .u32 imm, .int .i64 0, .int .i64 0, .int .i64 0] 99)
  have hx2 := (heap_alloc_old W1 (.cells #[.int .i64 op, .int .i64 wid, .int .i64 fl, .int .u32 imm, .int .i64 0, .int .i64 0, .int .i64 0] 99) hXl).trans hx
  have hb2 := hb.alloc hb.size (.cells #[.int .i64 op, .int .i64 wid, .int .i64 fl, .int .u32 imm, .int .i64 0, .int .i64 0, .int .i64 0] 99)
  have hbs := hb.size
  generalize World.alloc W1 _ = W2 at hKk hx2 hb2 ⊢
  obtain ⟨Kb, hKE⟩ : ∃ Kb, W1.heap.size = Kb := ⟨_, rfl⟩
  rw [hKE] at hKk hXl hbs ⊢
  clear hx hb b0 b1 b2 b3 b4
  clear hKE
  have HKk := Lib.hid hKk
  have HX2 := Lib.hid hx2
  have HB2 := Lib.hid hb2
  have HS := Lib.hid (show ∀ U, Below Kb W2 U → U.cell? ⟨X, 3, none⟩ = some (.slice A n c) from fun U hU => (cells5 (x := ⟨op, wid, fl, args, imm⟩) ((hU.block _ hXl).trans hx2)).2.2.2.1)
  clear hKk hx2 hb2
  refine wp_region_held_drew (S := (fun U => U.cell? ⟨X, 3, none⟩ = some (.slice A n c))) (by kernel_rfl) ?_ (fun hHeld => ?_)
  · exact HS.out _ (by first | exact Below.refl _ _ | exact drewD (Below.refl _ _) | exact hb3)
  refine wpAnyH_take (i := 0) (oi := ({ dst := some 17, op := Op.fieldAddr 99 (Operand.tmp 5) 4, type := 0, pos := "pool.go:36", after := #[], guard := none } : Oper)) (v := ?a1_v0) rfl (by kernel_rfl) (by kernel_rfl) (by kernel_rfl) (fun _ _ _ h => h) (Or.inl ⟨by rfl, ?a1_y0⟩) (by assumption) ?a1_r0
  case a1_y0 =>
    intro w hSw
    (try dsimp only at hSw)
    go_simp
    (try with_reducible rfl)
  try simp only [Act.put, List.setIfInBounds_toArray, List.set_cons_zero, List.set_cons_succ]
  refine wpAnyH_take (i := 1) (oi := ({ dst := some 18, op := Op.slice 97 (Operand.tmp 17) none none none, type := 35, pos := "pool.go:36", after := #[{ on := 0, ground := Ground.data }], guard := none } : Oper)) (v := ?a2_v1) rfl (by kernel_rfl) (by kernel_rfl) (by kernel_rfl) (fun _ _ _ h => h) (Or.inl ⟨by rfl, ?a2_y1⟩) (by assumption) ?a2_r1
  case a2_y1 =>
    intro w hSw
    (try dsimp only at hSw)
    go_simp
    (try with_reducible rfl)
  try simp only [Act.put, List.setIfInBounds_toArray, List.set_cons_zero, List.set_cons_succ]
  refine wpAnyH_take (i := 2) (oi := ({ dst := some 19, op := Op.fieldAddr 38 (Operand.tmp 3) 3, type := 0, pos := "pool.go:36", after := #[], guard := none } : Oper)) (v := ?a3_v2) rfl (by kernel_rfl) (by kernel_rfl) (by kernel_rfl) (fun _ _ _ h => h) (Or.inl ⟨by rfl, ?a3_y2⟩) (by assumption) ?a3_r2
  case a3_y2 =>
    intro w hSw
    (try dsimp only at hSw)
    go_simp
    (try with_reducible rfl)
  try simp only [Act.put, List.setIfInBounds_toArray, List.set_cons_zero, List.set_cons_succ]
  refine wpAnyH_take (i := 3) (oi := ({ dst := some 20, op := Op.load 35 (Operand.tmp 19), type := 35, pos := "pool.go:36", after := #[{ on := 2, ground := Ground.data }], guard := none } : Oper)) (v := ?a4_v3) rfl (by kernel_rfl) (by kernel_rfl) (by kernel_rfl) (fun _ _ _ h => h) (Or.inl ⟨by rfl, ?a4_y3⟩) (by assumption) ?a4_r3
  case a4_y3 =>
    intro w hSw
    (try dsimp only at hSw)
    go_simp
    (try with_reducible rfl)
  try simp only [Act.put, List.setIfInBounds_toArray, List.set_cons_zero, List.set_cons_succ]
  refine wpAnyH_ready (rs := [4]) (by kernel_rfl) (by simp) ?_
  refine AllReadyH.cons (o := ({ dst := some 21, op := Op.call { callee := Callee.builtin Builtin.copy, args := #[Operand.tmp 18, Operand.tmp 20], argTypes := #[35, 35] }, type := 3, pos := "pool.go:36", after := #[{ on := 1, ground := Ground.data }, { on := 3, ground := Ground.data }], guard := none } : Oper)) rfl (fun K hKK => ?_) AllReadyH.nil
  refine step_copy_splice rfl _ _ _ _ rfl 3 Tryz.underlying35 (by kernel_rfl) _ _ _ _ _ _ rfl rfl Kb 4 [.int .i64 op, .int .i64 wid, .int .i64 fl, .int .u32 imm, .int .i64 0, .int .i64 0, .int .i64 0] 99 HKk.out (iV args) ?hn ?hpos ?hfit ?hone Kb W2 (drewD (Below.refl _ _)) (Nat.le_refl _) (fun w3 hblk hb3 => ?_)
  case hn => rw [iV, List.length_map, ← HN.out]; exact (Nat.min_eq_left n3).symm
  case hpos =>
    intro h0
    rw [iV, List.length_map, ← HN.out] at h0
    obtain ⟨bA, oA, hA1, hA2, -⟩ := (HII.out.below HB2.out).at_ h0
    subst hA1
    refine ⟨rfl, _, rfl, fun j v hj => ?_⟩
    have hjn : j < n := by
      have h1 := (List.getElem?_eq_some_iff.1 hj).1
      rw [iV, List.length_map, ← HN.out] at h1
      exact h1
    obtain ⟨bA', oA', e, -, hc⟩ := (HII.out.below HB2.out).at_ hjn
    injection e with e
    injection e with e e2 _
    subst e e2
    rw [Addr.add_lit]
    have hlen := HN.out
    have e : (iV args)[j]? = some (Value.int .i64 args[j]!) := by simp [iV, show j < args.length by omega]
    rw [e] at hj
    exact hc.trans hj
  case hfit => rw [iV, List.length_map, ← HN.out]; simp; omega
  case hone => intro u hu; obtain ⟨x, _, rfl⟩ := List.mem_map.1 hu; rfl
  refine hKK.out _ _ (HS.out _ (by first | exact Below.refl _ _ | exact drewD (Below.refl _ _) | exact hb3)) (fun hS4_4 => ?_)
  try simp only [Act.put, List.setIfInBounds_toArray, List.set_cons_zero, List.set_cons_succ]
  refine wpAnyH_done (by kernel_rfl) ?_ _
  have hK3 : w3.heap[Kb]? = some (.cells #[.int .i64 op, .int .i64 wid, .int .i64 fl, .int .u32 imm, .int .i64 (argK args 0), .int .i64 (argK args 1), .int .i64 (argK args 2)] 99 (0, 0)) := by
    rw [← splice_key _ _ _ _ args (by rw [← HN.out]; exact n3)]
    exact hblk.out
  have hX3 := (hb3.block _ hXl).trans HX2.out
  have hbw : Below w.heap.size w w3 := HB2.out.trans (hb3.mono hbs)
  have hP3 := H.out.below hbw
  have HS3 := Lib.hid (show ∀ U, Below w3.heap.size w3 U → U.cell? ⟨P, 1, none⟩ = some (.map (some M)) ∧ (U.cell? ⟨Kb, 0, none⟩ = some (.int .i64 op) ∧ U.cell? ⟨Kb, 1, none⟩ = some (.int .i64 wid) ∧ U.cell? ⟨Kb, 2, none⟩ = some (.int .i64 fl) ∧ U.cell? ⟨Kb, 3, none⟩ = some (.int .u32 imm) ∧ U.cell? ⟨Kb, 4, none⟩ = some (.int .i64 (argK args 0)) ∧ U.cell? ⟨Kb, 5, none⟩ = some (.int .i64 (argK args 1)) ∧ U.cell? ⟨Kb, 6, none⟩ = some (.int .i64 (argK args 2))) ∧ (Instr.lookup 73 (.map (some M)) (.agg #[.int .i64 op, .int .i64 wid, .int .i64 fl, .int .u32 imm, .int .i64 (argK args 0), .int .i64 (argK args 1), .int .i64 (argK args 2)]) true).run Tryz.prog U = .ok (.tuple #[.int .i64 (if ix out ⟨op, wid, fl, args, imm⟩ < out.length then ((ix out ⟨op, wid, fl, args, imm⟩ : Nat) : Int) else 0), .bool (decide (ix out ⟨op, wid, fl, args, imm⟩ < out.length))]) U from fun U hU => by
    have hP := hP3.below hU
    exact ⟨(cells2 hP.blk).2, cells7 ((hU.block _ (lt_of_block hK3)).trans hK3), pool_look hP HY.out⟩)
  have HK3 := Lib.hid hK3
  have HX3 := Lib.hid hX3
  have HBW := Lib.hid hbw
  have HP3 := Lib.hid hP3
  clear hblk hK3 hX3 hbw hP3 hb3 HS HKk HX2 HB2
  have HKV := Lib.hid (show keyV ⟨op, wid, fl, args, imm⟩ = .agg #[.int .i64 op, .int .i64 wid, .int .i64 fl, .int .u32 imm, .int .i64 (argK args 0), .int .i64 (argK args 1), .int .i64 (argK args 2)] from rfl)
  generalize argK args 0 = k0 at HS3 HK3 HKV
  generalize argK args 1 = k1 at HS3 HK3 HKV
  generalize argK args 2 = k2 at HS3 HK3 HKV
  by_cases hin : ix out ⟨op, wid, fl, args, imm⟩ < out.length
  · have HAO := Lib.hid (addP_old hin)
    rw [if_pos hin, decide_eq_true hin] at HS3
    clear hin
    obtain ⟨i, hi⟩ : ∃ i, ix out ⟨op, wid, fl, args, imm⟩ = i := ⟨_, rfl⟩
    have HIX := Lib.hid (show (i : Int) = ((ix out ⟨op, wid, fl, args, imm⟩ : Nat) : Int) by rw [hi])
    rw [hi] at HS3
    clear hi
    go_upto_region 3 with fail
    refine wp_region_held_drew (S := (fun U => U.cell? ⟨P, 1, none⟩ = some (.map (some M)) ∧ (U.cell? ⟨Kb, 0, none⟩ = some (.int .i64 op) ∧ U.cell? ⟨Kb, 1, none⟩ = some (.int .i64 wid) ∧ U.cell? ⟨Kb, 2, none⟩ = some (.int .i64 fl) ∧ U.cell? ⟨Kb, 3, none⟩ = some (.int .u32 imm) ∧ U.cell? ⟨Kb, 4, none⟩ = some (.int .i64 k0) ∧ U.cell? ⟨Kb, 5, none⟩ = some (.int .i64 k1) ∧ U.cell? ⟨Kb, 6, none⟩ = some (.int .i64 k2)) ∧ (Instr.lookup 73 (.map (some M)) (.agg #[.int .i64 op, .int .i64 wid, .int .i64 fl, .int .u32 imm, .int .i64 k0, .int .i64 k1, .int .i64 k2]) true).run Tryz.prog U = .ok (.tuple #[.int .i64 (i : Int), .bool true]) U)) (by kernel_rfl) ?_ (fun hHeld => ?_)
    · exact HS3.out _ (by first | exact Below.refl _ _ | exact drewD (Below.refl _ _) | exact drewR (Below.refl _ _))
    refine wpAnyH_take (i := 0) (oi := ({ dst := some 23, op := Op.move (Operand.tmp 0), type := 51, pos := "pool.go:37", after := #[], guard := none } : Oper)) (v := ?b1_v0) rfl (by kernel_rfl) (by kernel_rfl) (by kernel_rfl) (fun _ _ _ h => h) (Or.inl ⟨by rfl, ?b1_y0⟩) (by assumption) ?b1_r0
    case b1_y0 =>
      intro w hSw
      (try dsimp only at hSw)
      go_simp
      (try with_reducible rfl)
    try simp only [Act.put, List.setIfInBounds_toArray, List.set_cons_zero, List.set_cons_succ]
    refine wpAnyH_take (i := 1) (oi := ({ dst := some 24, op := Op.nilCheck (Operand.tmp 23), type := 0, pos := "pool.go:37", after := #[{ on := 0, ground := Ground.data }], guard := none } : Oper)) (v := ?b2_v1) rfl (by kernel_rfl) (by kernel_rfl) (by kernel_rfl) (fun _ _ _ h => h) (Or.inl ⟨by rfl, ?b2_y1⟩) (by assumption) ?b2_r1
    case b2_y1 =>
      intro w hSw
      (try dsimp only at hSw)
      go_simp
      (try with_reducible rfl)
    try simp only [Act.put, List.setIfInBounds_toArray, List.set_cons_zero, List.set_cons_succ]
    refine wpAnyH_take (i := 2) (oi := ({ dst := some 25, op := Op.fieldAddr 75 (Operand.tmp 24) 1, type := 0, pos := "pool.go:37", after := #[{ on := 1, ground := Ground.data }], guard := none } : Oper)) (v := ?b3_v2) rfl (by kernel_rfl) (by kernel_rfl) (by kernel_rfl) (fun _ _ _ h => h) (Or.inl ⟨by rfl, ?b3_y2⟩) (by assumption) ?b3_r2
    case b3_y2 =>
      intro w hSw
      (try dsimp only at hSw)
      go_simp
      (try with_reducible rfl)
    try simp only [Act.put, List.setIfInBounds_toArray, List.set_cons_zero, List.set_cons_succ]
    refine wpAnyH_take (i := 3) (oi := ({ dst := some 26, op := Op.load 73 (Operand.tmp 25), type := 73, pos := "pool.go:37", after := #[{ on := 2, ground := Ground.data }], guard := none } : Oper)) (v := ?b4_v3) rfl (by kernel_rfl) (by kernel_rfl) (by kernel_rfl) (fun _ _ _ h => h) (Or.inl ⟨by rfl, ?b4_y3⟩) (by assumption) ?b4_r3
    case b4_y3 =>
      intro w hSw
      (try dsimp only at hSw)
      go_simp
      (try with_reducible rfl)
    try simp only [Act.put, List.setIfInBounds_toArray, List.set_cons_zero, List.set_cons_succ]
    refine wpAnyH_take (i := 4) (oi := ({ dst := some 27, op := Op.load 99 (Operand.tmp 5), type := 99, pos := "pool.go:37", after := #[], guard := none } : Oper)) (v := ?b5_v4) rfl (by kernel_rfl) (by kernel_rfl) (by kernel_rfl) (fun _ _ _ h => h) (Or.inl ⟨by rfl, ?b5_y4⟩) (by assumption) ?b5_r4
    case b5_y4 =>
      intro w hSw
      (try dsimp only at hSw)
      go_simp
      (try with_reducible rfl)
    try simp only [Act.put, List.setIfInBounds_toArray, List.set_cons_zero, List.set_cons_succ]
    refine wpAnyH_take (i := 5) (oi := ({ dst := some 28, op := Op.lookup 73 (Operand.tmp 26) (Operand.tmp 27) true, type := 79, pos := "pool.go:37", after := #[{ on := 3, ground := Ground.data }, { on := 4, ground := Ground.data }], guard := none } : Oper)) (v := ?b6_v5) rfl (by kernel_rfl) (by kernel_rfl) (by kernel_rfl) (fun _ _ _ h => h) (Or.inl ⟨by rfl, ?b6_y5⟩) (by assumption) ?b6_r5
    case b6_y5 =>
      intro w hSw
      (try dsimp only at hSw)
      go_simp
      (try with_reducible rfl)
    try simp only [Act.put, List.setIfInBounds_toArray, List.set_cons_zero, List.set_cons_succ]
    refine wpAnyH_take (i := 6) (oi := ({ dst := some 22, op := Op.move (Operand.tmp 28), type := 79, pos := "pool.go:37", after := #[{ on := 5, ground := Ground.data }], guard := none } : Oper)) (v := ?b7_v6) rfl (by kernel_rfl) (by kernel_rfl) (by kernel_rfl) (fun _ _ _ h => h) (Or.inl ⟨by rfl, ?b7_y6⟩) (by assumption) ?b7_r6
    case b7_y6 =>
      intro w hSw
      (try dsimp only at hSw)
      go_simp
      (try with_reducible rfl)
    try simp only [Act.put, List.setIfInBounds_toArray, List.set_cons_zero, List.set_cons_succ]
    refine wpAnyH_take (i := 7) (oi := ({ dst := some 29, op := Op.extract (Operand.tmp 22) 0, type := 3, pos := "pool.go:37", after := #[{ on := 6, ground := Ground.data }], guard := none } : Oper)) (v := ?b8_v7) rfl (by kernel_rfl) (by kernel_rfl) (by kernel_rfl) (fun _ _ _ h => h) (Or.inl ⟨by rfl, ?b8_y7⟩) (by assumption) ?b8_r7
    case b8_y7 =>
      intro w hSw
      (try dsimp only at hSw)
      go_simp
      (try with_reducible rfl)
    try simp only [Act.put, List.setIfInBounds_toArray, List.set_cons_zero, List.set_cons_succ]
    refine wpAnyH_take (i := 8) (oi := ({ dst := some 30, op := Op.extract (Operand.tmp 22) 1, type := 4, pos := "pool.go:37", after := #[{ on := 6, ground := Ground.data }, { on := 9, ground := Ground.gcOnly Departure.lateStores }], guard := none } : Oper)) (v := ?b9_v8) rfl (by kernel_rfl) (by kernel_rfl) (by kernel_rfl) (fun _ _ _ h => h) (Or.inl ⟨by rfl, ?b9_y8⟩) (by assumption) ?b9_r8
    case b9_y8 =>
      intro w hSw
      (try dsimp only at hSw)
      go_simp
      (try with_reducible rfl)
    try simp only [Act.put, List.setIfInBounds_toArray, List.set_cons_zero, List.set_cons_succ]
    refine wpAnyH_take (i := 9) (oi := ({ dst := some 6, op := Op.assign (Operand.tmp 29), type := 3, pos := "pool.go:37", after := #[{ on := 7, ground := Ground.data }, { on := 0, ground := Ground.phase }, { on := 1, ground := Ground.phase }, { on := 2, ground := Ground.phase }, { on := 3, ground := Ground.phase }, { on := 4, ground := Ground.phase }, { on := 5, ground := Ground.phase }, { on := 6, ground := Ground.phase }, { on := 7, ground := Ground.phase }, { on := 8, ground := Ground.textOnly Departure.lateStores }], guard := none } : Oper)) (v := ?b10_v9) rfl (by kernel_rfl) (by kernel_rfl) (by kernel_rfl) (fun _ _ _ h => h) (Or.inl ⟨by rfl, ?b10_y9⟩) (by assumption) ?b10_r9
    case b10_y9 =>
      intro w hSw
      (try dsimp only at hSw)
      go_simp
      (try with_reducible rfl)
    try simp only [Act.put, List.setIfInBounds_toArray, List.set_cons_zero, List.set_cons_succ]
    refine wpAnyH_take (i := 10) (oi := ({ dst := some 7, op := Op.assign (Operand.tmp 30), type := 4, pos := "pool.go:37", after := #[{ on := 8, ground := Ground.data }, { on := 9, ground := Ground.chain }, { on := 0, ground := Ground.phase }, { on := 1, ground := Ground.phase }, { on := 2, ground := Ground.phase }, { on := 3, ground := Ground.phase }, { on := 4, ground := Ground.phase }, { on := 5, ground := Ground.phase }, { on := 6, ground := Ground.phase }, { on := 7, ground := Ground.phase }, { on := 8, ground := Ground.phase }, { on := 9, ground := Ground.phase }], guard := none } : Oper)) (v := ?b11_v10) rfl (by kernel_rfl) (by kernel_rfl) (by kernel_rfl) (fun _ _ _ h => h) (Or.inl ⟨by rfl, ?b11_y10⟩) (by assumption) ?b11_r10
    case b11_y10 =>
      intro w hSw
      (try dsimp only at hSw)
      go_simp
      (try with_reducible rfl)
    try simp only [Act.put, List.setIfInBounds_toArray, List.set_cons_zero, List.set_cons_succ]
    refine wpAnyH_done (by kernel_rfl) ?_ _
    go_wp2
    go_ret
    exact ⟨by exact ret_i HIX.out, ⟨F, by rw [HAO.out]; exact ⟨nv, av, D, HP3.out.below (drewD (Below.refl _ _))⟩, fun _ h => h, fun _ h => .inl h⟩, keep_of_below (drewD HBW.out)⟩
  · have HNI := Lib.hid hin
    have HIX := Lib.hid (show ((out.length : Nat) : Int) = ((ix out ⟨op, wid, fl, args, imm⟩ : Nat) : Int) by have := ix_le out ⟨op, wid, fl, args, imm⟩; omega)
    rw [if_neg hin, decide_eq_false hin] at HS3
    clear hin
    obtain ⟨An, cn, hnv, hcn⟩ := pool_slice H.out
    obtain ⟨m, hm⟩ : ∃ m, out.length = m := ⟨_, rfl⟩
    have HM := Lib.hid hm
    have HNV := Lib.hid hnv
    go_upto_region 3 with fail
    refine wp_region_held_drew (S := (fun U => U.cell? ⟨P, 1, none⟩ = some (.map (some M)) ∧ (U.cell? ⟨Kb, 0, none⟩ = some (.int .i64 op) ∧ U.cell? ⟨Kb, 1, none⟩ = some (.int .i64 wid) ∧ U.cell? ⟨Kb, 2, none⟩ = some (.int .i64 fl) ∧ U.cell? ⟨Kb, 3, none⟩ = some (.int .u32 imm) ∧ U.cell? ⟨Kb, 4, none⟩ = some (.int .i64 k0) ∧ U.cell? ⟨Kb, 5, none⟩ = some (.int .i64 k1) ∧ U.cell? ⟨Kb, 6, none⟩ = some (.int .i64 k2)) ∧ (Instr.lookup 73 (.map (some M)) (.agg #[.int .i64 op, .int .i64 wid, .int .i64 fl, .int .u32 imm, .int .i64 k0, .int .i64 k1, .int .i64 k2]) true).run Tryz.prog U = .ok (.tuple #[.int .i64 0, .bool false]) U)) (by kernel_rfl) ?_ (fun hHeld => ?_)
    · exact HS3.out _ (by first | exact Below.refl _ _ | exact drewD (Below.refl _ _) | exact drewR (Below.refl _ _))
    refine wpAnyH_take (i := 0) (oi := ({ dst := some 23, op := Op.move (Operand.tmp 0), type := 51, pos := "pool.go:37", after := #[], guard := none } : Oper)) (v := ?c1_v0) rfl (by kernel_rfl) (by kernel_rfl) (by kernel_rfl) (fun _ _ _ h => h) (Or.inl ⟨by rfl, ?c1_y0⟩) (by assumption) ?c1_r0
    case c1_y0 =>
      intro w hSw
      (try dsimp only at hSw)
      go_simp
      (try with_reducible rfl)
    try simp only [Act.put, List.setIfInBounds_toArray, List.set_cons_zero, List.set_cons_succ]
    refine wpAnyH_take (i := 1) (oi := ({ dst := some 24, op := Op.nilCheck (Operand.tmp 23), type := 0, pos := "pool.go:37", after := #[{ on := 0, ground := Ground.data }], guard := none } : Oper)) (v := ?c2_v1) rfl (by kernel_rfl) (by kernel_rfl) (by kernel_rfl) (fun _ _ _ h => h) (Or.inl ⟨by rfl, ?c2_y1⟩) (by assumption) ?c2_r1
    case c2_y1 =>
      intro w hSw
      (try dsimp only at hSw)
      go_simp
      (try with_reducible rfl)
    try simp only [Act.put, List.setIfInBounds_toArray, List.set_cons_zero, List.set_cons_succ]
    refine wpAnyH_take (i := 2) (oi := ({ dst := some 25, op := Op.fieldAddr 75 (Operand.tmp 24) 1, type := 0, pos := "pool.go:37", after := #[{ on := 1, ground := Ground.data }], guard := none } : Oper)) (v := ?c3_v2) rfl (by kernel_rfl) (by kernel_rfl) (by kernel_rfl) (fun _ _ _ h => h) (Or.inl ⟨by rfl, ?c3_y2⟩) (by assumption) ?c3_r2
    case c3_y2 =>
      intro w hSw
      (try dsimp only at hSw)
      go_simp
      (try with_reducible rfl)
    try simp only [Act.put, List.setIfInBounds_toArray, List.set_cons_zero, List.set_cons_succ]
    refine wpAnyH_take (i := 3) (oi := ({ dst := some 26, op := Op.load 73 (Operand.tmp 25), type := 73, pos := "pool.go:37", after := #[{ on := 2, ground := Ground.data }], guard := none } : Oper)) (v := ?c4_v3) rfl (by kernel_rfl) (by kernel_rfl) (by kernel_rfl) (fun _ _ _ h => h) (Or.inl ⟨by rfl, ?c4_y3⟩) (by assumption) ?c4_r3
    case c4_y3 =>
      intro w hSw
      (try dsimp only at hSw)
      go_simp
      (try with_reducible rfl)
    try simp only [Act.put, List.setIfInBounds_toArray, List.set_cons_zero, List.set_cons_succ]
    refine wpAnyH_take (i := 4) (oi := ({ dst := some 27, op := Op.load 99 (Operand.tmp 5), type := 99, pos := "pool.go:37", after := #[], guard := none } : Oper)) (v := ?c5_v4) rfl (by kernel_rfl) (by kernel_rfl) (by kernel_rfl) (fun _ _ _ h => h) (Or.inl ⟨by rfl, ?c5_y4⟩) (by assumption) ?c5_r4
    case c5_y4 =>
      intro w hSw
      (try dsimp only at hSw)
      go_simp
      (try with_reducible rfl)
    try simp only [Act.put, List.setIfInBounds_toArray, List.set_cons_zero, List.set_cons_succ]
    refine wpAnyH_take (i := 5) (oi := ({ dst := some 28, op := Op.lookup 73 (Operand.tmp 26) (Operand.tmp 27) true, type := 79, pos := "pool.go:37", after := #[{ on := 3, ground := Ground.data }, { on := 4, ground := Ground.data }], guard := none } : Oper)) (v := ?c6_v5) rfl (by kernel_rfl) (by kernel_rfl) (by kernel_rfl) (fun _ _ _ h => h) (Or.inl ⟨by rfl, ?c6_y5⟩) (by assumption) ?c6_r5
    case c6_y5 =>
      intro w hSw
      (try dsimp only at hSw)
      go_simp
      (try with_reducible rfl)
    try simp only [Act.put, List.setIfInBounds_toArray, List.set_cons_zero, List.set_cons_succ]
    refine wpAnyH_take (i := 6) (oi := ({ dst := some 22, op := Op.move (Operand.tmp 28), type := 79, pos := "pool.go:37", after := #[{ on := 5, ground := Ground.data }], guard := none } : Oper)) (v := ?c7_v6) rfl (by kernel_rfl) (by kernel_rfl) (by kernel_rfl) (fun _ _ _ h => h) (Or.inl ⟨by rfl, ?c7_y6⟩) (by assumption) ?c7_r6
    case c7_y6 =>
      intro w hSw
      (try dsimp only at hSw)
      go_simp
      (try with_reducible rfl)
    try simp only [Act.put, List.setIfInBounds_toArray, List.set_cons_zero, List.set_cons_succ]
    refine wpAnyH_take (i := 7) (oi := ({ dst := some 29, op := Op.extract (Operand.tmp 22) 0, type := 3, pos := "pool.go:37", after := #[{ on := 6, ground := Ground.data }], guard := none } : Oper)) (v := ?c8_v7) rfl (by kernel_rfl) (by kernel_rfl) (by kernel_rfl) (fun _ _ _ h => h) (Or.inl ⟨by rfl, ?c8_y7⟩) (by assumption) ?c8_r7
    case c8_y7 =>
      intro w hSw
      (try dsimp only at hSw)
      go_simp
      (try with_reducible rfl)
    try simp only [Act.put, List.setIfInBounds_toArray, List.set_cons_zero, List.set_cons_succ]
    refine wpAnyH_take (i := 8) (oi := ({ dst := some 30, op := Op.extract (Operand.tmp 22) 1, type := 4, pos := "pool.go:37", after := #[{ on := 6, ground := Ground.data }, { on := 9, ground := Ground.gcOnly Departure.lateStores }], guard := none } : Oper)) (v := ?c9_v8) rfl (by kernel_rfl) (by kernel_rfl) (by kernel_rfl) (fun _ _ _ h => h) (Or.inl ⟨by rfl, ?c9_y8⟩) (by assumption) ?c9_r8
    case c9_y8 =>
      intro w hSw
      (try dsimp only at hSw)
      go_simp
      (try with_reducible rfl)
    try simp only [Act.put, List.setIfInBounds_toArray, List.set_cons_zero, List.set_cons_succ]
    refine wpAnyH_take (i := 9) (oi := ({ dst := some 6, op := Op.assign (Operand.tmp 29), type := 3, pos := "pool.go:37", after := #[{ on := 7, ground := Ground.data }, { on := 0, ground := Ground.phase }, { on := 1, ground := Ground.phase }, { on := 2, ground := Ground.phase }, { on := 3, ground := Ground.phase }, { on := 4, ground := Ground.phase }, { on := 5, ground := Ground.phase }, { on := 6, ground := Ground.phase }, { on := 7, ground := Ground.phase }, { on := 8, ground := Ground.textOnly Departure.lateStores }], guard := none } : Oper)) (v := ?c10_v9) rfl (by kernel_rfl) (by kernel_rfl) (by kernel_rfl) (fun _ _ _ h => h) (Or.inl ⟨by rfl, ?c10_y9⟩) (by assumption) ?c10_r9
    case c10_y9 =>
      intro w hSw
      (try dsimp only at hSw)
      go_simp
      (try with_reducible rfl)
    try simp only [Act.put, List.setIfInBounds_toArray, List.set_cons_zero, List.set_cons_succ]
    refine wpAnyH_take (i := 10) (oi := ({ dst := some 7, op := Op.assign (Operand.tmp 30), type := 4, pos := "pool.go:37", after := #[{ on := 8, ground := Ground.data }, { on := 9, ground := Ground.chain }, { on := 0, ground := Ground.phase }, { on := 1, ground := Ground.phase }, { on := 2, ground := Ground.phase }, { on := 3, ground := Ground.phase }, { on := 4, ground := Ground.phase }, { on := 5, ground := Ground.phase }, { on := 6, ground := Ground.phase }, { on := 7, ground := Ground.phase }, { on := 8, ground := Ground.phase }, { on := 9, ground := Ground.phase }], guard := none } : Oper)) (v := ?c11_v10) rfl (by kernel_rfl) (by kernel_rfl) (by kernel_rfl) (fun _ _ _ h => h) (Or.inl ⟨by rfl, ?c11_y10⟩) (by assumption) ?c11_r10
    case c11_y10 =>
      intro w hSw
      (try dsimp only at hSw)
      go_simp
      (try with_reducible rfl)
    try simp only [Act.put, List.setIfInBounds_toArray, List.set_cons_zero, List.set_cons_succ]
    refine wpAnyH_done (by kernel_rfl) ?_ _
    have hP4 := HP3.out.below (w' := w3.drew) (drewD (Below.refl _ _))
    have hbw4 := drewD HBW.out
    have hK4 : w3.drew.heap[Kb]? = _ := HK3.out
    have hX4 : w3.drew.heap[X]? = _ := HX3.out
    clear HS3 HK3 HX3 HP3 HBW
    generalize w3.drew = w4 at hP4 hbw4 hK4 hX4 ⊢
    have hPl := (hP4.lt P hP4.fP).1
    have hMl := (hP4.lt M hP4.fM).1
    obtain ⟨w5, hrun, hown5, hturn⟩ := (show w4.drew.ownsMap _ _ _ _ _ _ from hP4.map).store keyLaw Tryz.underlying73 (by unfold maxLen; omega) (keyL_of HY.out) (plainElem_int (H := Unit) Tryz.underlying3 (a := ((out.length : Nat) : Int)) (wf64 (by omega)))
    have hg5 := hturn.grown
    have hk5 : ∀ b, b < w4.heap.size → b ≠ M → w5.heap[b]? = w4.heap[b]? := fun b hb hne => hg5.block b hb (fun e => hne (by injection e))
    have hKl := lt_of_block hK4
    have hPM := hP4.ne
    have hMw := (H.out.lt M H.out.fM).1
    have hKM : Kb ≠ M := by omega
    have hblk4 : w4.heap[P]? = some (.cells #[.slice An out.length cn, .map (some M)] 75 (0, 0)) := by rw [← hnv]; exact hP4.blk
    have HS6 := Lib.hid (show ∀ U : World, (∀ b, b < w4.heap.size → b ≠ M → U.heap[b]? = w4.heap[b]?) → ((U.cell? ⟨P, 0, none⟩ = some (.slice An out.length cn) ∧ U.frozen? ⟨P, 0, none⟩ = false) ∧ U.cell? ⟨P, 1, none⟩ = some (.map (some M))) ∧ (U.cell? ⟨Kb, 0, none⟩ = some (.int .i64 op) ∧ U.cell? ⟨Kb, 1, none⟩ = some (.int .i64 wid) ∧ U.cell? ⟨Kb, 2, none⟩ = some (.int .i64 fl) ∧ U.cell? ⟨Kb, 3, none⟩ = some (.int .u32 imm) ∧ U.cell? ⟨Kb, 4, none⟩ = some (.int .i64 k0) ∧ U.cell? ⟨Kb, 5, none⟩ = some (.int .i64 k1) ∧ U.cell? ⟨Kb, 6, none⟩ = some (.int .i64 k2)) from fun U hU => ⟨cells2 ((hU P hPl hPM).trans hblk4), cells7 ((hU Kb hKl hKM).trans hK4)⟩)
    rw [HKV.out] at hrun
    have HP4 := Lib.hid hP4
    have HX4 := Lib.hid hX4
    have HBW4 := Lib.hid hbw4
    have HO5 := Lib.hid hown5
    have HG5 := Lib.hid hg5
    have HK5 := Lib.hid hk5
    clear hP4 hX4 hbw4 hown5 hturn hg5 hK4 hnv hm hblk4 hk5
    go_upto_region 6 with fail
    refine wp_region_held_drew (S := (fun U => ((U.cell? ⟨P, 0, none⟩ = some (.slice An out.length cn) ∧ U.frozen? ⟨P, 0, none⟩ = false) ∧ U.cell? ⟨P, 1, none⟩ = some (.map (some M))) ∧ (U.cell? ⟨Kb, 0, none⟩ = some (.int .i64 op) ∧ U.cell? ⟨Kb, 1, none⟩ = some (.int .i64 wid) ∧ U.cell? ⟨Kb, 2, none⟩ = some (.int .i64 fl) ∧ U.cell? ⟨Kb, 3, none⟩ = some (.int .u32 imm) ∧ U.cell? ⟨Kb, 4, none⟩ = some (.int .i64 k0) ∧ U.cell? ⟨Kb, 5, none⟩ = some (.int .i64 k1) ∧ U.cell? ⟨Kb, 6, none⟩ = some (.int .i64 k2)))) (by kernel_rfl) ?_ (fun hHeld => ?_)
    · exact HS6.out _ (by first | exact fun b _ _ => rfl | exact HK5.out)
    refine wpAnyH_take (i := 0) (oi := ({ dst := some 33, op := Op.move (Operand.tmp 0), type := 51, pos := "pool.go:40", after := #[], guard := none } : Oper)) (v := ?d1_v0) rfl (by kernel_rfl) (by kernel_rfl) (by kernel_rfl) (fun _ _ _ h => h) (Or.inl ⟨by rfl, ?d1_y0⟩) (by assumption) ?d1_r0
    case d1_y0 =>
      intro w hSw
      (try dsimp only at hSw)
      go_simp
      (try with_reducible rfl)
    try simp only [Act.put, List.setIfInBounds_toArray, List.set_cons_zero, List.set_cons_succ]
    refine wpAnyH_take (i := 1) (oi := ({ dst := some 34, op := Op.nilCheck (Operand.tmp 33), type := 0, pos := "pool.go:40", after := #[{ on := 0, ground := Ground.data }], guard := none } : Oper)) (v := ?d2_v1) rfl (by kernel_rfl) (by kernel_rfl) (by kernel_rfl) (fun _ _ _ h => h) (Or.inl ⟨by rfl, ?d2_y1⟩) (by assumption) ?d2_r1
    case d2_y1 =>
      intro w hSw
      (try dsimp only at hSw)
      go_simp
      (try with_reducible rfl)
    try simp only [Act.put, List.setIfInBounds_toArray, List.set_cons_zero, List.set_cons_succ]
    refine wpAnyH_take (i := 2) (oi := ({ dst := some 35, op := Op.fieldAddr 75 (Operand.tmp 34) 1, type := 0, pos := "pool.go:40", after := #[{ on := 1, ground := Ground.data }], guard := none } : Oper)) (v := ?d3_v2) rfl (by kernel_rfl) (by kernel_rfl) (by kernel_rfl) (fun _ _ _ h => h) (Or.inl ⟨by rfl, ?d3_y2⟩) (by assumption) ?d3_r2
    case d3_y2 =>
      intro w hSw
      (try dsimp only at hSw)
      go_simp
      (try with_reducible rfl)
    try simp only [Act.put, List.setIfInBounds_toArray, List.set_cons_zero, List.set_cons_succ]
    refine wpAnyH_take (i := 3) (oi := ({ dst := some 36, op := Op.load 73 (Operand.tmp 35), type := 73, pos := "pool.go:40", after := #[{ on := 2, ground := Ground.data }], guard := none } : Oper)) (v := ?d4_v3) rfl (by kernel_rfl) (by kernel_rfl) (by kernel_rfl) (fun _ _ _ h => h) (Or.inl ⟨by rfl, ?d4_y3⟩) (by assumption) ?d4_r3
    case d4_y3 =>
      intro w hSw
      (try dsimp only at hSw)
      go_simp
      (try with_reducible rfl)
    try simp only [Act.put, List.setIfInBounds_toArray, List.set_cons_zero, List.set_cons_succ]
    refine wpAnyH_take (i := 4) (oi := ({ dst := some 37, op := Op.load 99 (Operand.tmp 5), type := 99, pos := "pool.go:40", after := #[], guard := none } : Oper)) (v := ?d5_v4) rfl (by kernel_rfl) (by kernel_rfl) (by kernel_rfl) (fun _ _ _ h => h) (Or.inl ⟨by rfl, ?d5_y4⟩) (by assumption) ?d5_r4
    case d5_y4 =>
      intro w hSw
      (try dsimp only at hSw)
      go_simp
      (try with_reducible rfl)
    try simp only [Act.put, List.setIfInBounds_toArray, List.set_cons_zero, List.set_cons_succ]
    refine wpAnyH_take (i := 5) (oi := ({ dst := some 38, op := Op.move (Operand.tmp 0), type := 51, pos := "pool.go:40", after := #[], guard := none } : Oper)) (v := ?d6_v5) rfl (by kernel_rfl) (by kernel_rfl) (by kernel_rfl) (fun _ _ _ h => h) (Or.inl ⟨by rfl, ?d6_y5⟩) (by assumption) ?d6_r5
    case d6_y5 =>
      intro w hSw
      (try dsimp only at hSw)
      go_simp
      (try with_reducible rfl)
    try simp only [Act.put, List.setIfInBounds_toArray, List.set_cons_zero, List.set_cons_succ]
    refine wpAnyH_take (i := 6) (oi := ({ dst := some 39, op := Op.nilCheck (Operand.tmp 38), type := 0, pos := "pool.go:40", after := #[{ on := 5, ground := Ground.data }], guard := none } : Oper)) (v := ?d7_v6) rfl (by kernel_rfl) (by kernel_rfl) (by kernel_rfl) (fun _ _ _ h => h) (Or.inl ⟨by rfl, ?d7_y6⟩) (by assumption) ?d7_r6
    case d7_y6 =>
      intro w hSw
      (try dsimp only at hSw)
      go_simp
      (try with_reducible rfl)
    try simp only [Act.put, List.setIfInBounds_toArray, List.set_cons_zero, List.set_cons_succ]
    refine wpAnyH_take (i := 7) (oi := ({ dst := some 40, op := Op.fieldAddr 75 (Operand.tmp 39) 0, type := 0, pos := "pool.go:40", after := #[{ on := 6, ground := Ground.data }], guard := none } : Oper)) (v := ?d8_v7) rfl (by kernel_rfl) (by kernel_rfl) (by kernel_rfl) (fun _ _ _ h => h) (Or.inl ⟨by rfl, ?d8_y7⟩) (by assumption) ?d8_r7
    case d8_y7 =>
      intro w hSw
      (try dsimp only at hSw)
      go_simp
      (try with_reducible rfl)
    try simp only [Act.put, List.setIfInBounds_toArray, List.set_cons_zero, List.set_cons_succ]
    refine wpAnyH_take (i := 8) (oi := ({ dst := some 41, op := Op.load 22 (Operand.tmp 40), type := 22, pos := "pool.go:40", after := #[{ on := 7, ground := Ground.data }], guard := none } : Oper)) (v := ?d9_v8) rfl (by kernel_rfl) (by kernel_rfl) (by kernel_rfl) (fun _ _ _ h => h) (Or.inl ⟨by rfl, ?d9_y8⟩) (by assumption) ?d9_r8
    case d9_y8 =>
      intro w hSw
      (try dsimp only at hSw)
      go_simp
      (try with_reducible rfl)
    try simp only [Act.put, List.setIfInBounds_toArray, List.set_cons_zero, List.set_cons_succ]
    refine wpAnyH_take (i := 9) (oi := ({ dst := some 42, op := Op.call { callee := Callee.builtin Builtin.len, args := #[Operand.tmp 41], argTypes := #[22] }, type := 3, pos := "pool.go:40", after := #[{ on := 8, ground := Ground.data }], guard := none } : Oper)) (v := ?d10_v9) rfl (by kernel_rfl) (by kernel_rfl) (by kernel_rfl) (fun _ _ _ h => h) (Or.inl ⟨by rfl, ?d10_y9⟩) (by assumption) ?d10_r9
    case d10_y9 =>
      intro w hSw
      (try dsimp only at hSw)
      go_simp
      (try with_reducible rfl)
    try simp only [Act.put, List.setIfInBounds_toArray, List.set_cons_zero, List.set_cons_succ]
    refine wpAnyH_ready (rs := [10]) (by kernel_rfl) (by simp) ?_
    refine AllReadyH.cons (o := ({ dst := none, op := Op.mapUpdate 73 (Operand.tmp 36) (Operand.tmp 37) (Operand.tmp 42), type := 0, pos := "pool.go:40", after := #[{ on := 3, ground := Ground.data }, { on := 4, ground := Ground.data }, { on := 9, ground := Ground.data }, { on := 0, ground := Ground.phase }, { on := 1, ground := Ground.phase }, { on := 2, ground := Ground.phase }, { on := 3, ground := Ground.phase }, { on := 4, ground := Ground.phase }, { on := 5, ground := Ground.phase }, { on := 6, ground := Ground.phase }, { on := 7, ground := Ground.phase }, { on := 8, ground := Ground.phase }, { on := 9, ground := Ground.phase }], guard := none } : Oper)) rfl (fun K hKK => ?_) AllReadyH.nil
    go_simp
    refine hKK.out _ _ (HS6.out _ (by first | exact fun b _ _ => rfl | exact HK5.out)) (fun hS10_10 => ?_)
    try simp only [Act.put, List.setIfInBounds_toArray, List.set_cons_zero, List.set_cons_succ]
    refine wpAnyH_done (by kernel_rfl) ?_ _
    have hMX : X ≠ M := by have := HXE.out; omega
    have hPX : P ≠ X := by have := HXE.out; have := (H.out.lt P H.out.fP).1; omega
    have hX4l : X < w4.heap.size := lt_of_block HX4.out
    have hX5 := (HK5.out X hX4l hMX).trans HX4.out
    have hs5 : w4.heap.size ≤ w5.heap.size := HG5.out.size
    have hb3c := (cells5 (x := ⟨op, wid, fl, args, imm⟩) hX5).2.2.2.1
    have hI5 : Ints w5 A n c args := (HII.out.below HBW4.out).move hs5 (fun b off e hb => HK5.out b hb (fun e2 => HAF.out b off e (by rw [e2]; exact H.out.fM)))
    have HCL := Lib.hid (clone_any hI5 HA.out (by omega))
    have hX5l := lt_of_block hX5
    clear hI5 hrun
    go_wp2_with fail
    refine HCL.out.mono ?_
    rintro e w6 ⟨⟨A', c', rfl, hown6⟩, hb6⟩
    have hX6 := (hb6.block X hX5l).trans hX5
    have hc6 : w6.cell? ⟨X, 3, none⟩ = some (.slice A n c) ∧ w6.frozen? ⟨X, 3, none⟩ = false := ⟨(cells5 (x := ⟨op, wid, fl, args, imm⟩) hX6).2.2.2.1, by simp [World.frozen?, hX6]⟩
    obtain ⟨hc6a, hc6b⟩ := hc6
    have hX6l := lt_of_block hX6
    clear HCL hb3c
    go_upto_region 8 with fail
    have hX7 : (w6.setCell ⟨X, 3, none⟩ (.slice A' n c')).heap[X]? = some (.cells #[.int .i64 op, .int .i64 wid, .int .i64 fl, .slice A' n c', .int .u32 imm] 38 (0, 0)) := (heap_setCell_same w6 X 3 _ _ _ hX6).trans rfl
    have hk7 : ∀ b, b ≠ X → (w6.setCell ⟨X, 3, none⟩ (.slice A' n c')).heap[b]? = w6.heap[b]? := fun b hb => heap_setCell_other w6 ⟨X, 3, none⟩ b _ hb
    have hs7 : (w6.setCell ⟨X, 3, none⟩ (.slice A' n c')).heap.size = w6.heap.size := by simp
    have hbc7 : Below X w6 (w6.setCell ⟨X, 3, none⟩ (.slice A' n c')) := (Below.refl X w6).setCell (p := ⟨X, 3, none⟩) (Nat.le_refl _) _
    generalize World.setCell w6 _ _ = w7 at hX7 hk7 hs7 hbc7 ⊢
    have hwX := HXE.out
    have hs4 := HBW4.out.size
    have hs6 := hb6.size
    have hk17 : ∀ b, b < w.heap.size → b ≠ M → w7.heap[b]? = w.heap[b]? := fun b hb hne => by
      rw [hk7 b (by omega), hb6.block b (by omega), HK5.out b (by omega) hne]
      exact HBW4.out.block b hb
    have hPw := (H.out.lt P H.out.fP).1
    have hP7 : w7.heap[P]? = some (.cells #[.slice An out.length cn, .map (some M)] 75 (0, 0)) := by
      rw [hk17 P hPw H.out.ne, ← HNV.out]
      exact HPB.out
    have hrow7 : w7.ownsRow base 38 5 (.slice An out.length cn) out.length (rowC out av) := by
      rw [← HNV.out]
      exact ownsRow_keep H.out.row fun b e => hk17 b (H.out.lt b (H.out.nvF b e).1).1 (H.out.nvF b e).2.2
    have hown7 : w7.ownsRow w5.heap.size 3 1 (.slice A' n c') n (iV args) := ownsRow_keep hown6 fun b e => hk7 b (by have := own_base hown6 b e; omega)
    have hmap7 : w7.ownsMap Tryz.prog 99 (plainElem (H := Unit) Tryz.prog 3) M (out.length + 1) (D.put (keyL ⟨op, wid, fl, args, imm⟩) (.lit (.int .i64 ((out.length : Nat) : Int)))) := by
      obtain ⟨es, clock, hMb, r⟩ := HO5.out
      exact ⟨es, clock, (hk7 M (fun e => hMX e.symm)).trans ((hb6.block M (by omega)).trans hMb), r⟩
    have hbase : base ≤ w.heap.size := by have := (H.out.lt P H.out.fP).2; omega
    have hX7l := lt_of_block hX7
    have hP7l := lt_of_block hP7
    obtain ⟨⟨c70, c70f⟩, -⟩ := cells2 hP7
    have HS8 := Lib.hid (show ∀ U : World, U.heap[X]? = some (.cells #[.int .i64 op, .int .i64 wid, .int .i64 fl, .slice A' n c', .int .u32 imm] 38 (0, 0)) → U.cell? ⟨X, 0, none⟩ = some (.int .i64 op) ∧ U.cell? ⟨X, 1, none⟩ = some (.int .i64 wid) ∧ U.cell? ⟨X, 2, none⟩ = some (.int .i64 fl) ∧ U.cell? ⟨X, 3, none⟩ = some (.slice A' n c') ∧ U.cell? ⟨X, 4, none⟩ = some (.int .u32 imm) from fun U hU => cells5 (x := ⟨op, wid, fl, args, imm⟩) hU)
    have hmut : ∀ o, (w7.alloc o).heap[X]? = some (.cells #[.int .i64 op, .int .i64 wid, .int .i64 fl, .slice A' n c', .int .u32 imm] 38 (0, 0)) := fun o => (heap_alloc_old w7 o hX7l).trans hX7
    have hnotX : (Value.slice An out.length cn).ownBlock ≠ some X := fun e => by
      rw [← HNV.out] at e
      have := (H.out.lt X (H.out.nvF X e).1).1
      omega
    have hnotP : (Value.slice An out.length cn).ownBlock ≠ some P := fun e => by
      rw [← HNV.out] at e
      exact (H.out.nvF P e).2.1 rfl
    obtain ⟨j0, ji, jz0, jz1, jz2⟩ := info_parts infoN
    have HS7 := Lib.hid hs7
    clear hs7
    have c7a : ∀ o, (w7.alloc o).cell? ⟨P, 0, none⟩ = some (.slice An out.length cn) := fun o => (cells2 ((heap_alloc_old w7 o hP7l).trans hP7)).1.1
    have HFIN := Lib.hid (show ∀ (A9 : Option Addr) (c9 : Nat) (w9 : World), w9.ownsRow base 38 5 (.slice A9 (out.length + 1) c9) (out.length + 1) (rowC out av ++ nodC ⟨op, wid, fl, args, imm⟩ (.slice A' n c')) → ((w7.alloc (.cells #[.int .i64 op, .int .i64 wid, .int .i64 fl, .slice A' n c', .int .u32 imm] 38)).drew).grownBy w9 (Value.slice An out.length cn).ownBlock → ((Value.slice A9 (out.length + 1) c9).ownBlock = (Value.slice An out.length cn).ownBlock ∨ (Value.slice A9 (out.length + 1) c9).ownBlock = some ((w7.alloc (.cells #[.int .i64 op, .int .i64 wid, .int .i64 fl, .slice A' n c', .int .u32 imm] 38)).drew).heap.size) →
        (∃ F', Pool (w9.setCell ⟨P, 0, none⟩ (.slice A9 (out.length + 1) c9)) base P M F' (addP out ⟨op, wid, fl, args, imm⟩) ∧ (∀ b, F b → F' b) ∧ ∀ b, F' b → F b ∨ w.heap.size ≤ b) ∧ KeepF F w (w9.setCell ⟨P, 0, none⟩ (.slice A9 (out.length + 1) c9)) from fun A9 c9 w9 hown9 hg9 hloc9 => by
      have hs9 := hg9.size
      have hs7 := HS7.out
      have hs8 : ((w7.alloc (.cells #[.int .i64 op, .int .i64 wid, .int .i64 fl, .slice A' n c', .int .u32 imm] 38)).drew).heap.size = w7.heap.size + 1 := by
        show (w7.alloc (.cells #[.int .i64 op, .int .i64 wid, .int .i64 fl, .slice A' n c', .int .u32 imm] 38)).heap.size = _
        simp
      rw [hs8] at hs9 hloc9
      have hk9 : ∀ b, b < w7.heap.size → (Value.slice An out.length cn).ownBlock ≠ some b → w9.heap[b]? = w7.heap[b]? := fun b hb hne => (hg9.block b (by rw [hs8]; omega) (fun e => hne e.symm)).trans (heap_alloc_old w7 _ hb)
      have hb10 : Below P w9 (w9.setCell ⟨P, 0, none⟩ (.slice A9 (out.length + 1) c9)) := (Below.refl P w9).setCell (p := ⟨P, 0, none⟩) (Nat.le_refl _) _
      have hk10 : ∀ b, b ≠ P → (w9.setCell ⟨P, 0, none⟩ (.slice A9 (out.length + 1) c9)).heap[b]? = w9.heap[b]? := fun b hb => heap_setCell_other w9 ⟨P, 0, none⟩ b _ hb
      have hP9 := (hk9 P hP7l hnotP).trans hP7
      have hP10 : (w9.setCell ⟨P, 0, none⟩ (.slice A9 (out.length + 1) c9)).heap[P]? = some (.cells #[.slice A9 (out.length + 1) c9, .map (some M)] 75 (0, 0)) := (heap_setCell_same w9 P 0 _ _ _ hP9).trans rfl
      have hs10 : (w9.setCell ⟨P, 0, none⟩ (.slice A9 (out.length + 1) c9)).heap.size = w9.heap.size := by simp
      generalize World.setCell w9 _ _ = w10 at hb10 hk10 hP10 hs10 ⊢
      have hkw : ∀ b, b < w.heap.size → b ≠ P → b ≠ M → nv.ownBlock ≠ some b → w10.heap[b]? = w.heap[b]? := fun b hb h1 h2 h3 => by
        rw [hk10 b h1, hk9 b (by omega) (by rw [← HNV.out]; exact h3)]
        exact hk17 b hb h2
      have hlocP : (Value.slice A9 (out.length + 1) c9).ownBlock ≠ some P := fun e => by
        rcases hloc9 with h | h
        · exact hnotP (h.symm.trans e)
        · rw [h] at e
          injection e with e
          omega
      refine ⟨pool_new H.out HY.out HNI.out (nv' := .slice A9 (out.length + 1) c9) (v' := .slice A' n c') (by omega) hbase hP10 ?_ (ownsRow_keep hown9 fun b e => hk10 b (fun h => hlocP (by rw [← h]; exact e))) ?_ ?_ ?_ hkw, ?_⟩
      · obtain ⟨es, clock, hMb, r⟩ := hmap7
        refine ⟨es, clock, ?_, r⟩
        rw [hk10 M (fun e => H.out.ne e.symm), hk9 M (by omega) (fun e => by rw [← HNV.out] at e; exact (H.out.nvF M e).2.2 rfl)]
        exact hMb
      · have hnl := HN.out
        rw [← hnl]
        refine own_base' (ownsRow_keep hown7 fun b e => ?_) (by omega)
        have hb1 := own_base hown7 b e
        have hb2 := own_lt hown7 b e
        rw [hk10 b (by omega), hk9 b hb2 (fun e2 => by rw [← HNV.out] at e2; have := (H.out.lt b (H.out.nvF b e2).1).1; omega)]
      · rw [HNV.out]
        rcases hloc9 with h | h
        · exact .inl h
        · exact .inr ⟨_, h, by omega⟩
      · intro b e e2
        have hb1 := own_base hown7 b e
        have hb2 := own_lt hown7 b e
        rcases hloc9 with h | h
        · rw [h] at e2
          rw [← HNV.out] at e2
          have := (H.out.lt b (H.out.nvF b e2).1).1
          omega
        · rw [h] at e2
          injection e2 with e2
          omega
      · refine ⟨?_, ?_, ?_, by omega, fun b hb hf => hkw b hb (fun e => hf (by rw [e]; exact H.out.fP)) (fun e => hf (by rw [e]; exact H.out.fM)) (fun e => hf (H.out.nvF b e).1)⟩
        · exact hb10.os.trans (hg9.os.trans (hbc7.os.trans (hb6.os.trans (HG5.out.os.trans HBW4.out.os))))
        · exact hb10.tape.trans (hg9.tape.trans (hbc7.tape.trans (hb6.tape.trans (HG5.out.tape.trans HBW4.out.tape))))
        · exact hb10.output.trans (hg9.output.trans (hbc7.output.trans (hb6.output.trans (HG5.out.output.trans HBW4.out.output)))))
    refine wp_region_held_drew (S := (fun U => U.cell? ⟨X, 0, none⟩ = some (.int .i64 op) ∧ U.cell? ⟨X, 1, none⟩ = some (.int .i64 wid) ∧ U.cell? ⟨X, 2, none⟩ = some (.int .i64 fl) ∧ U.cell? ⟨X, 3, none⟩ = some (.slice A' n c') ∧ U.cell? ⟨X, 4, none⟩ = some (.int .u32 imm))) (by kernel_rfl) ?_ (fun hHeld => ?_)
    · exact HS8.out _ (by first | exact hX7 | exact hmut _ | exact hX9 | exact hX10)
    refine wpAnyH_take (i := 0) (oi := ({ dst := some 47, op := Op.move (Operand.tmp 0), type := 51, pos := "pool.go:42", after := #[], guard := none } : Oper)) (v := ?e1_v0) rfl (by kernel_rfl) (by kernel_rfl) (by kernel_rfl) (fun _ _ _ h => h) (Or.inl ⟨by rfl, ?e1_y0⟩) (by assumption) ?e1_r0
    case e1_y0 =>
      intro w hSw
      (try dsimp only at hSw)
      go_simp
      (try with_reducible rfl)
    try simp only [Act.put, List.setIfInBounds_toArray, List.set_cons_zero, List.set_cons_succ]
    refine wpAnyH_take (i := 1) (oi := ({ dst := some 48, op := Op.move (Operand.tmp 0), type := 51, pos := "pool.go:42", after := #[], guard := none } : Oper)) (v := ?e2_v1) rfl (by kernel_rfl) (by kernel_rfl) (by kernel_rfl) (fun _ _ _ h => h) (Or.inl ⟨by rfl, ?e2_y1⟩) (by assumption) ?e2_r1
    case e2_y1 =>
      intro w hSw
      (try dsimp only at hSw)
      go_simp
      (try with_reducible rfl)
    try simp only [Act.put, List.setIfInBounds_toArray, List.set_cons_zero, List.set_cons_succ]
    refine wpAnyH_take (i := 2) (oi := ({ dst := some 49, op := Op.nilCheck (Operand.tmp 48), type := 0, pos := "pool.go:42", after := #[{ on := 1, ground := Ground.data }], guard := none } : Oper)) (v := ?e3_v2) rfl (by kernel_rfl) (by kernel_rfl) (by kernel_rfl) (fun _ _ _ h => h) (Or.inl ⟨by rfl, ?e3_y2⟩) (by assumption) ?e3_r2
    case e3_y2 =>
      intro w hSw
      (try dsimp only at hSw)
      go_simp
      (try with_reducible rfl)
    try simp only [Act.put, List.setIfInBounds_toArray, List.set_cons_zero, List.set_cons_succ]
    refine wpAnyH_take (i := 3) (oi := ({ dst := some 50, op := Op.fieldAddr 75 (Operand.tmp 49) 0, type := 0, pos := "pool.go:42", after := #[{ on := 2, ground := Ground.data }], guard := none } : Oper)) (v := ?e4_v3) rfl (by kernel_rfl) (by kernel_rfl) (by kernel_rfl) (fun _ _ _ h => h) (Or.inl ⟨by rfl, ?e4_y3⟩) (by assumption) ?e4_r3
    case e4_y3 =>
      intro w hSw
      (try dsimp only at hSw)
      go_simp
      (try with_reducible rfl)
    try simp only [Act.put, List.setIfInBounds_toArray, List.set_cons_zero, List.set_cons_succ]
    refine wpAnyH_take (i := 5) (oi := ({ dst := some 52, op := Op.load 38 (Operand.tmp 3), type := 38, pos := "pool.go:42", after := #[], guard := none } : Oper)) (v := ?e5_v5) rfl (by kernel_rfl) (by kernel_rfl) (by kernel_rfl) (fun _ _ _ h => h) (Or.inl ⟨by rfl, ?e5_y5⟩) (by assumption) ?e5_r5
    case e5_y5 =>
      intro w hSw
      (try dsimp only at hSw)
      go_simp
      (try with_reducible rfl)
    try simp only [Act.put, List.setIfInBounds_toArray, List.set_cons_zero, List.set_cons_succ]
    refine wpAnyH_ready (rs := [4, 6]) (by kernel_rfl) (by simp) ?_
    refine AllReadyH.cons (o := ({ dst := some 51, op := Op.load 22 (Operand.tmp 50), type := 22, pos := "pool.go:42", after := #[{ on := 3, ground := Ground.data }], guard := none } : Oper)) rfl (fun K hKK => ?eb6_4) (AllReadyH.cons (o := ({ dst := some 53, op := Op.buildSlice 22 1 #[(0, Operand.tmp 52)], type := 22, pos := "pool.go:42", after := #[{ on := 5, ground := Ground.data }], guard := none } : Oper)) rfl (fun K hKK => ?eb6_6) AllReadyH.nil)
    case eb6_4 =>
      go_simp
      refine hKK.out _ _ (HS8.out _ (by first | exact hX7 | exact hmut _ | exact hX9 | exact hX10)) (fun hS4_6 => ?_)
      try simp only [Act.put, List.setIfInBounds_toArray, List.set_cons_zero, List.set_cons_succ]
      refine wpAnyH_ready (rs := [6]) (by kernel_rfl) (by simp) ?_
      refine AllReadyH.cons (o := ({ dst := some 53, op := Op.buildSlice 22 1 #[(0, Operand.tmp 52)], type := 22, pos := "pool.go:42", after := #[{ on := 5, ground := Ground.data }], guard := none } : Oper)) rfl (fun K hKK => ?_) AllReadyH.nil
      go_simp
      refine hKK.out _ _ (HS8.out _ (by first | exact hX7 | exact hmut _ | exact hX9 | exact hX10)) (fun hS6_6 => ?_)
      try simp only [Act.put, List.setIfInBounds_toArray, List.set_cons_zero, List.set_cons_succ]
      refine wpAnyH_ready (rs := [7]) (by kernel_rfl) (by simp) ?_
      refine AllReadyH.cons (o := ({ dst := some 54, op := Op.call { callee := Callee.builtin Builtin.append, args := #[Operand.tmp 51, Operand.tmp 53], argTypes := #[22, 22] }, type := 22, pos := "pool.go:42", after := #[{ on := 4, ground := Ground.data }, { on := 6, ground := Ground.data }], guard := none } : Oper)) rfl (fun K hKK => ?_) AllReadyH.nil
      rw [if_pos (by kernel_rfl)]
      refine wp_append_at _ _ 22 rfl base 38 j0 (.agg #[.int .i64 0, .int .i64 0, .int .i64 0, .slice none 0 0, .int .u32 0]) 5 56 Tryz.underlying22 ji jz0 jz1 jz2 rfl (by decide) _ _ _ rfl ((hrow7.alloc _).drew) ⟨w7.heap.size, 0, none⟩ 1 1 (nodC ⟨op, wid, fl, args, imm⟩ (.slice A' n c')) rfl rfl (five_new w7 _ _ _ _ _ _) ?q1 ?q2 ?q3 ?q4 (fun v9 w9 hown9 hgrow9 _ hloc9 => ?_)
      case q1 => intro u hu; simp [nodC] at hu; rcases hu with rfl | rfl | rfl | rfl | rfl <;> rfl
      case q2 => unfold maxLen; omega
      case q3 => omega
      case q4 => exact Nat.le_trans hbase (by have := HS7.out; show _ ≤ (w7.alloc _).heap.size; simp; omega)
      obtain ⟨A9, c9, rfl, -, -⟩ := own_slice hown9
      have hX9 : w9.heap[X]? = _ := (hgrow9.block X (by show X < (w7.alloc _).heap.size; simp; omega) (fun e => hnotX e.symm)).trans (hmut _)
      have hP9 : w9.heap[P]? = _ := ((hgrow9.block P (by show P < (w7.alloc _).heap.size; simp; omega) (fun e => hnotP e.symm)).trans (heap_alloc_old w7 _ hP7l)).trans hP7
      have hX10 : (w9.setCell ⟨P, 0, none⟩ (.slice A9 (out.length + 1) c9)).heap[X]? = _ := (heap_setCell_other w9 ⟨P, 0, none⟩ X _ (fun e => hPX e.symm)).trans hX9
      obtain ⟨⟨c90, c90f⟩, -⟩ := cells2 hP9
      have hP9l := lt_of_block hP9
      have hfin := HFIN.out A9 c9 w9 hown9 hgrow9 hloc9
      refine hKK.out _ _ (HS8.out _ (by first | exact hX7 | exact hmut _ | exact hX9 | exact hX10)) (fun hS7_6 => ?_)
      try simp only [Act.put, List.setIfInBounds_toArray, List.set_cons_zero, List.set_cons_succ]
      refine wpAnyH_take (i := 8) (oi := ({ dst := some 55, op := Op.nilCheck (Operand.tmp 47), type := 0, pos := "pool.go:42", after := #[{ on := 0, ground := Ground.data }, { on := 0, ground := Ground.phase }, { on := 1, ground := Ground.phase }, { on := 2, ground := Ground.phase }, { on := 3, ground := Ground.phase }, { on := 4, ground := Ground.phase }, { on := 5, ground := Ground.phase }, { on := 6, ground := Ground.phase }, { on := 7, ground := Ground.phase }], guard := none } : Oper)) (v := ?e7_v8) rfl (by kernel_rfl) (by kernel_rfl) (by kernel_rfl) (fun _ _ _ h => h) (Or.inl ⟨by rfl, ?e7_y8⟩) (by assumption) ?e7_r8
      case e7_y8 =>
        intro w hSw
        (try dsimp only at hSw)
        go_simp
        (try with_reducible rfl)
      try simp only [Act.put, List.setIfInBounds_toArray, List.set_cons_zero, List.set_cons_succ]
      refine wpAnyH_take (i := 9) (oi := ({ dst := some 56, op := Op.fieldAddr 75 (Operand.tmp 55) 0, type := 0, pos := "pool.go:42", after := #[{ on := 8, ground := Ground.data }, { on := 0, ground := Ground.phase }, { on := 1, ground := Ground.phase }, { on := 2, ground := Ground.phase }, { on := 3, ground := Ground.phase }, { on := 4, ground := Ground.phase }, { on := 5, ground := Ground.phase }, { on := 6, ground := Ground.phase }, { on := 7, ground := Ground.phase }], guard := none } : Oper)) (v := ?e8_v9) rfl (by kernel_rfl) (by kernel_rfl) (by kernel_rfl) (fun _ _ _ h => h) (Or.inl ⟨by rfl, ?e8_y9⟩) (by assumption) ?e8_r9
      case e8_y9 =>
        intro w hSw
        (try dsimp only at hSw)
        go_simp
        (try with_reducible rfl)
      try simp only [Act.put, List.setIfInBounds_toArray, List.set_cons_zero, List.set_cons_succ]
      refine wpAnyH_ready (rs := [10]) (by kernel_rfl) (by simp) ?_
      refine AllReadyH.cons (o := ({ dst := none, op := Op.store 22 (Operand.tmp 56) (Operand.tmp 54), type := 0, pos := "pool.go:42", after := #[{ on := 9, ground := Ground.data }, { on := 7, ground := Ground.data }, { on := 7, ground := Ground.chain }, { on := 0, ground := Ground.phase }, { on := 1, ground := Ground.phase }, { on := 2, ground := Ground.phase }, { on := 3, ground := Ground.phase }, { on := 4, ground := Ground.phase }, { on := 5, ground := Ground.phase }, { on := 6, ground := Ground.phase }, { on := 7, ground := Ground.phase }], guard := none } : Oper)) rfl (fun K hKK => ?_) AllReadyH.nil
      go_simp
      refine hKK.out _ _ (HS8.out _ (by first | exact hX7 | exact hmut _ | exact hX9 | exact hX10)) (fun hS10_8 => ?_)
      try simp only [Act.put, List.setIfInBounds_toArray, List.set_cons_zero, List.set_cons_succ]
      refine wpAnyH_done (by kernel_rfl) ?_ _
      go_wp2
      go_ret
      exact ⟨by exact ret_i (by have := HIX.out; omega), hfin⟩
    case eb6_6 =>
      go_simp
      refine hKK.out _ _ (HS8.out _ (by first | exact hX7 | exact hmut _ | exact hX9 | exact hX10)) (fun hS6_8 => ?_)
      try simp only [Act.put, List.setIfInBounds_toArray, List.set_cons_zero, List.set_cons_succ]
      refine wpAnyH_ready (rs := [4]) (by kernel_rfl) (by simp) ?_
      refine AllReadyH.cons (o := ({ dst := some 51, op := Op.load 22 (Operand.tmp 50), type := 22, pos := "pool.go:42", after := #[{ on := 3, ground := Ground.data }], guard := none } : Oper)) rfl (fun K hKK => ?_) AllReadyH.nil
      go_simp
      refine hKK.out _ _ (HS8.out _ (by first | exact hX7 | exact hmut _ | exact hX9 | exact hX10)) (fun hS4_8 => ?_)
      try simp only [Act.put, List.setIfInBounds_toArray, List.set_cons_zero, List.set_cons_succ]
      refine wpAnyH_ready (rs := [7]) (by kernel_rfl) (by simp) ?_
      refine AllReadyH.cons (o := ({ dst := some 54, op := Op.call { callee := Callee.builtin Builtin.append, args := #[Operand.tmp 51, Operand.tmp 53], argTypes := #[22, 22] }, type := 22, pos := "pool.go:42", after := #[{ on := 4, ground := Ground.data }, { on := 6, ground := Ground.data }], guard := none } : Oper)) rfl (fun K hKK => ?_) AllReadyH.nil
      rw [if_pos (by kernel_rfl)]
      refine wp_append_at _ _ 22 rfl base 38 j0 (.agg #[.int .i64 0, .int .i64 0, .int .i64 0, .slice none 0 0, .int .u32 0]) 5 56 Tryz.underlying22 ji jz0 jz1 jz2 rfl (by decide) _ _ _ rfl ((hrow7.alloc _).drew) ⟨w7.heap.size, 0, none⟩ 1 1 (nodC ⟨op, wid, fl, args, imm⟩ (.slice A' n c')) rfl rfl (five_new w7 _ _ _ _ _ _) ?q1 ?q2 ?q3 ?q4 (fun v9 w9 hown9 hgrow9 _ hloc9 => ?_)
      case q1 => intro u hu; simp [nodC] at hu; rcases hu with rfl | rfl | rfl | rfl | rfl <;> rfl
      case q2 => unfold maxLen; omega
      case q3 => omega
      case q4 => exact Nat.le_trans hbase (by have := HS7.out; show _ ≤ (w7.alloc _).heap.size; simp; omega)
      obtain ⟨A9, c9, rfl, -, -⟩ := own_slice hown9
      have hX9 : w9.heap[X]? = _ := (hgrow9.block X (by show X < (w7.alloc _).heap.size; simp; omega) (fun e => hnotX e.symm)).trans (hmut _)
      have hP9 : w9.heap[P]? = _ := ((hgrow9.block P (by show P < (w7.alloc _).heap.size; simp; omega) (fun e => hnotP e.symm)).trans (heap_alloc_old w7 _ hP7l)).trans hP7
      have hX10 : (w9.setCell ⟨P, 0, none⟩ (.slice A9 (out.length + 1) c9)).heap[X]? = _ := (heap_setCell_other w9 ⟨P, 0, none⟩ X _ (fun e => hPX e.symm)).trans hX9
      obtain ⟨⟨c90, c90f⟩, -⟩ := cells2 hP9
      have hP9l := lt_of_block hP9
      have hfin := HFIN.out A9 c9 w9 hown9 hgrow9 hloc9
      refine hKK.out _ _ (HS8.out _ (by first | exact hX7 | exact hmut _ | exact hX9 | exact hX10)) (fun hS7_8 => ?_)
      try simp only [Act.put, List.setIfInBounds_toArray, List.set_cons_zero, List.set_cons_succ]
      refine wpAnyH_take (i := 8) (oi := ({ dst := some 55, op := Op.nilCheck (Operand.tmp 47), type := 0, pos := "pool.go:42", after := #[{ on := 0, ground := Ground.data }, { on := 0, ground := Ground.phase }, { on := 1, ground := Ground.phase }, { on := 2, ground := Ground.phase }, { on := 3, ground := Ground.phase }, { on := 4, ground := Ground.phase }, { on := 5, ground := Ground.phase }, { on := 6, ground := Ground.phase }, { on := 7, ground := Ground.phase }], guard := none } : Oper)) (v := ?e9_v8) rfl (by kernel_rfl) (by kernel_rfl) (by kernel_rfl) (fun _ _ _ h => h) (Or.inl ⟨by rfl, ?e9_y8⟩) (by assumption) ?e9_r8
      case e9_y8 =>
        intro w hSw
        (try dsimp only at hSw)
        go_simp
        (try with_reducible rfl)
      try simp only [Act.put, List.setIfInBounds_toArray, List.set_cons_zero, List.set_cons_succ]
      refine wpAnyH_take (i := 9) (oi := ({ dst := some 56, op := Op.fieldAddr 75 (Operand.tmp 55) 0, type := 0, pos := "pool.go:42", after := #[{ on := 8, ground := Ground.data }, { on := 0, ground := Ground.phase }, { on := 1, ground := Ground.phase }, { on := 2, ground := Ground.phase }, { on := 3, ground := Ground.phase }, { on := 4, ground := Ground.phase }, { on := 5, ground := Ground.phase }, { on := 6, ground := Ground.phase }, { on := 7, ground := Ground.phase }], guard := none } : Oper)) (v := ?e10_v9) rfl (by kernel_rfl) (by kernel_rfl) (by kernel_rfl) (fun _ _ _ h => h) (Or.inl ⟨by rfl, ?e10_y9⟩) (by assumption) ?e10_r9
      case e10_y9 =>
        intro w hSw
        (try dsimp only at hSw)
        go_simp
        (try with_reducible rfl)
      try simp only [Act.put, List.setIfInBounds_toArray, List.set_cons_zero, List.set_cons_succ]
      refine wpAnyH_ready (rs := [10]) (by kernel_rfl) (by simp) ?_
      refine AllReadyH.cons (o := ({ dst := none, op := Op.store 22 (Operand.tmp 56) (Operand.tmp 54), type := 0, pos := "pool.go:42", after := #[{ on := 9, ground := Ground.data }, { on := 7, ground := Ground.data }, { on := 7, ground := Ground.chain }, { on := 0, ground := Ground.phase }, { on := 1, ground := Ground.phase }, { on := 2, ground := Ground.phase }, { on := 3, ground := Ground.phase }, { on := 4, ground := Ground.phase }, { on := 5, ground := Ground.phase }, { on := 6, ground := Ground.phase }, { on := 7, ground := Ground.phase }], guard := none } : Oper)) rfl (fun K hKK => ?_) AllReadyH.nil
      go_simp
      refine hKK.out _ _ (HS8.out _ (by first | exact hX7 | exact hmut _ | exact hX9 | exact hX10)) (fun hS10_10 => ?_)
      try simp only [Act.put, List.setIfInBounds_toArray, List.set_cons_zero, List.set_cons_succ]
      refine wpAnyH_done (by kernel_rfl) ?_ _
      go_wp2
      go_ret
      exact ⟨by exact ret_i (by have := HIX.out; omega), hfin⟩
end Go.Proofs.YtbohigjfdnnomaaGreatDoor
