/-
  The values of the nodes of a term, the widths of its variables and its depth, as mathematics.
-/
import Derived.Test.YtbohigjfdnnomaaGreatDoorTeE
import Derived.Test.YtbohigjfdnnomaaGreatDoorBitsM
namespace Go.Proofs.YtbohigjfdnnomaaGreatDoor
open Go.RowKit

/-- What a total operation answers. -/
def totF (op n a b : Nat) : Nat := if hasF op n a b then doF op n a b else lackF op n a b
/-- What an extension answers. -/
def extF (op f t a : Nat) : Nat := if op = 16 then a else if op = 17 then wr t (sgn f a) else wr t (a : Int)
/-- The value of a node, where those of the nodes below it are known. -/
def val1 (T : List Nd) (x : Nd) (l env : List Nat) : Nat :=
  if x.op = 0 then x.imm.toNat
  else if x.op = 33 then env[x.imm.toNat]!
  else if x.op = 14 then (if cmpF x.imm.toNat (wOf T x 0).toNat l[(x.args[0]!).toNat]! l[(x.args[1]!).toNat]! then 1 else 0)
  else if x.op = 15 then (if l[(x.args[0]!).toNat]! = 0 then l[(x.args[2]!).toNat]! else l[(x.args[1]!).toNat]!)
  else if 16 ≤ x.op then extF x.op.toNat (wOf T x 0).toNat x.width.toNat l[(x.args[0]!).toNat]!
  else totF x.op.toNat x.width.toNat l[(x.args[0]!).toNat]! l[(x.args[1]!).toNat]!
def vals (T : List Nd) (env : List Nat) : Nat → List Nat
  | 0 => []
  | k + 1 => vals T env k ++ [val1 T T[k]! (vals T env k) env]
/-- The width of the variable v by the first k nodes. -/
def widF (T : List Nd) : Nat → Nat → Int
  | 0, _ => 0
  | k + 1, v => if T[k]!.op = 33 ∧ T[k]!.imm = (v : Int) then T[k]!.width else widF T k v
def envB (T : List Nd) (env : List Nat) : Bool := decide (env.length = 4) && (List.range 4).all fun v => decide (widF T T.length v = 0) || decide (env[v]! < pw (widF T T.length v).toNat)
/-- The greatest depth of the first i Args. -/
def deepA (x : Nd) (l : List Nat) : Nat → Nat
  | 0 => 0
  | i + 1 => max (deepA x l i) l[(x.args[i]!).toNat]!
def deeps (T : List Nd) : Nat → List Nat
  | 0 => []
  | k + 1 => deeps T k ++ [deepA T[k]! (deeps T k) T[k]!.args.length + 1]
theorem vals_len (T : List Nd) (env : List Nat) : ∀ k, (vals T env k).length = k
  | 0 => rfl
  | k + 1 => by rw [vals, List.length_append, vals_len T env k]; rfl
theorem deeps_len (T : List Nd) : ∀ k, (deeps T k).length = k
  | 0 => rfl
  | k + 1 => by rw [deeps, List.length_append, deeps_len T k]; rfl
theorem get_app {l : List Nat} {v i : Nat} (h : i < l.length) : (l ++ [v])[i]! = l[i]! := by
  rw [getElem!_pos l i h, getElem!_pos (l ++ [v]) i (by simp; omega), List.getElem_append_left h]
theorem get_last {l : List Nat} {v : Nat} : (l ++ [v])[l.length]! = v := by
  rw [getElem!_pos (l ++ [v]) l.length (by simp)]
  simp
theorem vals_at (T : List Nd) (env : List Nat) {k j : Nat} (h : k < j) : (vals T env j)[k]! = val1 T T[k]! (vals T env k) env := by
  induction j with
  | zero => omega
  | succ j ih =>
    rw [vals]
    by_cases e : k = j
    · subst e
      have := get_last (l := vals T env k) (v := val1 T T[k]! (vals T env k) env)
      rw [vals_len] at this
      exact this
    · rw [get_app (by rw [vals_len]; omega)]
      exact ih (by omega)
theorem deeps_at (T : List Nd) {k j : Nat} (h : k < j) : (deeps T j)[k]! = deepA T[k]! (deeps T k) T[k]!.args.length + 1 := by
  induction j with
  | zero => omega
  | succ j ih =>
    rw [deeps]
    by_cases e : k = j
    · subst e
      have := get_last (l := deeps T k) (v := deepA T[k]! (deeps T k) T[k]!.args.length + 1)
      rw [deeps_len] at this
      exact this
    · rw [get_app (by rw [deeps_len]; omega)]
      exact ih (by omega)
theorem lackF_lt (op n a b : Nat) (h1 : 1 ≤ n) (ha : a < pw n) : lackF op n a b < pw n := by
  have h0 : 0 < pw n := Nat.two_pow_pos _
  have h2 : 1 < pw n := by
    have := pw_mono h1
    have e : pw 1 = 2 := rfl
    omega
  unfold lackF
  repeat' split
  all_goals omega
theorem doF_lt' (op n a b : Nat) (ha : a < pw n) (hb : b < pw n) : doF op n a b < pw n := by
  unfold doF
  by_cases c0 : op = 1
  · rw [if_pos c0]; exact wr_lt _
  rw [if_neg c0]
  by_cases c1 : op = 2
  · rw [if_pos c1]; exact wr_lt _
  rw [if_neg c1]
  by_cases c2 : op = 3
  · rw [if_pos c2]; exact wr_lt _
  rw [if_neg c2]
  by_cases c3 : op = 4
  · rw [if_pos c3]; exact Nat.lt_of_le_of_lt (Nat.div_le_self _ _) ha
  rw [if_neg c3]
  by_cases c4 : op = 5
  · rw [if_pos c4]; exact Nat.lt_of_le_of_lt (Nat.mod_le _ _) ha
  rw [if_neg c4]
  by_cases c5 : op = 6
  · rw [if_pos c5]; exact wr_lt _
  rw [if_neg c5]
  by_cases c6 : op = 7
  · rw [if_pos c6]; exact wr_lt _
  rw [if_neg c6]
  by_cases c7 : op = 8
  · rw [if_pos c7]; exact Nat.and_lt_two_pow _ hb
  rw [if_neg c7]
  by_cases c8 : op = 9
  · rw [if_pos c8]; exact Nat.or_lt_two_pow ha hb
  rw [if_neg c8]
  by_cases c9 : op = 10
  · rw [if_pos c9]; exact Nat.xor_lt_two_pow ha hb
  rw [if_neg c9]
  by_cases c10 : op = 11
  · rw [if_pos c10]; exact wr_lt _
  rw [if_neg c10]
  by_cases c11 : op = 12
  · rw [if_pos c11]; exact Nat.lt_of_le_of_lt (Nat.div_le_self _ _) ha
  rw [if_neg c11]
  exact wr_lt _
theorem totF_lt (op n a b : Nat) (h1 : 1 ≤ n) (ha : a < pw n) (hb : b < pw n) : totF op n a b < pw n := by
  unfold totF
  split
  · exact doF_lt' op n a b ha hb
  · exact lackF_lt op n a b h1 ha
theorem extF_lt (op f t a : Nat) (h16 : op = 16 → f < t) (ha : a < pw f) : extF op f t a < pw t := by
  unfold extF
  split
  · rename_i h
    have := pw_mono (Nat.le_of_lt (h16 h))
    omega
  · split <;> exact wr_lt _
/-- What a valid term is. -/
theorem val_zero {T : List Nd} : valF T = 0 ↔ (1 ≤ T.length ∧ T.length ≤ 300) ∧ (∀ k, k < T.length → nodB T[k]! k = true) ∧ (∀ k, k < T.length → fitB T T[k]! = true) ∧ ∀ k, k < T.length → ∀ i, i < k → oneB T[i]! T[k]! = true := by
  have hn : nodsB T = true ↔ ∀ k, k < T.length → nodB T[k]! k = true := by
    unfold nodsB; rw [List.all_eq_true]; exact ⟨fun h k hk => h k (List.mem_range.2 hk), fun h k hk => h k (List.mem_range.1 hk)⟩
  have hf : fitsB T = true ↔ ∀ k, k < T.length → fitB T T[k]! = true := by
    unfold fitsB; rw [List.all_eq_true]; exact ⟨fun h k hk => h k (List.mem_range.2 hk), fun h k hk => h k (List.mem_range.1 hk)⟩
  have ho : oneW T = true ↔ ∀ k, k < T.length → ∀ i, i < k → oneB T[i]! T[k]! = true := by
    unfold oneW
    rw [List.all_eq_true]
    exact ⟨fun h k hk i hi => List.all_eq_true.1 (h k (List.mem_range.2 hk)) i (List.mem_range.2 hi), fun h k hk => List.all_eq_true.2 fun i hi => h k (List.mem_range.1 hk) i (List.mem_range.1 hi)⟩
  unfold valF
  rw [← hn, ← hf, ← ho]
  by_cases h : T.length < 1 ∨ 300 < T.length
  · rw [if_pos h]
    exact ⟨fun h => absurd h (by decide), fun hh => by omega⟩
  · rw [if_neg h]
    cases nodsB T <;> cases fitsB T <;> cases oneW T <;> simp <;> omega
/-- What a right node is. -/
theorem nod_iff {x : Nd} {k : Nat} : nodB x k = true ↔ (0 ≤ x.op ∧ x.op ≤ 18 ∨ x.op = 33) ∧ x.flags = 0 ∧ (1 ≤ x.width ∧ x.width ≤ 32) ∧ (x.args.length : Int) = argN x.op ∧ (∀ i, i < x.args.length → 0 ≤ x.args[i]! ∧ x.args[i]! < (k : Int)) ∧ immB x = true := by
  have ha : argsB x k = true ↔ ∀ i, i < x.args.length → 0 ≤ x.args[i]! ∧ x.args[i]! < (k : Int) := by
    unfold argsB
    rw [List.all_eq_true]
    exact ⟨fun h i hi => of_decide_eq_true (h i (List.mem_range.2 hi)), fun h i hi => decide_eq_true (h i (List.mem_range.1 hi))⟩
  unfold nodB headB isOpB
  rw [← ha]
  simp only [Bool.and_eq_true, decide_eq_true_eq, and_assoc]
theorem widF_var {T : List Nd} {m : Nat} (h : ∀ k, k < m → ∀ i, i < k → oneB T[i]! T[k]! = true) : ∀ (k : Nat), k ≤ m → ∀ j, j < k → T[j]!.op = 33 → ∀ v : Nat, T[j]!.imm = (v : Int) → widF T k v = T[j]!.width := by
  intro k
  induction k with
  | zero => intro _ j hj; omega
  | succ k ih =>
    intro hk j hj ho v hv
    rw [widF]
    by_cases e : T[k]!.op = 33 ∧ T[k]!.imm = (v : Int)
    · rw [if_pos e]
      by_cases ej : j = k
      · rw [ej]
      · have := h k (by omega) j (by omega)
        unfold oneB at this
        simp only [ho, e.1, hv, e.2, decide_true, Bool.true_and, Bool.not_eq_true', decide_eq_false_iff_not, Decidable.not_not, ne_eq] at this
        exact this.symm
    · rw [if_neg e]
      by_cases ej : j = k
      · subst ej
        exact absurd ⟨ho, hv⟩ e
      · exact ih (by omega) j (by omega) ho v hv
theorem env_iff {T : List Nd} {env : List Nat} : envB T env = true ↔ env.length = 4 ∧ ∀ v, v < 4 → widF T T.length v = 0 ∨ env[v]! < pw (widF T T.length v).toNat := by
  unfold envB
  rw [Bool.and_eq_true, decide_eq_true_eq, List.all_eq_true]
  refine and_congr_right fun _ => ⟨fun h v hv => ?_, fun h v hv => ?_⟩
  · have := h v (List.mem_range.2 hv)
    simpa using this
  · simpa using h v (List.mem_range.1 hv)
/-- The width of an Arg of a valid term's node. -/
theorem wOf_in {T : List Nd} (h : valF T = 0) {k i : Nat} (hk : k < T.length) (hi : i < T[k]!.args.length) : 1 ≤ wOf T T[k]! i ∧ wOf T T[k]! i ≤ 32 ∧ (T[k]!.args[i]!).toNat < k := by
  obtain ⟨-, hn, -, -⟩ := val_zero.1 h
  obtain ⟨-, -, -, -, ha, -⟩ := nod_iff.1 (hn k hk)
  have h1 := ha i hi
  obtain ⟨-, -, hw, -⟩ := nod_iff.1 (hn (T[k]!.args[i]!).toNat (by omega))
  unfold wOf
  exact ⟨hw.1, hw.2, by omega⟩
/-- The values fit the widths. -/
theorem vals_lt {T : List Nd} {env : List Nat} (h : valF T = 0) (hi : ∀ k, k < T.length → 0 ≤ T[k]!.imm) (he : envB T env = true) : ∀ k, k < T.length → val1 T T[k]! (vals T env k) env < pw (T[k]!.width).toNat := by
  intro k
  induction k using Nat.strongRecOn with
  | _ k ih =>
    intro hk
    have hv := val_zero.1 h
    obtain ⟨ho, -, hw, hl, ha, him⟩ := nod_iff.1 (hv.2.1 k hk)
    have hfit := hv.2.2.1 k hk
    have him0 := hi k hk
    have hA : ∀ i, i < T[k]!.args.length → (vals T env k)[(T[k]!.args[i]!).toNat]! < pw (wOf T T[k]! i).toNat := by
      intro i hi
      have := ha i hi
      have h2 := (wOf_in h hk hi).2.2
      rw [vals_at T env h2]
      exact ih _ h2 (by omega)
    have hWI := fun i (hi : i < T[k]!.args.length) => wOf_in h hk hi
    unfold val1
    generalize vals T env k = l at hA ⊢
    have hvar := widF_var hv.2.2.2 T.length (Nat.le_refl _) k hk
    have henv := (env_iff.1 he).2
    generalize T[k]! = x at *
    have h1w : 1 < pw x.width.toNat := by
      have := pw_mono (show 1 ≤ x.width.toNat by omega)
      have e : pw 1 = 2 := rfl
      omega
    by_cases c0 : x.op = 0
    · rw [if_pos c0]
      unfold immB at him
      rw [if_pos c0] at him
      have := of_decide_eq_true him
      omega
    rw [if_neg c0]
    by_cases c33 : x.op = 33
    · rw [if_pos c33]
      unfold immB at him
      rw [if_neg c0, if_pos c33] at him
      have h4 := of_decide_eq_true him
      have := hvar c33 x.imm.toNat (by omega)
      rcases henv x.imm.toNat (by omega) with h5 | h5
      · omega
      · rw [this] at h5
        exact h5
    rw [if_neg c33]
    unfold fitB at hfit
    by_cases c14 : x.op = 14
    · rw [if_pos c14]
      split <;> omega
    rw [if_neg c14]
    by_cases c15 : x.op = 15
    · rw [if_pos c15]
      rw [if_neg (by omega), if_neg c14, if_pos c15] at hfit
      simp only [Bool.and_eq_true, decide_eq_true_eq] at hfit
      have e : argN x.op = 3 := by rw [c15]; rfl
      have a1 := hA 1 (by omega)
      have a2 := hA 2 (by omega)
      rw [hfit.2.1] at a1
      rw [hfit.2.2] at a2
      split
      · exact a2
      · exact a1
    rw [if_neg c15]
    by_cases c16 : 16 ≤ x.op
    · rw [if_pos c16]
      have e : argN x.op = 1 := by unfold argN; rw [if_neg (by omega), if_neg c15, if_neg (by omega)]
      have a0 := hA 0 (by omega)
      have w0 := hWI 0 (by omega)
      refine extF_lt _ _ _ _ (fun e16 => ?_) a0
      rw [if_neg (by omega), if_neg c14, if_neg c15, if_pos (by omega)] at hfit
      have := of_decide_eq_true hfit
      omega
    · rw [if_neg c16]
      have e : argN x.op = 2 := if_pos (by omega)
      rw [if_pos (by omega)] at hfit
      simp only [Bool.and_eq_true, decide_eq_true_eq] at hfit
      have a0 := hA 0 (by omega)
      have a1 := hA 1 (by omega)
      rw [hfit.1] at a0
      rw [hfit.2] at a1
      exact totF_lt _ _ _ _ (by omega) a0 a1
end Go.Proofs.YtbohigjfdnnomaaGreatDoor
