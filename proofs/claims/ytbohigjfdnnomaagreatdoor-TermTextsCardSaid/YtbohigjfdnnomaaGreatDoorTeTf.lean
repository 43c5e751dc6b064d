/-
  Share and Part of the pool and of terms.
-/
import Derived.Test.YtbohigjfdnnomaaGreatDoorTeTe
namespace Go.Proofs.YtbohigjfdnnomaaGreatDoor
open Go.RowKit

/-- A row of nodes in own memory, with rows of its own for the Args. -/
structure OwnT (w : World) (base : Nat) (nv : Value) (av : Nat → Value) (out : List Nd) : Prop where
  row : w.ownsRow base 38 5 nv out.length (rowC out av)
  args : ∀ i, i < out.length → w.ownsRow base 3 1 (av i) (out[i]!).args.length (iV (out[i]!).args)
  imm : ∀ i, i < out.length → 0 ≤ (out[i]!).imm ∧ (out[i]!).imm < 4294967296
theorem own_term {w : World} {base : Nat} {nv : Value} {av : Nat → Value} {out : List Nd} (h : OwnT w base nv av out) : ∃ A c, nv = .slice A out.length c ∧ Term w A out.length c out := by
  have h0 := h.row
  rcases h.row.2 with ⟨rfl, h1⟩ | ⟨g, cap, cur, rfl, hg, hh, h2, h3, _⟩
  · have e : out = [] := List.length_eq_zero_iff.1 h1
    subst e
    exact ⟨none, 0, rfl, rfl, Nat.le_refl _, by omega, .inl rfl⟩
  · refine ⟨_, cap, rfl, rfl, h2, by unfold maxLen at h3; omega, .inr ⟨g, 0, rfl, lt_of_block hh, fun j hj => ?_⟩⟩
    obtain ⟨A', c', hv, hI⟩ := own_ints (h.args j hj)
    have hc : ∀ q, q < 5 → ∀ x, (nodC out[j]! (av j))[q]? = some x → w.cell? ⟨g, 0 + j * 5 + q, none⟩ = some x := fun q hq x hx => by
      rw [Nat.zero_add]
      exact (own_cell h0 ((rowC_at av hj hq).trans hx)).1
    exact ⟨A', (out[j]!).args.length, c', ⟨hc 0 (by omega) _ rfl, hc 1 (by omega) _ rfl, hc 2 (by omega) _ rfl, hc 3 (by omega) _ (by rw [← hv]; rfl), hc 4 (by omega) _ rfl⟩, hI, h.imm j hj⟩
/-- No row of Args lies in the row of nodes. -/
def SepN (nv : Value) (av : Nat → Value) (out : List Nd) : Prop := ∀ i, i < out.length → ∀ b, (av i).ownBlock = some b → nv.ownBlock ≠ some b
theorem pool_own {w : World} {base P M : Nat} {F : Nat → Prop} {out : List Nd} (h : Pool w base P M F out) : ∃ nv av, OwnT w base nv av out ∧ w.heap[P]? = some (.cells #[nv, .map (some M)] 75 (0, 0)) ∧ SepN nv av out := by
  obtain ⟨nv, av, D, h⟩ := h
  exact ⟨nv, av, ⟨h.row, h.args, fun i hi => (h.fine i hi).imm⟩, h.blk, fun i hi b e => (h.argF i hi b e).2.2.2⟩
/-- The nodes of a valid term may go into a pool. -/
theorem val_fine {T : List Nd} (h : valF T = 0) (hi : ∀ k, k < T.length → 0 ≤ T[k]!.imm ∧ T[k]!.imm < 4294967296) : FineT T where
  op k hk := by
    have := (nod_iff.1 ((val_zero.1 h).2.1 k hk)).1
    omega
  width k hk := by
    have := (nod_iff.1 ((val_zero.1 h).2.1 k hk)).2.2.1
    omega
  flags k hk := (nod_iff.1 ((val_zero.1 h).2.1 k hk)).2.1
  imm := hi
  len k hk := (nod_iff.1 ((val_zero.1 h).2.1 k hk)).2.2.2.1
  down k hk j hj := by
    have := (nod_iff.1 ((val_zero.1 h).2.1 k hk)).2.2.2.2.1 j hj
    exact ⟨T[k]!.args[j]!.toNat, by omega, by omega⟩
theorem term_imm {w : World} {A : Option Addr} {n c : Nat} {T : List Nd} (h : Term w A n c T) : ∀ k, k < T.length → 0 ≤ T[k]!.imm ∧ T[k]!.imm < 4294967296 := fun k hk => by
  obtain ⟨-, -, -, -, -, -, -, -, -, h1⟩ := h.at_ (j := k) (by rw [h.1]; exact hk)
  exact h1
/-- The nodes that lead to a node, each once. -/
def shF (T : List Nd) (k : Nat) : List Nd := (ins (tr T k) []).2
section
variable {w : World} {A : Option Addr} {n c : Nat} {T : List Nd}
set_option maxRecDepth 100000 in
set_option maxHeartbeats 4000000 in
theorem poolShare_any (h : Term w A n c T) (hT : FineT T) (h300 : n ≤ 300) {k : Nat} (hk : k < n) :
    Calls Tryz.prog 25 #[.slice A n c, .int .i64 (k : Int)] w fun e w' => ∃ nv av, e = .returned nv ∧ OwnT w' w.heap.size nv av (shF T k) ∧ SepN nv av (shF T k) ∧ Below w.heap.size w w' := by
  have HN := Lib.hid (poolNew_any w)
  have HT := Lib.hid (fun (w1 : World) P M F (hb : Below w.heap.size w w1) (hP : Pool w1 w.heap.size P M F []) => take_any (k := k) h hT hb (Nat.le_refl _) hP (by simp; omega) hk)
  clear h hT
  go_enter Tryz.func25, Tryz.ntmps25
  go_wp2_with fail
  refine HN.out.mono ?_
  rintro e w1 ⟨P, M, F, rfl, hP, hb⟩
  have HTT := Lib.hid (HT.out w1 P M F hb hP)
  go_wp2_with fail
  refine HTT.out.mono ?_
  rintro e w2 ⟨F2, rfl, hP2, g1, g2, g3, -⟩
  obtain ⟨nv, av, hO, hB, hsep⟩ := pool_own hP2
  obtain ⟨⟨c0, -⟩, -⟩ := cells2 hB
  have hl := lt_of_block hB
  have HF := Lib.hid (And.intro hO (And.intro hsep (hb.trans (g3.below (fun b e => (hP.lt b e).2) hb.size))))
  obtain ⟨A2, c2, rfl, -⟩ := own_term hO
  clear hP hP2 hb g1 g2 g3 hO hB hsep
  go_wp2
  go_ret
  exact ⟨_, av, rfl, HF.out.1, HF.out.2.1, HF.out.2.2⟩
set_option maxRecDepth 100000 in
set_option maxHeartbeats 4000000 in
theorem nodes_any {P M base : Nat} {F : Nat → Prop} {out : List Nd} (hP : Pool w base P M F out) :
    Calls Tryz.prog 26 #[ptr P] w fun e w' => ∃ nv av, e = .returned nv ∧ OwnT w base nv av out ∧ w' = w := by
  obtain ⟨nv, av, hO, hB, -⟩ := pool_own hP
  obtain ⟨⟨c0, -⟩, -⟩ := cells2 hB
  have hl := lt_of_block hB
  have HF := Lib.hid hO
  obtain ⟨A2, c2, rfl, -⟩ := own_term hO
  clear hP hO hB
  go_enter Tryz.func26, Tryz.ntmps26
  go_wp2
  go_ret
  exact ⟨_, av, rfl, HF.out, rfl⟩
def partF (T : List Nd) (k : Int) : Int := if valF T = 0 then (if 0 ≤ k ∧ k < (T.length : Int) then 0 else 4) else valF T
theorem ret_vi {v : Value} {a b : Int} (h : a = b) : Ending.returned (.tuple #[v, .int .i64 b]) = Ending.returned (.tuple #[v, .int .i64 a]) := by rw [h]
theorem ownsRow_mono {w : World} {base base2 e size k : Nat} {v : Value} {xs : List Value} (h : w.ownsRow base e size v k xs) (hb : base2 ≤ base) : w.ownsRow base2 e size v k xs := by
  refine ⟨h.1, ?_⟩
  rcases h.2 with h2 | ⟨g, cap, cur, h1, h2, h3⟩
  · exact .inl h2
  · exact .inr ⟨g, cap, cur, h1, Nat.le_trans hb h2, h3⟩
theorem OwnT.mono {w : World} {base base2 : Nat} {nv : Value} {av : Nat → Value} {out : List Nd} (h : OwnT w base nv av out) (hb : base2 ≤ base) : OwnT w base2 nv av out :=
  ⟨ownsRow_mono h.row hb, fun i hi => ownsRow_mono (h.args i hi) hb, h.imm⟩
theorem ownT_nil (w : World) (base : Nat) (av : Nat → Value) : OwnT w base (.slice none 0 0) av [] :=
  ⟨World.ownsRow_nil _ _ _ _, fun i hi => absurd hi (by simp), fun i hi => absurd hi (by simp)⟩
set_option maxRecDepth 100000 in
set_option maxHeartbeats 4000000 in
theorem share_any (h : Term w A n c T) :
    Calls Tryz.prog 16 #[.slice A n c] w fun e w' => ∃ nv av, e = .returned (.tuple #[nv, .int .i64 (valF T)]) ∧ OwnT w' w.heap.size nv av (if valF T = 0 then shF T (T.length - 1) else []) ∧ SepN nv av (if valF T = 0 then shF T (T.length - 1) else []) ∧ Below w.heap.size w w' := by
  have HV := Lib.hid (validate_any h)
  have hcap := h.2.1
  have hmax := h.2.2.1
  by_cases hv : valF T = 0
  · have h300 : 1 ≤ n ∧ n ≤ 300 := by have := (val_zero.1 hv).1; have := h.1; omega
    rw [hv] at HV
    have HS := Lib.hid (fun w1 (hb : Below w.heap.size w w1) => poolShare_any (h.below hb) (val_fine hv (term_imm h)) h300.2 (show n - 1 < n by omega))
    have e1 : ((n : Nat) : Int) - 1 = ((n - 1 : Nat) : Int) := by omega
    rw [hv, if_pos rfl, ← h.1]
    clear h hv
    go_enter Tryz.func16, Tryz.ntmps16
    go_wp2_with fail
    refine HV.out.mono ?_
    rintro e w1 ⟨rfl, hb⟩
    have HSS := Lib.hid (HS.out w1 hb)
    go_wp2_with fail
    refine HSS.out.mono ?_
    rintro e w2 ⟨nv, av, rfl, hO, hsep, hb2⟩
    go_wp2
    go_ret2
    exact ⟨nv, av, rfl, hO.mono hb.size, hsep, hb.trans (hb2.mono hb.size)⟩
  · rw [if_neg hv]
    generalize valF T = V at HV hv ⊢
    have e1 : (V != 0) = true := by simp [hv]
    clear h hv
    go_enter Tryz.func16, Tryz.ntmps16
    go_wp2_with fail
    refine HV.out.mono ?_
    rintro e w1 ⟨rfl, hb⟩
    go_wp2
    go_ret2
    exact ⟨_, fun _ => undef, rfl, ownT_nil _ _ _, fun i hi => absurd hi (by simp), hb⟩
end
end Go.Proofs.YtbohigjfdnnomaaGreatDoor
