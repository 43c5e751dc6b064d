/-
  A shared term is valid; Share and Part of the reference.
-/
import Derived.Test.YtbohigjfdnnomaaGreatDoorTeTk
namespace Go.Proofs.YtbohigjfdnnomaaGreatDoor
open Go.RowKit

theorem one_iff' {x y : Nd} : oneB x y = true ↔ (x.op = 33 → y.op = 33 → x.imm = y.imm → x.width = y.width) := by
  unfold oneB
  rw [Bool.not_eq_true', Bool.and_eq_false_iff, Bool.and_eq_false_iff, Bool.and_eq_false_iff, decide_eq_false_iff_not, decide_eq_false_iff_not, decide_eq_false_iff_not, decide_eq_false_iff_not]
  constructor
  · rintro (h | h | h | h) h1 h2 h3
    · exact absurd h1 h
    · exact absurd h2 h
    · exact absurd h3 h
    · exact Classical.byContradiction fun e => h e
  · intro h
    by_cases h1 : x.op = 33
    · by_cases h2 : y.op = 33
      · by_cases h3 : x.imm = y.imm
        · exact .inr (.inr (.inr (fun e => e (h h1 h2 h3))))
        · exact .inr (.inr (.inl h3))
      · exact .inr (.inl h2)
    · exact .inl h1
theorem fit_congr {T out : List Nd} {x y : Nd} (hop : y.op = x.op) (hw : y.width = x.width) (hlen : (x.args.length : Int) = argN x.op) (hq : ∀ q, q < x.args.length → wOf out y q = wOf T x q) : fitB out y = fitB T x := by
  unfold fitB
  rw [hop, hw]
  by_cases c1 : 1 ≤ x.op ∧ x.op ≤ 13
  · have e : argN x.op = 2 := if_pos ⟨c1.1, by omega⟩
    rw [if_pos c1, if_pos c1, hq 0 (by omega), hq 1 (by omega)]
  · rw [if_neg c1, if_neg c1]
    by_cases c2 : x.op = 14
    · have e : argN x.op = 2 := if_pos ⟨by omega, by omega⟩
      rw [if_pos c2, if_pos c2, hq 0 (by omega), hq 1 (by omega)]
    · rw [if_neg c2, if_neg c2]
      by_cases c3 : x.op = 15
      · have e : argN x.op = 3 := by unfold argN; rw [if_neg (by omega), if_pos c3]
        rw [if_pos c3, if_pos c3, hq 0 (by omega), hq 1 (by omega), hq 2 (by omega)]
      · rw [if_neg c3, if_neg c3]
        by_cases c4 : x.op = 16 ∨ x.op = 17
        · have e : argN x.op = 1 := by unfold argN; rw [if_neg (by omega), if_neg c3, if_neg (by omega)]
          rw [if_pos c4, if_pos c4, hq 0 (by omega)]
        · rw [if_neg c4, if_neg c4]
          by_cases c5 : x.op = 18
          · have e : argN x.op = 1 := by unfold argN; rw [if_neg (by omega), if_neg c3, if_neg (by omega)]
            rw [if_pos c5, if_pos c5, hq 0 (by omega)]
          · rw [if_neg c5, if_neg c5]
theorem down_val {T : List Nd} (h : valF T = 0) : Down T := fun k hk j hj => by
  have := (nod_iff.1 ((val_zero.1 h).2.1 k hk)).2.2.2.2.1 j hj
  exact ⟨T[k]!.args[j]!.toNat, by omega, by omega⟩
theorem val_args {T : List Nd} (h : valF T = 0) : ∀ k, k < T.length → T[k]!.args.length ≤ 100 := fun k hk => by
  have h1 := (nod_iff.1 ((val_zero.1 h).2.1 k hk)).2.2.2.1
  have h2 := argN_le (op := T[k]!.op)
  omega
/-- A list of nodes as those of a term is as valid. -/
theorem val_as {T out : List Nd} (hv : valF T = 0) (hA : AsT T out) (h1 : 1 ≤ out.length) (h2 : out.length ≤ 300) : valF out = 0 := by
  obtain ⟨-, hn, hf, ho⟩ := val_zero.1 hv
  refine val_zero.2 ⟨⟨h1, h2⟩, fun i hi => ?_, fun i hi => ?_, fun k hk i hi => ?_⟩
  · obtain ⟨x, hx, l, e, h3, h4⟩ := hA i hi
    obtain ⟨g1, g2, g3, g4, g5, g6⟩ := nod_iff.1 (hn x hx)
    rw [e]
    refine nod_iff.2 ⟨g1, g2, g3, by simp only [h3]; exact g4, fun q hq => ?_, g6⟩
    obtain ⟨p, h5, h6, -⟩ := h4 q hq
    simp only at h5 ⊢
    omega
  · obtain ⟨x, hx, l, e, h3, h4⟩ := hA i hi
    have g4 := (nod_iff.1 (hn x hx)).2.2.2.1
    rw [e]
    refine (fit_congr (T := T) (out := out) (x := T[x]!) (y := ⟨T[x]!.op, T[x]!.width, T[x]!.flags, l, T[x]!.imm⟩) rfl rfl g4 fun q hq => ?_).trans (hf x hx)
    obtain ⟨p, h5, -, h6⟩ := h4 q (by omega)
    unfold wOf
    simp only [h5, Int.toNat_natCast]
    exact h6
  · obtain ⟨x, hx, l, e, -⟩ := hA i (by omega)
    obtain ⟨x2, hx2, l2, e2, -⟩ := hA k hk
    rw [e, e2, one_iff']
    simp only
    intro c1 c2 c3
    rcases Nat.lt_trichotomy x x2 with h | h | h
    · exact one_iff'.1 (ho x2 hx2 x h) c1 c2 c3
    · rw [h]
    · exact (one_iff'.1 (ho x hx x2 h) c2 c1 c3.symm).symm
theorem shF_val {T : List Nd} {k : Nat} (hv : valF T = 0) (hk : k < T.length) : valF (shF T k) = 0 ∧ shF (shF T k) ((shF T k).length - 1) = shF T k := by
  obtain ⟨h1, h2⟩ := shF_end (down_val hv) hk
  have h3 := (val_zero.1 hv).1.2
  have h4 := ins_last (tr T k)
  have h5 : 1 ≤ (shF T k).length := by unfold shF; omega
  have h6 := val_as hv h2 h5 (by omega)
  exact ⟨h6, shF_again (down_val h6)⟩
section
variable {w : World} {A : Option Addr} {n c : Nat} {T : List Nd}
set_option maxRecDepth 100000 in
set_option maxHeartbeats 4000000 in
theorem refShare_any (h : Term w A n c T) :
    Calls Tryz.prog 11 #[.slice A n c] w fun e w' => ∃ nv av, e = .returned (.tuple #[nv, .int .i64 (valF T)]) ∧ OwnT w' w.heap.size nv av (if valF T = 0 then shF T (T.length - 1) else []) ∧ Below w.heap.size w w' := by
  have HV := Lib.hid (refValidate_any h)
  have hcap := h.2.1
  have hmax := h.2.2.1
  by_cases hv : valF T = 0
  · have h300 : 1 ≤ n ∧ n ≤ 300 := by have := (val_zero.1 hv).1; have := h.1; omega
    rw [hv] at HV
    have HS := Lib.hid (fun w1 (hb : Below w.heap.size w w1) => shared_any (h.below hb) (down_val hv) (val_args hv) (by omega) (show n - 1 < n by omega))
    have e1 : ((n : Nat) : Int) - 1 = ((n - 1 : Nat) : Int) := by omega
    rw [hv, if_pos rfl, ← h.1]
    clear h hv
    go_enter Tryz.func11, Tryz.ntmps11
    go_wp2_with fail
    refine HV.out.mono ?_
    rintro e w1 ⟨rfl, hb⟩
    have HSS := Lib.hid (HS.out w1 hb)
    go_wp2_with fail
    refine HSS.out.mono ?_
    rintro e w2 ⟨nv, av, rfl, hO, hb2⟩
    go_wp2
    go_ret2
    exact ⟨nv, av, rfl, hO.own.mono hb.size, hb.trans (hb2.mono hb.size)⟩
  · rw [if_neg hv]
    generalize valF T = V at HV hv ⊢
    have e1 : (V != 0) = true := by simp [hv]
    clear h hv
    go_enter Tryz.func11, Tryz.ntmps11
    go_wp2_with fail
    refine HV.out.mono ?_
    rintro e w1 ⟨rfl, hb⟩
    go_wp2
    go_ret2
    exact ⟨_, fun _ => undef, rfl, ownT_nil _ _ _, hb⟩
end
end Go.Proofs.YtbohigjfdnnomaaGreatDoor
