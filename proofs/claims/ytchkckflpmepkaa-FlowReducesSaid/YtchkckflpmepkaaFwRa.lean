/-
  Critical of the reference.
-/
import Derived.Test.YtchkckflpmepkaaFwYb
import Derived.Test.YtchkckflpmepkaaFwX
import Derived.Test.YtchkckflpmepkaaFwLe
namespace Go.Proofs.Ytchkckflpmepkaa
open Go.RowKit

section
variable {G : List (List Nat)}
/-- Whether a node is reached and has two different successors. -/
def okA (G : List (List Nat)) (a : Nat) : Bool := wy G (-1) 0 a && (decide (2 ≤ (suc G a).length) && decide ((suc G a)[0]! ≠ (suc G a)[1]!))
def rcQ (G : List (List Nat)) (a k : Nat) : List Edg := ((List.range k).filter fun b => sucS G a b && crC G b).map fun b => (a, b)
def rcF (G : List (List Nat)) (a : Nat) : List Edg := if okA G a then rcQ G a G.length else []
def rcP (G : List (List Nat)) (i : Nat) : List Edg := (List.range i).flatMap (rcF G)
theorem rcP_succ (i : Nat) : rcP G (i + 1) = rcP G i ++ rcF G i := by
  unfold rcP
  rw [List.range_succ, List.flatMap_append]
  simp
theorem rcQ_succ (a k : Nat) : rcQ G a (k + 1) = rcQ G a k ++ (if sucS G a k && crC G k then [(a, k)] else []) := by
  unfold rcQ
  rw [List.range_succ, List.filter_append, List.map_append]
  congr 1
  cases hh : (sucS G a k && crC G k)
  · rw [List.filter_cons, hh]; rfl
  · rw [List.filter_cons, hh]; rfl
theorem rcQ_len (a k : Nat) : (rcQ G a k).length ≤ k := by
  unfold rcQ
  rw [List.length_map]
  have := List.length_filter_le (fun b => sucS G a b && crC G b) (List.range k)
  rwa [List.length_range] at this
theorem rcP_len (hG : okG G) : ∀ i, (rcP G i).length ≤ 10 * i
  | 0 => by simp [rcP]
  | i + 1 => by
    have := rcP_len hG i
    have h2 := rcQ_len (G := G) i G.length
    have h3 := hG.2.1
    rw [rcP_succ, List.length_append]
    unfold rcF
    split
    · omega
    · simp; omega
theorem setL_nodup (s : NS) (m : Nat) : (setL s m).Nodup := List.Pairwise.filter _ List.nodup_range
theorem two_suc (hG : okG G) (a : Nat) : (setL (sucS G a) 10).length < 2 ↔ ¬ (2 ≤ (suc G a).length ∧ (suc G a)[0]! ≠ (suc G a)[1]!) := by
  have hm : ∀ x, x ∈ setL (sucS G a) 10 ↔ x ∈ suc G a := fun x => by
    rw [mem_setL]
    constructor
    · exact fun h => of_decide_eq_true h.2
    · intro h
      have := hG.2.2.2 a x h
      have := hG.2.1
      exact ⟨by omega, decide_eq_true h⟩
  have hnd := setL_nodup (sucS G a) 10
  have hl2 := hG.2.2.1 a
  generalize setL (sucS G a) 10 = L at hm hnd
  generalize suc G a = l at hm hl2
  constructor
  · rintro h ⟨h2, hne⟩
    have m0 := (hm _).2 (at_get (l := l) (q := 0) (by omega))
    have m1 := (hm _).2 (at_get (l := l) (q := 1) (by omega))
    match L, h with
    | [], _ => cases m0
    | [x], _ =>
      rw [List.mem_singleton] at m0 m1
      exact hne (m0.trans m1.symm)
  · intro h
    apply Classical.byContradiction
    intro hL
    match L, hL, hnd with
    | [], hL, _ => exact hL (by simp)
    | [x], hL, _ => exact hL (by simp)
    | x :: y :: L', _, hnd =>
      have hx := (hm x).1 (by simp)
      have hy := (hm y).1 (by simp)
      have hxy : x ≠ y := by
        rw [List.nodup_cons] at hnd
        exact fun e => hnd.1 (by simp [e])
      match l, hl2 with
      | [], _ => cases hx
      | [p], _ =>
        rw [List.mem_singleton] at hx hy
        exact hxy (hx.trans hy.symm)
      | [p, q], _ =>
        refine h ⟨by simp, fun e => hxy ?_⟩
        have e : p = q := e
        subst e
        simp at hx hy
        rw [hx, hy]
theorem rc_eq (hG : okG G) : rcP G G.length = crL G := by
  unfold rcP crL
  rw [setL_ten (s := wy G (-1) 0) hG.2.1 (fun j hj => wy_lt hG hG.1 hj)]
  conv => rhs; unfold setL
  rw [flat_filter]
  congr 1
  funext a
  unfold rcF crF okA
  cases hw : wy G (-1) 0 a
  · rfl
  · by_cases h2 : (setL (sucS G a) 10).length < 2
    · have h3 := (two_suc hG a).1 h2
      rw [if_pos h2, if_neg]
      · rfl
      · intro hh
        rw [Bool.true_and, Bool.and_eq_true, decide_eq_true_iff, decide_eq_true_iff] at hh
        exact h3 hh
    · have h3 : 2 ≤ (suc G a).length ∧ (suc G a)[0]! ≠ (suc G a)[1]! := Classical.byContradiction fun h => h2 ((two_suc hG a).2 h)
      rw [if_neg h2, if_pos]
      · unfold rcQ crQ
        rw [List.take_length, setL_ten (s := sucS G a) hG.2.1 (fun j hj => sucS_lt hG hj)]
        unfold setL
        rw [List.filter_filter]
        simp only [if_true]
        congr 1
        apply List.filter_congr
        intro b _
        rw [Bool.and_comm]
      · rw [Bool.true_and, Bool.and_eq_true, decide_eq_true_iff, decide_eq_true_iff]
        exact h3
end
section
variable {w : World} {A : Option Addr} {n c : Nat} {g : List (List Int)}
set_option maxRecDepth 100000 in
set_option maxHeartbeats 8000000 in
theorem refCritical_any (h : RG w A n c g) : Calls Try.prog 37 #[.slice A n c] w fun e w' => ∃ v, e = .returned (.tuple #[v, .int .i64 (valF g)]) ∧ EdgV w' v (resC g) ∧ Below w.heap.size w w' := by
  have HV := Lib.hid (refValidate_any h)
  by_cases hv : valF g = 0
  · obtain ⟨i0, hi, hz0, hz1, hz2⟩ := info_parts infoE
    have hG := okG_val hv
    have hM := MG_of h hv
    obtain ⟨G, hGE⟩ : ∃ G, G = natG g := ⟨_, rfl⟩
    rw [← hGE] at hG hM
    have n10 : n ≤ 10 := by rw [hM.1]; exact hG.2.1
    have n1 : 0 < n := by rw [hM.1]; exact hG.1
    have hcap := hM.2.1
    have hmax := hM.2.2.1
    have HC := Lib.hid (fun w1 (hb : Below w.heap.size w w1) => reach_any hG (hM.below hb) 0 n1 (-1))
    have HGO := Lib.hid (fun w1 (hb : Below w.heap.size w w1) a (ha : a < n) b B (hB : sucS G a b = B) => hB ▸ goes_sucS G a b ▸ goes_any (hM.below hb) a ha b)
    have HP := Lib.hid (fun i => rcP_succ (G := G) i)
    have HQ := Lib.hid (fun a k => rcQ_succ (G := G) a k)
    have HPL := Lib.hid (rcP_len hG)
    have HQL := Lib.hid (rcQ_len (G := G))
    have HF := Lib.hid (fun a => show rcF G a = if okA G a then rcQ G a n else [] by unfold rcF; rw [hM.1])
    have HE := Lib.hid (show resC g = rcP G n by
      unfold resC
      rw [if_pos hv, ← hGE, hM.1, rc_eq hG])
    have hP0 : rcP G 0 = [] := by simp [rcP]
    have hQ0 : ∀ a, rcQ G a 0 = [] := fun a => by simp [rcQ]
    have HK := Lib.hid (fun a => show okA G a = (wy G (-1) 0 a && (decide (2 ≤ (suc G a).length) && decide ((suc G a)[0]! ≠ (suc G a)[1]!))) from rfl)
    have HBS := Lib.hid (fun b k => setL_succ (s := befS G b) (m := k))
    have HBL := Lib.hid (fun b k => setL_le (befS G b) k)
    have HBE := Lib.hid (fun b => show crC G b = decide (1 < (setL (befS G b) n).length) by
      unfold crC
      rw [setL_ten (s := befS G b) n10 (fun j hj => by rw [hM.1]; exact befS_lt hj)]
      rfl)
    have HSB := Lib.hid (fun a b => show befS G b a = sucS G a b from rfl)
    have HMG := Lib.hid hM
    rw [hv] at HV ⊢
    generalize resC g = Z at HE ⊢
    generalize rcP G = P at HP HPL HE hP0
    generalize rcQ G = Q at HF HQ HQL hQ0
    generalize rcF G = F at HP HF
    generalize okA G = K at HF HK
    generalize crC G = C at HQ HBE
    have HP0 := Lib.hid hP0
    have HQ0 := Lib.hid hQ0
    generalize wy G (-1) 0 = T at HC HK
    clear h hG hP0 hQ0 hGE hM hv
    go_enter Try.func37, Try.ntmps37
    go_wp2_with fail
    refine HV.out.mono ?_
    rintro e w1 ⟨rfl, rfl⟩
    go_wp2_with fail
    refine (HC.out _ (Below.refl _ _)).mono ?_
    rintro e w2 ⟨gb, rfl, hB, -, hb⟩
    have HB := Lib.hid hB
    have hgl := hB.lt
    clear hB HC HV
    go_wp2
    go_loopw [6, 7] (fun zl zi wr => ∃ i : Nat, i ≤ n ∧ zi = .int .i64 (i : Int) ∧ wr.ownsRow w2.heap.size 50 2 zl (P i).length (eV (P i)) ∧ Below w2.heap.size w2 wr) (fun _ zi _ => n - (intOf zi).toNat)
    case atStart => exact ⟨0, by omega, rfl, by rw [HP0.out]; exact World.ownsRow_nil _ _ _ _, Below.refl _ _⟩
    case round =>
      obtain ⟨i, hi2, rfl, hown, hb3⟩ := hrel
      have hbw := hb.trans (hb3.mono hb.size)
      by_cases hlt : i < n
      · have HP1 := Lib.hid (HP.out i)
        have hPl := HPL.out i
        have hcT := ((HB.out.below hb3).cell hlt).1
        have hgl2 := (HB.out.below hb3).lt
        obtain ⟨b0, off, A', n', c', rfl, hbs, hc, hr⟩ := (HMG.out.below hbw).at_ hlt
        have hr1 := hr.1
        have hcap' := hr.2.1
        have hmax' := hr.2.2.1
        have HR := Lib.hid hr
        have HKI := Lib.hid (HK.out i)
        have HFI := Lib.hid (HF.out i)
        clear hr
        cases hT : T i
        · have HP2 := Lib.hid (show P (i + 1) = P i by
            rw [HP1.out, HFI.out, HKI.out, hT]
            exact List.append_nil _)
          rw [hT] at hcT
          clear hT HP1 HFI HKI hr1 hcap' hmax'
          go_wp2
          refine wp_region_held_drew (S := (fun W => W.cell? ⟨gb, i, none⟩ = some (.bool false))) (by kernel_rfl) ?_ (fun hHeld => ?_)
          · exact hcT
          refine wpAnyH_take (i := 0) (oi := ({ dst := some 24, op := Op.move (Operand.tmp 5), type := 56, pos := "ref.go:293", after := #[], guard := none } : Oper)) (v := ?av0) rfl (by kernel_rfl) (by kernel_rfl) (by kernel_rfl) (fun _ _ _ h => h) (Or.inl ⟨by rfl, ?ay0⟩) (by assumption) ?ar0
          case ay0 =>
            intro w hSw
            (try dsimp only at hSw)
            go_simp
            (try with_reducible rfl)
          try simp only [Act.put, List.setIfInBounds_toArray, List.set_cons_zero, List.set_cons_succ]
          refine wpAnyH_take (i := 1) (oi := ({ dst := some 25, op := Op.move (Operand.tmp 7), type := 3, pos := "ref.go:293", after := #[], guard := none } : Oper)) (v := ?av1) rfl (by kernel_rfl) (by kernel_rfl) (by kernel_rfl) (fun _ _ _ h => h) (Or.inl ⟨by rfl, ?ay1⟩) (by assumption) ?ar1
          case ay1 =>
            intro w hSw
            (try dsimp only at hSw)
            go_simp
            (try with_reducible rfl)
          try simp only [Act.put, List.setIfInBounds_toArray, List.set_cons_zero, List.set_cons_succ]
          refine wpAnyH_take (i := 2) (oi := ({ dst := some 26, op := Op.indexAddr 56 (Operand.tmp 24) (Operand.tmp 25), type := 0, pos := "ref.go:293", after := #[{ on := 0, ground := Ground.data }, { on := 1, ground := Ground.data }], guard := none } : Oper)) (v := ?av2) rfl (by kernel_rfl) (by kernel_rfl) (by kernel_rfl) (fun _ _ _ h => h) (Or.inl ⟨by rfl, ?ay2⟩) (by assumption) ?ar2
          case ay2 =>
            intro w hSw
            (try dsimp only at hSw)
            go_simp
            (try with_reducible rfl)
          try simp only [Act.put, List.setIfInBounds_toArray, List.set_cons_zero, List.set_cons_succ]
          refine wpAnyH_take (i := 3) (oi := ({ dst := some 27, op := Op.load 4 (Operand.tmp 26), type := 4, pos := "ref.go:293", after := #[{ on := 2, ground := Ground.data }], guard := none } : Oper)) (v := ?av3) rfl (by kernel_rfl) (by kernel_rfl) (by kernel_rfl) (fun _ _ _ h => h) (Or.inl ⟨by rfl, ?ay3⟩) (by assumption) ?ar3
          case ay3 =>
            intro w hSw
            (try dsimp only at hSw)
            go_simp
            (try with_reducible rfl)
          try simp only [Act.put, List.setIfInBounds_toArray, List.set_cons_zero, List.set_cons_succ]
          refine wpAnyH_take (i := 4) (oi := ({ dst := some 28, op := Op.unOp UnOp.not 4 (Operand.tmp 27), type := 4, pos := "ref.go:293", after := #[{ on := 3, ground := Ground.data }], guard := none } : Oper)) (v := ?av4) rfl (by kernel_rfl) (by kernel_rfl) (by kernel_rfl) (fun _ _ _ h => h) (Or.inl ⟨by rfl, ?ay4⟩) (by assumption) ?ar4
          case ay4 =>
            intro w hSw
            (try dsimp only at hSw)
            go_simp
            (try with_reducible rfl)
          try simp only [Act.put, List.setIfInBounds_toArray, List.set_cons_zero, List.set_cons_succ]
          refine wpAnyH_take (i := 5) (oi := ({ dst := some 29, op := Op.move (Operand.tmp 28), type := 4, pos := "ref.go:293", after := #[{ on := 4, ground := Ground.data }], guard := none } : Oper)) (v := ?av5) rfl (by kernel_rfl) (by kernel_rfl) (by kernel_rfl) (fun _ _ _ h => h) (Or.inl ⟨by rfl, ?ay5⟩) (by assumption) ?ar5
          case ay5 =>
            intro w hSw
            (try dsimp only at hSw)
            go_simp
            (try with_reducible rfl)
          try simp only [Act.put, List.setIfInBounds_toArray, List.set_cons_zero, List.set_cons_succ]
          refine wpAnyH_take (i := 6) (oi := ({ dst := some 30, op := Op.move (Operand.tmp 0), type := 22, pos := "ref.go:293", after := #[{ on := 5, ground := Ground.guard }], guard := some (5, false) } : Oper)) rfl (by kernel_rfl) (by kernel_rfl) (by kernel_rfl) (fun _ _ _ h => h) (Or.inr ⟨by rfl, rfl⟩) (by assumption) ?ar6
          try simp only [Act.put, List.setIfInBounds_toArray, List.set_cons_zero, List.set_cons_succ]
          refine wpAnyH_take (i := 7) (oi := ({ dst := some 31, op := Op.move (Operand.tmp 7), type := 3, pos := "ref.go:293", after := #[{ on := 5, ground := Ground.guard }], guard := some (5, false) } : Oper)) rfl (by kernel_rfl) (by kernel_rfl) (by kernel_rfl) (fun _ _ _ h => h) (Or.inr ⟨by rfl, rfl⟩) (by assumption) ?ar7
          try simp only [Act.put, List.setIfInBounds_toArray, List.set_cons_zero, List.set_cons_succ]
          refine wpAnyH_take (i := 8) (oi := ({ dst := some 32, op := Op.indexAddr 22 (Operand.tmp 30) (Operand.tmp 31), type := 0, pos := "ref.go:293", after := #[{ on := 6, ground := Ground.data }, { on := 7, ground := Ground.data }, { on := 5, ground := Ground.guard }], guard := some (5, false) } : Oper)) rfl (by kernel_rfl) (by kernel_rfl) (by kernel_rfl) (fun _ _ _ h => h) (Or.inr ⟨by rfl, rfl⟩) (by assumption) ?ar8
          try simp only [Act.put, List.setIfInBounds_toArray, List.set_cons_zero, List.set_cons_succ]
          refine wpAnyH_take (i := 9) (oi := ({ dst := some 33, op := Op.load 25 (Operand.tmp 32), type := 25, pos := "ref.go:293", after := #[{ on := 8, ground := Ground.data }, { on := 5, ground := Ground.guard }], guard := some (5, false) } : Oper)) rfl (by kernel_rfl) (by kernel_rfl) (by kernel_rfl) (fun _ _ _ h => h) (Or.inr ⟨by rfl, rfl⟩) (by assumption) ?ar9
          try simp only [Act.put, List.setIfInBounds_toArray, List.set_cons_zero, List.set_cons_succ]
          refine wpAnyH_take (i := 10) (oi := ({ dst := some 34, op := Op.call { callee := Callee.builtin Builtin.len, args := #[Operand.tmp 33], argTypes := #[25] }, type := 3, pos := "ref.go:293", after := #[{ on := 9, ground := Ground.data }, { on := 5, ground := Ground.guard }], guard := some (5, false) } : Oper)) rfl (by kernel_rfl) (by kernel_rfl) (by kernel_rfl) (fun _ _ _ h => h) (Or.inr ⟨by rfl, rfl⟩) (by assumption) ?ar10
          try simp only [Act.put, List.setIfInBounds_toArray, List.set_cons_zero, List.set_cons_succ]
          refine wpAnyH_take (i := 11) (oi := ({ dst := some 35, op := Op.binOp BinOp.lss 3 (Operand.tmp 34) (Operand.const (Value.int IntKind.i64 2)) 3, type := 4, pos := "ref.go:293", after := #[{ on := 10, ground := Ground.data }, { on := 5, ground := Ground.guard }], guard := some (5, false) } : Oper)) rfl (by kernel_rfl) (by kernel_rfl) (by kernel_rfl) (fun _ _ _ h => h) (Or.inr ⟨by rfl, rfl⟩) (by assumption) ?ar11
          try simp only [Act.put, List.setIfInBounds_toArray, List.set_cons_zero, List.set_cons_succ]
          refine wpAnyH_take (i := 12) (oi := ({ dst := some 36, op := Op.pick (Operand.tmp 29) (Operand.const (Value.bool true)) (Operand.tmp 35), type := 4, pos := "ref.go:293", after := #[{ on := 5, ground := Ground.data }, { on := 11, ground := Ground.data }], guard := none } : Oper)) (v := ?av12) rfl (by kernel_rfl) (by kernel_rfl) (by kernel_rfl) (fun _ _ _ h => h) (Or.inl ⟨by rfl, ?ay12⟩) (by assumption) ?ar12
          case ay12 =>
            intro w hSw
            (try dsimp only at hSw)
            go_simp
            (try with_reducible rfl)
          try simp only [Act.put, List.setIfInBounds_toArray, List.set_cons_zero, List.set_cons_succ]
          refine wpAnyH_take (i := 13) (oi := ({ dst := some 37, op := Op.move (Operand.tmp 36), type := 4, pos := "ref.go:293", after := #[{ on := 12, ground := Ground.data }, { on := 5, ground := Ground.chain }], guard := none } : Oper)) (v := ?av13) rfl (by kernel_rfl) (by kernel_rfl) (by kernel_rfl) (fun _ _ _ h => h) (Or.inl ⟨by rfl, ?ay13⟩) (by assumption) ?ar13
          case ay13 =>
            intro w hSw
            (try dsimp only at hSw)
            go_simp
            (try with_reducible rfl)
          try simp only [Act.put, List.setIfInBounds_toArray, List.set_cons_zero, List.set_cons_succ]
          refine wpAnyH_take (i := 14) (oi := ({ dst := some 38, op := Op.move (Operand.tmp 0), type := 22, pos := "ref.go:293", after := #[{ on := 13, ground := Ground.guard }], guard := some (13, false) } : Oper)) rfl (by kernel_rfl) (by kernel_rfl) (by kernel_rfl) (fun _ _ _ h => h) (Or.inr ⟨by rfl, rfl⟩) (by assumption) ?ar14
          try simp only [Act.put, List.setIfInBounds_toArray, List.set_cons_zero, List.set_cons_succ]
          refine wpAnyH_take (i := 15) (oi := ({ dst := some 39, op := Op.move (Operand.tmp 7), type := 3, pos := "ref.go:293", after := #[{ on := 13, ground := Ground.guard }], guard := some (13, false) } : Oper)) rfl (by kernel_rfl) (by kernel_rfl) (by kernel_rfl) (fun _ _ _ h => h) (Or.inr ⟨by rfl, rfl⟩) (by assumption) ?ar15
          try simp only [Act.put, List.setIfInBounds_toArray, List.set_cons_zero, List.set_cons_succ]
          refine wpAnyH_take (i := 16) (oi := ({ dst := some 40, op := Op.indexAddr 22 (Operand.tmp 38) (Operand.tmp 39), type := 0, pos := "ref.go:293", after := #[{ on := 14, ground := Ground.data }, { on := 15, ground := Ground.data }, { on := 13, ground := Ground.guard }], guard := some (13, false) } : Oper)) rfl (by kernel_rfl) (by kernel_rfl) (by kernel_rfl) (fun _ _ _ h => h) (Or.inr ⟨by rfl, rfl⟩) (by assumption) ?ar16
          try simp only [Act.put, List.setIfInBounds_toArray, List.set_cons_zero, List.set_cons_succ]
          refine wpAnyH_take (i := 17) (oi := ({ dst := some 41, op := Op.load 25 (Operand.tmp 40), type := 25, pos := "ref.go:293", after := #[{ on := 16, ground := Ground.data }, { on := 13, ground := Ground.guard }], guard := some (13, false) } : Oper)) rfl (by kernel_rfl) (by kernel_rfl) (by kernel_rfl) (fun _ _ _ h => h) (Or.inr ⟨by rfl, rfl⟩) (by assumption) ?ar17
          try simp only [Act.put, List.setIfInBounds_toArray, List.set_cons_zero, List.set_cons_succ]
          refine wpAnyH_take (i := 18) (oi := ({ dst := some 42, op := Op.indexAddr 25 (Operand.tmp 41) (Operand.const (Value.int IntKind.i64 0)), type := 0, pos := "ref.go:293", after := #[{ on := 17, ground := Ground.data }, { on := 13, ground := Ground.guard }], guard := some (13, false) } : Oper)) rfl (by kernel_rfl) (by kernel_rfl) (by kernel_rfl) (fun _ _ _ h => h) (Or.inr ⟨by rfl, rfl⟩) (by assumption) ?ar18
          try simp only [Act.put, List.setIfInBounds_toArray, List.set_cons_zero, List.set_cons_succ]
          refine wpAnyH_take (i := 19) (oi := ({ dst := some 43, op := Op.load 3 (Operand.tmp 42), type := 3, pos := "ref.go:293", after := #[{ on := 18, ground := Ground.data }, { on := 13, ground := Ground.guard }], guard := some (13, false) } : Oper)) rfl (by kernel_rfl) (by kernel_rfl) (by kernel_rfl) (fun _ _ _ h => h) (Or.inr ⟨by rfl, rfl⟩) (by assumption) ?ar19
          try simp only [Act.put, List.setIfInBounds_toArray, List.set_cons_zero, List.set_cons_succ]
          refine wpAnyH_take (i := 20) (oi := ({ dst := some 44, op := Op.move (Operand.tmp 0), type := 22, pos := "ref.go:293", after := #[{ on := 13, ground := Ground.guard }], guard := some (13, false) } : Oper)) rfl (by kernel_rfl) (by kernel_rfl) (by kernel_rfl) (fun _ _ _ h => h) (Or.inr ⟨by rfl, rfl⟩) (by assumption) ?ar20
          try simp only [Act.put, List.setIfInBounds_toArray, List.set_cons_zero, List.set_cons_succ]
          refine wpAnyH_take (i := 21) (oi := ({ dst := some 45, op := Op.move (Operand.tmp 7), type := 3, pos := "ref.go:293", after := #[{ on := 13, ground := Ground.guard }], guard := some (13, false) } : Oper)) rfl (by kernel_rfl) (by kernel_rfl) (by kernel_rfl) (fun _ _ _ h => h) (Or.inr ⟨by rfl, rfl⟩) (by assumption) ?ar21
          try simp only [Act.put, List.setIfInBounds_toArray, List.set_cons_zero, List.set_cons_succ]
          refine wpAnyH_take (i := 22) (oi := ({ dst := some 46, op := Op.indexAddr 22 (Operand.tmp 44) (Operand.tmp 45), type := 0, pos := "ref.go:293", after := #[{ on := 20, ground := Ground.data }, { on := 21, ground := Ground.data }, { on := 13, ground := Ground.guard }], guard := some (13, false) } : Oper)) rfl (by kernel_rfl) (by kernel_rfl) (by kernel_rfl) (fun _ _ _ h => h) (Or.inr ⟨by rfl, rfl⟩) (by assumption) ?ar22
          try simp only [Act.put, List.setIfInBounds_toArray, List.set_cons_zero, List.set_cons_succ]
          refine wpAnyH_take (i := 23) (oi := ({ dst := some 47, op := Op.load 25 (Operand.tmp 46), type := 25, pos := "ref.go:293", after := #[{ on := 22, ground := Ground.data }, { on := 13, ground := Ground.guard }], guard := some (13, false) } : Oper)) rfl (by kernel_rfl) (by kernel_rfl) (by kernel_rfl) (fun _ _ _ h => h) (Or.inr ⟨by rfl, rfl⟩) (by assumption) ?ar23
          try simp only [Act.put, List.setIfInBounds_toArray, List.set_cons_zero, List.set_cons_succ]
          refine wpAnyH_take (i := 24) (oi := ({ dst := some 48, op := Op.indexAddr 25 (Operand.tmp 47) (Operand.const (Value.int IntKind.i64 1)), type := 0, pos := "ref.go:293", after := #[{ on := 23, ground := Ground.data }, { on := 13, ground := Ground.guard }], guard := some (13, false) } : Oper)) rfl (by kernel_rfl) (by kernel_rfl) (by kernel_rfl) (fun _ _ _ h => h) (Or.inr ⟨by rfl, rfl⟩) (by assumption) ?ar24
          try simp only [Act.put, List.setIfInBounds_toArray, List.set_cons_zero, List.set_cons_succ]
          refine wpAnyH_take (i := 25) (oi := ({ dst := some 49, op := Op.load 3 (Operand.tmp 48), type := 3, pos := "ref.go:293", after := #[{ on := 24, ground := Ground.data }, { on := 13, ground := Ground.guard }], guard := some (13, false) } : Oper)) rfl (by kernel_rfl) (by kernel_rfl) (by kernel_rfl) (fun _ _ _ h => h) (Or.inr ⟨by rfl, rfl⟩) (by assumption) ?ar25
          try simp only [Act.put, List.setIfInBounds_toArray, List.set_cons_zero, List.set_cons_succ]
          refine wpAnyH_take (i := 26) (oi := ({ dst := some 50, op := Op.binOp BinOp.eql 3 (Operand.tmp 43) (Operand.tmp 49) 3, type := 4, pos := "ref.go:293", after := #[{ on := 19, ground := Ground.data }, { on := 25, ground := Ground.data }, { on := 13, ground := Ground.guard }], guard := some (13, false) } : Oper)) rfl (by kernel_rfl) (by kernel_rfl) (by kernel_rfl) (fun _ _ _ h => h) (Or.inr ⟨by rfl, rfl⟩) (by assumption) ?ar26
          try simp only [Act.put, List.setIfInBounds_toArray, List.set_cons_zero, List.set_cons_succ]
          refine wpAnyH_take (i := 27) (oi := ({ dst := some 51, op := Op.pick (Operand.tmp 37) (Operand.const (Value.bool true)) (Operand.tmp 50), type := 4, pos := "ref.go:293", after := #[{ on := 13, ground := Ground.data }, { on := 26, ground := Ground.data }], guard := none } : Oper)) (v := ?av27) rfl (by kernel_rfl) (by kernel_rfl) (by kernel_rfl) (fun _ _ _ h => h) (Or.inl ⟨by rfl, ?ay27⟩) (by assumption) ?ar27
          case ay27 =>
            intro w hSw
            (try dsimp only at hSw)
            go_simp
            (try with_reducible rfl)
          try simp only [Act.put, List.setIfInBounds_toArray, List.set_cons_zero, List.set_cons_succ]
          refine wpAnyH_done (by kernel_rfl) ?_ _
          go_wp2
          go_roundw
          case rel => exact ⟨i + 1, by omega, by go_num, by rw [HP2.out]; exact hown, drewR hb3⟩
          case measure => simp [intOf]; omega
        · rw [hT] at hcT
          by_cases h2 : n' < 2
          · have HP2 := Lib.hid (show P (i + 1) = P i by
              rw [HP1.out, HFI.out, HKI.out, decide_eq_false (show ¬ 2 ≤ (suc G i).length by omega), Bool.false_and, Bool.and_false]
              exact List.append_nil _)
            have d2 : decide (n' < 2) = true := decide_eq_true h2
            have d3 : decide ((n' : Int) < 2) = true := decide_eq_true (by omega)
            clear hT HP1 HFI HKI hr1
            go_wp2
            refine wp_region_held_drew (S := (fun W => W.cell? ⟨gb, i, none⟩ = some (.bool true) ∧ W.cell? ⟨b0, off + i, none⟩ = some (.slice A' n' c'))) (by kernel_rfl) ?_ (fun hHeld => ?_)
            · exact ⟨hcT, hc⟩
            refine wpAnyH_take (i := 0) (oi := ({ dst := some 24, op := Op.move (Operand.tmp 5), type := 56, pos := "ref.go:293", after := #[], guard := none } : Oper)) (v := ?bv0) rfl (by kernel_rfl) (by kernel_rfl) (by kernel_rfl) (fun _ _ _ h => h) (Or.inl ⟨by rfl, ?by0⟩) (by assumption) ?br0
            case by0 =>
              intro w hSw
              (try dsimp only at hSw)
              go_simp
              (try with_reducible rfl)
            try simp only [Act.put, List.setIfInBounds_toArray, List.set_cons_zero, List.set_cons_succ]
            refine wpAnyH_take (i := 1) (oi := ({ dst := some 25, op := Op.move (Operand.tmp 7), type := 3, pos := "ref.go:293", after := #[], guard := none } : Oper)) (v := ?bv1) rfl (by kernel_rfl) (by kernel_rfl) (by kernel_rfl) (fun _ _ _ h => h) (Or.inl ⟨by rfl, ?by1⟩) (by assumption) ?br1
            case by1 =>
              intro w hSw
              (try dsimp only at hSw)
              go_simp
              (try with_reducible rfl)
            try simp only [Act.put, List.setIfInBounds_toArray, List.set_cons_zero, List.set_cons_succ]
            refine wpAnyH_take (i := 2) (oi := ({ dst := some 26, op := Op.indexAddr 56 (Operand.tmp 24) (Operand.tmp 25), type := 0, pos := "ref.go:293", after := #[{ on := 0, ground := Ground.data }, { on := 1, ground := Ground.data }], guard := none } : Oper)) (v := ?bv2) rfl (by kernel_rfl) (by kernel_rfl) (by kernel_rfl) (fun _ _ _ h => h) (Or.inl ⟨by rfl, ?by2⟩) (by assumption) ?br2
            case by2 =>
              intro w hSw
              (try dsimp only at hSw)
              go_simp
              (try with_reducible rfl)
            try simp only [Act.put, List.setIfInBounds_toArray, List.set_cons_zero, List.set_cons_succ]
            refine wpAnyH_take (i := 3) (oi := ({ dst := some 27, op := Op.load 4 (Operand.tmp 26), type := 4, pos := "ref.go:293", after := #[{ on := 2, ground := Ground.data }], guard := none } : Oper)) (v := ?bv3) rfl (by kernel_rfl) (by kernel_rfl) (by kernel_rfl) (fun _ _ _ h => h) (Or.inl ⟨by rfl, ?by3⟩) (by assumption) ?br3
            case by3 =>
              intro w hSw
              (try dsimp only at hSw)
              go_simp
              (try with_reducible rfl)
            try simp only [Act.put, List.setIfInBounds_toArray, List.set_cons_zero, List.set_cons_succ]
            refine wpAnyH_take (i := 4) (oi := ({ dst := some 28, op := Op.unOp UnOp.not 4 (Operand.tmp 27), type := 4, pos := "ref.go:293", after := #[{ on := 3, ground := Ground.data }], guard := none } : Oper)) (v := ?bv4) rfl (by kernel_rfl) (by kernel_rfl) (by kernel_rfl) (fun _ _ _ h => h) (Or.inl ⟨by rfl, ?by4⟩) (by assumption) ?br4
            case by4 =>
              intro w hSw
              (try dsimp only at hSw)
              go_simp
              (try with_reducible rfl)
            try simp only [Act.put, List.setIfInBounds_toArray, List.set_cons_zero, List.set_cons_succ]
            refine wpAnyH_take (i := 5) (oi := ({ dst := some 29, op := Op.move (Operand.tmp 28), type := 4, pos := "ref.go:293", after := #[{ on := 4, ground := Ground.data }], guard := none } : Oper)) (v := ?bv5) rfl (by kernel_rfl) (by kernel_rfl) (by kernel_rfl) (fun _ _ _ h => h) (Or.inl ⟨by rfl, ?by5⟩) (by assumption) ?br5
            case by5 =>
              intro w hSw
              (try dsimp only at hSw)
              go_simp
              (try with_reducible rfl)
            try simp only [Act.put, List.setIfInBounds_toArray, List.set_cons_zero, List.set_cons_succ]
            refine wpAnyH_take (i := 6) (oi := ({ dst := some 30, op := Op.move (Operand.tmp 0), type := 22, pos := "ref.go:293", after := #[{ on := 5, ground := Ground.guard }], guard := some (5, false) } : Oper)) (v := ?bv6) rfl (by kernel_rfl) (by kernel_rfl) (by kernel_rfl) (fun _ _ _ h => h) (Or.inl ⟨by rfl, ?by6⟩) (by assumption) ?br6
            case by6 =>
              intro w hSw
              (try dsimp only at hSw)
              go_simp
              (try with_reducible rfl)
            try simp only [Act.put, List.setIfInBounds_toArray, List.set_cons_zero, List.set_cons_succ]
            refine wpAnyH_take (i := 7) (oi := ({ dst := some 31, op := Op.move (Operand.tmp 7), type := 3, pos := "ref.go:293", after := #[{ on := 5, ground := Ground.guard }], guard := some (5, false) } : Oper)) (v := ?bv7) rfl (by kernel_rfl) (by kernel_rfl) (by kernel_rfl) (fun _ _ _ h => h) (Or.inl ⟨by rfl, ?by7⟩) (by assumption) ?br7
            case by7 =>
              intro w hSw
              (try dsimp only at hSw)
              go_simp
              (try with_reducible rfl)
            try simp only [Act.put, List.setIfInBounds_toArray, List.set_cons_zero, List.set_cons_succ]
            refine wpAnyH_take (i := 8) (oi := ({ dst := some 32, op := Op.indexAddr 22 (Operand.tmp 30) (Operand.tmp 31), type := 0, pos := "ref.go:293", after := #[{ on := 6, ground := Ground.data }, { on := 7, ground := Ground.data }, { on := 5, ground := Ground.guard }], guard := some (5, false) } : Oper)) (v := ?bv8) rfl (by kernel_rfl) (by kernel_rfl) (by kernel_rfl) (fun _ _ _ h => h) (Or.inl ⟨by rfl, ?by8⟩) (by assumption) ?br8
            case by8 =>
              intro w hSw
              (try dsimp only at hSw)
              go_simp
              (try with_reducible rfl)
            try simp only [Act.put, List.setIfInBounds_toArray, List.set_cons_zero, List.set_cons_succ]
            refine wpAnyH_take (i := 9) (oi := ({ dst := some 33, op := Op.load 25 (Operand.tmp 32), type := 25, pos := "ref.go:293", after := #[{ on := 8, ground := Ground.data }, { on := 5, ground := Ground.guard }], guard := some (5, false) } : Oper)) (v := ?bv9) rfl (by kernel_rfl) (by kernel_rfl) (by kernel_rfl) (fun _ _ _ h => h) (Or.inl ⟨by rfl, ?by9⟩) (by assumption) ?br9
            case by9 =>
              intro w hSw
              (try dsimp only at hSw)
              go_simp
              (try with_reducible rfl)
            try simp only [Act.put, List.setIfInBounds_toArray, List.set_cons_zero, List.set_cons_succ]
            refine wpAnyH_take (i := 10) (oi := ({ dst := some 34, op := Op.call { callee := Callee.builtin Builtin.len, args := #[Operand.tmp 33], argTypes := #[25] }, type := 3, pos := "ref.go:293", after := #[{ on := 9, ground := Ground.data }, { on := 5, ground := Ground.guard }], guard := some (5, false) } : Oper)) (v := ?bv10) rfl (by kernel_rfl) (by kernel_rfl) (by kernel_rfl) (fun _ _ _ h => h) (Or.inl ⟨by rfl, ?by10⟩) (by assumption) ?br10
            case by10 =>
              intro w hSw
              (try dsimp only at hSw)
              go_simp
              (try with_reducible rfl)
            try simp only [Act.put, List.setIfInBounds_toArray, List.set_cons_zero, List.set_cons_succ]
            refine wpAnyH_take (i := 11) (oi := ({ dst := some 35, op := Op.binOp BinOp.lss 3 (Operand.tmp 34) (Operand.const (Value.int IntKind.i64 2)) 3, type := 4, pos := "ref.go:293", after := #[{ on := 10, ground := Ground.data }, { on := 5, ground := Ground.guard }], guard := some (5, false) } : Oper)) (v := ?bv11) rfl (by kernel_rfl) (by kernel_rfl) (by kernel_rfl) (fun _ _ _ h => h) (Or.inl ⟨by rfl, ?by11⟩) (by assumption) ?br11
            case by11 =>
              intro w hSw
              (try dsimp only at hSw)
              go_simp
              (try with_reducible rfl)
            try simp only [Act.put, List.setIfInBounds_toArray, List.set_cons_zero, List.set_cons_succ]
            refine wpAnyH_take (i := 12) (oi := ({ dst := some 36, op := Op.pick (Operand.tmp 29) (Operand.const (Value.bool true)) (Operand.tmp 35), type := 4, pos := "ref.go:293", after := #[{ on := 5, ground := Ground.data }, { on := 11, ground := Ground.data }], guard := none } : Oper)) (v := ?bv12) rfl (by kernel_rfl) (by kernel_rfl) (by kernel_rfl) (fun _ _ _ h => h) (Or.inl ⟨by rfl, ?by12⟩) (by assumption) ?br12
            case by12 =>
              intro w hSw
              (try dsimp only at hSw)
              go_simp
              (try with_reducible rfl)
            try simp only [Act.put, List.setIfInBounds_toArray, List.set_cons_zero, List.set_cons_succ]
            refine wpAnyH_take (i := 13) (oi := ({ dst := some 37, op := Op.move (Operand.tmp 36), type := 4, pos := "ref.go:293", after := #[{ on := 12, ground := Ground.data }, { on := 5, ground := Ground.chain }], guard := none } : Oper)) (v := ?bv13) rfl (by kernel_rfl) (by kernel_rfl) (by kernel_rfl) (fun _ _ _ h => h) (Or.inl ⟨by rfl, ?by13⟩) (by assumption) ?br13
            case by13 =>
              intro w hSw
              (try dsimp only at hSw)
              go_simp
              (try with_reducible rfl)
            try simp only [Act.put, List.setIfInBounds_toArray, List.set_cons_zero, List.set_cons_succ]
            refine wpAnyH_take (i := 14) (oi := ({ dst := some 38, op := Op.move (Operand.tmp 0), type := 22, pos := "ref.go:293", after := #[{ on := 13, ground := Ground.guard }], guard := some (13, false) } : Oper)) rfl (by kernel_rfl) (by kernel_rfl) (by kernel_rfl) (fun _ _ _ h => h) (Or.inr ⟨by rfl, rfl⟩) (by assumption) ?br14
            try simp only [Act.put, List.setIfInBounds_toArray, List.set_cons_zero, List.set_cons_succ]
            refine wpAnyH_take (i := 15) (oi := ({ dst := some 39, op := Op.move (Operand.tmp 7), type := 3, pos := "ref.go:293", after := #[{ on := 13, ground := Ground.guard }], guard := some (13, false) } : Oper)) rfl (by kernel_rfl) (by kernel_rfl) (by kernel_rfl) (fun _ _ _ h => h) (Or.inr ⟨by rfl, rfl⟩) (by assumption) ?br15
            try simp only [Act.put, List.setIfInBounds_toArray, List.set_cons_zero, List.set_cons_succ]
            refine wpAnyH_take (i := 16) (oi := ({ dst := some 40, op := Op.indexAddr 22 (Operand.tmp 38) (Operand.tmp 39), type := 0, pos := "ref.go:293", after := #[{ on := 14, ground := Ground.data }, { on := 15, ground := Ground.data }, { on := 13, ground := Ground.guard }], guard := some (13, false) } : Oper)) rfl (by kernel_rfl) (by kernel_rfl) (by kernel_rfl) (fun _ _ _ h => h) (Or.inr ⟨by rfl, rfl⟩) (by assumption) ?br16
            try simp only [Act.put, List.setIfInBounds_toArray, List.set_cons_zero, List.set_cons_succ]
            refine wpAnyH_take (i := 17) (oi := ({ dst := some 41, op := Op.load 25 (Operand.tmp 40), type := 25, pos := "ref.go:293", after := #[{ on := 16, ground := Ground.data }, { on := 13, ground := Ground.guard }], guard := some (13, false) } : Oper)) rfl (by kernel_rfl) (by kernel_rfl) (by kernel_rfl) (fun _ _ _ h => h) (Or.inr ⟨by rfl, rfl⟩) (by assumption) ?br17
            try simp only [Act.put, List.setIfInBounds_toArray, List.set_cons_zero, List.set_cons_succ]
            refine wpAnyH_take (i := 18) (oi := ({ dst := some 42, op := Op.indexAddr 25 (Operand.tmp 41) (Operand.const (Value.int IntKind.i64 0)), type := 0, pos := "ref.go:293", after := #[{ on := 17, ground := Ground.data }, { on := 13, ground := Ground.guard }], guard := some (13, false) } : Oper)) rfl (by kernel_rfl) (by kernel_rfl) (by kernel_rfl) (fun _ _ _ h => h) (Or.inr ⟨by rfl, rfl⟩) (by assumption) ?br18
            try simp only [Act.put, List.setIfInBounds_toArray, List.set_cons_zero, List.set_cons_succ]
            refine wpAnyH_take (i := 19) (oi := ({ dst := some 43, op := Op.load 3 (Operand.tmp 42), type := 3, pos := "ref.go:293", after := #[{ on := 18, ground := Ground.data }, { on := 13, ground := Ground.guard }], guard := some (13, false) } : Oper)) rfl (by kernel_rfl) (by kernel_rfl) (by kernel_rfl) (fun _ _ _ h => h) (Or.inr ⟨by rfl, rfl⟩) (by assumption) ?br19
            try simp only [Act.put, List.setIfInBounds_toArray, List.set_cons_zero, List.set_cons_succ]
            refine wpAnyH_take (i := 20) (oi := ({ dst := some 44, op := Op.move (Operand.tmp 0), type := 22, pos := "ref.go:293", after := #[{ on := 13, ground := Ground.guard }], guard := some (13, false) } : Oper)) rfl (by kernel_rfl) (by kernel_rfl) (by kernel_rfl) (fun _ _ _ h => h) (Or.inr ⟨by rfl, rfl⟩) (by assumption) ?br20
            try simp only [Act.put, List.setIfInBounds_toArray, List.set_cons_zero, List.set_cons_succ]
            refine wpAnyH_take (i := 21) (oi := ({ dst := some 45, op := Op.move (Operand.tmp 7), type := 3, pos := "ref.go:293", after := #[{ on := 13, ground := Ground.guard }], guard := some (13, false) } : Oper)) rfl (by kernel_rfl) (by kernel_rfl) (by kernel_rfl) (fun _ _ _ h => h) (Or.inr ⟨by rfl, rfl⟩) (by assumption) ?br21
            try simp only [Act.put, List.setIfInBounds_toArray, List.set_cons_zero, List.set_cons_succ]
            refine wpAnyH_take (i := 22) (oi := ({ dst := some 46, op := Op.indexAddr 22 (Operand.tmp 44) (Operand.tmp 45), type := 0, pos := "ref.go:293", after := #[{ on := 20, ground := Ground.data }, { on := 21, ground := Ground.data }, { on := 13, ground := Ground.guard }], guard := some (13, false) } : Oper)) rfl (by kernel_rfl) (by kernel_rfl) (by kernel_rfl) (fun _ _ _ h => h) (Or.inr ⟨by rfl, rfl⟩) (by assumption) ?br22
            try simp only [Act.put, List.setIfInBounds_toArray, List.set_cons_zero, List.set_cons_succ]
            refine wpAnyH_take (i := 23) (oi := ({ dst := some 47, op := Op.load 25 (Operand.tmp 46), type := 25, pos := "ref.go:293", after := #[{ on := 22, ground := Ground.data }, { on := 13, ground := Ground.guard }], guard := some (13, false) } : Oper)) rfl (by kernel_rfl) (by kernel_rfl) (by kernel_rfl) (fun _ _ _ h => h) (Or.inr ⟨by rfl, rfl⟩) (by assumption) ?br23
            try simp only [Act.put, List.setIfInBounds_toArray, List.set_cons_zero, List.set_cons_succ]
            refine wpAnyH_take (i := 24) (oi := ({ dst := some 48, op := Op.indexAddr 25 (Operand.tmp 47) (Operand.const (Value.int IntKind.i64 1)), type := 0, pos := "ref.go:293", after := #[{ on := 23, ground := Ground.data }, { on := 13, ground := Ground.guard }], guard := some (13, false) } : Oper)) rfl (by kernel_rfl) (by kernel_rfl) (by kernel_rfl) (fun _ _ _ h => h) (Or.inr ⟨by rfl, rfl⟩) (by assumption) ?br24
            try simp only [Act.put, List.setIfInBounds_toArray, List.set_cons_zero, List.set_cons_succ]
            refine wpAnyH_take (i := 25) (oi := ({ dst := some 49, op := Op.load 3 (Operand.tmp 48), type := 3, pos := "ref.go:293", after := #[{ on := 24, ground := Ground.data }, { on := 13, ground := Ground.guard }], guard := some (13, false) } : Oper)) rfl (by kernel_rfl) (by kernel_rfl) (by kernel_rfl) (fun _ _ _ h => h) (Or.inr ⟨by rfl, rfl⟩) (by assumption) ?br25
            try simp only [Act.put, List.setIfInBounds_toArray, List.set_cons_zero, List.set_cons_succ]
            refine wpAnyH_take (i := 26) (oi := ({ dst := some 50, op := Op.binOp BinOp.eql 3 (Operand.tmp 43) (Operand.tmp 49) 3, type := 4, pos := "ref.go:293", after := #[{ on := 19, ground := Ground.data }, { on := 25, ground := Ground.data }, { on := 13, ground := Ground.guard }], guard := some (13, false) } : Oper)) rfl (by kernel_rfl) (by kernel_rfl) (by kernel_rfl) (fun _ _ _ h => h) (Or.inr ⟨by rfl, rfl⟩) (by assumption) ?br26
            try simp only [Act.put, List.setIfInBounds_toArray, List.set_cons_zero, List.set_cons_succ]
            refine wpAnyH_take (i := 27) (oi := ({ dst := some 51, op := Op.pick (Operand.tmp 37) (Operand.const (Value.bool true)) (Operand.tmp 50), type := 4, pos := "ref.go:293", after := #[{ on := 13, ground := Ground.data }, { on := 26, ground := Ground.data }], guard := none } : Oper)) (v := ?bv27) rfl (by kernel_rfl) (by kernel_rfl) (by kernel_rfl) (fun _ _ _ h => h) (Or.inl ⟨by rfl, ?by27⟩) (by assumption) ?br27
            case by27 =>
              intro w hSw
              (try dsimp only at hSw)
              go_simp
              (try with_reducible rfl)
            try simp only [Act.put, List.setIfInBounds_toArray, List.set_cons_zero, List.set_cons_succ]
            refine wpAnyH_done (by kernel_rfl) ?_ _
            go_wp2
            go_roundw
            case rel => exact ⟨i + 1, by omega, by go_num, by rw [HP2.out]; exact hown, drewR hb3⟩
            case measure => simp [intOf]; omega
          · have d2 : decide (n' < 2) = false := decide_eq_false h2
            have d3 : decide ((n' : Int) < 2) = false := decide_eq_false (by omega)
            have hq0 : 0 < n' := by omega
            have hq1 : 1 < n' := by omega
            have hq2 : (1 : Int) < (n' : Int) := by omega
            obtain ⟨b', off', rfl, hbs', hc0⟩ := HR.out.at_ hq0
            obtain ⟨b'', off'', q1, hbs'', hc1⟩ := HR.out.at_ hq1
            injection q1 with q1
            injection q1 with q1 q2 _
            subst q1 q2
            rw [Nat.add_zero] at hc0
            have HK2 := Lib.hid (show K i = decide ((suc G i)[0]! ≠ (suc G i)[1]!) by
              rw [HKI.out, hT, decide_eq_true (show 2 ≤ (suc G i).length by omega), Bool.true_and, Bool.true_and])
            generalize (suc G i)[0]! = p at hc0 HK2
            generalize (suc G i)[1]! = q at hc1 HK2
            clear hT HKI hr1 h2
            by_cases hpq : p = q
            · have HP2 := Lib.hid (show P (i + 1) = P i by
                rw [HP1.out, HFI.out, HK2.out, decide_eq_false (fun h => h hpq)]
                exact List.append_nil _)
              have e1 : ((p : Int) == (q : Int)) = true := by simp [hpq]
              clear HP1 HFI HK2 hpq
              go_wp2
              refine wp_region_held_drew (S := (fun W => W.cell? ⟨gb, i, none⟩ = some (.bool true) ∧ W.cell? ⟨b0, off + i, none⟩ = some (.slice (some ⟨b', off', none⟩) n' c') ∧ W.cell? ⟨b', off', none⟩ = some (.int .i64 (p : Int)) ∧ W.cell? ⟨b', off' + 1, none⟩ = some (.int .i64 (q : Int)))) (by kernel_rfl) ?_ (fun hHeld => ?_)
              · exact ⟨hcT, hc, hc0, hc1⟩
              refine wpAnyH_take (i := 0) (oi := ({ dst := some 24, op := Op.move (Operand.tmp 5), type := 56, pos := "ref.go:293", after := #[], guard := none } : Oper)) (v := ?cv0) rfl (by kernel_rfl) (by kernel_rfl) (by kernel_rfl) (fun _ _ _ h => h) (Or.inl ⟨by rfl, ?cy0⟩) (by assumption) ?cr0
              case cy0 =>
                intro w hSw
                (try dsimp only at hSw)
                go_simp
                (try with_reducible rfl)
              try simp only [Act.put, List.setIfInBounds_toArray, List.set_cons_zero, List.set_cons_succ]
              refine wpAnyH_take (i := 1) (oi := ({ dst := some 25, op := Op.move (Operand.tmp 7), type := 3, pos := "ref.go:293", after := #[], guard := none } : Oper)) (v := ?cv1) rfl (by kernel_rfl) (by kernel_rfl) (by kernel_rfl) (fun _ _ _ h => h) (Or.inl ⟨by rfl, ?cy1⟩) (by assumption) ?cr1
              case cy1 =>
                intro w hSw
                (try dsimp only at hSw)
                go_simp
                (try with_reducible rfl)
              try simp only [Act.put, List.setIfInBounds_toArray, List.set_cons_zero, List.set_cons_succ]
              refine wpAnyH_take (i := 2) (oi := ({ dst := some 26, op := Op.indexAddr 56 (Operand.tmp 24) (Operand.tmp 25), type := 0, pos := "ref.go:293", after := #[{ on := 0, ground := Ground.data }, { on := 1, ground := Ground.data }], guard := none } : Oper)) (v := ?cv2) rfl (by kernel_rfl) (by kernel_rfl) (by kernel_rfl) (fun _ _ _ h => h) (Or.inl ⟨by rfl, ?cy2⟩) (by assumption) ?cr2
              case cy2 =>
                intro w hSw
                (try dsimp only at hSw)
                go_simp
                (try with_reducible rfl)
              try simp only [Act.put, List.setIfInBounds_toArray, List.set_cons_zero, List.set_cons_succ]
              refine wpAnyH_take (i := 3) (oi := ({ dst := some 27, op := Op.load 4 (Operand.tmp 26), type := 4, pos := "ref.go:293", after := #[{ on := 2, ground := Ground.data }], guard := none } : Oper)) (v := ?cv3) rfl (by kernel_rfl) (by kernel_rfl) (by kernel_rfl) (fun _ _ _ h => h) (Or.inl ⟨by rfl, ?cy3⟩) (by assumption) ?cr3
              case cy3 =>
                intro w hSw
                (try dsimp only at hSw)
                go_simp
                (try with_reducible rfl)
              try simp only [Act.put, List.setIfInBounds_toArray, List.set_cons_zero, List.set_cons_succ]
              refine wpAnyH_take (i := 4) (oi := ({ dst := some 28, op := Op.unOp UnOp.not 4 (Operand.tmp 27), type := 4, pos := "ref.go:293", after := #[{ on := 3, ground := Ground.data }], guard := none } : Oper)) (v := ?cv4) rfl (by kernel_rfl) (by kernel_rfl) (by kernel_rfl) (fun _ _ _ h => h) (Or.inl ⟨by rfl, ?cy4⟩) (by assumption) ?cr4
              case cy4 =>
                intro w hSw
                (try dsimp only at hSw)
                go_simp
                (try with_reducible rfl)
              try simp only [Act.put, List.setIfInBounds_toArray, List.set_cons_zero, List.set_cons_succ]
              refine wpAnyH_take (i := 5) (oi := ({ dst := some 29, op := Op.move (Operand.tmp 28), type := 4, pos := "ref.go:293", after := #[{ on := 4, ground := Ground.data }], guard := none } : Oper)) (v := ?cv5) rfl (by kernel_rfl) (by kernel_rfl) (by kernel_rfl) (fun _ _ _ h => h) (Or.inl ⟨by rfl, ?cy5⟩) (by assumption) ?cr5
              case cy5 =>
                intro w hSw
                (try dsimp only at hSw)
                go_simp
                (try with_reducible rfl)
              try simp only [Act.put, List.setIfInBounds_toArray, List.set_cons_zero, List.set_cons_succ]
              refine wpAnyH_take (i := 6) (oi := ({ dst := some 30, op := Op.move (Operand.tmp 0), type := 22, pos := "ref.go:293", after := #[{ on := 5, ground := Ground.guard }], guard := some (5, false) } : Oper)) (v := ?cv6) rfl (by kernel_rfl) (by kernel_rfl) (by kernel_rfl) (fun _ _ _ h => h) (Or.inl ⟨by rfl, ?cy6⟩) (by assumption) ?cr6
              case cy6 =>
                intro w hSw
                (try dsimp only at hSw)
                go_simp
                (try with_reducible rfl)
              try simp only [Act.put, List.setIfInBounds_toArray, List.set_cons_zero, List.set_cons_succ]
              refine wpAnyH_take (i := 7) (oi := ({ dst := some 31, op := Op.move (Operand.tmp 7), type := 3, pos := "ref.go:293", after := #[{ on := 5, ground := Ground.guard }], guard := some (5, false) } : Oper)) (v := ?cv7) rfl (by kernel_rfl) (by kernel_rfl) (by kernel_rfl) (fun _ _ _ h => h) (Or.inl ⟨by rfl, ?cy7⟩) (by assumption) ?cr7
              case cy7 =>
                intro w hSw
                (try dsimp only at hSw)
                go_simp
                (try with_reducible rfl)
              try simp only [Act.put, List.setIfInBounds_toArray, List.set_cons_zero, List.set_cons_succ]
              refine wpAnyH_take (i := 8) (oi := ({ dst := some 32, op := Op.indexAddr 22 (Operand.tmp 30) (Operand.tmp 31), type := 0, pos := "ref.go:293", after := #[{ on := 6, ground := Ground.data }, { on := 7, ground := Ground.data }, { on := 5, ground := Ground.guard }], guard := some (5, false) } : Oper)) (v := ?cv8) rfl (by kernel_rfl) (by kernel_rfl) (by kernel_rfl) (fun _ _ _ h => h) (Or.inl ⟨by rfl, ?cy8⟩) (by assumption) ?cr8
              case cy8 =>
                intro w hSw
                (try dsimp only at hSw)
                go_simp
                (try with_reducible rfl)
              try simp only [Act.put, List.setIfInBounds_toArray, List.set_cons_zero, List.set_cons_succ]
              refine wpAnyH_take (i := 9) (oi := ({ dst := some 33, op := Op.load 25 (Operand.tmp 32), type := 25, pos := "ref.go:293", after := #[{ on := 8, ground := Ground.data }, { on := 5, ground := Ground.guard }], guard := some (5, false) } : Oper)) (v := ?cv9) rfl (by kernel_rfl) (by kernel_rfl) (by kernel_rfl) (fun _ _ _ h => h) (Or.inl ⟨by rfl, ?cy9⟩) (by assumption) ?cr9
              case cy9 =>
                intro w hSw
                (try dsimp only at hSw)
                go_simp
                (try with_reducible rfl)
              try simp only [Act.put, List.setIfInBounds_toArray, List.set_cons_zero, List.set_cons_succ]
              refine wpAnyH_take (i := 10) (oi := ({ dst := some 34, op := Op.call { callee := Callee.builtin Builtin.len, args := #[Operand.tmp 33], argTypes := #[25] }, type := 3, pos := "ref.go:293", after := #[{ on := 9, ground := Ground.data }, { on := 5, ground := Ground.guard }], guard := some (5, false) } : Oper)) (v := ?cv10) rfl (by kernel_rfl) (by kernel_rfl) (by kernel_rfl) (fun _ _ _ h => h) (Or.inl ⟨by rfl, ?cy10⟩) (by assumption) ?cr10
              case cy10 =>
                intro w hSw
                (try dsimp only at hSw)
                go_simp
                (try with_reducible rfl)
              try simp only [Act.put, List.setIfInBounds_toArray, List.set_cons_zero, List.set_cons_succ]
              refine wpAnyH_take (i := 11) (oi := ({ dst := some 35, op := Op.binOp BinOp.lss 3 (Operand.tmp 34) (Operand.const (Value.int IntKind.i64 2)) 3, type := 4, pos := "ref.go:293", after := #[{ on := 10, ground := Ground.data }, { on := 5, ground := Ground.guard }], guard := some (5, false) } : Oper)) (v := ?cv11) rfl (by kernel_rfl) (by kernel_rfl) (by kernel_rfl) (fun _ _ _ h => h) (Or.inl ⟨by rfl, ?cy11⟩) (by assumption) ?cr11
              case cy11 =>
                intro w hSw
                (try dsimp only at hSw)
                go_simp
                (try with_reducible rfl)
              try simp only [Act.put, List.setIfInBounds_toArray, List.set_cons_zero, List.set_cons_succ]
              refine wpAnyH_take (i := 12) (oi := ({ dst := some 36, op := Op.pick (Operand.tmp 29) (Operand.const (Value.bool true)) (Operand.tmp 35), type := 4, pos := "ref.go:293", after := #[{ on := 5, ground := Ground.data }, { on := 11, ground := Ground.data }], guard := none } : Oper)) (v := ?cv12) rfl (by kernel_rfl) (by kernel_rfl) (by kernel_rfl) (fun _ _ _ h => h) (Or.inl ⟨by rfl, ?cy12⟩) (by assumption) ?cr12
              case cy12 =>
                intro w hSw
                (try dsimp only at hSw)
                go_simp
                (try with_reducible rfl)
              try simp only [Act.put, List.setIfInBounds_toArray, List.set_cons_zero, List.set_cons_succ]
              refine wpAnyH_take (i := 13) (oi := ({ dst := some 37, op := Op.move (Operand.tmp 36), type := 4, pos := "ref.go:293", after := #[{ on := 12, ground := Ground.data }, { on := 5, ground := Ground.chain }], guard := none } : Oper)) (v := ?cv13) rfl (by kernel_rfl) (by kernel_rfl) (by kernel_rfl) (fun _ _ _ h => h) (Or.inl ⟨by rfl, ?cy13⟩) (by assumption) ?cr13
              case cy13 =>
                intro w hSw
                (try dsimp only at hSw)
                go_simp
                (try with_reducible rfl)
              try simp only [Act.put, List.setIfInBounds_toArray, List.set_cons_zero, List.set_cons_succ]
              refine wpAnyH_take (i := 14) (oi := ({ dst := some 38, op := Op.move (Operand.tmp 0), type := 22, pos := "ref.go:293", after := #[{ on := 13, ground := Ground.guard }], guard := some (13, false) } : Oper)) (v := ?cv14) rfl (by kernel_rfl) (by kernel_rfl) (by kernel_rfl) (fun _ _ _ h => h) (Or.inl ⟨by rfl, ?cy14⟩) (by assumption) ?cr14
              case cy14 =>
                intro w hSw
                (try dsimp only at hSw)
                go_simp
                (try with_reducible rfl)
              try simp only [Act.put, List.setIfInBounds_toArray, List.set_cons_zero, List.set_cons_succ]
              refine wpAnyH_take (i := 15) (oi := ({ dst := some 39, op := Op.move (Operand.tmp 7), type := 3, pos := "ref.go:293", after := #[{ on := 13, ground := Ground.guard }], guard := some (13, false) } : Oper)) (v := ?cv15) rfl (by kernel_rfl) (by kernel_rfl) (by kernel_rfl) (fun _ _ _ h => h) (Or.inl ⟨by rfl, ?cy15⟩) (by assumption) ?cr15
              case cy15 =>
                intro w hSw
                (try dsimp only at hSw)
                go_simp
                (try with_reducible rfl)
              try simp only [Act.put, List.setIfInBounds_toArray, List.set_cons_zero, List.set_cons_succ]
              refine wpAnyH_take (i := 16) (oi := ({ dst := some 40, op := Op.indexAddr 22 (Operand.tmp 38) (Operand.tmp 39), type := 0, pos := "ref.go:293", after := #[{ on := 14, ground := Ground.data }, { on := 15, ground := Ground.data }, { on := 13, ground := Ground.guard }], guard := some (13, false) } : Oper)) (v := ?cv16) rfl (by kernel_rfl) (by kernel_rfl) (by kernel_rfl) (fun _ _ _ h => h) (Or.inl ⟨by rfl, ?cy16⟩) (by assumption) ?cr16
              case cy16 =>
                intro w hSw
                (try dsimp only at hSw)
                go_simp
                (try with_reducible rfl)
              try simp only [Act.put, List.setIfInBounds_toArray, List.set_cons_zero, List.set_cons_succ]
              refine wpAnyH_take (i := 17) (oi := ({ dst := some 41, op := Op.load 25 (Operand.tmp 40), type := 25, pos := "ref.go:293", after := #[{ on := 16, ground := Ground.data }, { on := 13, ground := Ground.guard }], guard := some (13, false) } : Oper)) (v := ?cv17) rfl (by kernel_rfl) (by kernel_rfl) (by kernel_rfl) (fun _ _ _ h => h) (Or.inl ⟨by rfl, ?cy17⟩) (by assumption) ?cr17
              case cy17 =>
                intro w hSw
                (try dsimp only at hSw)
                go_simp
                (try with_reducible rfl)
              try simp only [Act.put, List.setIfInBounds_toArray, List.set_cons_zero, List.set_cons_succ]
              refine wpAnyH_take (i := 18) (oi := ({ dst := some 42, op := Op.indexAddr 25 (Operand.tmp 41) (Operand.const (Value.int IntKind.i64 0)), type := 0, pos := "ref.go:293", after := #[{ on := 17, ground := Ground.data }, { on := 13, ground := Ground.guard }], guard := some (13, false) } : Oper)) (v := ?cv18) rfl (by kernel_rfl) (by kernel_rfl) (by kernel_rfl) (fun _ _ _ h => h) (Or.inl ⟨by rfl, ?cy18⟩) (by assumption) ?cr18
              case cy18 =>
                intro w hSw
                (try dsimp only at hSw)
                go_simp
                (try with_reducible rfl)
              try simp only [Act.put, List.setIfInBounds_toArray, List.set_cons_zero, List.set_cons_succ]
              refine wpAnyH_take (i := 19) (oi := ({ dst := some 43, op := Op.load 3 (Operand.tmp 42), type := 3, pos := "ref.go:293", after := #[{ on := 18, ground := Ground.data }, { on := 13, ground := Ground.guard }], guard := some (13, false) } : Oper)) (v := ?cv19) rfl (by kernel_rfl) (by kernel_rfl) (by kernel_rfl) (fun _ _ _ h => h) (Or.inl ⟨by rfl, ?cy19⟩) (by assumption) ?cr19
              case cy19 =>
                intro w hSw
                (try dsimp only at hSw)
                go_simp
                (try with_reducible rfl)
              try simp only [Act.put, List.setIfInBounds_toArray, List.set_cons_zero, List.set_cons_succ]
              refine wpAnyH_take (i := 20) (oi := ({ dst := some 44, op := Op.move (Operand.tmp 0), type := 22, pos := "ref.go:293", after := #[{ on := 13, ground := Ground.guard }], guard := some (13, false) } : Oper)) (v := ?cv20) rfl (by kernel_rfl) (by kernel_rfl) (by kernel_rfl) (fun _ _ _ h => h) (Or.inl ⟨by rfl, ?cy20⟩) (by assumption) ?cr20
              case cy20 =>
                intro w hSw
                (try dsimp only at hSw)
                go_simp
                (try with_reducible rfl)
              try simp only [Act.put, List.setIfInBounds_toArray, List.set_cons_zero, List.set_cons_succ]
              refine wpAnyH_take (i := 21) (oi := ({ dst := some 45, op := Op.move (Operand.tmp 7), type := 3, pos := "ref.go:293", after := #[{ on := 13, ground := Ground.guard }], guard := some (13, false) } : Oper)) (v := ?cv21) rfl (by kernel_rfl) (by kernel_rfl) (by kernel_rfl) (fun _ _ _ h => h) (Or.inl ⟨by rfl, ?cy21⟩) (by assumption) ?cr21
              case cy21 =>
                intro w hSw
                (try dsimp only at hSw)
                go_simp
                (try with_reducible rfl)
              try simp only [Act.put, List.setIfInBounds_toArray, List.set_cons_zero, List.set_cons_succ]
              refine wpAnyH_take (i := 22) (oi := ({ dst := some 46, op := Op.indexAddr 22 (Operand.tmp 44) (Operand.tmp 45), type := 0, pos := "ref.go:293", after := #[{ on := 20, ground := Ground.data }, { on := 21, ground := Ground.data }, { on := 13, ground := Ground.guard }], guard := some (13, false) } : Oper)) (v := ?cv22) rfl (by kernel_rfl) (by kernel_rfl) (by kernel_rfl) (fun _ _ _ h => h) (Or.inl ⟨by rfl, ?cy22⟩) (by assumption) ?cr22
              case cy22 =>
                intro w hSw
                (try dsimp only at hSw)
                go_simp
                (try with_reducible rfl)
              try simp only [Act.put, List.setIfInBounds_toArray, List.set_cons_zero, List.set_cons_succ]
              refine wpAnyH_take (i := 23) (oi := ({ dst := some 47, op := Op.load 25 (Operand.tmp 46), type := 25, pos := "ref.go:293", after := #[{ on := 22, ground := Ground.data }, { on := 13, ground := Ground.guard }], guard := some (13, false) } : Oper)) (v := ?cv23) rfl (by kernel_rfl) (by kernel_rfl) (by kernel_rfl) (fun _ _ _ h => h) (Or.inl ⟨by rfl, ?cy23⟩) (by assumption) ?cr23
              case cy23 =>
                intro w hSw
                (try dsimp only at hSw)
                go_simp
                (try with_reducible rfl)
              try simp only [Act.put, List.setIfInBounds_toArray, List.set_cons_zero, List.set_cons_succ]
              refine wpAnyH_take (i := 24) (oi := ({ dst := some 48, op := Op.indexAddr 25 (Operand.tmp 47) (Operand.const (Value.int IntKind.i64 1)), type := 0, pos := "ref.go:293", after := #[{ on := 23, ground := Ground.data }, { on := 13, ground := Ground.guard }], guard := some (13, false) } : Oper)) (v := ?cv24) rfl (by kernel_rfl) (by kernel_rfl) (by kernel_rfl) (fun _ _ _ h => h) (Or.inl ⟨by rfl, ?cy24⟩) (by assumption) ?cr24
              case cy24 =>
                intro w hSw
                (try dsimp only at hSw)
                go_simp
                (try with_reducible rfl)
              try simp only [Act.put, List.setIfInBounds_toArray, List.set_cons_zero, List.set_cons_succ]
              refine wpAnyH_take (i := 25) (oi := ({ dst := some 49, op := Op.load 3 (Operand.tmp 48), type := 3, pos := "ref.go:293", after := #[{ on := 24, ground := Ground.data }, { on := 13, ground := Ground.guard }], guard := some (13, false) } : Oper)) (v := ?cv25) rfl (by kernel_rfl) (by kernel_rfl) (by kernel_rfl) (fun _ _ _ h => h) (Or.inl ⟨by rfl, ?cy25⟩) (by assumption) ?cr25
              case cy25 =>
                intro w hSw
                (try dsimp only at hSw)
                go_simp
                (try with_reducible rfl)
              try simp only [Act.put, List.setIfInBounds_toArray, List.set_cons_zero, List.set_cons_succ]
              refine wpAnyH_take (i := 26) (oi := ({ dst := some 50, op := Op.binOp BinOp.eql 3 (Operand.tmp 43) (Operand.tmp 49) 3, type := 4, pos := "ref.go:293", after := #[{ on := 19, ground := Ground.data }, { on := 25, ground := Ground.data }, { on := 13, ground := Ground.guard }], guard := some (13, false) } : Oper)) (v := ?cv26) rfl (by kernel_rfl) (by kernel_rfl) (by kernel_rfl) (fun _ _ _ h => h) (Or.inl ⟨by rfl, ?cy26⟩) (by assumption) ?cr26
              case cy26 =>
                intro w hSw
                (try dsimp only at hSw)
                go_simp
                (try with_reducible rfl)
              try simp only [Act.put, List.setIfInBounds_toArray, List.set_cons_zero, List.set_cons_succ]
              refine wpAnyH_take (i := 27) (oi := ({ dst := some 51, op := Op.pick (Operand.tmp 37) (Operand.const (Value.bool true)) (Operand.tmp 50), type := 4, pos := "ref.go:293", after := #[{ on := 13, ground := Ground.data }, { on := 26, ground := Ground.data }], guard := none } : Oper)) (v := ?cv27) rfl (by kernel_rfl) (by kernel_rfl) (by kernel_rfl) (fun _ _ _ h => h) (Or.inl ⟨by rfl, ?cy27⟩) (by assumption) ?cr27
              case cy27 =>
                intro w hSw
                (try dsimp only at hSw)
                go_simp
                (try with_reducible rfl)
              try simp only [Act.put, List.setIfInBounds_toArray, List.set_cons_zero, List.set_cons_succ]
              refine wpAnyH_done (by kernel_rfl) ?_ _
              go_wp2
              go_roundw
              case rel => exact ⟨i + 1, by omega, by go_num, by rw [HP2.out]; exact hown, drewR hb3⟩
              case measure => simp [intOf]; omega
            · have HP2 := Lib.hid (show P (i + 1) = P i ++ Q i n by
                rw [HP1.out, HFI.out, HK2.out, decide_eq_true hpq]
                rfl)
              have e1 : ((p : Int) == (q : Int)) = false := by simp; omega
              clear HP1 HFI HK2 hpq
              go_wp2
              refine wp_region_held_drew (S := (fun W => W.cell? ⟨gb, i, none⟩ = some (.bool true) ∧ W.cell? ⟨b0, off + i, none⟩ = some (.slice (some ⟨b', off', none⟩) n' c') ∧ W.cell? ⟨b', off', none⟩ = some (.int .i64 (p : Int)) ∧ W.cell? ⟨b', off' + 1, none⟩ = some (.int .i64 (q : Int)))) (by kernel_rfl) ?_ (fun hHeld => ?_)
              · exact ⟨hcT, hc, hc0, hc1⟩
              refine wpAnyH_take (i := 0) (oi := ({ dst := some 24, op := Op.move (Operand.tmp 5), type := 56, pos := "ref.go:293", after := #[], guard := none } : Oper)) (v := ?dv0) rfl (by kernel_rfl) (by kernel_rfl) (by kernel_rfl) (fun _ _ _ h => h) (Or.inl ⟨by rfl, ?dy0⟩) (by assumption) ?dr0
              case dy0 =>
                intro w hSw
                (try dsimp only at hSw)
                go_simp
                (try with_reducible rfl)
              try simp only [Act.put, List.setIfInBounds_toArray, List.set_cons_zero, List.set_cons_succ]
              refine wpAnyH_take (i := 1) (oi := ({ dst := some 25, op := Op.move (Operand.tmp 7), type := 3, pos := "ref.go:293", after := #[], guard := none } : Oper)) (v := ?dv1) rfl (by kernel_rfl) (by kernel_rfl) (by kernel_rfl) (fun _ _ _ h => h) (Or.inl ⟨by rfl, ?dy1⟩) (by assumption) ?dr1
              case dy1 =>
                intro w hSw
                (try dsimp only at hSw)
                go_simp
                (try with_reducible rfl)
              try simp only [Act.put, List.setIfInBounds_toArray, List.set_cons_zero, List.set_cons_succ]
              refine wpAnyH_take (i := 2) (oi := ({ dst := some 26, op := Op.indexAddr 56 (Operand.tmp 24) (Operand.tmp 25), type := 0, pos := "ref.go:293", after := #[{ on := 0, ground := Ground.data }, { on := 1, ground := Ground.data }], guard := none } : Oper)) (v := ?dv2) rfl (by kernel_rfl) (by kernel_rfl) (by kernel_rfl) (fun _ _ _ h => h) (Or.inl ⟨by rfl, ?dy2⟩) (by assumption) ?dr2
              case dy2 =>
                intro w hSw
                (try dsimp only at hSw)
                go_simp
                (try with_reducible rfl)
              try simp only [Act.put, List.setIfInBounds_toArray, List.set_cons_zero, List.set_cons_succ]
              refine wpAnyH_take (i := 3) (oi := ({ dst := some 27, op := Op.load 4 (Operand.tmp 26), type := 4, pos := "ref.go:293", after := #[{ on := 2, ground := Ground.data }], guard := none } : Oper)) (v := ?dv3) rfl (by kernel_rfl) (by kernel_rfl) (by kernel_rfl) (fun _ _ _ h => h) (Or.inl ⟨by rfl, ?dy3⟩) (by assumption) ?dr3
              case dy3 =>
                intro w hSw
                (try dsimp only at hSw)
                go_simp
                (try with_reducible rfl)
              try simp only [Act.put, List.setIfInBounds_toArray, List.set_cons_zero, List.set_cons_succ]
              refine wpAnyH_take (i := 4) (oi := ({ dst := some 28, op := Op.unOp UnOp.not 4 (Operand.tmp 27), type := 4, pos := "ref.go:293", after := #[{ on := 3, ground := Ground.data }], guard := none } : Oper)) (v := ?dv4) rfl (by kernel_rfl) (by kernel_rfl) (by kernel_rfl) (fun _ _ _ h => h) (Or.inl ⟨by rfl, ?dy4⟩) (by assumption) ?dr4
              case dy4 =>
                intro w hSw
                (try dsimp only at hSw)
                go_simp
                (try with_reducible rfl)
              try simp only [Act.put, List.setIfInBounds_toArray, List.set_cons_zero, List.set_cons_succ]
              refine wpAnyH_take (i := 5) (oi := ({ dst := some 29, op := Op.move (Operand.tmp 28), type := 4, pos := "ref.go:293", after := #[{ on := 4, ground := Ground.data }], guard := none } : Oper)) (v := ?dv5) rfl (by kernel_rfl) (by kernel_rfl) (by kernel_rfl) (fun _ _ _ h => h) (Or.inl ⟨by rfl, ?dy5⟩) (by assumption) ?dr5
              case dy5 =>
                intro w hSw
                (try dsimp only at hSw)
                go_simp
                (try with_reducible rfl)
              try simp only [Act.put, List.setIfInBounds_toArray, List.set_cons_zero, List.set_cons_succ]
              refine wpAnyH_take (i := 6) (oi := ({ dst := some 30, op := Op.move (Operand.tmp 0), type := 22, pos := "ref.go:293", after := #[{ on := 5, ground := Ground.guard }], guard := some (5, false) } : Oper)) (v := ?dv6) rfl (by kernel_rfl) (by kernel_rfl) (by kernel_rfl) (fun _ _ _ h => h) (Or.inl ⟨by rfl, ?dy6⟩) (by assumption) ?dr6
              case dy6 =>
                intro w hSw
                (try dsimp only at hSw)
                go_simp
                (try with_reducible rfl)
              try simp only [Act.put, List.setIfInBounds_toArray, List.set_cons_zero, List.set_cons_succ]
              refine wpAnyH_take (i := 7) (oi := ({ dst := some 31, op := Op.move (Operand.tmp 7), type := 3, pos := "ref.go:293", after := #[{ on := 5, ground := Ground.guard }], guard := some (5, false) } : Oper)) (v := ?dv7) rfl (by kernel_rfl) (by kernel_rfl) (by kernel_rfl) (fun _ _ _ h => h) (Or.inl ⟨by rfl, ?dy7⟩) (by assumption) ?dr7
              case dy7 =>
                intro w hSw
                (try dsimp only at hSw)
                go_simp
                (try with_reducible rfl)
              try simp only [Act.put, List.setIfInBounds_toArray, List.set_cons_zero, List.set_cons_succ]
              refine wpAnyH_take (i := 8) (oi := ({ dst := some 32, op := Op.indexAddr 22 (Operand.tmp 30) (Operand.tmp 31), type := 0, pos := "ref.go:293", after := #[{ on := 6, ground := Ground.data }, { on := 7, ground := Ground.data }, { on := 5, ground := Ground.guard }], guard := some (5, false) } : Oper)) (v := ?dv8) rfl (by kernel_rfl) (by kernel_rfl) (by kernel_rfl) (fun _ _ _ h => h) (Or.inl ⟨by rfl, ?dy8⟩) (by assumption) ?dr8
              case dy8 =>
                intro w hSw
                (try dsimp only at hSw)
                go_simp
                (try with_reducible rfl)
              try simp only [Act.put, List.setIfInBounds_toArray, List.set_cons_zero, List.set_cons_succ]
              refine wpAnyH_take (i := 9) (oi := ({ dst := some 33, op := Op.load 25 (Operand.tmp 32), type := 25, pos := "ref.go:293", after := #[{ on := 8, ground := Ground.data }, { on := 5, ground := Ground.guard }], guard := some (5, false) } : Oper)) (v := ?dv9) rfl (by kernel_rfl) (by kernel_rfl) (by kernel_rfl) (fun _ _ _ h => h) (Or.inl ⟨by rfl, ?dy9⟩) (by assumption) ?dr9
              case dy9 =>
                intro w hSw
                (try dsimp only at hSw)
                go_simp
                (try with_reducible rfl)
              try simp only [Act.put, List.setIfInBounds_toArray, List.set_cons_zero, List.set_cons_succ]
              refine wpAnyH_take (i := 10) (oi := ({ dst := some 34, op := Op.call { callee := Callee.builtin Builtin.len, args := #[Operand.tmp 33], argTypes := #[25] }, type := 3, pos := "ref.go:293", after := #[{ on := 9, ground := Ground.data }, { on := 5, ground := Ground.guard }], guard := some (5, false) } : Oper)) (v := ?dv10) rfl (by kernel_rfl) (by kernel_rfl) (by kernel_rfl) (fun _ _ _ h => h) (Or.inl ⟨by rfl, ?dy10⟩) (by assumption) ?dr10
              case dy10 =>
                intro w hSw
                (try dsimp only at hSw)
                go_simp
                (try with_reducible rfl)
              try simp only [Act.put, List.setIfInBounds_toArray, List.set_cons_zero, List.set_cons_succ]
              refine wpAnyH_take (i := 11) (oi := ({ dst := some 35, op := Op.binOp BinOp.lss 3 (Operand.tmp 34) (Operand.const (Value.int IntKind.i64 2)) 3, type := 4, pos := "ref.go:293", after := #[{ on := 10, ground := Ground.data }, { on := 5, ground := Ground.guard }], guard := some (5, false) } : Oper)) (v := ?dv11) rfl (by kernel_rfl) (by kernel_rfl) (by kernel_rfl) (fun _ _ _ h => h) (Or.inl ⟨by rfl, ?dy11⟩) (by assumption) ?dr11
              case dy11 =>
                intro w hSw
                (try dsimp only at hSw)
                go_simp
                (try with_reducible rfl)
              try simp only [Act.put, List.setIfInBounds_toArray, List.set_cons_zero, List.set_cons_succ]
              refine wpAnyH_take (i := 12) (oi := ({ dst := some 36, op := Op.pick (Operand.tmp 29) (Operand.const (Value.bool true)) (Operand.tmp 35), type := 4, pos := "ref.go:293", after := #[{ on := 5, ground := Ground.data }, { on := 11, ground := Ground.data }], guard := none } : Oper)) (v := ?dv12) rfl (by kernel_rfl) (by kernel_rfl) (by kernel_rfl) (fun _ _ _ h => h) (Or.inl ⟨by rfl, ?dy12⟩) (by assumption) ?dr12
              case dy12 =>
                intro w hSw
                (try dsimp only at hSw)
                go_simp
                (try with_reducible rfl)
              try simp only [Act.put, List.setIfInBounds_toArray, List.set_cons_zero, List.set_cons_succ]
              refine wpAnyH_take (i := 13) (oi := ({ dst := some 37, op := Op.move (Operand.tmp 36), type := 4, pos := "ref.go:293", after := #[{ on := 12, ground := Ground.data }, { on := 5, ground := Ground.chain }], guard := none } : Oper)) (v := ?dv13) rfl (by kernel_rfl) (by kernel_rfl) (by kernel_rfl) (fun _ _ _ h => h) (Or.inl ⟨by rfl, ?dy13⟩) (by assumption) ?dr13
              case dy13 =>
                intro w hSw
                (try dsimp only at hSw)
                go_simp
                (try with_reducible rfl)
              try simp only [Act.put, List.setIfInBounds_toArray, List.set_cons_zero, List.set_cons_succ]
              refine wpAnyH_take (i := 14) (oi := ({ dst := some 38, op := Op.move (Operand.tmp 0), type := 22, pos := "ref.go:293", after := #[{ on := 13, ground := Ground.guard }], guard := some (13, false) } : Oper)) (v := ?dv14) rfl (by kernel_rfl) (by kernel_rfl) (by kernel_rfl) (fun _ _ _ h => h) (Or.inl ⟨by rfl, ?dy14⟩) (by assumption) ?dr14
              case dy14 =>
                intro w hSw
                (try dsimp only at hSw)
                go_simp
                (try with_reducible rfl)
              try simp only [Act.put, List.setIfInBounds_toArray, List.set_cons_zero, List.set_cons_succ]
              refine wpAnyH_take (i := 15) (oi := ({ dst := some 39, op := Op.move (Operand.tmp 7), type := 3, pos := "ref.go:293", after := #[{ on := 13, ground := Ground.guard }], guard := some (13, false) } : Oper)) (v := ?dv15) rfl (by kernel_rfl) (by kernel_rfl) (by kernel_rfl) (fun _ _ _ h => h) (Or.inl ⟨by rfl, ?dy15⟩) (by assumption) ?dr15
              case dy15 =>
                intro w hSw
                (try dsimp only at hSw)
                go_simp
                (try with_reducible rfl)
              try simp only [Act.put, List.setIfInBounds_toArray, List.set_cons_zero, List.set_cons_succ]
              refine wpAnyH_take (i := 16) (oi := ({ dst := some 40, op := Op.indexAddr 22 (Operand.tmp 38) (Operand.tmp 39), type := 0, pos := "ref.go:293", after := #[{ on := 14, ground := Ground.data }, { on := 15, ground := Ground.data }, { on := 13, ground := Ground.guard }], guard := some (13, false) } : Oper)) (v := ?dv16) rfl (by kernel_rfl) (by kernel_rfl) (by kernel_rfl) (fun _ _ _ h => h) (Or.inl ⟨by rfl, ?dy16⟩) (by assumption) ?dr16
              case dy16 =>
                intro w hSw
                (try dsimp only at hSw)
                go_simp
                (try with_reducible rfl)
              try simp only [Act.put, List.setIfInBounds_toArray, List.set_cons_zero, List.set_cons_succ]
              refine wpAnyH_take (i := 17) (oi := ({ dst := some 41, op := Op.load 25 (Operand.tmp 40), type := 25, pos := "ref.go:293", after := #[{ on := 16, ground := Ground.data }, { on := 13, ground := Ground.guard }], guard := some (13, false) } : Oper)) (v := ?dv17) rfl (by kernel_rfl) (by kernel_rfl) (by kernel_rfl) (fun _ _ _ h => h) (Or.inl ⟨by rfl, ?dy17⟩) (by assumption) ?dr17
              case dy17 =>
                intro w hSw
                (try dsimp only at hSw)
                go_simp
                (try with_reducible rfl)
              try simp only [Act.put, List.setIfInBounds_toArray, List.set_cons_zero, List.set_cons_succ]
              refine wpAnyH_take (i := 18) (oi := ({ dst := some 42, op := Op.indexAddr 25 (Operand.tmp 41) (Operand.const (Value.int IntKind.i64 0)), type := 0, pos := "ref.go:293", after := #[{ on := 17, ground := Ground.data }, { on := 13, ground := Ground.guard }], guard := some (13, false) } : Oper)) (v := ?dv18) rfl (by kernel_rfl) (by kernel_rfl) (by kernel_rfl) (fun _ _ _ h => h) (Or.inl ⟨by rfl, ?dy18⟩) (by assumption) ?dr18
              case dy18 =>
                intro w hSw
                (try dsimp only at hSw)
                go_simp
                (try with_reducible rfl)
              try simp only [Act.put, List.setIfInBounds_toArray, List.set_cons_zero, List.set_cons_succ]
              refine wpAnyH_take (i := 19) (oi := ({ dst := some 43, op := Op.load 3 (Operand.tmp 42), type := 3, pos := "ref.go:293", after := #[{ on := 18, ground := Ground.data }, { on := 13, ground := Ground.guard }], guard := some (13, false) } : Oper)) (v := ?dv19) rfl (by kernel_rfl) (by kernel_rfl) (by kernel_rfl) (fun _ _ _ h => h) (Or.inl ⟨by rfl, ?dy19⟩) (by assumption) ?dr19
              case dy19 =>
                intro w hSw
                (try dsimp only at hSw)
                go_simp
                (try with_reducible rfl)
              try simp only [Act.put, List.setIfInBounds_toArray, List.set_cons_zero, List.set_cons_succ]
              refine wpAnyH_take (i := 20) (oi := ({ dst := some 44, op := Op.move (Operand.tmp 0), type := 22, pos := "ref.go:293", after := #[{ on := 13, ground := Ground.guard }], guard := some (13, false) } : Oper)) (v := ?dv20) rfl (by kernel_rfl) (by kernel_rfl) (by kernel_rfl) (fun _ _ _ h => h) (Or.inl ⟨by rfl, ?dy20⟩) (by assumption) ?dr20
              case dy20 =>
                intro w hSw
                (try dsimp only at hSw)
                go_simp
                (try with_reducible rfl)
              try simp only [Act.put, List.setIfInBounds_toArray, List.set_cons_zero, List.set_cons_succ]
              refine wpAnyH_take (i := 21) (oi := ({ dst := some 45, op := Op.move (Operand.tmp 7), type := 3, pos := "ref.go:293", after := #[{ on := 13, ground := Ground.guard }], guard := some (13, false) } : Oper)) (v := ?dv21) rfl (by kernel_rfl) (by kernel_rfl) (by kernel_rfl) (fun _ _ _ h => h) (Or.inl ⟨by rfl, ?dy21⟩) (by assumption) ?dr21
              case dy21 =>
                intro w hSw
                (try dsimp only at hSw)
                go_simp
                (try with_reducible rfl)
              try simp only [Act.put, List.setIfInBounds_toArray, List.set_cons_zero, List.set_cons_succ]
              refine wpAnyH_take (i := 22) (oi := ({ dst := some 46, op := Op.indexAddr 22 (Operand.tmp 44) (Operand.tmp 45), type := 0, pos := "ref.go:293", after := #[{ on := 20, ground := Ground.data }, { on := 21, ground := Ground.data }, { on := 13, ground := Ground.guard }], guard := some (13, false) } : Oper)) (v := ?dv22) rfl (by kernel_rfl) (by kernel_rfl) (by kernel_rfl) (fun _ _ _ h => h) (Or.inl ⟨by rfl, ?dy22⟩) (by assumption) ?dr22
              case dy22 =>
                intro w hSw
                (try dsimp only at hSw)
                go_simp
                (try with_reducible rfl)
              try simp only [Act.put, List.setIfInBounds_toArray, List.set_cons_zero, List.set_cons_succ]
              refine wpAnyH_take (i := 23) (oi := ({ dst := some 47, op := Op.load 25 (Operand.tmp 46), type := 25, pos := "ref.go:293", after := #[{ on := 22, ground := Ground.data }, { on := 13, ground := Ground.guard }], guard := some (13, false) } : Oper)) (v := ?dv23) rfl (by kernel_rfl) (by kernel_rfl) (by kernel_rfl) (fun _ _ _ h => h) (Or.inl ⟨by rfl, ?dy23⟩) (by assumption) ?dr23
              case dy23 =>
                intro w hSw
                (try dsimp only at hSw)
                go_simp
                (try with_reducible rfl)
              try simp only [Act.put, List.setIfInBounds_toArray, List.set_cons_zero, List.set_cons_succ]
              refine wpAnyH_take (i := 24) (oi := ({ dst := some 48, op := Op.indexAddr 25 (Operand.tmp 47) (Operand.const (Value.int IntKind.i64 1)), type := 0, pos := "ref.go:293", after := #[{ on := 23, ground := Ground.data }, { on := 13, ground := Ground.guard }], guard := some (13, false) } : Oper)) (v := ?dv24) rfl (by kernel_rfl) (by kernel_rfl) (by kernel_rfl) (fun _ _ _ h => h) (Or.inl ⟨by rfl, ?dy24⟩) (by assumption) ?dr24
              case dy24 =>
                intro w hSw
                (try dsimp only at hSw)
                go_simp
                (try with_reducible rfl)
              try simp only [Act.put, List.setIfInBounds_toArray, List.set_cons_zero, List.set_cons_succ]
              refine wpAnyH_take (i := 25) (oi := ({ dst := some 49, op := Op.load 3 (Operand.tmp 48), type := 3, pos := "ref.go:293", after := #[{ on := 24, ground := Ground.data }, { on := 13, ground := Ground.guard }], guard := some (13, false) } : Oper)) (v := ?dv25) rfl (by kernel_rfl) (by kernel_rfl) (by kernel_rfl) (fun _ _ _ h => h) (Or.inl ⟨by rfl, ?dy25⟩) (by assumption) ?dr25
              case dy25 =>
                intro w hSw
                (try dsimp only at hSw)
                go_simp
                (try with_reducible rfl)
              try simp only [Act.put, List.setIfInBounds_toArray, List.set_cons_zero, List.set_cons_succ]
              refine wpAnyH_take (i := 26) (oi := ({ dst := some 50, op := Op.binOp BinOp.eql 3 (Operand.tmp 43) (Operand.tmp 49) 3, type := 4, pos := "ref.go:293", after := #[{ on := 19, ground := Ground.data }, { on := 25, ground := Ground.data }, { on := 13, ground := Ground.guard }], guard := some (13, false) } : Oper)) (v := ?dv26) rfl (by kernel_rfl) (by kernel_rfl) (by kernel_rfl) (fun _ _ _ h => h) (Or.inl ⟨by rfl, ?dy26⟩) (by assumption) ?dr26
              case dy26 =>
                intro w hSw
                (try dsimp only at hSw)
                go_simp
                (try with_reducible rfl)
              try simp only [Act.put, List.setIfInBounds_toArray, List.set_cons_zero, List.set_cons_succ]
              refine wpAnyH_take (i := 27) (oi := ({ dst := some 51, op := Op.pick (Operand.tmp 37) (Operand.const (Value.bool true)) (Operand.tmp 50), type := 4, pos := "ref.go:293", after := #[{ on := 13, ground := Ground.data }, { on := 26, ground := Ground.data }], guard := none } : Oper)) (v := ?dv27) rfl (by kernel_rfl) (by kernel_rfl) (by kernel_rfl) (fun _ _ _ h => h) (Or.inl ⟨by rfl, ?dy27⟩) (by assumption) ?dr27
              case dy27 =>
                intro w hSw
                (try dsimp only at hSw)
                go_simp
                (try with_reducible rfl)
              try simp only [Act.put, List.setIfInBounds_toArray, List.set_cons_zero, List.set_cons_succ]
              refine wpAnyH_done (by kernel_rfl) ?_ _
              have HQ1 := Lib.hid (HQ.out i)
              have HQ2 := Lib.hid (HQ0.out i)
              have HQL1 := Lib.hid (HQL.out i)
              generalize P i = E0 at hown HP2 hPl
              generalize Q i = Qa at HP2 HQ1 HQ2 HQL1
              clear hc0 hc1 hc hcT hbs' hbs'' hgl2 e1 d2 d3 hq0 hq1 hq2 hbs
              go_wp2
              go_loopw [6, 8] (fun zl zi wr => ∃ k : Nat, k ≤ n ∧ zi = .int .i64 (k : Int) ∧ wr.ownsRow w2.heap.size 50 2 zl (E0 ++ Qa k).length (eV (E0 ++ Qa k)) ∧ Below w2.heap.size w2 wr) (fun _ zi _ => n - (intOf zi).toNat)
              case atStart => exact ⟨0, by omega, rfl, by rw [HQ2.out, List.append_nil]; exact hown, drewR hb3⟩
              case round =>
                clear hown hb3 hbw
                obtain ⟨k, hk, rfl, hown, hb8⟩ := hrel
                by_cases hkl : k < n
                · have HQ3 := Lib.hid (HQ1.out k)
                  have hQl := HQL1.out k
                  have HW8 := Lib.hid (hb.trans (hb8.mono hb.size))
                  have HB8 := Lib.hid hb8
                  have HOW := Lib.hid hown
                  have HCK := Lib.hid (HBE.out k)
                  have HS1 := Lib.hid (HBS.out k)
                  have HSL := Lib.hid (HBL.out k)
                  have HS2 := Lib.hid (fun j => HSB.out j k)
                  have hz0 : (setL (befS G k) 0).length = 0 := rfl
                  generalize setL (befS G k) = N at HCK HS1 HSL hz0
                  have HZ0 := Lib.hid hz0
                  clear hown hb8 hz0
                  go_wp2
                  go_loop [9, 10] (fun zn zj => ∃ j : Nat, j ≤ n ∧ zj = .int .i64 (j : Int) ∧ zn = .int .i64 ((N j).length : Int)) (fun _ zj => n - (intOf zj).toNat)
                  case atStart => exact ⟨0, by omega, rfl, by rw [HZ0.out]; rfl⟩
                  case round =>
                    obtain ⟨j, hj, rfl, rfl⟩ := hrel
                    by_cases hjl : j < n
                    · have HG1 := Lib.hid (fun B hB => HGO.out wr HW8.out j hjl k B hB)
                      have hjL := HSL.out j
                      have HN1 := Lib.hid (HS1.out j)
                      have HE1 := Lib.hid (HS2.out j)
                      cases hS : sucS G j k
                      · have HG2 := Lib.hid (HG1.out false hS)
                        have HN2 := Lib.hid (show (N (j + 1)).length = (N j).length by rw [HN1.out, HE1.out, hS]; simp)
                        clear HG1 HN1 HE1 hS
                        go_wp2_with fail
                        refine HG2.out.mono ?_
                        rintro e w5 ⟨rfl, rfl⟩
                        go_wp2
                        go_roundw
                        case rel => exact ⟨j + 1, by omega, by go_num, by rw [HN2.out]⟩
                        case measure => simp [intOf]; omega
                      · have HG2 := Lib.hid (HG1.out true hS)
                        have HN2 := Lib.hid (show (N (j + 1)).length = (N j).length + 1 by rw [HN1.out, HE1.out, hS]; simp)
                        clear HG1 HN1 HE1 hS
                        go_wp2_with fail
                        refine HG2.out.mono ?_
                        rintro e w5 ⟨rfl, rfl⟩
                        go_wp2
                        go_roundw
                        case rel => exact ⟨j + 1, by omega, by go_num, by rw [HN2.out]; go_num⟩
                        case measure => simp [intOf]; omega
                    · obtain rfl : j = n := by omega
                      have HG1 := Lib.hid (fun B hB => HGO.out wr HW8.out i hlt k B hB)
                      have hjL := HSL.out j
                      cases hS : sucS G i k
                      · have HG2 := Lib.hid (HG1.out false hS)
                        have HQ4 := Lib.hid (show Qa (k + 1) = Qa k by rw [HQ3.out, hS]; exact List.append_nil _)
                        clear HG1 HQ3 hS
                        go_wp2_with fail
                        refine HG2.out.mono ?_
                        rintro e w5 ⟨rfl, rfl⟩
                        go_wp2
                        go_roundw
                        case rel => exact ⟨k + 1, by omega, by go_num, by rw [HQ4.out]; exact HOW.out, HB8.out⟩
                        case measure => simp [intOf]; omega
                      · have HG2 := Lib.hid (HG1.out true hS)
                        by_cases hN : 1 < (N j).length
                        · have HQ4 := Lib.hid (show E0 ++ Qa (k + 1) = (E0 ++ Qa k) ++ [(i, k)] by
                            rw [HQ3.out, hS, HCK.out, decide_eq_true hN, List.append_assoc]
                            rfl)
                          have d4 : decide (1 < (N j).length) = true := decide_eq_true hN
                          have d5 : decide ((1 : Int) < ((N j).length : Int)) = true := decide_eq_true (by omega)
                          have hEl : (E0 ++ Qa k).length ≤ 1000 := by rw [List.length_append]; omega
                          have hown := HOW.out
                          have hb8 := HB8.out
                          generalize E0 ++ Qa k = E1 at hown hEl HQ4
                          clear HG1 HQ3 hS hN HOW
                          go_wp2_with fail
                          refine HG2.out.mono ?_
                          rintro e w5 ⟨rfl, rfl⟩
                          go_wp2_with (at_builtin; refine wpList_append_own _ rfl _ _ 33 rfl w2.heap.size 50 i0 (.agg #[.int .i64 0, .int .i64 0]) 2 16 Try.underlying33 hi hz0 hz1 hz2 rfl (by decide) _ _ _ rfl (hown.alloc _) ⟨wr.heap.size, 0, none⟩ 1 1 [.int .i64 (i : Int), .int .i64 (k : Int)] rfl rfl (two_new wr _ _ _) ?k2 ?k3 ?k4 ?k5 ?_)
                          case k2 => intro u hu; simp at hu; rcases hu with rfl | rfl <;> rfl
                          case k3 => unfold maxLen; omega
                          case k4 => omega
                          case k5 => have := hb8.size; simp; omega
                          intro v2 w7 hown7 hgrow _
                          have hb12 : Below w2.heap.size w2 w7 := (hb8.alloc hb8.size _).grown hgrow (by have := hb8.size; simp; omega) (own_base (hown.alloc (.cells #[.int .i64 (i : Int), .int .i64 (k : Int)] 50)))
                          have HO8 := Lib.hid (show w7.ownsRow w2.heap.size 50 2 v2 (E0 ++ Qa (k + 1)).length (eV (E0 ++ Qa (k + 1))) by
                            rw [HQ4.out, List.length_append, eV_app]
                            exact hown7)
                          clear hown hb8 hown7 hgrow d4 d5
                          go_wp2
                          go_roundw
                          case rel => exact ⟨k + 1, by omega, by go_num, HO8.out, hb12⟩
                          case measure => simp [intOf]; omega
                        · have HQ4 := Lib.hid (show Qa (k + 1) = Qa k by
                            rw [HQ3.out, HCK.out, decide_eq_false hN, Bool.and_false]
                            exact List.append_nil _)
                          have d4 : decide (1 < (N j).length) = false := decide_eq_false hN
                          have d5 : decide ((1 : Int) < ((N j).length : Int)) = false := decide_eq_false (by omega)
                          clear HG1 HQ3 hS hN
                          go_wp2_with fail
                          refine HG2.out.mono ?_
                          rintro e w5 ⟨rfl, rfl⟩
                          go_wp2
                          go_roundw
                          case rel => exact ⟨k + 1, by omega, by go_num, by rw [HQ4.out]; exact HOW.out, HB8.out⟩
                          case measure => simp [intOf]; omega
                · obtain rfl : k = n := by omega
                  have HO8 := Lib.hid (show wr.ownsRow w2.heap.size 50 2 _ (P (i + 1)).length (eV (P (i + 1))) by
                    rw [HP2.out]
                    exact hown)
                  clear hown
                  go_wp2
                  go_roundw
                  case rel => exact ⟨i + 1, by omega, by go_num, HO8.out, hb8⟩
                  case measure => simp [intOf]; omega
      · obtain rfl : i = n := by omega
        rw [← HE.out] at hown
        have hV := EdgV.own rfl hown
        clear hown
        go_wp2
        exact bodyPost_ret (results_tmp2 rfl _ _ _) rfl ⟨_, rfl, hV, hbw⟩
  · have hr : resC g = [] := if_neg hv
    rw [hr]
    generalize valF g = X at HV hv ⊢
    have dX : (X != 0) = true := by simp [hv]
    clear h hv hr
    go_enter Try.func37, Try.ntmps37
    go_wp2_with fail
    refine HV.out.mono ?_
    rintro e w1 ⟨rfl, rfl⟩
    go_wp2
    exact bodyPost_ret (results_tmp2 rfl _ _ _) rfl ⟨_, rfl, EdgV.nil _, Below.refl _ _⟩
end
end Go.Proofs.Ytchkckflpmepkaa
