/-
  Depth of both packages, and Long.
-/
import Derived.Test.YtbohigjfdnnomaaGreatDoorTeI
namespace Go.Proofs.YtbohigjfdnnomaaGreatDoor
open Go.RowKit

/-- A made row of natural numbers. -/
def RowN (w : World) (B n : Nat) (r : Nat → Nat) : Prop := ∃ arr : Array Value, w.heap[B]? = some (.cells arr 3 (0, 0)) ∧ arr.size = n ∧ ∀ j, j < n → arr[j]? = some (.int .i64 ((r j : Nat) : Int))
theorem RowN.lt {w : World} {B n : Nat} {r : Nat → Nat} (h : RowN w B n r) : B < w.heap.size := by
  obtain ⟨arr, h1, -⟩ := h
  exact lt_of_block h1
theorem RowN.below {w w' : World} {B n : Nat} {r : Nat → Nat} (h : RowN w B n r) (hb : Below w.heap.size w w') : RowN w' B n r := by
  have hlt := h.lt
  obtain ⟨arr, h1, h2, h3⟩ := h
  exact ⟨arr, (hb.block _ hlt).trans h1, h2, h3⟩
theorem RowN.cell {w : World} {B n : Nat} {r : Nat → Nat} (h : RowN w B n r) {j : Nat} (hj : j < n) : w.cell? ⟨B, j, none⟩ = some (.int .i64 ((r j : Nat) : Int)) ∧ w.frozen? ⟨B, j, none⟩ = false := by
  obtain ⟨arr, h1, h2, h3⟩ := h
  refine ⟨?_, by simp [World.frozen?, h1]⟩
  simp only [World.cell?, h1]
  exact h3 j hj
theorem RowN.put {w : World} {B n : Nat} {r t : Nat → Nat} (h : RowN w B n r) {D x : Nat} (ht : ∀ j, j < n → t j = if j = D then x else r j) : RowN (w.setCell ⟨B, D, none⟩ (.int .i64 ((x : Nat) : Int))) B n t := by
  obtain ⟨arr, h1, h2, h3⟩ := h
  refine ⟨_, heap_setCell_same w B D _ _ _ h1, by simpa using h2, fun j hj => ?_⟩
  rw [ht j hj, Array.getElem?_setIfInBounds]
  by_cases hD : j = D
  · subst hD
    simp [h2, hj]
  · rw [if_neg (fun e => hD e.symm), if_neg hD]
    exact h3 j hj
theorem RowN.congr {w : World} {B n : Nat} {r t : Nat → Nat} (h : RowN w B n r) (e : ∀ j, j < n → r j = t j) : RowN w B n t := by
  obtain ⟨arr, h1, h2, h3⟩ := h
  exact ⟨arr, h1, h2, fun j hj => by rw [← e j hj]; exact h3 j hj⟩
theorem RowN.made (w : World) (n : Nat) : RowN (w.alloc (.cells (madeCells #[.int .i64 0] n) 3)) w.heap.size n fun _ => 0 :=
  ⟨_, heap_alloc_new w _, size_madeCells _ _, fun j hj => by simp [madeCells, hj, Nat.mod_one]⟩
/-- The depth of the node k. -/
def depF (T : List Nd) (k : Nat) : Nat := (deeps T (k + 1))[k]!
/-- The greatest depth of the first i Args. -/
def depA (T : List Nd) (x : Nd) : Nat → Nat
  | 0 => 0
  | i + 1 => max (depA T x i) (depF T (x.args[i]!).toNat)
theorem depF_at (T : List Nd) {k j : Nat} (h : k < j) : (deeps T j)[k]! = depF T k := by rw [deeps_at T h, depF, deeps_at T (by omega)]
theorem depA_eq (T : List Nd) (x : Nd) (k : Nat) : ∀ i, (∀ j, j < i → (x.args[j]!).toNat < k) → deepA x (deeps T k) i = depA T x i
  | 0, _ => rfl
  | i + 1, h => by rw [deepA, depA, depA_eq T x k i (fun j hj => h j (by omega)), depF_at T (h i (by omega))]
theorem depF_eq (T : List Nd) {k : Nat} (h : ∀ j, j < T[k]!.args.length → (T[k]!.args[j]!).toNat < k) : depF T k = depA T T[k]! T[k]!.args.length + 1 := by
  rw [depF, deeps_at T (by omega), depA_eq T _ _ _ h]
theorem depF_le {T : List Nd} (h : ∀ k, k < T.length → ∀ j, j < T[k]!.args.length → (T[k]!.args[j]!).toNat < k) : ∀ k, k < T.length → depF T k ≤ k + 1 := by
  intro k
  induction k using Nat.strongRecOn with
  | _ k ih =>
    intro hk
    rw [depF_eq T (h k hk)]
    have : ∀ i, i ≤ T[k]!.args.length → depA T T[k]! i ≤ k := by
      intro i
      induction i with
      | zero => intro _; exact Nat.zero_le _
      | succ i ih2 =>
        intro hi
        have h1 := h k hk i (by omega)
        have := ih _ h1 (by omega)
        have := ih2 (by omega)
        rw [depA]
        omega
    have := this _ (Nat.le_refl _)
    omega
/-- What Depth answers. -/
def resD (T : List Nd) : Int := if valF T = 0 then ((depF T (T.length - 1) : Nat) : Int) else 0
theorem args_below {T : List Nd} (h : valF T = 0) (k : Nat) (hk : k < T.length) (j : Nat) (hj : j < T[k]!.args.length) : ∃ p : Nat, T[k]!.args[j]! = (p : Int) ∧ p < k := by
  have := (nod_iff.1 ((val_zero.1 h).2.1 k hk)).2.2.2.2.1 j hj
  exact ⟨(T[k]!.args[j]!).toNat, by omega, by omega⟩
theorem depA_succ (T : List Nd) (x : Nd) {j p : Nat} (h : x.args[j]! = (p : Int)) : depA T x (j + 1) = max (depA T x j) (depF T p) := by rw [depA, h, Int.toNat_natCast]
theorem depA_le {T : List Nd} {x : Nd} {m : Nat} : ∀ i, (∀ j, j < i → depF T (x.args[j]!).toNat ≤ m) → depA T x i ≤ m
  | 0, _ => Nat.zero_le _
  | i + 1, h => by
    rw [depA]
    have := depA_le i (fun j hj => h j (by omega))
    have := h i (by omega)
    omega
theorem ret_ii {a b c d : Int} (h1 : a = c) (h2 : b = d) : Ending.returned (.tuple #[.int .i64 c, .int .i64 d]) = Ending.returned (.tuple #[.int .i64 a, .int .i64 b]) := by rw [h1, h2]
set_option maxRecDepth 100000 in
set_option maxHeartbeats 8000000 in
theorem depth_any {w : World} {A : Option Addr} {n c : Nat} {T : List Nd} (h : Term w A n c T) : Calls Tryz.prog 15 #[.slice A n c] w fun e w' => e = .returned (.tuple #[.int .i64 (resD T), .int .i64 (valF T)]) ∧ Below w.heap.size w w' := by
  obtain ⟨i0, hi, hz0, hz1, hz2⟩ := info_parts infoI
  have HV := Lib.hid (validate_any h)
  by_cases hv : valF T = 0
  · have hcap := h.2.1
    have hmax := h.2.2.1
    have hlen := (val_zero.1 hv).1
    have HR := Lib.hid (show resD T = ((depF T (n - 1) : Nat) : Int) by unfold resD; rw [if_pos hv, h.1])
    have HAR := Lib.hid (show ∀ k, k < n → ∀ j, j < T[k]!.args.length → ∃ p : Nat, T[k]!.args[j]! = (p : Int) ∧ p < k by rw [h.1]; exact args_below hv)
    have HLE := Lib.hid (show ∀ k, k < n → depF T k ≤ k + 1 by
      rw [h.1]
      exact depF_le fun k hk j hj => by
        obtain ⟨p, hp, hp2⟩ := args_below hv k hk j hj
        rw [hp]
        omega)
    have HDE := Lib.hid (show ∀ k, k < n → depF T k = depA T T[k]! T[k]!.args.length + 1 from fun k hk => depF_eq T fun j hj => by
      obtain ⟨p, hp, hp2⟩ := args_below hv k (by rw [← h.1]; exact hk) j hj
      rw [hp]
      omega)
    rw [← h.1] at hlen
    rw [hv] at HV
    have HE := Lib.hid hv
    have H := Lib.hid h
    have n1 : 1 ≤ n := by omega
    have n300 : n ≤ 300 := by omega
    generalize resD T = rd at HR ⊢
    generalize valF T = V at HE ⊢
    clear h hv hlen
    go_enter Tryz.func15, Tryz.ntmps15
    go_wp2_with fail
    refine HV.out.mono ?_
    rintro e w1 ⟨rfl, hb⟩
    go_upto_region 5 with (refine wpList_make_row _ rfl _ _ 35 rfl 3 i0 (.int .i64 0) Tryz.underlying35 hi hz0 hz1 rfl .i64 .i64 n rfl rfl (by rw [hz2]; omega) (by omega) ?_)
    have hb1 := hb.alloc hb.size (.cells (madeCells #[.int .i64 0] n) 3)
    have hR := RowN.made w1 n
    have hB0 := hb.size
    generalize World.alloc w1 _ = W1 at hb1 hR ⊢
    generalize w1.heap.size = R at hR hB0 ⊢
    clear hb
    go_wp2
    go_loopw [20] (fun zi wr => ∃ i : Nat, i ≤ n ∧ zi = .int .i64 (i : Int) ∧ Below w.heap.size w wr ∧ RowN wr R n (fun j => if j < i then depF T j else 0)) (fun zi _ => n - (intOf zi).toNat)
    case atStart => exact ⟨0, by omega, rfl, hb1, hR.congr (fun j _ => by simp)⟩
    case round =>
      clear hb1 hR
      obtain ⟨i, hi', rfl, hb, hR⟩ := hrel
      by_cases hlt : i < n
      · obtain ⟨b, off, A', n', c', rfl, hbs0, ht0, hI, -⟩ := H.out.at_ hlt
        obtain ⟨a0, a1, a2, a3, a4⟩ := ht0.below hbs0 hb
        have hbs := Nat.lt_of_lt_of_le hbs0 hb.size
        have HAI := Lib.hid (HAR.out i hlt)
        have HDI := Lib.hid (HDE.out i hlt)
        rw [← hI.1] at HAI HDI
        have hcap' := hI.2.1
        have hmax' := hI.2.2.1
        have HII := Lib.hid hI
        clear ht0 hI
        generalize T[i]! = x at a0 a1 a2 a3 a4 HAI HDI HII
        obtain ⟨op, wid, fl, args, imm⟩ := x
        simp only at a0 a1 a2 a3 a4 HAI HDI HII
        have hR2 := hR.below ((Below.refl _ _).alloc (Nat.le_refl _) (.cells #[.int .i64 op, .int .i64 wid, .int .i64 fl, .slice A' n' c', .int .u32 imm] 38))
        have hb2 := hb.alloc hb.size (.cells #[.int .i64 op, .int .i64 wid, .int .i64 fl, .slice A' n' c', .int .u32 imm] 38)
        have hx := heap_alloc_new wr (.cells #[.int .i64 op, .int .i64 wid, .int .i64 fl, .slice A' n' c', .int .u32 imm] 38)
        clear hR
        go_upto_region 8 with fail
        generalize World.alloc wr _ = W2 at hR2 hb2 hx ⊢
        generalize wr.heap.size = D at hx ⊢
        obtain ⟨-, -, -, d3, -⟩ := cells5 (x := ⟨op, wid, fl, args, imm⟩) hx
        have hdl := lt_of_block hx
        clear hb hx a0 a1 a2 a3 a4 hbs
        have hR3 := hR2.congr (t := fun j => if j < i then depF T j else if j = i then depA T ⟨op, wid, fl, args, imm⟩ 0 else 0) (fun j _ => by
          by_cases e : j < i
          · rw [if_pos e, if_pos e]
          · rw [if_neg e, if_neg e]
            split <;> rfl)
        clear hR2
        go_wp2
        go_loopw [28] (fun zq wq => ∃ q : Nat, q ≤ n' ∧ zq = .int .i64 (q : Int) ∧ Below w.heap.size w wq ∧ RowN wq R n (fun j => if j < i then depF T j else if j = i then depA T ⟨op, wid, fl, args, imm⟩ q else 0)) (fun zq _ => n' - (intOf zq).toNat)
        case atStart => exact ⟨0, by omega, rfl, hb2, hR3⟩
        case round =>
          clear hb2 hR3 d3 hdl
          obtain ⟨q, hq, rfl, hb, hR⟩ := hrel
          rename World => wq
          have hRl := hR.lt
          by_cases hql : q < n'
          · obtain ⟨b', off', rfl, hbs', hc'⟩ := (HII.out.below hb).at_ hql
            obtain ⟨p, hp, hpi⟩ := HAI.out q hql
            have HSU := Lib.hid (depA_succ T ⟨op, wid, fl, args, imm⟩ (j := q) (p := p) hp)
            rw [hp] at hc'
            obtain ⟨ci, fi⟩ := hR.cell (j := i) hlt
            have cp := (hR.cell (j := p) (by omega)).1
            rw [if_neg (Nat.lt_irrefl _), if_pos rfl] at ci
            rw [if_pos hpi] at cp
            have hpn : p < n := by omega
            obtain ⟨z, hz⟩ : ∃ z, depA T ⟨op, wid, fl, args, imm⟩ (q + 1) = z := ⟨_, rfl⟩
            have HZ := Lib.hid hz
            rw [hz] at HSU
            have hR4 := hR.put (D := i) (x := z) (t := fun j => if j < i then depF T j else if j = i then z else 0) (fun j _ => by
              by_cases e : j = i
              · rw [if_pos e, if_neg (by omega), if_pos e]
              · rw [if_neg e, if_neg e, if_neg e])
            have hb4 := hb.setCell (p := ⟨R, i, none⟩) hB0 (.int .i64 ((z : Nat) : Int))
            generalize depA T ⟨op, wid, fl, args, imm⟩ q = x at ci HSU
            generalize depF T p = y at cp HSU
            rw [show ((z : Nat) : Int) = if x < y then (y : Int) else (x : Int) by rw [HSU.out]; split <;> omega] at hR4 hb4
            replace hR4 := Lib.hid hR4
            replace hb4 := Lib.hid hb4
            clear hp HSU hR hb hz
            go_wp2
            go_region
            go_wp2
            exact ⟨⟨q + 1, by omega, by go_num, drewD hb4.out, by rw [HZ.out]; exact hR4.out⟩, by simp [intOf]; omega⟩
          · obtain rfl : q = n' := by omega
            obtain ⟨ci, fi⟩ := hR.cell (j := i) hlt
            rw [if_neg (Nat.lt_irrefl _), if_pos rfl] at ci
            have hd := HDI.out
            have hle := HLE.out i hlt
            generalize depA T ⟨op, wid, fl, args, imm⟩ q = y at ci hd hR
            have hR4 := Lib.hid (hR.put (D := i) (x := y + 1) (t := fun j => if j < i + 1 then depF T j else 0) (fun j _ => by
              by_cases e : j = i
              · rw [if_pos e, if_pos (by omega), e, hd]
              · rw [if_neg e]
                by_cases e2 : j < i
                · rw [if_pos e2, if_pos (by omega)]
                · rw [if_neg e2, if_neg (by omega), if_neg e]))
            have hb4 := Lib.hid (hb.setCell (p := ⟨R, i, none⟩) hB0 (.int .i64 ((y + 1 : Nat) : Int)))
            have hy : y ≤ 300 := by omega
            clear hR hb hd hle
            go_wp2
            go_roundw
            case rel => exact ⟨i + 1, by omega, by go_num, hb4.out, hR4.out⟩
            case measure => simp [intOf]; omega
      · obtain rfl : i = n := by omega
        have cl := (hR.cell (j := i - 1) (by omega)).1
        rw [if_pos (by omega)] at cl
        have hRl := hR.lt
        have HRR := HR
        generalize depF T (i - 1) = y at cl HRR
        have hi1 : ((i : Nat) : Int) - 1 = ((i - 1 : Nat) : Int) := by omega
        clear hR hlt
        go_wp2
        go_ret2
        exact ⟨by exact ret_ii HRR.out HE.out, hb⟩
  · have HR := Lib.hid (show resD T = 0 by unfold resD; rw [if_neg hv])
    generalize resD T = rd at HR ⊢
    generalize valF T = V at HV hv ⊢
    have e1 : (V != 0) = true := by simp [hv]
    clear h hv
    go_enter Tryz.func15, Tryz.ntmps15
    go_wp2_with fail
    refine HV.out.mono ?_
    rintro e w1 ⟨rfl, hb⟩
    go_wp2
    go_ret2
    exact ⟨by exact ret_ii HR.out rfl, hb⟩
theorem own_below {w w' : World} {base e size k : Nat} {v : Value} {xs : List Value} (h : w.ownsRow base e size v k xs) (hb : Below w.heap.size w w') : w'.ownsRow base e size v k xs := by
  refine ⟨h.1, ?_⟩
  rcases h.2 with h2 | ⟨g, cap, cur, h1, h2, h3, h4⟩
  · exact .inl h2
  · exact .inr ⟨g, cap, cur, h1, h2, (hb.block _ (lt_of_block h3)).trans h3, h4⟩
end Go.Proofs.YtbohigjfdnnomaaGreatDoor
