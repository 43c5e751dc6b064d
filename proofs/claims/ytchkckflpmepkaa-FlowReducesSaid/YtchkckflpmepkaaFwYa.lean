/-
  IsReducible and Loop of the program.
-/
import Derived.Test.YtchkckflpmepkaaFwY
namespace Go.Proofs.Ytchkckflpmepkaa
open Go.RowKit

def resI (g : List (List Int)) : Bool := decide (valF g = 0) && (freF (natG g) 11 0 (non, non)).1
/-- The error of Loop. -/
def errL (g : List (List Int)) (v : Int) : Int := if errN g [v] = 0 then (if hdS (bkL (natG g)) v.toNat then 0 else 9) else errN g [v]
def resL (g : List (List Int)) (v : Int) : List Nat := if errL g v = 0 then setL (lopS (natG g) v.toNat) 10 else []
section
variable {w : World} {A : Option Addr} {n c : Nat} {g : List (List Int)}
set_option maxRecDepth 100000 in
set_option maxHeartbeats 8000000 in
theorem IsReducible_any (h : RG w A n c g) : Calls Try.prog 23 #[.slice A n c] w fun e w' => e = .returned (.tuple #[.bool (resI g), .int .i64 (valF g)]) ∧ Below w.heap.size w w' := by
  have HV := Lib.hid (fun w1 (hb : Below w.heap.size w w1) => validate_any (h.below hb))
  by_cases hv : valF g = 0
  · have hG := okG_val hv
    have hM := MG_of h hv
    have n1 : 0 < n := by rw [h.1]; have := hG.1; rw [natG_len] at this; exact this
    have n10 : n ≤ 10 := by rw [h.1]; have := hG.2.1; rw [natG_len] at this; exact this
    have hfree : free non n < 11 := by rw [free_non]; omega
    have HC := Lib.hid (fun (O D Gb V : Nat) (hO : w.heap.size ≤ O) (hD : w.heap.size ≤ D) (hdo : D ≠ O) (hgO : Gb ≠ O) (hvO : V ≠ O) (hgD : Gb ≠ D) (hvD : V ≠ D) w1 hW => isFree_any hG hM hO hD hdo hgO hvO hgD hvD 11 0 (non, non) w1 n1 hfree hW)
    have hr : resI g = (freF (natG g) 11 0 (non, non)).1 := by unfold resI; rw [decide_eq_true hv, Bool.true_and]
    rw [hr]
    rw [hv] at HV ⊢
    generalize freF (natG g) 11 0 (non, non) = R at HC ⊢
    obtain ⟨B, q⟩ := R
    clear h hv hG hM hr
    go_enter Try.func23, Try.ntmps23
    go_wp2_with fail
    refine (HV.out _ ((Below.refl w.heap.size w).alloc (Nat.le_refl _) _)).mono ?_
    rintro e w' ⟨rfl, rfl⟩
    go_upto_region 6 with fail
    obtain ⟨W1, hW1⟩ : ∃ W1, W1 = w.alloc (.cells #[.slice A n c] 22) := ⟨_, rfl⟩
    obtain ⟨W2, hW2⟩ : ∃ W2, W2 = W1.alloc (.cells zV 52) := ⟨_, rfl⟩
    obtain ⟨W3, hW3⟩ : ∃ W3, W3 = W2.alloc (.cells zV 52) := ⟨_, rfl⟩
    obtain ⟨W4, hW4⟩ : ∃ W4, W4 = W3.alloc (.cells #[.nilFunc] 63) := ⟨_, rfl⟩
    rw [← hW1, ← hW2, ← hW3, ← hW4]
    have z1 : W1.heap.size = w.heap.size + 1 := by rw [hW1]; simp
    have z2 : W2.heap.size = w.heap.size + 1 + 1 := by rw [hW2, ← z1]; simp
    have z3 : W3.heap.size = w.heap.size + 1 + 1 + 1 := by rw [hW3, ← z2]; simp
    have b4 : ∀ (B : Nat) (o : Obj), W3.heap[B]? = some o → W4.heap[B]? = some o := fun B o h => by rw [hW4]; exact (heap_alloc_old W3 _ (lt_of_block h)).trans h
    have b3 : ∀ (B : Nat) (o : Obj), W2.heap[B]? = some o → W3.heap[B]? = some o := fun B o h => by rw [hW3]; exact (heap_alloc_old W2 _ (lt_of_block h)).trans h
    have b2 : ∀ (B : Nat) (o : Obj), W1.heap[B]? = some o → W2.heap[B]? = some o := fun B o h => by rw [hW2]; exact (heap_alloc_old W1 _ (lt_of_block h)).trans h
    have hb : Below w.heap.size w W4 := by
      rw [hW4, hW3, hW2, hW1]
      exact ((((Below.refl _ _).alloc (Nat.le_refl _) _).alloc (by simp) _).alloc (by simp; omega) _).alloc (by simp; omega) _
    have hGb : W4.heap[w.heap.size]? = some (.cells #[.slice A n c] 22 (0, 0)) := b4 _ _ (b3 _ _ (b2 _ _ (by rw [hW1]; exact heap_alloc_new w _)))
    have hS : SetB W4 (w.heap.size + 1) non := b4 _ _ (b3 _ _ (by rw [hW2, ← z1]; exact SetB.zero W1))
    have hD : SetB W4 (w.heap.size + 1 + 1) non := b4 _ _ (by rw [hW3, ← z2]; exact SetB.zero W2)
    have hV : W4.heap[w.heap.size + 1 + 1 + 1]? = some (.cells #[.nilFunc] 63 (0, 0)) := by rw [hW4, ← z3]; exact heap_alloc_new W3 _
    clear hW1 hW2 hW3 hW4 z1 z2 z3 b2 b3 b4
    obtain ⟨W6, hW6⟩ : ∃ W6, W6 = W4.setRow (w.heap.size + 1 + 1 + 1) #[fnV 52 #[ptr (w.heap.size + 1), ptr (w.heap.size + 1 + 1), ptr w.heap.size, ptr (w.heap.size + 1 + 1 + 1)]] := ⟨_, rfl⟩
    go_upto_region 7 with (refine wpList_store_oneTo rfl _ _ _ rfl rfl (w.heap.size + 1 + 1 + 1) (fnV 52 #[ptr (w.heap.size + 1), ptr (w.heap.size + 1 + 1), ptr w.heap.size, ptr (w.heap.size + 1 + 1 + 1)]) rfl rfl rfl 63 .nilFunc hV (by kernel_rfl) ?_)
    have hne : ∀ k, k ≠ w.heap.size + 1 + 1 + 1 → W6.heap[k]? = W4.heap[k]? := fun k hk => by rw [hW6]; exact setRow_ne _ _ _ hk
    replace hGb := (hne _ (by omega)).trans hGb
    replace hS := hS.block (hne _ (by omega))
    replace hD := hD.block (hne _ (by omega))
    replace hb : Below w.heap.size w W6 := by rw [hW6]; exact setRow_below hb (by omega) _
    replace hV : W6.heap[w.heap.size + 1 + 1 + 1]? = some (.cells #[fnV 52 #[ptr (w.heap.size + 1), ptr (w.heap.size + 1 + 1), ptr w.heap.size, ptr (w.heap.size + 1 + 1 + 1)]] 63 (0, 0)) := by rw [hW6]; exact setRow_get _ _ _ _ _ hV
    rw [← hW6]
    clear hW6 hne
    replace HC := Lib.hid (HC.out (w.heap.size + 1) (w.heap.size + 1 + 1) w.heap.size (w.heap.size + 1 + 1 + 1) (by omega) (by omega) (by omega) (by omega) (by omega) (by omega) (by omega) W6 ⟨hb, hS, hD, hGb, hV⟩)
    have hV0 := cell_of_one hV
    clear hS hD hGb hV hb
    go_wp2_with fail
    refine HC.out.mono ?_
    rintro e w2 ⟨rfl, hW⟩
    have hb2 := hW.below
    clear hW hV0
    go_wp2
    exact bodyPost_ret (results_tmp2 rfl _ _ _) rfl ⟨rfl, hb2⟩
  · have hr : resI g = false := by unfold resI; rw [decide_eq_false hv]; rfl
    rw [hr]
    generalize valF g = X at HV hv ⊢
    have dX : (X != 0) = true := by simp [hv]
    clear h hv hr
    go_enter Try.func23, Try.ntmps23
    go_wp2_with fail
    refine (HV.out _ ((Below.refl w.heap.size w).alloc (Nat.le_refl _) _)).mono ?_
    rintro e w1 ⟨rfl, rfl⟩
    go_wp2
    exact bodyPost_ret (results_tmp2 rfl _ _ _) rfl ⟨rfl, (Below.refl w.heap.size w).alloc (Nat.le_refl _) _⟩
set_option maxRecDepth 100000 in
set_option maxHeartbeats 4000000 in
theorem Loop_any (h : RG w A n c g) (v : Int) : Calls Try.prog 30 #[.slice A n c, .int .i64 v] w fun e w' => ∃ r, e = .returned (.tuple #[r, .int .i64 (errL g v)]) ∧ NatsV w' r (resL g v) ∧ Below w.heap.size w w' := by
  have HV := Lib.hid (validate_any h)
  by_cases hv : valF g = 0
  · have hG := okG_val hv
    have n10 : n ≤ 10 := by rw [h.1]; have := hG.2.1; rw [natG_len] at this; exact this
    have HX := Lib.hid (fun B hB w1 => isNode_at v n B hB A c w1 (by omega))
    rw [hv] at HV
    cases hB : nodeB v n
    · have he : errL g v = 4 := by unfold errL; rw [errN_one hv, ← h.1, hB]; rfl
      have hr : resL g v = [] := by unfold resL; rw [he]; rfl
      rw [he, hr]
      replace HX := Lib.hid (HX.out false hB)
      clear h hv hG hB he hr
      go_enter Try.func30, Try.ntmps30
      go_wp2_with (first | (go_at_call 45; with_reducible refine (HX.out _).mono ?_; rintro e w' ⟨rfl, rfl⟩))
      refine HV.out.mono ?_
      rintro e w1 ⟨rfl, rfl⟩
      go_wp2_with (first | (go_at_call 45; with_reducible refine (HX.out _).mono ?_; rintro e w' ⟨rfl, rfl⟩))
      exact bodyPost_ret (results_tmp2 rfl _ _ _) rfl ⟨_, rfl, NatsV.nil _, Below.refl _ _⟩
    · have hvb := of_decide_eq_true hB
      obtain ⟨V, rfl⟩ : ∃ V : Nat, v = (V : Int) := ⟨v.toNat, by omega⟩
      have HHD := Lib.hid (heads_any hG (MG_of h hv))
      have HLP := Lib.hid (fun w1 (hb : Below w.heap.size w w1) => loop_any hG ((MG_of h hv).below hb) V (by omega))
      have he : errL g V = if hdS (bkL (natG g)) V then 0 else 9 := by unfold errL; rw [errN_one hv, ← h.1, hB]; rfl
      have hr : resL g V = if hdS (bkL (natG g)) V then setL (lopS (natG g) V) 10 else [] := by
        unfold resL
        rw [he]
        cases hdS (bkL (natG g)) V <;> rfl
      rw [he, hr]
      replace HX := Lib.hid (HX.out true hB)
      generalize hdS (bkL (natG g)) = T at HHD ⊢
      generalize lopS (natG g) V = L at HLP ⊢
      have hidx := fun W => setA_idx T (show V < 10 by omega) W
      clear h hv hG hB he hvb hr
      cases hT : T V
      · rw [hT] at hidx
        clear hT
        go_enter Try.func30, Try.ntmps30
        go_wp2_with fail
        refine HV.out.mono ?_
        rintro e w1 ⟨rfl, rfl⟩
        go_wp2_with (first | (go_at_call 45; with_reducible refine (HX.out _).mono ?_; rintro e w' ⟨rfl, rfl⟩))
        refine HHD.out.mono ?_
        rintro e w1 ⟨rfl, hb⟩
        go_wp2
        exact bodyPost_ret (results_tmp2 rfl _ _ _) rfl ⟨_, rfl, NatsV.nil _, hb⟩
      · rw [hT] at hidx
        clear hT
        go_enter Try.func30, Try.ntmps30
        go_wp2_with fail
        refine HV.out.mono ?_
        rintro e w1 ⟨rfl, rfl⟩
        go_wp2_with (first | (go_at_call 45; with_reducible refine (HX.out _).mono ?_; rintro e w' ⟨rfl, rfl⟩))
        refine HHD.out.mono ?_
        rintro e w1 ⟨rfl, hb⟩
        go_wp2_with fail
        refine (HLP.out w1 hb).mono ?_
        rintro e w2 ⟨rfl, hb2⟩
        replace hb := hb.trans (hb2.mono hb.size)
        go_wp2_with fail
        refine (list_any L w2).mono ?_
        rintro e w3 ⟨r, rfl, hown, hb3⟩
        replace hb := hb.trans (hb3.mono hb.size)
        have hN := NatsV.own hown
        clear hown hb2 hb3
        go_wp2
        exact bodyPost_ret (results_tmp2 rfl _ _ _) rfl ⟨r, rfl, hN, hb⟩
  · have he : errL g v = valF g := by unfold errL; rw [errN_bad hv, if_neg hv]
    have hr : resL g v = [] := by unfold resL; rw [he, if_neg hv]
    rw [hr, he]
    generalize valF g = X at HV hv ⊢
    have dX : (X != 0) = true := by simp [hv]
    clear h hv hr he
    go_enter Try.func30, Try.ntmps30
    go_wp2_with fail
    refine HV.out.mono ?_
    rintro e w1 ⟨rfl, rfl⟩
    go_wp2
    exact bodyPost_ret (results_tmp2 rfl _ _ _) rfl ⟨_, rfl, NatsV.nil _, Below.refl _ _⟩
end
end Go.Proofs.Ytchkckflpmepkaa
