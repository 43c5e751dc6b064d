/-
  Order of both packages.
-/
import Derived.Test.YtchkckflpmepkaaFwO
namespace Go.Proofs.Ytchkckflpmepkaa
open Go.RowKit

/-- What Order answers. -/
def resO (g : List (List Int)) : List Nat := if valF g = 0 then ordL (natG g) else []
theorem revd (L : List Nat) {j : Nat} (h : j + 1 ≤ L.length) : (L.drop j).reverse = (L.drop (j + 1)).reverse ++ [L[j]!] := by
  rw [List.drop_eq_getElem_cons (by omega), List.reverse_cons, show L[j]! = L[j] by simp [show j < L.length by omega]]
theorem ord_all (G : List (List Nat)) (hG : okG G) : (ordF G 11 0 (non, [])).2.length ≤ 10 ∧ ordL G = (ordF G 11 0 (non, [])).2.reverse := by
  have h := ord_len hG 11 0 (non, []) hG.1 rfl
  rw [free_non] at h
  simp only [List.length_nil] at h
  have := hG.2.1
  exact ⟨by omega, rfl⟩
section
variable {w : World} {A : Option Addr} {n c : Nat} {g : List (List Int)}
set_option maxRecDepth 100000 in
set_option maxHeartbeats 8000000 in
theorem Order_any (h : RG w A n c g) : Calls Try.prog 20 #[.slice A n c] w fun e w' => ∃ v, e = .returned (.tuple #[v, .int .i64 (valF g)]) ∧ NatsV w' v (resO g) ∧ Below w.heap.size w w' := by
  have HV := Lib.hid (fun w1 (hb : Below w.heap.size w w1) => validate_any (h.below hb))
  by_cases hv : valF g = 0
  · obtain ⟨i0, hi, hz0, hz1, hz2⟩ := info_parts infoI
    have hG := okG_val hv
    have hM := MG_of h hv
    have n1 : 0 < n := by rw [h.1]; have := hG.1; rw [natG_len] at this; exact this
    have n10 : n ≤ 10 := by rw [h.1]; have := hG.2.1; rw [natG_len] at this; exact this
    have hfree : free non n ≤ 10 := by rw [free_non]; exact n10
    have HC := Lib.hid (fun (S Gb V L : Nat) (hS : w.heap.size ≤ S) (hL : w.heap.size ≤ L) (hg : Gb ≠ S) (hvS : V ≠ S) (hlS : L ≠ S) (hgL : Gb ≠ L) (hvL : V ≠ L) w1 hW => orderVisit_any hG hM hS hL hg hvS hlS hgL hvL 11 0 (non, []) w1 n1 rfl (show free non n ≤ 11 by omega) (by simpa using hfree) hW)
    obtain ⟨hl10, hOL⟩ := ord_all (natG g) hG
    have HR := Lib.hid (show resO g = (ordF (natG g) 11 0 (non, [])).2.reverse by
      unfold resO
      rw [if_pos hv, hOL])
    rw [hv] at HV ⊢
    generalize ordF (natG g) 11 0 (non, []) = R at HC HR hl10
    generalize resO g = Z at HR ⊢
    clear h hv hG hM hOL
    go_enter Try.func20, Try.ntmps20
    go_wp2_with fail
    refine (HV.out _ ((Below.refl w.heap.size w).alloc (Nat.le_refl _) _)).mono ?_
    rintro e w' ⟨rfl, rfl⟩
    go_upto_region 7 with fail
    obtain ⟨W1, hW1⟩ : ∃ W1, W1 = w.alloc (.cells #[.slice A n c] 22) := ⟨_, rfl⟩
    obtain ⟨W2, hW2⟩ : ∃ W2, W2 = W1.alloc (.cells zV 52) := ⟨_, rfl⟩
    obtain ⟨W3, hW3⟩ : ∃ W3, W3 = W2.alloc (.cells #[.slice none 0 0] 25) := ⟨_, rfl⟩
    obtain ⟨W4, hW4⟩ : ∃ W4, W4 = W3.alloc (.cells #[.nilFunc] 60) := ⟨_, rfl⟩
    rw [← hW1, ← hW2, ← hW3, ← hW4]
    have z1 : W1.heap.size = w.heap.size + 1 := by rw [hW1]; simp
    have z2 : W2.heap.size = w.heap.size + 1 + 1 := by rw [hW2, ← z1]; simp
    have z3 : W3.heap.size = w.heap.size + 1 + 1 + 1 := by rw [hW3, ← z2]; simp
    have b4 : ∀ (B : Nat) (o : Obj), W3.heap[B]? = some o → W4.heap[B]? = some o := fun B o h => by rw [hW4]; exact (heap_alloc_old W3 _ (lt_of_block h)).trans h
    have b3 : ∀ (B : Nat) (o : Obj), W2.heap[B]? = some o → W3.heap[B]? = some o := fun B o h => by rw [hW3]; exact (heap_alloc_old W2 _ (lt_of_block h)).trans h
    have b2 : ∀ (B : Nat) (o : Obj), W1.heap[B]? = some o → W2.heap[B]? = some o := fun B o h => by rw [hW2]; exact (heap_alloc_old W1 _ (lt_of_block h)).trans h
    have hb : Below w.heap.size w W4 := by
      rw [hW4, hW3, hW2, hW1]
      exact ((((Below.refl _ _).alloc (Nat.le_refl _) _).alloc (by simp) _).alloc (by simp; omega) _).alloc (by simp; omega) _
    have hGb : W4.heap[w.heap.size]? = some (.cells #[.slice A n c] 22 (0, 0)) := b4 _ _ (b3 _ _ (b2 _ _ (by rw [hW1]; exact heap_alloc_new w _)))
    have hS : SetB W4 (w.heap.size + 1) non := b4 _ _ (b3 _ _ (by rw [hW2, ← z1]; exact SetB.zero W1))
    have hL : W4.heap[w.heap.size + 1 + 1]? = some (.cells #[.slice none 0 0] 25 (0, 0)) := b4 _ _ (by rw [hW3, ← z2]; exact heap_alloc_new W2 _)
    have hV : W4.heap[w.heap.size + 1 + 1 + 1]? = some (.cells #[.nilFunc] 60 (0, 0)) := by rw [hW4, ← z3]; exact heap_alloc_new W3 _
    clear hW1 hW2 hW3 hW4 z1 z2 z3 b2 b3 b4
    obtain ⟨W6, hW6⟩ : ∃ W6, W6 = W4.setRow (w.heap.size + 1 + 1 + 1) #[fnV 49 #[ptr (w.heap.size + 1), ptr w.heap.size, ptr (w.heap.size + 1 + 1 + 1), ptr (w.heap.size + 1 + 1)]] := ⟨_, rfl⟩
    go_upto_region 8 with (refine wpList_store_oneTo rfl _ _ _ rfl rfl (w.heap.size + 1 + 1 + 1) (fnV 49 #[ptr (w.heap.size + 1), ptr w.heap.size, ptr (w.heap.size + 1 + 1 + 1), ptr (w.heap.size + 1 + 1)]) rfl rfl rfl 60 .nilFunc hV (by kernel_rfl) ?_)
    have hne : ∀ k, k ≠ w.heap.size + 1 + 1 + 1 → W6.heap[k]? = W4.heap[k]? := fun k hk => by rw [hW6]; exact setRow_ne _ _ _ hk
    replace hGb := (hne _ (by omega)).trans hGb
    replace hL := (hne _ (by omega)).trans hL
    replace hS := hS.block (hne _ (by omega))
    replace hb : Below w.heap.size w W6 := by rw [hW6]; exact setRow_below hb (by omega) _
    replace hV : W6.heap[w.heap.size + 1 + 1 + 1]? = some (.cells #[fnV 49 #[ptr (w.heap.size + 1), ptr w.heap.size, ptr (w.heap.size + 1 + 1 + 1), ptr (w.heap.size + 1 + 1)]] 60 (0, 0)) := by rw [hW6]; exact setRow_get _ _ _ _ _ hV
    rw [← hW6]
    clear hW6 hne
    replace HC := Lib.hid (HC.out (w.heap.size + 1) w.heap.size (w.heap.size + 1 + 1 + 1) (w.heap.size + 1 + 1) (by omega) (by omega) (by omega) (by omega) (by omega) (by omega) (by omega) W6 ⟨hb, hS, hGb, hV, .slice none 0 0, hL, World.ownsRow_nil _ _ _ _⟩)
    have hV0 := cell_of_one hV
    clear hS hGb hV hL hb
    go_wp2_with fail
    refine HC.out.mono ?_
    rintro e w2 ⟨rfl, hW⟩
    obtain ⟨vl, hLc, hown⟩ := hW.left
    have hb := hW.below
    have hL1 := cell_of_one hLc
    obtain ⟨AL, cL, rfl, hNL⟩ := own_nats hown
    have HNL := Lib.hid hNL
    have HLc := Lib.hid hLc
    clear hW hown hV0 hLc hNL
    go_upto_region 10 with (refine wpList_make_own _ rfl _ _ 25 rfl w2.heap.size 3 i0 (.int .i64 0) 1 Try.underlying25 hi hz0 hz1 .i64 .i64 _ R.2.length rfl rfl rfl (by rw [hz2]; omega) (by unfold maxLen; omega) (Nat.le_refl _) ?_; intro w3 hown3 hg3)
    have hb3 : Below w2.heap.size w2 w3 := (Below.refl _ _).grown hg3 (Nat.le_refl _) (fun k hk => by cases hk)
    clear hg3
    have hL3 := cell_of_one ((hb3.block _ (lt_of_block HLc.out)).trans HLc.out)
    clear hL1
    go_wp2
    clear hL3
    go_loopw [8, 9] (fun zl zi wr => ∃ (j : Nat) (z : Int), j ≤ R.2.length ∧ zi = .int .i64 z ∧ z = (j : Int) - 1 ∧ wr.ownsRow w2.heap.size 3 1 zl (R.2.drop j).reverse.length (nV (R.2.drop j).reverse) ∧ Below w2.heap.size w2 wr) (fun _ zi _ => (intOf zi + 1).toNat)
    case atStart => exact ⟨R.2.length, _, Nat.le_refl _, rfl, by omega, by simpa using hown3, hb3⟩
    case round =>
      clear hown3 hb3
      obtain ⟨j, z, hj, rfl, hz, hown, hb3⟩ := hrel
      cases j with
      | zero =>
        have hz2 : z < 0 := by omega
        have d0 : decide (0 ≤ z) = false := decide_eq_false (by omega)
        clear hz
        rw [List.drop_zero, ← HR.out] at hown
        have hN := NatsV.own hown
        have hb4 := hb.trans (hb3.mono hb.size)
        clear hown
        go_wp2
        exact bodyPost_ret (results_tmp2 rfl _ _ _) rfl ⟨_, rfl, hN, hb4⟩
      | succ k =>
        obtain rfl : z = (k : Int) := by omega
        have hL3 := cell_of_one ((hb3.block _ (lt_of_block HLc.out)).trans HLc.out)
        have HS := Lib.hid (revd R.2 hj)
        have hcL := HNL.out.2.1
        have hmL := HNL.out.2.2.1
        obtain ⟨b, off, rfl, hbs, hc⟩ := HNL.out.get hb3 (show k < R.2.length by omega)
        have hdl : (R.2.drop (k + 1)).reverse.length ≤ 10 := by simp; omega
        generalize (R.2.drop (k + 1)).reverse = D at hown HS hdl
        generalize R.2[k]! = u at hc HS
        clear hz
        go_wp2_with (at_builtin; refine wpList_append_own _ rfl _ _ 25 rfl w2.heap.size 3 i0 (.int .i64 0) 1 8 Try.underlying25 hi hz0 hz1 hz2 rfl (by decide) _ _ _ rfl (hown.alloc _) ⟨wr.heap.size, 0, none⟩ 1 1 [.int .i64 (u : Int)] rfl rfl (one_new wr _ _) ?k2 ?k3 ?k4 ?k5 ?_)
        case k2 => simp [Value.oneCell']
        case k3 => unfold maxLen; omega
        case k4 => omega
        case k5 => have := hb3.size; simp; omega
        intro v2 w7 hown7 hgrow _
        have hb5 : Below w2.heap.size w2 w7 := (hb3.alloc hb3.size _).grown hgrow (by have := hb3.size; simp; omega) (own_base (hown.alloc (.cells #[.int .i64 (u : Int)] 3)))
        have HO8 := Lib.hid (show w7.ownsRow w2.heap.size 3 1 v2 (R.2.drop k).reverse.length (nV (R.2.drop k).reverse) by
          rw [HS.out, List.length_append, nV_app]
          exact hown7)
        clear hown hown7 hgrow hb3 hdl hL3 hc hbs
        go_wp2
        go_roundw
        case rel => exact ⟨k, _, by omega, rfl, by omega, HO8.out, hb5⟩
        case measure => simp [intOf]
  · have hr : resO g = [] := if_neg hv
    rw [hr]
    generalize valF g = X at HV hv ⊢
    have dX : (X != 0) = true := by simp [hv]
    clear h hv hr
    go_enter Try.func20, Try.ntmps20
    go_wp2_with fail
    refine (HV.out _ ((Below.refl w.heap.size w).alloc (Nat.le_refl _) _)).mono ?_
    rintro e w1 ⟨rfl, rfl⟩
    go_wp2
    exact bodyPost_ret (results_tmp2 rfl _ _ _) rfl ⟨_, rfl, NatsV.nil _, (Below.refl w.heap.size w).alloc (Nat.le_refl _) _⟩
end
end Go.Proofs.Ytchkckflpmepkaa
