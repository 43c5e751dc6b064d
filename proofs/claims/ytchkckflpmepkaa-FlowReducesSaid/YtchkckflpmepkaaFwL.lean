/-
  Reached, Before, Dominates of both packages.
-/
import Derived.Test.YtchkckflpmepkaaFwK
namespace Go.Proofs.Ytchkckflpmepkaa
open Go.RowKit

/-- A value that is a slice of numbers. -/
def NatsV (w : World) (v : Value) (l : List Nat) : Prop := ∃ A n c, v = .slice A n c ∧ Nats w A n c l
theorem NatsV.below {w w' : World} {v : Value} {l : List Nat} (h : NatsV w v l) (hb : Below w.heap.size w w') : NatsV w' v l := by
  obtain ⟨A, n, c, h1, h2⟩ := h
  exact ⟨A, n, c, h1, h2.below hb⟩
theorem NatsV.nil (w : World) : NatsV w (.slice none 0 0) [] := ⟨none, 0, 0, rfl, rfl, Nat.le_refl _, by omega, .inl rfl⟩
theorem NatsV.own {w : World} {base n : Nat} {v : Value} {l : List Nat} (h : w.ownsRow base 3 1 v n (nV l)) : NatsV w v l := by
  obtain ⟨A, c, h1, h2⟩ := own_nats h
  exact ⟨A, n, c, h1, h2⟩
theorem ints_one (w : World) (v : Int) : Ints (w.alloc (.cells #[.int .i64 v] 3)) (some ⟨w.heap.size, 0, none⟩) 1 1 [v] := by
  refine ⟨rfl, Nat.le_refl _, by omega, .inr ⟨_, 0, rfl, lt_of_block (heap_alloc_new w _), fun j hj => ?_⟩⟩
  obtain rfl : j = 0 := by omega
  exact cell_of_one (heap_alloc_new w _)
theorem two_cells {W : World} {B : Nat} {a b : Value} {t : TypeId} (h : W.heap[B]? = some (.cells #[a, b] t (0, 0))) : W.cell? ⟨B, 0, none⟩ = some a ∧ W.cell? ⟨B, 1, none⟩ = some b := by
  refine ⟨?_, ?_⟩ <;> simp [World.cell?, h]
theorem ints_two (w : World) (a b : Int) : Ints (w.alloc (.cells #[.int .i64 a, .int .i64 b] 3)) (some ⟨w.heap.size, 0, none⟩) 2 2 [a, b] := by
  refine ⟨rfl, Nat.le_refl _, by omega, .inr ⟨_, 0, rfl, lt_of_block (heap_alloc_new w _), fun j hj => ?_⟩⟩
  have h := two_cells (heap_alloc_new w (.cells #[.int .i64 a, .int .i64 b] 3))
  match j, hj with
  | 0, _ => exact h.1
  | 1, _ => exact h.2
def resR (g : List (List Int)) : List Nat := if valF g = 0 then setL (wy (natG g) (-1) 0) g.length else []
def resB (g : List (List Int)) (v : Int) : List Nat := if errN g [v] = 0 then setL (befS (natG g) v.toNat) g.length else []
def resD (g : List (List Int)) (a b : Int) : Bool := decide (errT g [a, b] = 0) && domB (natG g) a.toNat b.toNat
section
variable {w : World} {A : Option Addr} {n c : Nat} {g : List (List Int)}
set_option maxRecDepth 100000 in
set_option maxHeartbeats 2000000 in
theorem Reached_any (h : RG w A n c g) : Calls Try.prog 13 #[.slice A n c] w fun e w' => ∃ v, e = .returned (.tuple #[v, .int .i64 (valF g)]) ∧ NatsV w' v (resR g) ∧ Below w.heap.size w w' := by
  have HV := Lib.hid (validate_any h)
  by_cases hv : valF g = 0
  · have hG := okG_val hv
    have HC := Lib.hid (reached_any hG (MG_of h hv))
    have HR := Lib.hid (show resR g = setL (wy (natG g) (-1) 0) 10 by
      unfold resR
      rw [if_pos hv, ← natG_len g]
      exact (setL_ten hG.2.1 (fun j hj => wy_lt hG hG.1 hj)).symm)
    rw [hv] at HV ⊢
    generalize wy (natG g) (-1) 0 = T at HC HR
    generalize resR g = L at HR ⊢
    clear h hv hG
    go_enter Try.func13, Try.ntmps13
    go_wp2_with fail
    refine HV.out.mono ?_
    rintro e w1 ⟨rfl, rfl⟩
    go_wp2_with fail
    refine HC.out.mono ?_
    rintro e w1 ⟨rfl, hb⟩
    go_wp2_with fail
    refine (list_any T w1).mono ?_
    rintro e w2 ⟨v, rfl, hown, hb2⟩
    replace hb := hb.trans (hb2.mono hb.size)
    have hN := NatsV.own hown
    rw [← HR.out] at hN
    clear hown
    go_wp2
    exact bodyPost_ret (results_tmp2 rfl _ _ _) rfl ⟨v, rfl, hN, hb⟩
  · have hr : resR g = [] := if_neg hv
    rw [hr]
    generalize valF g = X at HV hv ⊢
    have dX : (X != 0) = true := by simp [hv]
    clear h hv hr
    go_enter Try.func13, Try.ntmps13
    go_wp2_with fail
    refine HV.out.mono ?_
    rintro e w1 ⟨rfl, rfl⟩
    go_wp2
    exact bodyPost_ret (results_tmp2 rfl _ _ _) rfl ⟨_, rfl, NatsV.nil _, Below.refl _ _⟩
set_option maxRecDepth 100000 in
set_option maxHeartbeats 2000000 in
theorem refReached_any (h : RG w A n c g) : Calls Try.prog 14 #[.slice A n c] w fun e w' => ∃ v, e = .returned (.tuple #[v, .int .i64 (valF g)]) ∧ NatsV w' v (resR g) ∧ Below w.heap.size w w' := by
  have HV := Lib.hid (refValidate_any h)
  by_cases hv : valF g = 0
  · have hG := okG_val hv
    have n10 : n ≤ 10 := by rw [h.1]; have := hG.2.1; rw [natG_len] at this; exact this
    have n1 : 0 < n := by rw [h.1]; have := hG.1; rw [natG_len] at this; exact this
    have HC := Lib.hid (reach_any hG (MG_of h hv) 0 n1 (-1))
    have HR := Lib.hid (show resR g = setL (wy (natG g) (-1) 0) n by
      unfold resR
      rw [if_pos hv, h.1])
    rw [hv] at HV ⊢
    generalize wy (natG g) (-1) 0 = T at HC HR
    generalize resR g = L at HR ⊢
    clear h hv hG
    go_enter Try.func14, Try.ntmps14
    go_wp2_with fail
    refine HV.out.mono ?_
    rintro e w1 ⟨rfl, rfl⟩
    go_wp2_with fail
    refine HC.out.mono ?_
    rintro e w1 ⟨gb, rfl, hB, -, hb⟩
    go_wp2_with fail
    refine (set_any T gb n n10 w1 hB).mono ?_
    rintro e w2 ⟨v, rfl, hown, hb2⟩
    replace hb := hb.trans (hb2.mono hb.size)
    have hN := NatsV.own hown
    rw [← HR.out] at hN
    clear hown hB
    go_wp2
    exact bodyPost_ret (results_tmp2 rfl _ _ _) rfl ⟨v, rfl, hN, hb⟩
  · have hr : resR g = [] := if_neg hv
    rw [hr]
    generalize valF g = X at HV hv ⊢
    have dX : (X != 0) = true := by simp [hv]
    clear h hv hr
    go_enter Try.func14, Try.ntmps14
    go_wp2_with fail
    refine HV.out.mono ?_
    rintro e w1 ⟨rfl, rfl⟩
    go_wp2
    exact bodyPost_ret (results_tmp2 rfl _ _ _) rfl ⟨_, rfl, NatsV.nil _, Below.refl _ _⟩
theorem errN_one {v : Int} (hv : valF g = 0) : errN g [v] = if nodeB v g.length then 0 else 4 := by
  unfold errN nodesOk
  rw [if_pos hv]
  simp
set_option maxRecDepth 100000 in
set_option maxHeartbeats 2000000 in
theorem Before_any (h : RG w A n c g) (v : Int) : Calls Try.prog 15 #[.slice A n c, .int .i64 v] w fun e w' => ∃ r, e = .returned (.tuple #[r, .int .i64 (errN g [v])]) ∧ NatsV w' r (resB g v) ∧ Below w.heap.size w w' := by
  have HV := Lib.hid (validate_any h)
  by_cases hv : valF g = 0
  · have hG := okG_val hv
    have n10 : n ≤ 10 := by rw [h.1]; have := hG.2.1; rw [natG_len] at this; exact this
    have HX := Lib.hid (fun B hB w1 => isNode_at v n B hB A c w1 (by omega))
    rw [hv] at HV
    cases hB : nodeB v n
    · have he : errN g [v] = 4 := by rw [errN_one hv, ← h.1, hB]; rfl
      have hr : resB g v = [] := by unfold resB; rw [he]; rfl
      rw [he, hr]
      replace HX := Lib.hid (HX.out false hB)
      clear h hv hG hB he hr
      go_enter Try.func15, Try.ntmps15
      go_wp2_with (first | (go_at_call 45; with_reducible refine (HX.out _).mono ?_; rintro e w' ⟨rfl, rfl⟩))
      refine HV.out.mono ?_
      rintro e w1 ⟨rfl, rfl⟩
      go_wp2_with (first | (go_at_call 45; with_reducible refine (HX.out _).mono ?_; rintro e w' ⟨rfl, rfl⟩))
      exact bodyPost_ret (results_tmp2 rfl _ _ _) rfl ⟨_, rfl, NatsV.nil _, Below.refl _ _⟩
    · have he : errN g [v] = 0 := by rw [errN_one hv, ← h.1, hB]; rfl
      have hvb := of_decide_eq_true hB
      obtain ⟨V, rfl⟩ : ∃ V : Nat, v = (V : Int) := ⟨v.toNat, by omega⟩
      have HC := Lib.hid (before_any hG (MG_of h hv) V)
      have HR := Lib.hid (show resB g V = setL (befS (natG g) V) 10 by
        unfold resB
        rw [if_pos he, ← natG_len g]
        exact (setL_ten hG.2.1 (fun j hj => befS_lt hj)).symm)
      rw [he]
      replace HX := Lib.hid (HX.out true hB)
      generalize befS (natG g) V = T at HC HR
      generalize resB g V = L at HR ⊢
      clear h hv hG hB he hvb
      go_enter Try.func15, Try.ntmps15
      go_wp2_with fail
      refine HV.out.mono ?_
      rintro e w1 ⟨rfl, rfl⟩
      go_wp2_with (first | (go_at_call 45; with_reducible refine (HX.out _).mono ?_; rintro e w' ⟨rfl, rfl⟩))
      refine HC.out.mono ?_
      rintro e w1 ⟨rfl, hb⟩
      go_wp2_with fail
      refine (list_any T w1).mono ?_
      rintro e w2 ⟨r, rfl, hown, hb2⟩
      replace hb := hb.trans (hb2.mono hb.size)
      have hN := NatsV.own hown
      rw [← HR.out] at hN
      clear hown
      go_wp2
      exact bodyPost_ret (results_tmp2 rfl _ _ _) rfl ⟨r, rfl, hN, hb⟩
  · have he : errN g [v] = valF g := errN_bad hv
    have hr : resB g v = [] := by unfold resB; rw [he, if_neg hv]
    rw [hr, he]
    generalize valF g = X at HV hv ⊢
    have dX : (X != 0) = true := by simp [hv]
    clear h hv hr he
    go_enter Try.func15, Try.ntmps15
    go_wp2_with fail
    refine HV.out.mono ?_
    rintro e w1 ⟨rfl, rfl⟩
    go_wp2
    exact bodyPost_ret (results_tmp2 rfl _ _ _) rfl ⟨_, rfl, NatsV.nil _, Below.refl _ _⟩
theorem goes_befS (G : List (List Nat)) (a V : Nat) : decide (∃ x ∈ suc G a, (x : Int) = (V : Int)) = befS G V a := by
  unfold befS
  rw [decide_eq_decide]
  constructor
  · rintro ⟨x, hx, e⟩
    rwa [show V = x by omega]
  · exact fun h => ⟨V, h, rfl⟩
set_option maxRecDepth 100000 in
set_option maxHeartbeats 4000000 in
theorem refBefore_any (h : RG w A n c g) (v : Int) : Calls Try.prog 16 #[.slice A n c, .int .i64 v] w fun e w' => ∃ r, e = .returned (.tuple #[r, .int .i64 (errN g [v])]) ∧ NatsV w' r (resB g v) ∧ Below w.heap.size w w' := by
  obtain ⟨i0, hi, hz0, hz1, hz2⟩ := info_parts infoI
  have HV := Lib.hid (fun w1 (hb : Below w.heap.size w w1) => node_any ((h.below hb).below ((Below.refl w1.heap.size w1).alloc (Nat.le_refl _) _)) (ints_one w1 v))
  by_cases he : errN g [v] = 0
  · obtain ⟨hv, hns, -⟩ : valF g = 0 ∧ nodesOk g [v] = true ∧ errN g [v] = 0 := by
      rcases errN_cases g [v] with hh | hh
      · exact hh
      · exact absurd he hh.1
    have hG := okG_val hv
    have hcap := h.2.1
    have hmax := h.2.2.1
    have n10 : n ≤ 10 := by rw [h.1]; have := hG.2.1; rw [natG_len] at this; exact this
    have hvb : 0 ≤ v := by
      unfold nodesOk at hns
      simp at hns
      exact (of_decide_eq_true hns).1
    obtain ⟨V, rfl⟩ : ∃ V : Nat, v = (V : Int) := ⟨v.toNat, by omega⟩
    have HC := Lib.hid (fun w1 (hb : Below w.heap.size w w1) a (ha : a < n) B (hB : befS (natG g) V a = B) => hB ▸ goes_befS (natG g) a V ▸ goes_any ((MG_of h hv).below hb) a ha V)
    have HR := Lib.hid (show resB g V = setL (befS (natG g) V) n by
      unfold resB
      rw [if_pos he, h.1]
      rfl)
    rw [he] at HV ⊢
    generalize befS (natG g) V = T at HC HR
    generalize resB g V = L at HR ⊢
    clear h hv hG he hvb hns
    go_enter Try.func16, Try.ntmps16
    go_wp2_with fail
    refine (HV.out _ (Below.refl _ _)).mono ?_
    rintro e w1 ⟨rfl, hw1⟩
    have hb1 : Below w.heap.size w w1 := by rw [← hw1]; exact (Below.refl _ _).alloc (Nat.le_refl _) _
    clear hw1
    go_wp2
    go_loopw [7, 8] (fun vl zi wr => ∃ i : Nat, i ≤ n ∧ zi = .int .i64 (i : Int) ∧ wr.ownsRow w.heap.size 3 1 vl (setL T i).length (nV (setL T i)) ∧ Below w.heap.size w wr) (fun _ zi _ => n - (intOf zi).toNat)
    case atStart => exact ⟨0, by omega, rfl, World.ownsRow_nil _ _ _ _, hb1⟩
    case round =>
      clear hb1
      obtain ⟨i, hin, rfl, hown, hb⟩ := hrel
      by_cases hlt : i < n
      · have hle := setL_le T i
        have HS := Lib.hid (setL_succ (s := T) (m := i))
        have HG := Lib.hid (HC.out wr hb i hlt)
        cases hs : T i
        · rw [hs] at HS
          have HG2 := Lib.hid (HG.out false hs)
          have HS2 := Lib.hid (show setL T (i + 1) = setL T i from HS.out.trans (List.append_nil _))
          clear HS hs HG
          go_wp2_with fail
          refine HG2.out.mono ?_
          rintro e w' ⟨rfl, rfl⟩
          go_wp2
          go_roundw
          case rel => exact ⟨i + 1, by omega, by go_num, by rw [HS2.out]; exact hown, hb⟩
          case measure => simp [intOf]; omega
        · rw [hs] at HS
          have HG2 := Lib.hid (HG.out true hs)
          clear hs HG
          go_wp2_with fail
          refine HG2.out.mono ?_
          rintro e w' ⟨rfl, rfl⟩
          go_wp2_with (at_builtin; refine wpList_append_own _ rfl _ _ 25 rfl w.heap.size 3 i0 (.int .i64 0) 1 8 Try.underlying25 hi hz0 hz1 hz2 rfl (by decide) _ _ _ rfl (hown.alloc _) ⟨wr.heap.size, 0, none⟩ 1 1 [.int .i64 (i : Int)] rfl rfl (one_new wr _ _) ?k2 ?k3 ?k4 ?k5 ?_)
          case k2 => simp [Value.oneCell']
          case k3 => unfold maxLen; omega
          case k4 => omega
          case k5 => have := hb.size; simp; omega
          intro v2 w7 hown7 hgrow _
          have hb5 : Below w.heap.size w w7 := (hb.alloc hb.size _).grown hgrow (by have := hb.size; simp; omega) (own_base (hown.alloc (.cells #[.int .i64 (i : Int)] 3)))
          have HO8 := Lib.hid (show w7.ownsRow w.heap.size 3 1 v2 (setL T (i + 1)).length (nV (setL T (i + 1))) by
            rw [HS.out, List.length_append, nV_app]
            exact hown7)
          clear hown hown7 hgrow hb hle HG2
          go_wp2
          go_roundw
          case rel => exact ⟨i + 1, by omega, by go_num, HO8.out, hb5⟩
          case measure => simp [intOf]; omega
      · obtain rfl : i = n := by omega
        rw [← HR.out] at hown
        have hN := NatsV.own hown
        clear hown
        go_wp2
        exact bodyPost_ret (results_tmp2 rfl _ _ _) rfl ⟨_, rfl, hN, hb⟩
  · have hr : resB g v = [] := if_neg he
    rw [hr]
    generalize errN g [v] = X at HV he ⊢
    have dX : (X != 0) = true := by simp [he]
    clear h he hr
    go_enter Try.func16, Try.ntmps16
    go_wp2_with fail
    refine (HV.out _ (Below.refl _ _)).mono ?_
    rintro e w1 ⟨rfl, hw1⟩
    have hb1 : Below w.heap.size w w1 := by rw [← hw1]; exact (Below.refl _ _).alloc (Nat.le_refl _) _
    clear hw1
    go_wp2
    exact bodyPost_ret (results_tmp2 rfl _ _ _) rfl ⟨_, rfl, NatsV.nil _, hb1⟩
theorem errT_two {a b : Int} (h : errT g [a, b] = 0) : valF g = 0 ∧ nodeB a g.length = true ∧ nodeB b g.length = true ∧ wy (natG g) (-1) 0 a.toNat = true ∧ wy (natG g) (-1) 0 b.toNat = true := by
  unfold errT at h
  by_cases hv : valF g = 0
  · rw [if_pos hv] at h
    cases h1 : nodesOk g [a, b]
    · rw [h1] at h
      cases h
    · rw [h1, if_pos rfl] at h
      cases h2 : seenOk g [a, b]
      · rw [h2] at h
        cases h
      · unfold nodesOk at h1
        unfold seenOk at h2
        simp at h1 h2
        exact ⟨hv, h1.1, h1.2, h2.1, h2.2⟩
  · rw [if_neg hv] at h
    exact absurd h hv
set_option maxRecDepth 100000 in
set_option maxHeartbeats 2000000 in
theorem Dominates_any (h : RG w A n c g) (a b : Int) : Calls Try.prog 25 #[.slice A n c, .int .i64 a, .int .i64 b] w fun e w' => e = .returned (.tuple #[.bool (resD g a b), .int .i64 (errT g [a, b])]) ∧ Below w.heap.size w w' := by
  have HV := Lib.hid (fun w1 (hb : Below w.heap.size w w1) => check_any ((h.below hb).below ((Below.refl w1.heap.size w1).alloc (Nat.le_refl _) _)) (ints_two w1 a b))
  by_cases he : errT g [a, b] = 0
  · obtain ⟨hv, ha, hb, -, -⟩ := errT_two he
    have hG := okG_val hv
    have ha' := of_decide_eq_true ha
    have hb' := of_decide_eq_true hb
    obtain ⟨a', rfl⟩ : ∃ q : Nat, a = (q : Int) := ⟨a.toNat, by omega⟩
    obtain ⟨b', rfl⟩ : ∃ q : Nat, b = (q : Int) := ⟨b.toNat, by omega⟩
    have hl := hG.2.1
    rw [natG_len] at hl
    have HC := Lib.hid (fun w1 (hb : Below w.heap.size w w1) => dominates_any hG ((MG_of h hv).below hb) a' b' (by omega))
    have hr : resD g a' b' = domB (natG g) a' b' := by unfold resD; rw [he]; simp
    rw [he] at HV ⊢
    rw [hr]
    generalize domB (natG g) a' b' = B at HC ⊢
    clear h hv hG ha hb ha' hb' hr he hl
    go_enter Try.func25, Try.ntmps25
    go_wp2_with fail
    refine (HV.out _ (Below.refl _ _)).mono ?_
    rintro e w1 ⟨rfl, hb1⟩
    have hb2 := ((Below.refl w.heap.size w).alloc (Nat.le_refl _) (.cells #[.int .i64 (a' : Int), .int .i64 (b' : Int)] 3)).trans (hb1.mono (by simp))
    clear hb1
    go_wp2_with fail
    refine (HC.out _ hb2).mono ?_
    rintro e w2 ⟨rfl, hb3⟩
    replace hb2 := hb2.trans (hb3.mono hb2.size)
    go_wp2
    exact bodyPost_ret (results_tmp2 rfl _ _ _) rfl ⟨rfl, hb2⟩
  · have hr : resD g a b = false := by unfold resD; rw [decide_eq_false he]; rfl
    rw [hr]
    generalize errT g [a, b] = X at HV he ⊢
    have dX : (X != 0) = true := by simp [he]
    clear h hr he
    go_enter Try.func25, Try.ntmps25
    go_wp2_with fail
    refine (HV.out _ (Below.refl _ _)).mono ?_
    rintro e w1 ⟨rfl, hb1⟩
    have hb2 := ((Below.refl w.heap.size w).alloc (Nat.le_refl _) (.cells #[.int .i64 a, .int .i64 b] 3)).trans (hb1.mono (by simp))
    clear hb1
    go_wp2
    exact bodyPost_ret (results_tmp2 rfl _ _ _) rfl ⟨rfl, hb2⟩
set_option maxRecDepth 100000 in
set_option maxHeartbeats 2000000 in
theorem refDominatesTop_any (h : RG w A n c g) (a b : Int) : Calls Try.prog 26 #[.slice A n c, .int .i64 a, .int .i64 b] w fun e w' => e = .returned (.tuple #[.bool (resD g a b), .int .i64 (errT g [a, b])]) ∧ Below w.heap.size w w' := by
  have HV := Lib.hid (fun w1 (hb : Below w.heap.size w w1) => there_any ((h.below hb).below ((Below.refl w1.heap.size w1).alloc (Nat.le_refl _) _)) (ints_two w1 a b))
  by_cases he : errT g [a, b] = 0
  · obtain ⟨hv, ha, hb, -, -⟩ := errT_two he
    have hG := okG_val hv
    have ha' := of_decide_eq_true ha
    have hb' := of_decide_eq_true hb
    obtain ⟨a', rfl⟩ : ∃ q : Nat, a = (q : Int) := ⟨a.toNat, by omega⟩
    obtain ⟨b', rfl⟩ : ∃ q : Nat, b = (q : Int) := ⟨b.toNat, by omega⟩
    have HC := Lib.hid (fun w1 (hb : Below w.heap.size w w1) => refDominates_any hG ((MG_of h hv).below hb) a' b' (by have := h.1; omega))
    have hr : resD g a' b' = domB (natG g) a' b' := by unfold resD; rw [he]; simp
    rw [he] at HV ⊢
    rw [hr]
    generalize domB (natG g) a' b' = B at HC ⊢
    clear h hv hG ha hb ha' hb' hr he
    go_enter Try.func26, Try.ntmps26
    go_wp2_with fail
    refine (HV.out _ (Below.refl _ _)).mono ?_
    rintro e w1 ⟨rfl, hb1⟩
    have hb2 := ((Below.refl w.heap.size w).alloc (Nat.le_refl _) (.cells #[.int .i64 (a' : Int), .int .i64 (b' : Int)] 3)).trans (hb1.mono (by simp))
    clear hb1
    go_wp2_with fail
    refine (HC.out _ hb2).mono ?_
    rintro e w2 ⟨rfl, hb3⟩
    replace hb2 := hb2.trans (hb3.mono hb2.size)
    go_wp2
    exact bodyPost_ret (results_tmp2 rfl _ _ _) rfl ⟨rfl, hb2⟩
  · have hr : resD g a b = false := by unfold resD; rw [decide_eq_false he]; rfl
    rw [hr]
    generalize errT g [a, b] = X at HV he ⊢
    have dX : (X != 0) = true := by simp [he]
    clear h hr he
    go_enter Try.func26, Try.ntmps26
    go_wp2_with fail
    refine (HV.out _ (Below.refl _ _)).mono ?_
    rintro e w1 ⟨rfl, hb1⟩
    have hb2 := ((Below.refl w.heap.size w).alloc (Nat.le_refl _) (.cells #[.int .i64 a, .int .i64 b] 3)).trans (hb1.mono (by simp))
    clear hb1
    go_wp2
    exact bodyPost_ret (results_tmp2 rfl _ _ _) rfl ⟨rfl, hb2⟩
end
end Go.Proofs.Ytchkckflpmepkaa
