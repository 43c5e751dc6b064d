/-
  Backs, Loop, Depth of both packages.
-/
import Derived.Test.YtchkckflpmepkaaFwLb
namespace Go.Proofs.Ytchkckflpmepkaa
open Go.RowKit

def resBk (g : List (List Int)) : List Edg := if valF g = 0 then bkL (natG g) else []
/-- Of how many heads a node is in the loop. -/
def depN (G : List (List Nat)) (v : Nat) : Nat := ((setL (hdS (bkL G)) 10).filter fun h => lopS G h v).length
def resDp (g : List (List Int)) (v : Int) : Int := if errT g [v] = 0 then (depN (natG g) v.toNat : Int) else 0
section
variable {G : List (List Nat)}
theorem reach_closed (hG : okG G) (u v : Nat) (h : wy G (-1) 0 u = true) (hv : v ∈ suc G u) : wy G (-1) 0 v = true :=
  (wy_iff hG hG.1 v).2 (.next ((wy_iff hG hG.1 u).1 h) hv (by omega))
theorem lopS_iff (hG : okG G) (h j : Nat) : lopS G h j = true ↔ j = h ∨ wy G (-1) 0 j = true ∧ ∃ e ∈ bkL G, e.2 = h ∧ Way G (h : Int) j e.1 := by
  unfold lopS
  rw [lopE_iff hG (reach_closed hG) h _ (fun e he => (bkL_mem hG (List.mem_reverse.1 he)).1)]
  simp only [List.mem_reverse]
theorem rl_head (hG : okG G) {h : Nat} (hh : hdS (bkL G) h = true) (j : Nat) : rlE G h (bkL G) j = lopS G h j := by
  rw [Bool.eq_iff_iff, lopS_iff hG]
  unfold rlE
  rw [decide_eq_true_iff]
  obtain ⟨e0, he0, hh0⟩ := of_decide_eq_true hh
  constructor
  · rintro ⟨e, he, h1, h2 | ⟨h2, h3⟩⟩
    · exact .inl h2
    · exact .inr ⟨h2, e, he, h1, (wy_iff hG (wy_lt hG hG.1 h2) _).1 h3⟩
  · rintro (h1 | ⟨h2, e, he, h1, h3⟩)
    · exact ⟨e0, he0, hh0, .inl h1⟩
    · exact ⟨e, he, h1, .inr ⟨h2, (wy_iff hG (wy_lt hG hG.1 h2) _).2 h3⟩⟩
theorem rl_none {h : Nat} (hh : hdS (bkL G) h = false) (j : Nat) : rlE G h (bkL G) j = false := by
  unfold rlE
  refine decide_eq_false ?_
  rintro ⟨e, he, h1, -⟩
  exact (of_decide_eq_false hh) ⟨e, he, h1⟩
theorem hd_lt (hG : okG G) {h : Nat} (hh : hdS (bkL G) h = true) : h < G.length := by
  obtain ⟨e0, he0, hh0⟩ := of_decide_eq_true hh
  rw [← hh0]
  exact (bkL_mem hG he0).2.1
theorem lopS_lt (hG : okG G) {h j : Nat} (hn : h < G.length) (hj : lopS G h j = true) : j < G.length := by
  rcases (lopS_iff hG h j).1 hj with h1 | ⟨h1, -⟩
  · omega
  · exact wy_lt hG hG.1 h1
theorem lopS_self (hG : okG G) (h : Nat) : lopS G h h = true := (lopS_iff hG h h).2 (.inl rfl)
theorem set_rl (hG : okG G) {h : Nat} (hn : h < G.length) : setL (rlE G h (bkL G)) G.length = if hdS (bkL G) h then setL (lopS G h) 10 else [] := by
  cases hh : hdS (bkL G) h
  · simp only [Bool.false_eq_true, if_false]
    unfold setL
    rw [List.filter_eq_nil_iff]
    intro j _
    rw [rl_none hh]
    simp
  · simp only [if_true]
    rw [setL_ten hG.2.1 (fun j hj => lopS_lt hG hn hj)]
    exact setL_congr fun j _ => rl_head hG hh j
theorem dep_eq (hG : okG G) (v : Nat) : ((List.range G.length).filter fun h => rlE G h (bkL G) v).length = depN G v := by
  unfold depN
  rw [setL_ten (s := hdS (bkL G)) hG.2.1 (fun j hj => hd_lt hG hj)]
  unfold setL
  rw [List.filter_filter]
  congr 1
  apply List.filter_congr
  intro h _
  cases hh : hdS (bkL G) h
  · rw [rl_none hh]; simp
  · rw [rl_head hG hh]; simp
/-- A head dominates its loop. -/
theorem head_dom (hG : okG G) {h j : Nat} (hj : lopS G h j = true) (_hh : hdS (bkL G) h = true) : domB G h j = true := by
  rcases (lopS_iff hG h j).1 hj with h1 | ⟨h1, e, he, h2, h3⟩
  · subst h1
    exact dom_self hG j
  · have hd := (bkL_mem hG he).2.2.2.2
    unfold domB at hd ⊢
    rw [h2] at hd
    cases hw : wy G (h : Int) 0 j
    · rfl
    · have := (wy_iff hG hG.1 _).2 (((wy_iff hG hG.1 j).1 hw).trans h3)
      rw [this] at hd
      cases hd
theorem head_reached (hG : okG G) {h : Nat} (hh : hdS (bkL G) h = true) : wy G (-1) 0 h = true := by
  obtain ⟨e0, he0, hh0⟩ := of_decide_eq_true hh
  have hm := bkL_mem hG he0
  rw [← hh0]
  exact reach_closed hG _ _ hm.2.2.1 (of_decide_eq_true hm.2.2.2.1)
theorem loop_reached (hG : okG G) {h j : Nat} (hj : lopS G h j = true) (hh : hdS (bkL G) h = true) : wy G (-1) 0 j = true := by
  rcases (lopS_iff hG h j).1 hj with h1 | ⟨h1, -⟩
  · rw [h1]; exact head_reached hG hh
  · exact h1
end
section
variable {w : World} {A : Option Addr} {n c : Nat} {g : List (List Int)}
set_option maxRecDepth 100000 in
theorem Backs_any (h : RG w A n c g) : Calls Try.prog 22 #[.slice A n c] w fun e w' => ∃ v, e = .returned (.tuple #[v, .int .i64 (valF g)]) ∧ EdgV w' v (resBk g) ∧ Below w.heap.size w w' := by
  have HV := Lib.hid (validate_any h)
  by_cases hv : valF g = 0
  · have HC := Lib.hid (backs_any (okG_val hv) (MG_of h hv))
    have hr : resBk g = bkL (natG g) := if_pos hv
    rw [hr]
    rw [hv] at HV ⊢
    generalize bkL (natG g) = L at HC ⊢
    clear h hv hr
    go_enter Try.func22, Try.ntmps22
    go_wp2_with fail
    refine HV.out.mono ?_
    rintro e w1 ⟨rfl, rfl⟩
    go_wp2_with fail
    refine HC.out.mono ?_
    rintro e w1 ⟨v, rfl, hE, hb⟩
    go_wp2
    exact bodyPost_ret (results_tmp2 rfl _ _ _) rfl ⟨v, rfl, hE, hb⟩
  · have hr : resBk g = [] := if_neg hv
    rw [hr]
    generalize valF g = X at HV hv ⊢
    have dX : (X != 0) = true := by simp [hv]
    clear h hv hr
    go_enter Try.func22, Try.ntmps22
    go_wp2_with fail
    refine HV.out.mono ?_
    rintro e w1 ⟨rfl, rfl⟩
    go_wp2
    exact bodyPost_ret (results_tmp2 rfl _ _ _) rfl ⟨_, rfl, EdgV.nil _, Below.refl _ _⟩
set_option maxRecDepth 100000 in
theorem refBacksTop_any (h : RG w A n c g) : Calls Try.prog 29 #[.slice A n c] w fun e w' => ∃ v, e = .returned (.tuple #[v, .int .i64 (valF g)]) ∧ EdgV w' v (resBk g) ∧ Below w.heap.size w w' := by
  have HV := Lib.hid (refValidate_any h)
  by_cases hv : valF g = 0
  · have HC := Lib.hid (refBacks_any (okG_val hv) (MG_of h hv))
    have hr : resBk g = bkL (natG g) := if_pos hv
    rw [hr]
    rw [hv] at HV ⊢
    generalize bkL (natG g) = L at HC ⊢
    clear h hv hr
    go_enter Try.func29, Try.ntmps29
    go_wp2_with fail
    refine HV.out.mono ?_
    rintro e w1 ⟨rfl, rfl⟩
    go_wp2_with fail
    refine HC.out.mono ?_
    rintro e w1 ⟨v, rfl, hE, hb⟩
    go_wp2
    exact bodyPost_ret (results_tmp2 rfl _ _ _) rfl ⟨v, rfl, hE, hb⟩
  · have hr : resBk g = [] := if_neg hv
    rw [hr]
    generalize valF g = X at HV hv ⊢
    have dX : (X != 0) = true := by simp [hv]
    clear h hv hr
    go_enter Try.func29, Try.ntmps29
    go_wp2_with fail
    refine HV.out.mono ?_
    rintro e w1 ⟨rfl, rfl⟩
    go_wp2
    exact bodyPost_ret (results_tmp2 rfl _ _ _) rfl ⟨_, rfl, EdgV.nil _, Below.refl _ _⟩
set_option maxRecDepth 100000 in
set_option maxHeartbeats 4000000 in
theorem refLoopTop_any (h : RG w A n c g) (v : Int) : Calls Try.prog 31 #[.slice A n c, .int .i64 v] w fun e w' => ∃ r, e = .returned (.tuple #[r, .int .i64 (errL g v)]) ∧ NatsV w' r (resL g v) ∧ Below w.heap.size w w' := by
  have HV := Lib.hid (fun w1 (hb : Below w.heap.size w w1) => node_any ((h.below hb).below ((Below.refl w1.heap.size w1).alloc (Nat.le_refl _) _)) (ints_one w1 v))
  by_cases he : errN g [v] = 0
  · obtain ⟨hv, hns, -⟩ : valF g = 0 ∧ nodesOk g [v] = true ∧ errN g [v] = 0 := by
      rcases errN_cases g [v] with hh | hh
      · exact hh
      · exact absurd he hh.1
    have hG := okG_val hv
    have n10 : n ≤ 10 := by rw [h.1]; have := hG.2.1; rw [natG_len] at this; exact this
    have hvb : 0 ≤ v ∧ v < n := by
      unfold nodesOk at hns
      simp at hns
      rw [h.1]
      exact of_decide_eq_true hns
    obtain ⟨V, rfl⟩ : ∃ V : Nat, v = (V : Int) := ⟨v.toNat, by omega⟩
    have hVn : V < n := by omega
    have HLP := Lib.hid (fun w1 (hb : Below w.heap.size w w1) => refLoop_any hG ((MG_of h hv).below hb) V hVn)
    have hset := set_rl hG (h := V) (by rw [natG_len, ← h.1]; exact hVn)
    rw [natG_len, ← h.1] at hset
    have hE1 : errL g V = if hdS (bkL (natG g)) V then 0 else 9 := by unfold errL; rw [he]; rfl
    have hR1 : resL g V = if hdS (bkL (natG g)) V then setL (lopS (natG g) V) 10 else [] := by
      unfold resL
      rw [hE1]
      cases hdS (bkL (natG g)) V <;> rfl
    have hpos : hdS (bkL (natG g)) V = true → setL (rlE (natG g) V (bkL (natG g))) n ≠ [] := fun hh he => by
      have : V ∈ setL (rlE (natG g) V (bkL (natG g))) n := mem_setL.2 ⟨hVn, by rw [rl_head hG hh]; exact lopS_self hG V⟩
      rw [he] at this
      cases this
    obtain ⟨L, hL⟩ : ∃ L, L = setL (rlE (natG g) V (bkL (natG g))) n := ⟨_, rfl⟩
    rw [hE1, hR1, ← hset, ← hL]
    have HLQ := Lib.hid hL
    clear hL
    have hz : hdS (bkL (natG g)) V = false → setL (rlE (natG g) V (bkL (natG g))) n = [] := fun hh => by rw [hset, hh]; rfl
    rw [he] at HV
    generalize hdS (bkL (natG g)) V = B at hpos hz ⊢
    generalize rlE (natG g) V (bkL (natG g)) = T at HLP hpos hz HLQ
    clear h hv hG he hvb hset hE1 hR1 hns
    go_enter Try.func31, Try.ntmps31
    go_wp2_with fail
    refine (HV.out _ (Below.refl _ _)).mono ?_
    rintro e w1 ⟨rfl, hw1⟩
    have hb1 : Below w.heap.size w w1 := by rw [← hw1]; exact (Below.refl _ _).alloc (Nat.le_refl _) _
    clear hw1
    go_wp2_with fail
    refine (HLP.out w1 hb1).mono ?_
    rintro e w2 ⟨gb, rfl, hB, -, hb2⟩
    replace hb1 := hb1.trans (hb2.mono hb1.size)
    go_wp2_with fail
    refine (set_any T gb n n10 w2 hB).mono ?_
    rintro e w3 ⟨r, rfl, hown, hb3⟩
    replace hb1 := hb1.trans (hb3.mono hb1.size)
    clear hb2 hb3 hB
    cases B
    · have hz := hz rfl
      rw [hz] at hown
      obtain ⟨A1, c1, rfl, -⟩ := own_nats hown
      have HZ := Lib.hid (show L = [] by rw [HLQ.out, hz])
      clear hown hpos hz
      go_wp2
      exact bodyPost_ret (results_tmp2 rfl _ _ _) rfl ⟨_, rfl, by rw [HZ.out]; exact NatsV.nil _, hb1⟩
    · have hp := hpos rfl
      have hlen : (setL T n).length ≠ 0 := fun h => hp (List.eq_nil_of_length_eq_zero h)
      have hle := setL_le T n
      rw [← HLQ.out] at hown hlen hle
      obtain ⟨A1, c1, rfl, hN⟩ := own_nats hown
      have HN := Lib.hid hN
      have d0 : ((L.length : Int) == 0) = false := beq_false_of_ne (by omega)
      clear hown hpos hp hlen hN
      go_wp2
      exact bodyPost_ret (results_tmp2 rfl _ _ _) rfl ⟨_, rfl, ⟨_, _, _, rfl, HN.out⟩, hb1⟩
  · have hE1 : errL g v = errN g [v] := by unfold errL; rw [if_neg he]
    have hR1 : resL g v = [] := by unfold resL; rw [hE1, if_neg he]
    rw [hR1, hE1]
    generalize errN g [v] = X at HV he ⊢
    have dX : (X != 0) = true := by simp [he]
    clear h he hR1 hE1
    go_enter Try.func31, Try.ntmps31
    go_wp2_with fail
    refine (HV.out _ (Below.refl _ _)).mono ?_
    rintro e w1 ⟨rfl, hw1⟩
    have hb1 : Below w.heap.size w w1 := by rw [← hw1]; exact (Below.refl _ _).alloc (Nat.le_refl _) _
    clear hw1
    go_wp2
    exact bodyPost_ret (results_tmp2 rfl _ _ _) rfl ⟨_, rfl, NatsV.nil _, hb1⟩
end
end Go.Proofs.Ytchkckflpmepkaa
