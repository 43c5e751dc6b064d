/-
  The walk of Sorts.
-/
import Derived.Test.YtchkckflpmepkaaFwLe
import Derived.Test.YtchkckflpmepkaaFwLf
namespace Go.Proofs.Ytchkckflpmepkaa
open Go.RowKit

theorem ord_mem {G : List (List Nat)} (hG : okG G) : ∀ f v p, v < G.length → ∀ x ∈ (ordF G f v p).2, x ∈ p.2 ∨ x < G.length
  | 0, _, _, _, _, h => .inl h
  | f + 1, v, p, hv, x, hx => by
    have fold : ∀ i, i ≤ (suc G v).length → ∀ x ∈ (ordU G f (put p.1 v, p.2) (suc G v) i).2, x ∈ p.2 ∨ x < G.length := by
      intro i
      induction i with
      | zero => exact fun _ x hx => .inl hx
      | succ i ih =>
        intro hi x hx
        cases hq : (ordU G f (put p.1 v, p.2) (suc G v) i).1 (suc G v)[i]!
        · rw [ordU_no (by omega) hq] at hx
          rcases ord_mem hG f _ _ (hG.2.2.2 v _ (at_get (by omega))) x hx with h | h
          · exact ih (by omega) x h
          · exact .inr h
        · rw [ordU_yes (by omega) hq] at hx
          exact ih (by omega) x hx
    rw [ord_succ] at hx
    rcases List.mem_append.1 hx with h | h
    · exact fold _ (Nat.le_refl _) x h
    · rw [List.mem_singleton] at h
      exact .inr (by omega)
theorem resO_lt {g : List (List Int)} {x : Nat} (h : x ∈ resO g) : x < g.length := by
  unfold resO at h
  by_cases hv : valF g = 0
  · rw [if_pos hv] at h
    have hG := okG_val hv
    unfold ordL at h
    rcases ord_mem hG 11 0 (non, []) hG.1 x (List.mem_reverse.1 h) with h1 | h1
    · cases h1
    · rwa [natG_len] at h1
  · rw [if_neg hv] at h
    cases h
theorem sorts_err {g : List (List Int)} (hv : valF g = 0) {x : Nat} (h : x ∈ resO g) : errN g [(x : Int)] = 0 := by
  have := resO_lt h
  rw [errN_one hv, show nodeB (x : Int) g.length = true from decide_eq_true (by omega)]
  rfl
theorem sorts_not {g : List (List Int)} (hv : valF g = 0) (hI : resI g = true) (hB : resBk g = []) {i k : Nat} (hik : i ≤ k) (hk : k < (resO g).length) : (resO g)[k]! ∉ resB g (((resO g)[i]! : Nat) : Int) := by
  have hG := okG_val hv
  unfold resI at hI
  rw [decide_eq_true hv, Bool.true_and] at hI
  unfold resBk at hB
  rw [if_pos hv] at hB
  have hO : resO g = ordL (natG g) := if_pos hv
  rw [hO] at hk ⊢
  intro hm
  unfold resB at hm
  split at hm
  · have := of_decide_eq_true (mem_setL.1 hm).2
    exact ord_topo hG hI hB hik hk this
  · cases hm
set_option maxRecDepth 100000 in
theorem has_no {w : World} {A : Option Addr} {n c : Nat} {l : List Nat} (x : Nat) (h : Nats w A n c l) (hx : x ∉ l) :
    Calls Try.prog 24 #[.slice A n c, .int .i64 (x : Int)] w fun e w' => e = .returned (.bool false) ∧ w = w' := by
  have H := Lib.hid h
  have HX := Lib.hid (show ∀ i, i < n → ((l[i]! : Nat) : Int) ≠ (x : Int) from fun i hi e => hx (by
    have := at_get (l := l) (q := i) (by rw [← h.1]; exact hi)
    rwa [show l[i]! = x by omega] at this))
  have hcap := h.2.1
  have hmax := h.2.2.1
  clear h hx
  go_enter Try.func24, Try.ntmps24
  go_wp2
  go_loop [5] (fun zi => ∃ i : Nat, i ≤ n ∧ zi = .int .i64 (i : Int)) (fun zi => n - (intOf zi).toNat)
  case atStart => exact ⟨0, by omega, rfl⟩
  case round =>
    obtain ⟨i, hi, rfl⟩ := hrel
    by_cases hlt : i < n
    · obtain ⟨b, off, rfl, hg, hc⟩ := H.out.at_ hlt
      have hne := HX.out i hlt
      have e1 : (((l[i]! : Nat) : Int) == (x : Int)) = false := beq_false_of_ne hne
      generalize l[i]! = p at hc e1
      clear hne
      go_wp2
      go_roundw
      case rel => exact ⟨i + 1, by omega, by go_num⟩
      case measure => simp [intOf]; omega
    · obtain rfl : i = n := by omega
      go_wp2
      go_ret
      exact ⟨rfl, rfl⟩
section
variable {w : World} {A : Option Addr} {n c : Nat} {g : List (List Int)}
set_option maxRecDepth 100000 in
set_option maxHeartbeats 8000000 in
theorem sorts_walk (h : RG w A n c g) : Calls Try.prog 5 #[.slice A n c] w fun e w' => e = .returned (.bool true) ∧ Below w.heap.size w w' := by
  have HLO := Lib.hid (long_any h)
  have HO := Lib.hid (fun w1 (hb : Below w.heap.size w w1) => Order_any (h.below hb))
  have HB := Lib.hid (fun w1 (hb : Below w.heap.size w w1) => Backs_any (h.below hb))
  have HI := Lib.hid (fun w1 (hb : Below w.heap.size w w1) => IsReducible_any (h.below hb))
  have HBE := Lib.hid (fun w1 (hb : Below w.heap.size w w1) (hv : valF g = 0) i (hi : i < (resO g).length) => sorts_err hv (at_get hi) ▸ Before_any (h.below hb) (((resO g)[i]! : Nat) : Int))
  have HNO := Lib.hid (fun (hv : valF g = 0) hI hB i k hik hk => sorts_not (g := g) hv hI hB (i := i) (k := k) hik hk)
  generalize valF g = X at HO HB HI HBE HNO
  generalize resO g = L at HO HBE HNO
  generalize resBk g = E at HB HNO
  generalize resI g = R at HI HNO
  generalize resB g = BE at HBE HNO
  clear h
  go_enter Try.func5, Try.ntmps5
  go_wp2_with fail
  refine HLO.out.mono ?_
  rintro e w' ⟨rfl | ⟨rfl, -⟩, rfl⟩
  · go_wp2_with fail
    refine (calls_known (Below.refl _ _)).mono ?_
    rintro e w' ⟨rfl, hb⟩
    go_wp2
    go_ret
    exact ⟨rfl, hb⟩
  · go_wp2_with fail
    refine (HO.out _ (Below.refl _ _)).mono ?_
    rintro e w1 ⟨v1, rfl, n1, hb⟩
    go_wp2_with fail
    refine (HB.out _ hb).mono ?_
    rintro e w2 ⟨v2, rfl, n2, c1⟩
    replace n1 := n1.below c1
    replace hb := hb.trans (c1.mono hb.size)
    clear c1
    go_wp2_with fail
    refine (HI.out _ hb).mono ?_
    rintro e w3 ⟨rfl, c1⟩
    replace n1 := n1.below c1
    replace n2 := n2.below c1
    replace hb := hb.trans (c1.mono hb.size)
    clear c1
    by_cases hX : X = 0
    · subst hX
      obtain ⟨A1, m1, c1, rfl, n1⟩ := n1
      obtain ⟨A2, m2, c2, rfl, hm2, hc2, hmx2, -⟩ := n2
      cases R
      · clear n1
        go_wp2_with fail
        refine (calls_known hb).mono ?_
        rintro e w' ⟨rfl, hb⟩
        go_wp2
        go_ret
        exact ⟨rfl, hb⟩
      · by_cases hE : m2 = 0
        · have hEn : E = [] := List.eq_nil_of_length_eq_zero (by omega)
          subst hE
          have HN2 := Lib.hid (HNO.out rfl rfl hEn)
          have HM := Lib.hid n1.1
          have HK := Lib.hid n1
          have hcap1 := n1.2.1
          have hmax1 := n1.2.2.1
          clear hEn hm2 HNO n1
          go_wp2
          go_loopw [9] (fun zi wr => ∃ i : Nat, i ≤ m1 ∧ zi = .int .i64 (i : Int) ∧ Below w3.heap.size w3 wr) (fun zi _ => m1 - (intOf zi).toNat)
          case atStart => exact ⟨0, by omega, rfl, Below.refl _ _⟩
          case round =>
            obtain ⟨i, hi, rfl, hb3⟩ := hrel
            by_cases hlt : i < m1
            · obtain ⟨b, off, rfl, hbs, hc⟩ := HK.out.get hb3 hlt
              have HC := Lib.hid (HBE.out wr (hb.trans (hb3.mono hb.size)) (by first | exact trivial | rfl) i (by rw [← HM.out]; exact hlt))
              have HNI := Lib.hid (fun k hik hk => HN2.out i k hik hk)
              generalize L[i]! = x at hc HC HNI
              go_wp2_with fail
              refine HC.out.mono ?_
              rintro e w4 ⟨r, rfl, hr, hb4⟩
              have hb5 := hb3.trans (hb4.mono hb3.size)
              obtain ⟨A5, m5, c5, rfl, hN5⟩ := hr
              have HN5 := Lib.hid hN5
              clear hb3 hb4 hc hbs HC hN5
              go_wp2
              go_loop [12] (fun zk => ∃ k : Nat, i ≤ k ∧ k ≤ m1 ∧ zk = .int .i64 (k : Int)) (fun zk => m1 - (intOf zk).toNat)
              case atStart => exact ⟨i, Nat.le_refl _, hi, rfl⟩
              case round =>
                obtain ⟨k, hik, hk, rfl⟩ := hrel
                by_cases hkl : k < m1
                · obtain ⟨b2, off2, q1, hbs2, hc2'⟩ := HK.out.get hb5 hkl
                  injection q1 with q1
                  injection q1 with q1 q2 _
                  subst q1 q2
                  have HH := Lib.hid (has_no L[k]! HN5.out (HNI.out k hik (by rw [← HM.out]; exact hkl)))
                  generalize L[k]! = y at hc2' HH
                  go_wp2_with fail
                  refine HH.out.mono ?_
                  rintro e w' ⟨rfl, rfl⟩
                  go_wp2
                  go_roundw
                  case rel => exact ⟨k + 1, by omega, by omega, by go_num⟩
                  case measure => simp [intOf]; omega
                · obtain rfl : k = m1 := by omega
                  go_wp2
                  go_roundw
                  case rel => exact ⟨i + 1, by omega, by go_num, hb5⟩
                  case measure => simp [intOf]; omega
            · obtain rfl : i = m1 := by omega
              have hb4 := hb.trans (hb3.mono hb.size)
              go_wp2_with fail
              refine (calls_known hb4).mono ?_
              rintro e w' ⟨rfl, hb5⟩
              go_wp2
              go_ret
              exact ⟨rfl, hb5⟩
        · have d2 : decide ((0 : Int) < (m2 : Int)) = true := decide_eq_true (by omega)
          clear n1
          go_wp2_with fail
          refine (calls_known hb).mono ?_
          rintro e w' ⟨rfl, hb⟩
          go_wp2
          go_ret
          exact ⟨rfl, hb⟩
    · have dX : (X != 0) = true := by simp [hX]
      clear n1 n2 hX
      go_wp2_with fail
      refine (calls_known hb).mono ?_
      rintro e w' ⟨rfl, hb⟩
      go_wp2
      go_ret
      exact ⟨rfl, hb⟩
end
end Go.Proofs.Ytchkckflpmepkaa
