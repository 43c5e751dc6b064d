/-
  The back edges of the reference; SameEdges.
-/
import Derived.Test.YtchkckflpmepkaaFwR
namespace Go.Proofs.Ytchkckflpmepkaa
open Go.RowKit

def bkC (G : List (List Nat)) (a b : Nat) : Bool := wy G (-1) 0 a && sucS G a b && domB G b a
def rbQ (G : List (List Nat)) (a k : Nat) : List Edg := ((List.range k).filter (bkC G a)).map fun b => (a, b)
def rbP (G : List (List Nat)) (i : Nat) : List Edg := (List.range i).flatMap fun a => rbQ G a G.length
theorem rbQ_succ (G : List (List Nat)) (a k : Nat) : rbQ G a (k + 1) = rbQ G a k ++ (if bkC G a k then [(a, k)] else []) := by
  unfold rbQ
  rw [List.range_succ, List.filter_append, List.map_append]
  congr 1
  cases hh : bkC G a k
  · rw [List.filter_cons, hh]; rfl
  · rw [List.filter_cons, hh]; rfl
theorem rbP_succ (G : List (List Nat)) (i : Nat) : rbP G (i + 1) = rbP G i ++ rbQ G i G.length := by
  unfold rbP
  rw [List.range_succ, List.flatMap_append]
  simp
theorem rbQ_len (G : List (List Nat)) (a k : Nat) : (rbQ G a k).length ≤ k := by
  unfold rbQ
  rw [List.length_map]
  have h1 := List.length_filter_le (bkC G a) (List.range k)
  rw [List.length_range] at h1
  exact h1
theorem rbP_len (G : List (List Nat)) (hG : okG G) : ∀ i, (rbP G i).length ≤ 10 * i
  | 0 => by simp [rbP]
  | i + 1 => by
    have h1 := rbP_len G hG i
    have h2 := rbQ_len G i G.length
    have h3 := hG.2.1
    rw [rbP_succ, List.length_append]
    omega
theorem sucS_lt {G : List (List Nat)} (hG : okG G) {a b : Nat} (h : sucS G a b = true) : b < G.length := hG.2.2.2 a b (of_decide_eq_true h)
theorem flat_filter {α : Type} (p : Nat → Bool) (f : Nat → List α) : ∀ l : List Nat, (l.filter p).flatMap f = l.flatMap fun a => if p a then f a else []
  | [] => rfl
  | x :: l => by
    rw [List.flatMap_cons, List.filter_cons]
    cases hp : p x
    · simp only [Bool.false_eq_true, if_false, List.nil_append]
      exact flat_filter p f l
    · simp only [if_true]
      rw [List.flatMap_cons, flat_filter p f l]
theorem rb_eq {G : List (List Nat)} (hG : okG G) : rbP G G.length = bkL G := by
  unfold rbP bkL
  rw [setL_ten (s := wy G (-1) 0) hG.2.1 (fun j hj => wy_lt hG hG.1 hj)]
  conv => rhs; unfold setL
  rw [flat_filter]
  congr 1
  funext a
  unfold rbQ bkF
  cases hw : wy G (-1) 0 a
  · have : (List.range G.length).filter (bkC G a) = [] := by
      rw [List.filter_eq_nil_iff]
      intro b _
      unfold bkC
      rw [hw]
      simp
    rw [this]
    rfl
  · rw [setL_ten (s := sucS G a) hG.2.1 (fun j hj => sucS_lt hG hj)]
    unfold setL
    rw [List.filter_filter]
    simp only [if_true]
    congr 1
    apply List.filter_congr
    intro b _
    unfold bkC
    rw [hw, Bool.true_and, Bool.and_comm]
theorem goes_sucS (G : List (List Nat)) (a b : Nat) : decide (∃ x ∈ suc G a, (x : Int) = (b : Int)) = sucS G a b := by
  rw [goes_befS]
  rfl
section
variable {w : World} {A : Option Addr} {n c : Nat} {G : List (List Nat)}
set_option maxRecDepth 100000 in
set_option maxHeartbeats 8000000 in
theorem refBacks_any (hG : okG G) (h : MG w A n c G) : Calls Try.prog 57 #[.slice A n c] w fun e w' => ∃ v, e = .returned v ∧ EdgV w' v (bkL G) ∧ Below w.heap.size w w' := by
  obtain ⟨i0, hi, hz0, hz1, hz2⟩ := info_parts infoE
  have n10 : n ≤ 10 := by rw [h.1]; exact hG.2.1
  have n1 : 0 < n := by rw [h.1]; exact hG.1
  have hcap := h.2.1
  have hmax := h.2.2.1
  have HC := Lib.hid (reach_any hG h 0 n1 (-1))
  have HGO := Lib.hid (fun w1 (hb : Below w.heap.size w w1) a (ha : a < n) b B (hB : sucS G a b = B) => hB ▸ goes_sucS G a b ▸ goes_any (h.below hb) a ha b)
  have HD := Lib.hid (fun w1 (hb : Below w.heap.size w w1) a b (hbn : b < n) B (hB : domB G a b = B) => hB ▸ refDominates_any hG (h.below hb) a b hbn)
  have HP := Lib.hid (fun i => h.1 ▸ rbP_succ G i)
  have HQ := Lib.hid (fun a k => rbQ_succ G a k)
  have HPL := Lib.hid (rbP_len G hG)
  have HQL := Lib.hid (rbQ_len G)
  have HE := Lib.hid (show bkL G = rbP G n by rw [h.1, rb_eq hG])
  have hP0 : rbP G 0 = [] := by simp [rbP]
  have hQ0 : ∀ a, rbQ G a 0 = [] := fun a => by simp [rbQ]
  have HCC := Lib.hid (show ∀ a b, bkC G a b = (wy G (-1) 0 a && sucS G a b && domB G b a) from fun _ _ => rfl)
  generalize bkL G = Z at HE ⊢
  generalize rbP G = P at HP HPL HE hP0
  generalize rbQ G = Q at HP HQ HQL hQ0
  generalize bkC G = C at HQ HCC
  have HP0 := Lib.hid hP0
  have HQ0 := Lib.hid hQ0
  generalize wy G (-1) 0 = T at HC HCC
  clear h hG hP0 hQ0
  go_enter Try.func57, Try.ntmps57
  go_wp2_with fail
  refine HC.out.mono ?_
  rintro e w2 ⟨gb, rfl, hB, -, hb⟩
  have HB := Lib.hid hB
  have hgl := hB.lt
  clear hB HC
  go_wp2
  go_loopw [4, 5] (fun zl zi wr => ∃ i : Nat, i ≤ n ∧ zi = .int .i64 (i : Int) ∧ wr.ownsRow w2.heap.size 50 2 zl (P i).length (eV (P i)) ∧ Below w2.heap.size w2 wr) (fun _ zi _ => n - (intOf zi).toNat)
  case atStart => exact ⟨0, by omega, rfl, by rw [HP0.out]; exact World.ownsRow_nil _ _ _ _, Below.refl _ _⟩
  case round =>
    obtain ⟨i, hi2, rfl, hown, hb3⟩ := hrel
    by_cases hlt : i < n
    · have HP1 := Lib.hid (HP.out i)
      have hPl := HPL.out i
      generalize P i = E0 at hown HP1 hPl
      have HQ1 := Lib.hid (HQ.out i)
      have HQ2 := Lib.hid (HQ0.out i)
      have HQL1 := Lib.hid (HQL.out i)
      generalize Q i = Qa at HP1 HQ1 HQ2 HQL1
      go_wp2
      go_loopw [4, 6] (fun zl zi wr => ∃ k : Nat, k ≤ n ∧ zi = .int .i64 (k : Int) ∧ wr.ownsRow w2.heap.size 50 2 zl (E0 ++ Qa k).length (eV (E0 ++ Qa k)) ∧ Below w2.heap.size w2 wr) (fun _ zi _ => n - (intOf zi).toNat)
      case atStart => exact ⟨0, by omega, rfl, by rw [HQ2.out, List.append_nil]; exact hown, hb3⟩
      case round =>
        clear hown hb3
        obtain ⟨k, hk, rfl, hown, hb8⟩ := hrel
        by_cases hkl : k < n
        · obtain ⟨hcell, -⟩ := (HB.out.below hb8).cell hlt
          have hglr := (HB.out.below hb8).lt
          have HQ3 := Lib.hid (HQ1.out k)
          have hQl := HQL1.out k
          have hbw := hb.trans (hb8.mono hb.size)
          have HC1 := Lib.hid (HCC.out i k)
          have HG1 := Lib.hid (fun B hB => HGO.out wr hbw i hlt k B hB)
          have HD1 := Lib.hid (fun B hB => HD.out wr hbw k i hlt B hB)
          cases hT : T i
          · have HQ4 := Lib.hid (show Qa (k + 1) = Qa k by rw [HQ3.out, HC1.out, hT]; exact List.append_nil _)
            rw [hT] at hcell
            clear HC1 hT HQ3
            go_wp2
            go_roundw
            case rel => exact ⟨k + 1, by omega, by go_num, by rw [HQ4.out]; exact hown, hb8⟩
            case measure => simp [intOf]; omega
          · rw [hT] at hcell
            cases hS : sucS G i k
            · have HQ4 := Lib.hid (show Qa (k + 1) = Qa k by rw [HQ3.out, HC1.out, hT, hS]; exact List.append_nil _)
              have HG2 := Lib.hid (HG1.out false hS)
              clear HC1 hT hS HQ3 HG1
              go_wp2_with fail
              refine HG2.out.mono ?_
              rintro e w5 ⟨rfl, rfl⟩
              go_wp2
              go_roundw
              case rel => exact ⟨k + 1, by omega, by go_num, by rw [HQ4.out]; exact hown, hb8⟩
              case measure => simp [intOf]; omega
            · have HG2 := Lib.hid (HG1.out true hS)
              cases hdom : domB G k i
              · have HQ4 := Lib.hid (show Qa (k + 1) = Qa k by rw [HQ3.out, HC1.out, hT, hS, hdom]; exact List.append_nil _)
                have HD2 := Lib.hid (HD1.out false hdom)
                clear HC1 hT hS HQ3 HG1 hdom
                go_wp2_with (go_at_call 48; with_reducible refine HG2.out.mono ?_; rintro e w5 ⟨rfl, rfl⟩)
                refine HD2.out.mono ?_
                rintro e w5 ⟨rfl, hb9⟩
                have hown9 := own_below hown hb9
                have hb11 := hb8.trans (hb9.mono hb8.size)
                clear hown hb8 hb9 hcell hbw
                go_wp2
                go_roundw
                case rel => exact ⟨k + 1, by omega, by go_num, by rw [HQ4.out]; exact hown9, hb11⟩
                case measure => simp [intOf]; omega
              · have HQ4 := Lib.hid (show Qa (k + 1) = Qa k ++ [(i, k)] by rw [HQ3.out, HC1.out, hT, hS, hdom]; rfl)
                have HD2 := Lib.hid (HD1.out true hdom)
                clear HC1 hT hS HQ3 HG1 hdom
                go_wp2_with (go_at_call 48; with_reducible refine HG2.out.mono ?_; rintro e w5 ⟨rfl, rfl⟩)
                refine HD2.out.mono ?_
                rintro e w5 ⟨rfl, hb9⟩
                have hown9 := own_below hown hb9
                have hb11 := hb8.trans (hb9.mono hb8.size)
                clear hown hb8 hb9 hcell hbw
                have hEl : (E0 ++ Qa k).length ≤ 1000 := by rw [List.length_append]; omega
                have HEQ := Lib.hid (show E0 ++ Qa (k + 1) = (E0 ++ Qa k) ++ [(i, k)] by rw [HQ4.out, List.append_assoc])
                generalize E0 ++ Qa k = E1 at hown9 hEl HEQ
                go_wp2_with (at_builtin; refine wpList_append_own _ rfl _ _ 33 rfl w2.heap.size 50 i0 (.agg #[.int .i64 0, .int .i64 0]) 2 16 Try.underlying33 hi hz0 hz1 hz2 rfl (by decide) _ _ _ rfl (hown9.alloc _) ⟨w5.heap.size, 0, none⟩ 1 1 [.int .i64 (i : Int), .int .i64 (k : Int)] rfl rfl (two_new w5 _ _ _) ?k2 ?k3 ?k4 ?k5 ?_)
                case k2 => intro u hu; simp at hu; rcases hu with rfl | rfl <;> rfl
                case k3 => unfold maxLen; omega
                case k4 => omega
                case k5 => have := hb11.size; simp; omega
                intro v2 w7 hown7 hgrow _
                have hb12 : Below w2.heap.size w2 w7 := (hb11.alloc hb11.size _).grown hgrow (by have := hb11.size; simp; omega) (own_base (hown9.alloc (.cells #[.int .i64 (i : Int), .int .i64 (k : Int)] 50)))
                have HO8 := Lib.hid (show w7.ownsRow w2.heap.size 50 2 v2 (E0 ++ Qa (k + 1)).length (eV (E0 ++ Qa (k + 1))) by
                  rw [HEQ.out, List.length_append, eV_app]
                  exact hown7)
                clear hown9 hb11 hown7 hgrow
                go_wp2
                go_roundw
                case rel => exact ⟨k + 1, by omega, by go_num, HO8.out, hb12⟩
                case measure => simp [intOf]; omega
        · obtain rfl : k = n := by omega
          have HO8 := Lib.hid (show wr.ownsRow w2.heap.size 50 2 _ (P (i + 1)).length (eV (P (i + 1))) by
            rw [HP1.out]
            exact hown)
          clear hown
          go_wp2
          go_roundw
          case rel => exact ⟨i + 1, by omega, by go_num, HO8.out, hb8⟩
          case measure => simp [intOf]; omega
    · obtain rfl : i = n := by omega
      rw [← HE.out] at hown
      have hV := EdgV.own rfl hown
      have hb4 := hb.trans (hb3.mono hb.size)
      clear hown
      go_wp2
      go_ret
      exact ⟨_, rfl, hV, hb4⟩
end
end Go.Proofs.Ytchkckflpmepkaa
