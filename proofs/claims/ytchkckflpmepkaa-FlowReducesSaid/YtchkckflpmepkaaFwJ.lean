/-
  set, dominates of the reference; SameInts; the errors of nodes.
-/
import Derived.Test.YtchkckflpmepkaaFwI
namespace Go.Proofs.Ytchkckflpmepkaa
open Go.RowKit

set_option maxRecDepth 100000 in
set_option maxHeartbeats 2000000 in
theorem set_any (s : NS) (g n : Nat) (hn : n ≤ 10) (w : World) (h : BoolB w g n s) : Calls Try.prog 43 #[.slice (some ⟨g, 0, none⟩) n n] w fun e w' => ∃ v, e = .returned v ∧ w'.ownsRow w.heap.size 3 1 v (setL s n).length (nV (setL s n)) ∧ Below w.heap.size w w' := by
  obtain ⟨i0, hi, hz0, hz1, hz2⟩ := info_parts infoI
  have H := Lib.hid h
  clear h
  go_enter Try.func43, Try.ntmps43
  go_wp2
  go_loopw [3, 4] (fun vl zi wr => ∃ i : Nat, i ≤ n ∧ zi = .int .i64 (i : Int) ∧ wr.ownsRow w.heap.size 3 1 vl (setL s i).length (nV (setL s i)) ∧ Below w.heap.size w wr) (fun _ zi _ => n - (intOf zi).toNat)
  case atStart => exact ⟨0, by omega, rfl, World.ownsRow_nil _ _ _ _, Below.refl _ _⟩
  case round =>
    obtain ⟨i, hin, rfl, hown, hb⟩ := hrel
    by_cases hlt : i < n
    · have hcell := ((H.out.below hb).cell hlt).1
      have hgl := (H.out.below hb).lt
      have hle := setL_le s i
      have HS := Lib.hid (setL_succ (s := s) (m := i))
      cases hs : s i
      · rw [hs] at hcell HS
        have HS2 := Lib.hid (show setL s (i + 1) = setL s i from HS.out.trans (List.append_nil _))
        clear HS hs
        go_wp2
        go_roundw
        case rel => exact ⟨i + 1, by omega, by go_num, by rw [HS2.out]; exact hown, hb⟩
        case measure => simp [intOf]; omega
      · rw [hs] at hcell HS
        clear hs
        go_wp2_with (at_builtin; refine wpList_append_own _ rfl _ _ 25 rfl w.heap.size 3 i0 (.int .i64 0) 1 8 Try.underlying25 hi hz0 hz1 hz2 rfl (by decide) _ _ _ rfl (hown.alloc _) ⟨wr.heap.size, 0, none⟩ 1 1 [.int .i64 (i : Int)] rfl rfl (one_new wr _ _) ?k2 ?k3 ?k4 ?k5 ?_)
        case k2 => simp [Value.oneCell']
        case k3 => unfold maxLen; omega
        case k4 => omega
        case k5 => have := hb.size; simp; omega
        intro v2 w7 hown7 hgrow _
        have hb5 : Below w.heap.size w w7 := (hb.alloc hb.size _).grown hgrow (by have := hb.size; simp; omega) (own_base (hown.alloc (.cells #[.int .i64 (i : Int)] 3)))
        have HO8 := Lib.hid (show w7.ownsRow w.heap.size 3 1 v2 (setL s (i + 1)).length (nV (setL s (i + 1))) by
          rw [HS.out, List.length_append, nV_app]
          exact hown7)
        clear hown hown7 hgrow hb hle hcell hgl
        go_wp2
        go_roundw
        case rel => exact ⟨i + 1, by omega, by go_num, HO8.out, hb5⟩
        case measure => simp [intOf]; omega
    · obtain rfl : i = n := by omega
      go_wp2
      go_ret
      exact ⟨_, rfl, hown, hb⟩
theorem drewR {B k : Nat} {a w : World} (h : Below B a w) : Below B a (w.drewN k) := ⟨h.os, h.tape, h.output, h.size, h.block⟩
set_option maxRecDepth 100000 in
theorem sameInts_yes {w : World} {A A2 : Option Addr} {n n2 c c2 : Nat} {l : List Nat} (h : Nats w A n c l) (h2 : Nats w A2 n2 c2 l) :
    Calls Try.prog 19 #[.slice A n c, .slice A2 n2 c2] w fun e w' => e = .returned (.bool true) ∧ Below w.heap.size w w' := by
  obtain rfl : n2 = n := by rw [h.1, h2.1]
  have H := Lib.hid h
  have H2 := Lib.hid h2
  have hcap := h.2.1
  have hmax := h.2.2.1
  have hcap2 := h2.2.1
  have hmax2 := h2.2.2.1
  clear h h2
  go_enter Try.func19, Try.ntmps19
  go_wp2
  go_loopw [5] (fun zi wr => ∃ i : Nat, i ≤ n2 ∧ zi = .int .i64 (i : Int) ∧ Below w.heap.size w wr) (fun zi _ => n2 - (intOf zi).toNat)
  case atStart => exact ⟨0, by omega, rfl, Below.refl _ _⟩
  case round =>
    obtain ⟨i, hi, rfl, hb⟩ := hrel
    by_cases hlt : i < n2
    · obtain ⟨b, off, rfl, hg, hc⟩ := (H.out.below hb).at_ hlt
      obtain ⟨b2, off2, rfl, hg2, hc2⟩ := (H2.out.below hb).at_ hlt
      generalize ((l[i]! : Nat) : Int) = p at hc hc2
      have e1 : (p == p) = true := beq_self_eq_true p
      go_wp2
      go_region
      go_wp2
      go_roundw
      case rel => exact ⟨i + 1, by omega, by go_num, drewR hb⟩
      case measure => simp [intOf]; omega
    · obtain rfl : i = n2 := by omega
      go_wp2
      go_ret
      exact ⟨rfl, hb⟩
theorem wy_not (G : List (List Nat)) (hG : okG G) (a : Nat) : wy G (a : Int) 0 a = false := by
  refine Bool.eq_false_iff.2 fun h => ?_
  have := ((wy_iff hG hG.1 a).1 h).stop
  exact this rfl
theorem dom_self {G : List (List Nat)} (hG : okG G) (a : Nat) : domB G a a = true := by
  unfold domB
  rw [wy_not G hG a]
  rfl
section
variable {w : World} {A : Option Addr} {n c : Nat} {G : List (List Nat)}
set_option maxRecDepth 100000 in
set_option maxHeartbeats 2000000 in
theorem refDominates_any (hG : okG G) (h : MG w A n c G) (a b : Nat) (hbn : b < n) : Calls Try.prog 56 #[.slice A n c, .int .i64 (a : Int), .int .i64 (b : Int)] w fun e w' => e = .returned (.bool (domB G a b)) ∧ Below w.heap.size w w' := by
  by_cases hab : a = b
  · subst hab
    rw [dom_self hG]
    have e1 : ((a : Int) == (a : Int)) = true := beq_self_eq_true _
    clear h
    go_enter Try.func56, Try.ntmps56
    go_wp2
    go_ret
    exact ⟨rfl, Below.refl _ _⟩
  · have e1 : ((a : Int) == (b : Int)) = false := beq_false_of_ne (by omega)
    have HC := Lib.hid (fun w1 (hb : Below w.heap.size w w1) => reach_any hG (h.below hb) 0 (by omega) a)
    unfold domB
    generalize wy G a 0 = T at HC ⊢
    obtain ⟨B, hBE⟩ : ∃ B, T b = B := ⟨_, rfl⟩
    rw [hBE]
    have HBE := Lib.hid hBE
    clear h hab hBE
    go_enter Try.func56, Try.ntmps56
    go_wp2_with fail
    refine (HC.out w (Below.refl _ _)).mono ?_
    rintro e w1 ⟨g, rfl, hB, hg, hb1⟩
    have hcell := (hB.cell hbn).1
    have hgl := hB.lt
    rw [HBE.out] at hcell
    clear hB
    go_wp2
    go_ret
    exact ⟨rfl, hb1⟩
end
end Go.Proofs.Ytchkckflpmepkaa
