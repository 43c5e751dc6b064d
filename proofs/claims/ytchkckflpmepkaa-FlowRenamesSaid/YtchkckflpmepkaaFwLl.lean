/-
  SameLists of the reference.
-/
import Derived.Test.YtchkckflpmepkaaFwLj
import Derived.Test.YtchkckflpmepkaaFwLk
import Derived.Deep.RegionHeld3
namespace Go.Proofs.Ytchkckflpmepkaa
open Go.RowKit

set_option maxRecDepth 100000 in
set_option maxHeartbeats 2000000 in
theorem sameRow_yes {w : World} {A A2 : Option Addr} {n n2 c c2 : Nat} {l : List Int} (h : Ints w A n c l) (h2 : Ints w A2 n2 c2 l) :
    Calls Try.prog 19 #[.slice A n c, .slice A2 n2 c2] w fun e w' => e = .returned (.bool true) ∧ Below w.heap.size w w' := by
  obtain rfl : n2 = n := by rw [h.1, h2.1]
  have H := Lib.hid h
  have H2 := Lib.hid h2
  have hcap := h.2.1
  have hmax := h.2.2.1
  have hcap2 := h2.2.1
  have hmax2 := h2.2.2.1
  clear h h2
  go_enter Try.func19, Try.ntmps19
  go_wp2
  go_loopw [5] (fun zi wr => ∃ i : Nat, i ≤ n2 ∧ zi = .int .i64 (i : Int) ∧ Below w.heap.size w wr) (fun zi _ => n2 - (intOf zi).toNat)
  case atStart => exact ⟨0, by omega, rfl, Below.refl _ _⟩
  case round =>
    obtain ⟨i, hi, rfl, hb⟩ := hrel
    by_cases hlt : i < n2
    · obtain ⟨b, off, rfl, hg, hc⟩ := (H.out.below hb).at_ hlt
      obtain ⟨b2, off2, rfl, hg2, hc2⟩ := (H2.out.below hb).at_ hlt
      generalize l[i]! = p at hc hc2
      have e1 : (p == p) = true := beq_self_eq_true p
      go_wp2
      go_region
      go_wp2
      go_roundw
      case rel => exact ⟨i + 1, by omega, by go_num, drewR hb⟩
      case measure => simp [intOf]; omega
    · obtain rfl : i = n2 := by omega
      go_wp2
      go_ret
      exact ⟨rfl, hb⟩
set_option maxRecDepth 100000 in
set_option maxHeartbeats 2000000 in
theorem sameLists_yes {w : World} {v1 v2 : Value} {l : List (List Int)} (h1 : RGV w v1 l) (h2 : RGV w v2 l) :
    Calls Try.prog 40 #[v1, v2] w fun e w' => e = .returned (.bool true) ∧ Below w.heap.size w w' := by
  obtain ⟨A1, n, c1, rfl, h1⟩ := h1
  obtain ⟨A2, n2, c2, rfl, h2⟩ := h2
  obtain rfl : n2 = n := by rw [h1.1, h2.1]
  have hcap := h1.2.1
  have hmax := h1.2.2.1
  have hcap2 := h2.2.1
  have hmax2 := h2.2.2.1
  have H1 := Lib.hid h1
  have H2 := Lib.hid h2
  clear h1 h2
  go_enter Try.func40, Try.ntmps40
  go_wp2
  go_loopw [5] (fun zi wr => ∃ i : Nat, i ≤ n2 ∧ zi = .int .i64 (i : Int) ∧ Below w.heap.size w wr) (fun zi _ => n2 - (intOf zi).toNat)
  case atStart => exact ⟨0, by omega, rfl, Below.refl _ _⟩
  case round =>
    obtain ⟨i, hi, rfl, hb⟩ := hrel
    by_cases hlt : i < n2
    · obtain ⟨b, off, A3, n3, c3, rfl, hg, hc, hr⟩ := (H1.out.below hb).at_ hlt
      obtain ⟨b2, off2, A4, n4, c4, rfl, hg2, hc2, hr2⟩ := (H2.out.below hb).at_ hlt
      have HC := Lib.hid (fun W (hW : Below wr.heap.size wr W) => (sameRow_yes (hr.below hW) (hr2.below hW)).mono (R' := fun e w' => e = .returned (.bool true) ∧ Below wr.heap.size wr w') (fun e w' ⟨h1, h2⟩ => ⟨h1, hW.trans (h2.mono hW.size)⟩))
      have HS := Lib.hid (show ∀ W, Below wr.heap.size wr W → W.cell? ⟨b, off + i, none⟩ = some (.slice A3 n3 c3) ∧ W.cell? ⟨b2, off2 + i, none⟩ = some (.slice A4 n4 c4) from fun W h => ⟨(h.cell (p := ⟨b, off + i, none⟩) hg).trans hc, (h.cell (p := ⟨b2, off2 + i, none⟩) hg2).trans hc2⟩)
      clear hr hr2
      go_wp2
      go_region_held3 (fun W => W.cell? ⟨b, off + i, none⟩ = some (.slice A3 n3 c3) ∧ W.cell? ⟨b2, off2 + i, none⟩ = some (.slice A4 n4 c4)) (first | exact HS.out _ hb5 | exact HS.out _ (drewR (Below.refl _ _))) (first | (go_at_call 19; refine (HC.out _ (drewD (Below.refl _ _))).mono ?_; rintro e w5 ⟨rfl, hb5⟩))
      go_wp2
      go_roundw
      case rel => exact ⟨i + 1, by omega, by go_num, hb.trans (hb5.mono hb.size)⟩
      case measure => simp [intOf]; omega
    · obtain rfl : i = n2 := by omega
      go_wp2
      go_ret
      exact ⟨rfl, hb⟩
end Go.Proofs.Ytchkckflpmepkaa
