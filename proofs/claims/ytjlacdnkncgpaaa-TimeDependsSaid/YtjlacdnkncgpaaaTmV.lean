/-
  The law of Depends.
-/
import Derived.Test.YtjlacdnkncgpaaaTmU
import Derived.Test.YtjlacdnkncgpaaaTmM
namespace Go.Proofs.Ytjlacdnkncgpaaa
open Go.RowKit

theorem resD_len {w : World} {A : Option Addr} {n c : Nat} {zs : List Cod} (h : Tab w A n c zs) (hn : n ≤ 100) : (resD zs).length ≤ 100000 := by
  have h0 := h.shape
  unfold resD
  split
  · have h1 := allD_len depP zs zs.length
    have h2 := Nat.mul_le_mul (show zs.length ≤ 100 by omega) (show zs.length ≤ 100 by omega)
    omega
  · simp
set_option maxRecDepth 100000 in
set_option maxHeartbeats 2000000 in
theorem depends_walk {w : World} {A : Option Addr} {n c : Nat} {zs : List Cod} (h : Tab w A n c zs) :
    Calls Try.prog 4 #[.slice A n c] w fun e w' => e = .returned (.bool true) ∧ Below w.heap.size w w' := by
  by_cases hn : 100 < n
  · clear h
    have HN := Lib.hid hn
    clear hn
    go_enter Try.func4, Try.ntmps4
    go_wp2_with (first | (go_at_call 7; ((with_reducible refine (long_yes _ _ _ _ HN.out).mono ?_); rintro e w' ⟨rfl, rfl⟩)))
    refine (calls_known (Below.refl _ _)).mono ?_
    rintro e w' ⟨rfl, hb⟩
    go_wp2
    go_ret
    exact ⟨rfl, hb⟩
  · have HF := Lib.hid (fun w1 (hb : Below w.heap.size w w1) => Depends_tab (h.below hb))
    have HR := Lib.hid (fun w1 (hb : Below w.heap.size w w1) => refDependsTop_tab (h.below hb))
    have HN := Lib.hid hn
    have HL := Lib.hid (resD_len h (by omega))
    generalize resD zs = L at HF HR HL
    generalize valF zs = X at HF HR
    have eX : (X == X) = true := beq_self_eq_true X
    clear hn h
    go_enter Try.func4, Try.ntmps4
    go_wp2_with (first | (go_at_call 7; ((with_reducible refine (long_no _ _ _ _ HN.out).mono ?_); rintro e w' ⟨rfl, rfl⟩)))
    refine (HF.out _ (Below.refl _ _)).mono ?_
    rintro e w1 ⟨v1, rfl, h1, hb⟩
    replace h1 := Lib.hid (strs_own h1)
    go_wp2_with fail
    refine (HR.out _ hb).mono ?_
    rintro e w2 ⟨v2, rfl, h2, hb2⟩
    replace h1 := Lib.hid (h1.out.below hb2)
    replace h2 := Lib.hid (strs_own h2)
    replace hb := hb.trans (hb2.mono hb.size)
    clear hb2
    go_wp2_with fail
    refine (sameStr_yes h1.out h2.out HL.out).mono ?_
    rintro e w3 ⟨rfl, hb2⟩
    replace hb := hb.trans (hb2.mono hb.size)
    clear hb2 h1 h2
    go_wp2_with fail
    refine (calls_known hb).mono ?_
    rintro e w' ⟨rfl, hb⟩
    go_wp2
    go_ret
    exact ⟨rfl, hb⟩
end Go.Proofs.Ytjlacdnkncgpaaa
