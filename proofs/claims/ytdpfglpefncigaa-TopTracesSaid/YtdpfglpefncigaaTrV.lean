/-
  Variables of both packages.
-/
import Derived.Test.YtdpfglpefncigaaTrU
namespace Go.Proofs.Ytdpfglpefncigaa
open Go.RowKit

/-- The variables below a number that a place covers. -/
def varsU (zs : List Plc) (t : Int) (k : Nat) : List Nat := (List.range k).filter fun v => (fnd zs v t).isSome
theorem varsU_yes {zs : List Plc} {t : Int} {k : Nat} (h : (fnd zs k t).isSome = true) : varsU zs t (k + 1) = varsU zs t k ++ [k] := by
  unfold varsU
  rw [List.range_succ, List.filter_append]
  simp [h]
theorem varsU_no {zs : List Plc} {t : Int} {k : Nat} (h : (fnd zs k t).isSome = false) : varsU zs t (k + 1) = varsU zs t k := by
  unfold varsU
  rw [List.range_succ, List.filter_append]
  simp [h]
theorem varsU_len (zs : List Plc) (t : Int) (k : Nat) : (varsU zs t k).length ≤ k := by
  unfold varsU
  have := List.length_filter_le (fun v : Nat => (fnd zs v t).isSome) (List.range k)
  rw [List.length_range] at this
  exact this
def intsV (l : List Nat) : List Value := l.map fun (x : Nat) => Value.int .i64 (x : Int)
theorem intsV_append (a b : List Nat) : intsV (a ++ b) = intsV a ++ intsV b := by simp [intsV]
theorem intsV_one (k : Nat) : intsV [k] = [.int .i64 (k : Int)] := rfl
theorem infoInt : (Try.prog.info? 3).map (fun i => (i.zero, i.size, i.bytes)) = some (some (.int .i64 0), 1, 8) := by kernel_rfl
/-- A found place ends behind 0. -/
theorem found_pos {zs : List Plc} (hv : valF zs = 0) {v t : Int} (h : (fnd zs v t).isSome = true) : ¬ ((fnd zs v t).getD zeroP).z = 0 := by
  obtain ⟨p, hf⟩ := Option.isSome_iff_exists.1 h
  rw [hf]
  obtain ⟨k, hk, rfl, _⟩ := fnd_some hf
  obtain ⟨A, Z, V, K, N, hp, h1, _⟩ := place_nums (okAt_place (okAll_at (valF_ok hv).2 hk))
  simp only [Option.getD_some]
  rw [hp]
  simp only
  omega
set_option maxRecDepth 100000 in
set_option maxHeartbeats 2000000 in
theorem variables_bad {w : World} {A : Option Addr} {n c : Nat} {zs : List Plc} (h : Tab w A n c zs) (t : Int) (hX : chkF zs 0 t t ≠ 0) :
    Calls Try.prog 16 #[.slice A n c, .int .i64 t] w fun e w' => e = .returned (.tuple #[.slice none 0 0, .int .i64 (chkF zs 0 t t)]) ∧ Below w.heap.size w w' := by
  obtain ⟨X, hX'⟩ : ∃ X, X = chkF zs 0 t t := ⟨_, rfl⟩
  have HC := Lib.hid (fun w1 (hb : Below w.heap.size w w1) => check_tab (h.below hb) 0 t t)
  rw [← hX'] at hX HC ⊢
  clear hX' h
  have dX : (X != 0) = true := by simp [hX]
  go_enter Try.func16, Try.ntmps16
  go_wp2_with fail
  refine (HC.out _ (Below.refl _ _)).mono ?_
  rintro e w1 ⟨rfl, hb1⟩
  go_wp2
  refine bodyPost_ret (results_tmp2 rfl _ _ _) rfl ?_
  exact ⟨rfl, hb1⟩
set_option maxRecDepth 100000 in
set_option maxHeartbeats 4000000 in
theorem variables_good {w : World} {A : Option Addr} {n c : Nat} {zs : List Plc} (h : Tab w A n c zs) (t : Int) (hX : chkF zs 0 t t = 0) :
    Calls Try.prog 16 #[.slice A n c, .int .i64 t] w fun e w' => ∃ v, e = .returned (.tuple #[v, .int .i64 0]) ∧ w'.ownsRow w.heap.size 3 1 v (varsU zs t 64).length (intsV (varsU zs t 64)) ∧ Below w.heap.size w w' := by
  obtain ⟨i0, hi, hz0, hz1, hz2⟩ := info_parts infoInt
  have HV := Lib.hid (chk_ok hX).1
  have HC := Lib.hid (fun w1 (hb : Below w.heap.size w w1) => hX ▸ check_tab (h.below hb) 0 t t)
  have HF := Lib.hid (fun (v : Int) w1 (hb : Below w.heap.size w w1) => find_tab (h.below hb) v t (zero_le_chk hX))
  clear hX h
  go_enter Try.func16, Try.ntmps16
  go_wp2_with fail
  refine (HC.out _ (Below.refl _ _)).mono ?_
  rintro e w1 ⟨rfl, hb1⟩
  clear HC
  go_wp2
  go_loopw [7, 16] (fun vl zi wr => ∃ i : Nat, i ≤ 64 ∧ zi = .int .i64 (i : Int) ∧ wr.ownsRow w.heap.size 3 1 vl (varsU zs t i).length (intsV (varsU zs t i)) ∧ Below w.heap.size w wr) (fun _ zi _ => 64 - (intOf zi).toNat)
  case atStart => exact ⟨0, by omega, rfl, World.ownsRow_nil _ _ _ _, hb1⟩
  case round =>
    clear hb1
    obtain ⟨i, hi', rfl, hown, hb⟩ := hrel
    by_cases hlt : i < 64
    · have hlen := varsU_len zs t i
      cases hs : (fnd zs (i : Int) t).isSome with
      | false =>
        have HU := Lib.hid (varsU_no hs)
        have hz : (fnd zs (i : Int) t).getD zeroP = zeroP := by
          cases hf : fnd zs (i : Int) t with
          | none => rfl
          | some p => rw [hf] at hs; cases hs
        have HFi := Lib.hid (fun w1 hb => hz ▸ HF.out (i : Int) w1 hb)
        have HO := Lib.hid hown
        clear hs hz hown
        go_wp2_with fail
        refine (HFi.out _ hb).mono ?_
        rintro e w2 ⟨rfl, hb2⟩
        have HO2 := Lib.hid (own_below HO.out hb2)
        have hb3 := hb.trans (hb2.mono hb.size)
        clear HO HFi hb2 hb
        go_wp2
        go_roundw
        case rel => exact ⟨i + 1, by omega, by go_num, by rw [HU.out]; exact HO2.out, hb3⟩
        case measure => simp [intOf]; omega
      | true =>
        have HU := Lib.hid (varsU_yes hs)
        have hzz := found_pos HV.out hs
        have HFi := Lib.hid (fun w1 hb => HF.out (i : Int) w1 hb)
        generalize (fnd zs (i : Int) t).getD zeroP = P at hzz HFi
        obtain ⟨pa, pz, pv, pk, pn⟩ := P
        simp only at hzz
        by_cases ha : pa = 0
        · subst ha
          have HO := Lib.hid hown
          clear hs hown
          go_wp2_with fail
          refine (HFi.out _ hb).mono ?_
          rintro e w2 ⟨rfl, hb2⟩
          have hown := own_below HO.out hb2
          have hb3 := hb.trans (hb2.mono hb.size)
          clear HO HFi hb2 hb
          go_wp2_with (at_builtin; refine wpList_append_own _ rfl _ _ 25 rfl w.heap.size 3 i0 (.int .i64 0) 1 8 Try.underlying25 hi hz0 hz1 hz2 rfl (by decide) _ _ _ rfl (hown.alloc _) ⟨w2.heap.size, 0, none⟩ 1 1 [Value.int .i64 (i : Int)] rfl rfl ?c1 ?c2 ?c3 ?c4 ?c5 ?_)
          case c1 => exact cell_one_new _ _ _
          case c2 => simp [Value.oneCell']
          case c3 => unfold maxLen; omega
          case c4 => omega
          case c5 => have := hb3.size; simp; omega
          intro v2 w3 hown2 hgrow _
          have hb4 : Below w.heap.size w w3 := (hb3.alloc hb3.size _).grown hgrow (by have := hb3.size; simp; omega) (own_base (hown.alloc (.cells #[Value.int .i64 (i : Int)] 3)))
          have HO2 := Lib.hid hown2
          clear hown hown2 hgrow hb3
          go_wp2
          go_roundw
          case rel => exact ⟨i + 1, by omega, by go_num, by rw [HU.out, intsV_append, List.length_append]; exact HO2.out, hb4⟩
          case measure => simp [intOf]; omega
        · have HO := Lib.hid hown
          clear hs hown
          go_wp2_with fail
          refine (HFi.out _ hb).mono ?_
          rintro e w2 ⟨rfl, hb2⟩
          have hown := own_below HO.out hb2
          have hb3 := hb.trans (hb2.mono hb.size)
          clear HO HFi hb2 hb
          go_wp2_with (at_builtin; refine wpList_append_own _ rfl _ _ 25 rfl w.heap.size 3 i0 (.int .i64 0) 1 8 Try.underlying25 hi hz0 hz1 hz2 rfl (by decide) _ _ _ rfl (hown.alloc _) ⟨w2.heap.size, 0, none⟩ 1 1 [Value.int .i64 (i : Int)] rfl rfl ?c1 ?c2 ?c3 ?c4 ?c5 ?_)
          case c1 => exact cell_one_new _ _ _
          case c2 => simp [Value.oneCell']
          case c3 => unfold maxLen; omega
          case c4 => omega
          case c5 => have := hb3.size; simp; omega
          intro v2 w3 hown2 hgrow _
          have hb4 : Below w.heap.size w w3 := (hb3.alloc hb3.size _).grown hgrow (by have := hb3.size; simp; omega) (own_base (hown.alloc (.cells #[Value.int .i64 (i : Int)] 3)))
          have HO2 := Lib.hid hown2
          clear hown hown2 hgrow hb3
          go_wp2
          go_roundw
          case rel => exact ⟨i + 1, by omega, by go_num, by rw [HU.out, intsV_append, List.length_append]; exact HO2.out, hb4⟩
          case measure => simp [intOf]; omega
    · obtain rfl : i = 64 := by omega
      go_wp2
      refine bodyPost_ret (results_tmp2 rfl _ _ _) rfl ?_
      exact ⟨_, rfl, hown, hb⟩
end Go.Proofs.Ytdpfglpefncigaa
