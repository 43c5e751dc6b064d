/-
  Variables of the reference; lists of numbers compared.
-/
import Derived.Test.YtdpfglpefncigaaTrV
namespace Go.Proofs.Ytdpfglpefncigaa
open Go.RowKit

set_option maxRecDepth 100000 in
set_option maxHeartbeats 4000000 in
theorem refVariables_good {w : World} {A : Option Addr} {n c : Nat} {zs : List Plc} (h : Tab w A n c zs) (t : Int) (hX : chkF zs 0 t t = 0) :
    Calls Try.prog 17 #[.slice A n c, .int .i64 t] w fun e w' => ∃ v, e = .returned (.tuple #[v, .int .i64 0]) ∧ w'.ownsRow w.heap.size 3 1 v (varsU zs t 64).length (intsV (varsU zs t 64)) ∧ Below w.heap.size w w' := by
  obtain ⟨i0, hi, hz0, hz1, hz2⟩ := info_parts infoInt
  have HC := Lib.hid (fun w1 (hb : Below w.heap.size w w1) => (chk_ok hX).1 ▸ refValidate_tab (h.below hb))
  have HF := Lib.hid (fun (v : Int) w1 (hb : Below w.heap.size w w1) => refFind_tab (h.below hb) v t (zero_le_chk hX))
  have HB := Lib.hid (chk_ok hX).2.2.1
  clear hX h
  go_enter Try.func17, Try.ntmps17
  go_wp2_with fail
  refine (HC.out _ (Below.refl _ _)).mono ?_
  rintro e w1 ⟨rfl, hb1⟩
  clear HC
  go_wp2_with (go_at_call 41; ((with_reducible refine (within_at t 0 32768 _ _ HB.out).mono ?_); rintro e w' ⟨rfl, rfl⟩))
  go_loopw [7, 8] (fun vl zi wr => ∃ i : Nat, i ≤ 64 ∧ zi = .int .i64 (i : Int) ∧ wr.ownsRow w.heap.size 3 1 vl (varsU zs t i).length (intsV (varsU zs t i)) ∧ Below w.heap.size w wr) (fun _ zi _ => 64 - (intOf zi).toNat)
  case atStart => exact ⟨0, by omega, rfl, World.ownsRow_nil _ _ _ _, hb1⟩
  case round =>
    clear hb1
    obtain ⟨i, hi', rfl, hown, hb⟩ := hrel
    by_cases hlt : i < 64
    · have hlen := varsU_len zs t i
      have HU1 := Lib.hid (fun h => varsU_yes (zs := zs) (t := t) (k := i) h)
      have HU0 := Lib.hid (fun h => varsU_no (zs := zs) (t := t) (k := i) h)
      have HFi := Lib.hid (fun w1 hb => HF.out (i : Int) w1 hb)
      generalize (fnd zs (i : Int) t).getD zeroP = P at HFi
      generalize (fnd zs (i : Int) t).isSome = B at HFi HU0 HU1
      obtain ⟨pa, pz, pv, pk, pn⟩ := P
      cases B
      · have HU := Lib.hid (HU0.out rfl)
        have HO := Lib.hid hown
        clear HU0 HU1 hown
        go_wp2_with fail
        refine (HFi.out _ hb).mono ?_
        rintro e w2 ⟨rfl, hb2⟩
        have hb3 := hb.trans (hb2.mono hb.size)
        have HO2 := Lib.hid ((own_below HO.out hb2).alloc (.cells #[.int .i64 pa, .int .i64 pz, .int .i64 pv, .int .i64 pk, .int .i64 pn] 33))
        clear HO HFi hb2 hb
        go_wp2
        go_roundw
        case rel => exact ⟨i + 1, by omega, by go_num, by rw [HU.out]; exact HO2.out, hb3.alloc hb3.size _⟩
        case measure => simp [intOf]; omega
      · have HU := Lib.hid (HU1.out rfl)
        have HO := Lib.hid hown
        clear HU0 HU1 hown
        go_wp2_with fail
        refine (HFi.out _ hb).mono ?_
        rintro e w2 ⟨rfl, hb2⟩
        have hb3 := hb.trans (hb2.mono hb.size)
        have hown := (own_below HO.out hb2).alloc (.cells #[.int .i64 pa, .int .i64 pz, .int .i64 pv, .int .i64 pk, .int .i64 pn] 33)
        have hb4 : Below w.heap.size w (w2.alloc (.cells #[.int .i64 pa, .int .i64 pz, .int .i64 pv, .int .i64 pk, .int .i64 pn] 33)) := hb3.alloc hb3.size _
        have hs3 := hb3.size
        clear HO HFi hb2 hb hb3
        go_wp2_with (at_builtin; refine wpList_append_own _ rfl _ _ 25 rfl w.heap.size 3 i0 (.int .i64 0) 1 8 Try.underlying25 hi hz0 hz1 hz2 rfl (by decide) _ _ _ rfl (hown.alloc _) ⟨w2.heap.size + 1, 0, none⟩ 1 1 [Value.int .i64 (i : Int)] rfl rfl ?c1 ?c2 ?c3 ?c4 ?c5 ?_)
        case c1 => have := cell_one_new (w2.alloc (.cells #[.int .i64 pa, .int .i64 pz, .int .i64 pv, .int .i64 pk, .int .i64 pn] 33)) (Value.int .i64 (i : Int)) 3; simpa using this
        case c2 => simp [Value.oneCell']
        case c3 => unfold maxLen; omega
        case c4 => omega
        case c5 => simp; omega
        intro v2 w4 hown2 hgrow _
        have hb5 : Below w.heap.size w w4 := (hb4.alloc hb4.size _).grown hgrow (by simp; omega) (own_base (hown.alloc (.cells #[Value.int .i64 (i : Int)] 3)))
        have HO2 := Lib.hid hown2
        clear hown hown2 hgrow hb4
        go_wp2
        go_roundw
        case rel => exact ⟨i + 1, by omega, by go_num, by rw [HU.out, intsV_append, List.length_append]; exact HO2.out, hb5⟩
        case measure => simp [intOf]; omega
    · obtain rfl : i = 64 := by omega
      go_wp2
      refine bodyPost_ret (results_tmp2 rfl _ _ _) rfl ?_
      exact ⟨_, rfl, hown, hb⟩
theorem refVariables_bad {w : World} {A : Option Addr} {n c : Nat} {zs : List Plc} (h : Tab w A n c zs) (t : Int) (hX : chkF zs 0 t t ≠ 0) :
    Calls Try.prog 17 #[.slice A n c, .int .i64 t] w fun e w' => e = .returned (.tuple #[.slice none 0 0, .int .i64 (chkF zs 0 t t)]) ∧ Below w.heap.size w w' := by
  by_cases hV : valF zs = 0
  · have hB : inB t 0 32768 = false := by
      cases hB : inB t 0 32768
      · rfl
      · exact absurd (chk_yes hV (by rw [hB]; simp [inB])) hX
    rw [chk_no hV (by rw [hB]; simp)]
    have HC := Lib.hid (fun w1 (hb : Below w.heap.size w w1) => hV ▸ refValidate_tab (h.below hb))
    have HB := Lib.hid hB
    clear hV hX hB h
    go_enter Try.func17, Try.ntmps17
    go_wp2_with fail
    refine (HC.out _ (Below.refl _ _)).mono ?_
    rintro e w1 ⟨rfl, hb1⟩
    go_wp2_with (go_at_call 41; ((with_reducible refine (within_at t 0 32768 _ _ HB.out).mono ?_); rintro e w' ⟨rfl, rfl⟩))
    refine bodyPost_ret (results_tmp2 rfl _ _ _) rfl ?_
    exact ⟨rfl, hb1⟩
  · rw [chk_val hV]
    obtain ⟨X, hX'⟩ : ∃ X, X = valF zs := ⟨_, rfl⟩
    have HC := Lib.hid (fun w1 (hb : Below w.heap.size w w1) => refValidate_tab (h.below hb))
    rw [← hX'] at hV HC ⊢
    clear hX' h hX
    have dX : (X != 0) = true := by simp [hV]
    go_enter Try.func17, Try.ntmps17
    go_wp2_with fail
    refine (HC.out _ (Below.refl _ _)).mono ?_
    rintro e w1 ⟨rfl, hb1⟩
    go_wp2
    refine bodyPost_ret (results_tmp2 rfl _ _ _) rfl ?_
    exact ⟨rfl, hb1⟩
/-- A list of numbers in memory. -/
def Ints (w : World) (v : Value) (l : List Nat) : Prop := ∃ A c, v = .slice A l.length c ∧ (l.length = 0 ∨ ∃ g, A = some ⟨g, 0, none⟩ ∧ g < w.heap.size ∧ ∀ j, j < l.length → w.cell? ⟨g, j, none⟩ = some (.int .i64 (l[j]! : Int)))
theorem ints_own {w : World} {base : Nat} {v : Value} {l : List Nat} (h : w.ownsRow base 3 1 v l.length (intsV l)) : Ints w v l := by
  have h0 := h
  rcases h.2 with ⟨rfl, h1⟩ | ⟨g, cap, cur, rfl, _, hh, h2, h3, _⟩
  · exact ⟨none, 0, by rw [h1], .inl h1⟩
  · refine ⟨_, cap, rfl, .inr ⟨g, rfl, lt_of_block hh, fun j hj => ?_⟩⟩
    have := h0.cells (g := g) rfl j (.int .i64 (l[j]! : Int)) (by simp [intsV, hj])
    have e : (⟨g, 0, none⟩ : Addr).add j = ⟨g, j, none⟩ := by
      unfold Addr.add
      split
      · rename_i h0
        simp [h0]
      · simp
    rw [← e]
    exact this
theorem Ints.below {w w' : World} {v : Value} {l : List Nat} (h : Ints w v l) (hb : Below w.heap.size w w') : Ints w' v l := by
  obtain ⟨A, c, rfl, h | ⟨g, rfl, hg, h⟩⟩ := h
  · exact ⟨A, c, rfl, .inl h⟩
  · exact ⟨_, c, rfl, .inr ⟨g, rfl, Nat.lt_of_lt_of_le hg hb.size, fun j hj => keep_cell hb hg (h j hj)⟩⟩
set_option maxRecDepth 100000 in
theorem sameInts_yes {w : World} {v1 v2 : Value} {l : List Nat} (h1 : Ints w v1 l) (h2 : Ints w v2 l) (hl : l.length ≤ 1000) :
    Calls Try.prog 20 #[v1, v2] w fun e w' => e = .returned (.bool true) ∧ Below w.heap.size w w' := by
  obtain ⟨A1, c1, rfl, h1⟩ := h1
  obtain ⟨A2, c2, rfl, h2⟩ := h2
  obtain ⟨n, hn⟩ : ∃ n, n = l.length := ⟨_, rfl⟩
  rw [← hn] at h1 h2 hl ⊢
  by_cases h0 : n = 0
  · subst h0
    clear h1 h2 hn hl
    go_enter Try.func20, Try.ntmps20
    go_wp2
    go_loopw [5] (fun zi wr => zi = .int .i64 0 ∧ wr = w) (fun _ _ => 0)
    case atStart => exact ⟨rfl, rfl⟩
    case round =>
      obtain ⟨rfl, rfl⟩ := hrel
      go_wp2
      go_ret
      exact ⟨rfl, Below.refl _ _⟩
  · rcases h1 with h1 | ⟨g1, rfl, hg1, h1⟩
    · exact absurd h1 h0
    rcases h2 with h2 | ⟨g2, rfl, hg2, h2⟩
    · exact absurd h2 h0
    have H1 := Lib.hid h1
    have H2 := Lib.hid h2
    clear h1 h2 h0 hn
    go_enter Try.func20, Try.ntmps20
    go_wp2
    go_loopw [5] (fun zi wr => ∃ i : Nat, i ≤ n ∧ zi = .int .i64 (i : Int) ∧ Below w.heap.size w wr) (fun zi _ => n - (intOf zi).toNat)
    case atStart => exact ⟨0, by omega, rfl, Below.refl _ _⟩
    case round =>
      obtain ⟨i, hi, rfl, hb⟩ := hrel
      by_cases hlt : i < n
      · have c1 := (hb.cell (p := ⟨g1, i, none⟩) hg1).trans (H1.out i hlt)
        have c2 := (hb.cell (p := ⟨g2, i, none⟩) hg2).trans (H2.out i hlt)
        generalize l[i]! = x at c1 c2
        go_wp2
        go_region
        go_wp2
        go_roundw
        case rel => exact ⟨i + 1, by omega, by go_num, drewR hb⟩
        case measure => simp [intOf]; omega
      · go_wp2
        go_ret
        exact ⟨rfl, hb⟩
end Go.Proofs.Ytdpfglpefncigaa
