/-
  Holes of package trace.
-/
import Derived.Test.YtdpfglpefncigaaTrHa
import Derived.Test.YtdpfglpefncigaaTrEn
namespace Go.Proofs.Ytdpfglpefncigaa
open Go.RowKit

def strV (l : List (Int × Int)) : List Value := l.flatMap fun x => [.int .i64 x.1, .int .i64 x.2]
theorem strV_append (a b : List (Int × Int)) : strV (a ++ b) = strV a ++ strV b := by simp [strV]
theorem strV_one (a b : Int) : strV [(a, b)] = [.int .i64 a, .int .i64 b] := rfl
theorem infoSt : (Try.prog.info? 57).map (fun i => (i.zero, i.size, i.bytes)) = some (some (.agg #[.int .i64 0, .int .i64 0]), 2, 16) := by kernel_rfl
theorem news2 {W : World} {B : Nat} {a b : Value} {t : TypeId} {fr : Nat × Nat} (h : W.heap[B]? = some (.cells #[a, b] t fr)) : ∀ j u, [a, b][j]? = some u → W.cell? ((⟨B, 0, none⟩ : Addr).add j) = some u := by
  intro j u hj
  match j, hj with
  | 0, hj => simp at hj; subst hj; simp [World.cell?, h, Addr.add]
  | 1, hj => simp at hj; subst hj; simp [World.cell?, h, Addr.add]
  | n + 2, hj => simp at hj
/-- What Holes answers. -/
def holesL (zs : List Plc) (v f t : Int) : List (Int × Int) := if chkF zs v f t = 0 then hpEnd zs v f t else []
section
variable {w : World} {A : Option Addr} {n c : Nat} {zs : List Plc}
set_option maxRecDepth 100000 in
set_option maxHeartbeats 4000000 in
theorem holes_tab (h : Tab w A n c zs) (v f t : Int) : Calls Try.prog 36 #[.slice A n c, .int .i64 v, .int .i64 f, .int .i64 t] w fun e w' => ∃ V, e = .returned (.tuple #[V, .int .i64 (chkF zs v f t)]) ∧ w'.ownsRow w.heap.size 57 2 V (holesL zs v f t).length (strV (holesL zs v f t)) ∧ Below w.heap.size w w' := by
  obtain ⟨i0, hi, hz0, hz1, hz2⟩ := info_parts infoSt
  have HC := Lib.hid (fun w1 (hb : Below w.heap.size w w1) => check_tab (h.below hb) v f t)
  have HT := Lib.hid h
  by_cases hX : chkF zs v f t = 0
  · have hL : holesL zs v f t = hpEnd zs v f t := if_pos hX
    obtain ⟨hv, hvb, hfb, htb, hft⟩ := chk_ok hX
    obtain ⟨h64, hok⟩ := valF_ok hv
    have hn : n = zs.length := h.shape
    rw [hX] at HC
    rw [hX, hL]
    obtain ⟨L, hLL⟩ : ∃ L, L = hpEnd zs v f t := ⟨_, rfl⟩
    rw [← hLL]
    have HLL := Lib.hid (show L = if (hpF zs v f t zs.length).2 < t then (hpF zs v f t zs.length).1 ++ [((hpF zs v f t zs.length).2, t)] else (hpF zs v f t zs.length).1 from hLL)
    have HOK := Lib.hid hok
    have HNN := Lib.hid hn
    have n64 : n ≤ 64 := by omega
    clear hv hok hn h64 h hX hvb hfb htb hft hL hLL
    go_enter Try.func36, Try.ntmps36
    go_wp2_with fail
    refine (HC.out _ (Below.refl _ _)).mono ?_
    rintro e w1 ⟨rfl, hb1⟩
    clear HC
    go_wp2
    go_loopw [2, 11, 25] (fun zf vl zi wr => ∃ i : Nat, i ≤ n ∧ zi = .int .i64 (i : Int) ∧ zf = .int .i64 (hpF zs v f t i).2 ∧ wr.ownsRow w.heap.size 57 2 vl (hpF zs v f t i).1.length (strV (hpF zs v f t i).1) ∧ Below w.heap.size w wr) (fun _ _ zi _ => n - (intOf zi).toNat)
    case atStart => exact ⟨0, by omega, rfl, rfl, World.ownsRow_nil _ _ _ _, hb1⟩
    case round =>
      clear hb1
      obtain ⟨i, hi', rfl, rfl, hown, hb⟩ := hrel
      have hlen := hp_len zs v f t i
      by_cases hlt : i < n
      · have hilt : i < zs.length := by have := HNN.out; omega
        rcases HT.out.parts with ⟨h0, -⟩ | ⟨-, hnc, hcm, bb, oo, rfl, hL⟩
        · omega
        have ht := (hL.below hb).at_ hilt
        have HSK := Lib.hid (fun h => hp_skip (zs := zs) (v := v) (f := f) (t := t) (i := i) h)
        have HHO := Lib.hid (fun h1 h2 h3 => hp_hole (zs := zs) (v := v) (f := f) (t := t) (i := i) h1 h2 h3)
        have HNO := Lib.hid (fun h1 h2 h3 => hp_none (zs := zs) (v := v) (f := f) (t := t) (i := i) h1 h2 h3)
        obtain ⟨nx, hnx⟩ : ∃ nx, nx = hpF zs v f t (i + 1) := ⟨_, rfl⟩
        have HNX := Lib.hid hnx
        rw [← hnx] at HSK HHO HNO
        generalize hpF zs v f t i = S at HSK HHO HNO hown hlen ⊢
        obtain ⟨ls, cc⟩ := S
        generalize zs[i]! = p at ht HSK HHO HNO
        obtain ⟨P, Z, V, K, N⟩ := p
        simp only at HSK HHO HNO hown hlen ⊢
        clear hL hnx
        obtain ⟨c0, c1, c2, c3, c4⟩ := ht
        simp only at c0 c1 c2 c3 c4
        by_cases hv : V = v
        · by_cases hz : Z ≤ cc
          · have e := HSK.out (.inr hz)
            subst hv e
            have HO := Lib.hid (hown.alloc (.cells #[.int .i64 P, .int .i64 Z, .int .i64 V, .int .i64 K, .int .i64 N] 33))
            have dz : decide (Z ≤ cc) = true := decide_eq_true hz
            clear hown HSK HHO HNO
            go_wp2
            go_roundw
            case rel => exact ⟨i + 1, by omega, by go_num, by rw [← HNX.out], by rw [← HNX.out]; exact HO.out, hb.alloc hb.size _⟩
            case measure => simp [intOf]; omega
          · have dz : decide (Z ≤ cc) = false := decide_eq_false hz
            by_cases he : cc < min P t
            · have e := HHO.out hv (by omega) he
              subst hv e
              clear HSK HHO HNO
              go_wp2_with (at_builtin; refine wpList_append_own _ rfl _ _ 58 rfl w.heap.size 57 i0 (.agg #[.int .i64 0, .int .i64 0]) 2 16 Try.underlying58 hi hz0 hz1 hz2 rfl (by decide) _ _ _ rfl ((hown.alloc (.cells #[.int .i64 P, .int .i64 Z, .int .i64 V, .int .i64 K, .int .i64 N] 33)).alloc _) ⟨wr.heap.size + 1, 0, none⟩ 1 1 [.int .i64 cc, .int .i64 (min P t)] rfl rfl ?c1 ?c2 ?c3 ?c4 ?c5 ?_)
              case c2 => exact ⟨rfl, rfl⟩
              case c3 => unfold maxLen; omega
              case c4 => omega
              case c5 => have := hb.size; simp; omega
              intro v2 w7 hown7 hgrow _
              have hb4 : Below w.heap.size w ((wr.alloc (.cells #[.int .i64 P, .int .i64 Z, .int .i64 V, .int .i64 K, .int .i64 N] 33)).alloc (.cells #[.int .i64 cc, .int .i64 (min P t)] 57)) := (hb.alloc hb.size _).alloc (by have := hb.size; simp; omega) _
              have hb5 : Below w.heap.size w w7 := hb4.grown hgrow hb4.size (own_base ((hown.alloc (.cells #[.int .i64 P, .int .i64 Z, .int .i64 V, .int .i64 K, .int .i64 N] 33)).alloc (.cells #[.int .i64 cc, .int .i64 (min P t)] 57)))
              have hPc := (heap_alloc_old (wr.alloc (.cells #[.int .i64 P, .int .i64 Z, .int .i64 V, .int .i64 K, .int .i64 N] 33)) (.cells #[.int .i64 cc, .int .i64 (min P t)] 57) (by simp)).trans (heap_alloc_new wr (.cells #[.int .i64 P, .int .i64 Z, .int .i64 V, .int .i64 K, .int .i64 N] 33))
              have hneP : u11.ownBlock ≠ some wr.heap.size := fun h => by have := hown.lt _ h; omega
              obtain ⟨-, d1, -, -, -⟩ := cells5 (grown_block hgrow hPc hneP)
              have HO2 := Lib.hid (show w7.ownsRow w.heap.size 57 2 v2 (hpF zs V f t (i + 1)).1.length (strV (hpF zs V f t (i + 1)).1) by
                rw [← HNX.out, List.length_append, strV_append]
                exact hown7)
              clear hown hown7 hgrow hb4 hb hPc hneP c0 c1 c2 c3 c4
              go_wp2
              go_roundw
              case rel => exact ⟨i + 1, by omega, by go_num, by rw [← HNX.out], HO2.out, hb5⟩
              case measure => simp [intOf]; omega
            · have e := HNO.out hv (by omega) he
              subst hv e
              have HO := Lib.hid (hown.alloc (.cells #[.int .i64 P, .int .i64 Z, .int .i64 V, .int .i64 K, .int .i64 N] 33))
              clear hown HSK HHO HNO
              go_wp2
              go_roundw
              case rel => exact ⟨i + 1, by omega, by go_num, by rw [← HNX.out], by rw [← HNX.out]; exact HO.out, hb.alloc hb.size _⟩
              case measure => simp [intOf]; omega
        · have e := HSK.out (.inl hv)
          subst e
          have HO := Lib.hid (hown.alloc (.cells #[.int .i64 P, .int .i64 Z, .int .i64 V, .int .i64 K, .int .i64 N] 33))
          have dv : (V != v) = true := by simp [hv]
          clear hown HSK HHO HNO
          go_wp2
          go_roundw
          case rel => exact ⟨i + 1, by omega, by go_num, by rw [← HNX.out], by rw [← HNX.out]; exact HO.out, hb.alloc hb.size _⟩
          case measure => simp [intOf]; omega
      · obtain rfl : i = n := by omega
        have e := HLL.out
        rw [← HNN.out] at e
        generalize hpF zs v f t i = S at e hown hlen ⊢
        obtain ⟨ls, cc⟩ := S
        simp only at e hown hlen ⊢
        by_cases hc : cc < t
        · rw [if_pos hc] at e
          subst e
          go_wp2_with (at_builtin; refine wpList_append_own _ rfl _ _ 58 rfl w.heap.size 57 i0 (.agg #[.int .i64 0, .int .i64 0]) 2 16 Try.underlying58 hi hz0 hz1 hz2 rfl (by decide) _ _ _ rfl (hown.alloc _) ⟨wr.heap.size, 0, none⟩ 1 1 [.int .i64 cc, .int .i64 t] rfl rfl ?k1 ?k2 ?k3 ?k4 ?k5 ?_)
          case k1 => exact news2 (heap_alloc_new wr _)
          case k2 => intro u hu; simp at hu; rcases hu with rfl | rfl <;> rfl
          case k3 => unfold maxLen; omega
          case k4 => omega
          case k5 => have := hb.size; simp; omega
          intro v2 w7 hown7 hgrow _
          have hb5 : Below w.heap.size w w7 := (hb.alloc hb.size _).grown hgrow (by have := hb.size; simp; omega) (own_base (hown.alloc (.cells #[.int .i64 cc, .int .i64 t] 57)))
          have HO2 := Lib.hid (show w7.ownsRow w.heap.size 57 2 v2 (ls ++ [(cc, t)]).length (strV (ls ++ [(cc, t)])) by
            rw [List.length_append, strV_append]
            exact hown7)
          clear hown hown7 hgrow hb
          go_wp2
          refine bodyPost_ret (results_tmp2 rfl _ _ _) rfl ?_
          exact ⟨_, rfl, HO2.out, hb5⟩
        · rw [if_neg hc] at e
          subst e
          have HO := Lib.hid hown
          clear hown
          go_wp2
          refine bodyPost_ret (results_tmp2 rfl _ _ _) rfl ?_
          exact ⟨_, rfl, HO.out, hb⟩
  · have hL : holesL zs v f t = [] := if_neg hX
    rw [hL]
    generalize chkF zs v f t = X at HC hX ⊢
    have dX : (X != 0) = true := by simp [hX]
    clear hX hL h HT
    go_enter Try.func36, Try.ntmps36
    go_wp2_with fail
    refine (HC.out _ (Below.refl _ _)).mono ?_
    rintro e w1 ⟨rfl, hb1⟩
    go_wp2
    refine bodyPost_ret (results_tmp2 rfl _ _ _) rfl ?_
    exact ⟨_, rfl, World.ownsRow_nil _ _ _ _, hb1⟩
end
end Go.Proofs.Ytdpfglpefncigaa
