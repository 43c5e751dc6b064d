/-
  Bytes of both; lists held equal.
-/
import Derived.Test.YthkaclmnbahieaaDoorRvV
import Derived.Test.YthkaclmnbahieaaDoorRvQ
namespace Go.Proofs.YthkaclmnbahieaaDoor
open Go.RowKit

theorem encodeV (x : Rv) (hv : Val x) (w : World) (hL : Laid w) : Calls Tryd.prog 35 #[rvV x] w fun e w' => e = .returned (.int .u32 (encF x : Nat)) ∧ Below w.heap.size w w' := by
  obtain ⟨hi, hop⟩ := op_lt hv
  obtain ⟨h0, h40, hv⟩ := hv
  obtain ⟨op, d, a, b, imm⟩ := x
  obtain ⟨i, rfl⟩ : ∃ i : Nat, op = (i : Int) := ⟨op.toNat, hop.symm⟩
  exact encode_any i (by simpa using hi) d a b imm (by simpa using hv) w hL
theorem drewNR {B k : Nat} {a w : World} (h : Below B a w) : Below B a (w.drewN k) := ⟨h.os, h.tape, h.output, h.size, h.block⟩
theorem news4 {W : World} {B : Nat} {a b c d : Value} {t : TypeId} (h : W.heap[B]? = some (.cells #[a, b, c, d] t (0, 0))) : ∀ j u, [a, b, c, d][j]? = some u → W.cell? ((⟨B, 0, none⟩ : Addr).add j) = some u := by
  obtain ⟨h0, h1, h2, h3⟩ := cells4r h
  intro j u hj
  match j, hj with
  | 0, hj => simp at hj; subst hj; exact h0
  | 1, hj => simp at hj; subst hj; exact h1
  | 2, hj => simp at hj; subst hj; exact h2
  | 3, hj => simp at hj; subst hj; exact h3
  | n + 4, hj => simp at hj
theorem bytesL_next {l : List Rv} {k : Nat} (h : k < l.length) : byV (bytesL (l.take (k + 1))) = byV (bytesL (l.take k)) ++ byV (le4 (encF l[k]!)) := by
  rw [take_next h, bytesL_append, byV_append]
  simp [bytesL]
theorem le4V (N : Nat) (hN : N < 4294967296) : byV (le4 N) = [.int .u8 ((N : Int) % 256), .int .u8 ((N : Int) / 256 % 256), .int .u8 ((N : Int) / 65536 % 256), .int .u8 ((N : Int) / 16777216)] := by
  unfold le4 byV
  rw [show (N : Int) / 16777216 % 256 = (N : Int) / 16777216 by omega]
  rfl
set_option maxRecDepth 100000 in
set_option maxHeartbeats 8000000 in
theorem Bytes_any {w : World} {A : Option Addr} {n c : Nat} {l : List Rv} (hL : Laid w) (hT : TabI w A n c l) (hn : n ≤ 1000) (E : Int) (m : Nat) (X : List Value)
    (hg : allV l = true → E = 0 ∧ m = 4 * n ∧ X = byV (bytesL l)) (hbd : allV l = false → E = 1 ∧ m = 0 ∧ X = []) :
    Calls Tryd.prog 19 #[.slice A n c] w fun e w' => ∃ V, e = .returned (.tuple #[V, .int .i64 E]) ∧ w'.ownsRow w.heap.size 5 1 V m X ∧ Below w.heap.size w w' := by
  have HG := Lib.hid hg
  have HBD := Lib.hid hbd
  clear hg hbd
  obtain ⟨i0, hi, hz0, hz1, hz2⟩ := info_parts infoBy
  have HT := Lib.hid hT
  have HLN := Lib.hid hT.1
  have hcap := hT.2.1
  have hmax := hT.2.2.1
  have HV := Lib.hid (fun x w1 h1 => validate_any x w1 h1)
  have HLD := Lib.hid hL
  clear hT hL
  go_enter Tryd.func19, Tryd.ntmps19
  go_upto_region 2 with fail
  go_loopw [13] (fun zi wr => ∃ k : Nat, k ≤ n ∧ zi = .int .i64 (k : Int) ∧ Below w.heap.size w wr ∧ Hid (∀ j, j < k → Val l[j]!)) (fun zi _ => n - (intOf zi).toNat)
  case atStart => exact ⟨0, by omega, rfl, Below.refl _ _, Lib.hid (fun j hj => by omega)⟩
  case round =>
    obtain ⟨k, hk, rfl, hb, hval⟩ := hrel
    by_cases hlt : k < n
    · obtain ⟨b0, off, rfl, hbs, ht⟩ := (HT.out.below hb).at_ hlt
      have HVV := Lib.hid (fun w1 h1 => HV.out l[k]! w1 h1)
      by_cases hq : Val l[k]!
      · have e0 : errF l[k]! = 0 := if_pos hq
        rw [e0] at HVV
        have HQ := Lib.hid hq
        clear hq e0
        generalize hxx : l[k]! = x at ht HVV
        clear hxx
        obtain ⟨op, d, a, b, imm⟩ := x
        obtain ⟨c0, c1, c2, c3, c4⟩ := ht
        simp only at c0 c1 c2 c3 c4
        go_wp2_with fail
        generalize hA : World.alloc wr _ = W
        have hb1 := below_one hA
        replace hb := hb.trans (hb1.mono hb.size)
        clear hA hb1
        refine (HVV.out _ (HLD.out.below hb)).mono ?_
        rintro e w2 ⟨rfl, hw⟩
        replace hb := hb.trans (hw.mono hb.size)
        clear hw c0 c1 c2 c3 c4 hbs
        go_wp2
        go_roundw
        case rel => exact ⟨k + 1, by omega, by go_num, hb, Lib.hid (fun j hj => by
          by_cases e : j = k
          · subst e; exact HQ.out
          · exact hval.out j (by omega))⟩
        case measure => simp [intOf]; omega
      · have e0 : errF l[k]! = 1 := if_neg hq
        rw [e0] at HVV
        have HN := Lib.hid (show allV l = false from by
          cases e : allV l
          · rfl
          · exact absurd (allV_at e (show k < l.length by rw [← HLN.out]; exact hlt)) hq)
        clear hq e0 hval
        generalize hxx : l[k]! = x at ht HVV
        clear hxx
        obtain ⟨op, d, a, b, imm⟩ := x
        obtain ⟨c0, c1, c2, c3, c4⟩ := ht
        simp only at c0 c1 c2 c3 c4
        go_wp2_with fail
        generalize hA : World.alloc wr _ = W
        have hb1 := below_one hA
        replace hb := hb.trans (hb1.mono hb.size)
        clear hA hb1
        refine (HVV.out _ (HLD.out.below hb)).mono ?_
        rintro e w2 ⟨rfl, hw⟩
        replace hb := hb.trans (hw.mono hb.size)
        clear hw c0 c1 c2 c3 c4 hbs
        go_wp2
        obtain ⟨rfl, rfl, rfl⟩ := HBD.out HN.out
        exact bodyPost_ret (res2 rfl _ _) rfl ⟨_, rfl, World.ownsRow_nil _ _ _ _, hb⟩
    · obtain rfl : k = n := by omega
      have HAL := Lib.hid (show allV l = true from allV_of (fun j hj => hval.out j (by rw [HLN.out]; exact hj)))
      clear hlt hk hval
      go_upto_region 10 with fail
      go_loopw [7, 25] (fun vl zi w3 => ∃ k2 : Nat, k2 ≤ k ∧ zi = .int .i64 (k2 : Int) ∧ w3.ownsRow w.heap.size 5 1 vl (4 * k2) (byV (bytesL (l.take k2))) ∧ Below w.heap.size w w3) (fun _ zi _ => k - (intOf zi).toNat)
      case atStart => exact ⟨0, by omega, rfl, World.ownsRow_nil _ _ _ _, hb⟩
      case round =>
        obtain ⟨k2, hk2, rfl, hown, hb3⟩ := hrel
        by_cases hlt2 : k2 < k
        · obtain ⟨b0, off, rfl, hbs, ht⟩ := (HT.out.below hb3).at_ hlt2
          have hk2z : k2 < l.length := by rw [← HLN.out]; exact hlt2
          have hq := allV_at HAL.out hk2z
          have HEE := Lib.hid (fun w1 (h1 : Laid w1) => encodeV l[k2]! hq w1 h1)
          have hN := (enc_facts hq).1
          have HS := Lib.hid ((bytesL_next hk2z).trans (congrArg _ (le4V _ hN)))
          clear hq hk2z
          generalize byV (bytesL (l.take k2)) = Lk at hown HS
          generalize encF l[k2]! = N at HEE hN HS
          generalize hxx : l[k2]! = x at ht HEE
          clear hxx
          obtain ⟨op, d, a, b, imm⟩ := x
          obtain ⟨c0, c1, c2, c3, c4⟩ := ht
          simp only at c0 c1 c2 c3 c4
          go_wp2_with fail
          generalize hA : World.alloc _ _ = W
          have hb1 := below_one hA
          have hown1 := own_below hown hb1
          replace hb3 := hb3.trans (hb1.mono hb3.size)
          clear hA hb1 hown
          refine (HEE.out _ (HLD.out.below hb3)).mono ?_
          rintro e w4 ⟨rfl, hw⟩
          have hown2 := own_below hown1 hw
          replace hb3 := hb3.trans (hw.mono hb3.size)
          clear hw hown1 c0 c1 c2 c3 c4 hbs
          have hnw := heap_alloc_new w4 (.cells #[.int .u8 ((N : Int) % 256), .int .u8 ((N : Int) / 256 % 256), .int .u8 ((N : Int) / 65536 % 256), .int .u8 ((N : Int) / 16777216)] 5)
          have HNW := Lib.hid (news4 hnw)
          clear hnw
          have hs3 := hb3.size
          go_wp2_with (at_builtin; refine wpList_append_own _ rfl _ _ 35 rfl w.heap.size 5 i0 (.int .u8 0) 1 1 Tryd.underlying35 hi hz0 hz1 hz2 rfl (by decide) _ (4 * k2) _ rfl (hown2.alloc _) ⟨w4.heap.size, 0, none⟩ 4 4 [.int .u8 ((N : Int) % 256), .int .u8 ((N : Int) / 256 % 256), .int .u8 ((N : Int) / 65536 % 256), .int .u8 ((N : Int) / 16777216)] rfl rfl ?k1 ?k2 ?k3 ?k4 ?k5 ?_)
          case k1 => exact HNW.out
          case k2 => simp [Value.oneCell']
          case k3 => unfold maxLen; omega
          case k4 => omega
          case k5 => simp; omega
          intro v5 w5 ho5 hgr _
          have hb5 : Below w.heap.size w w5 := (hb3.alloc hs3 _).grown hgr (by simp; omega) (own_base hown2)
          have HO5 := Lib.hid (show w5.ownsRow w.heap.size 5 1 v5 (4 * (k2 + 1)) (byV (bytesL (l.take (k2 + 1)))) by
            rw [HS.out, Nat.mul_add]
            exact ho5)
          clear ho5 hgr hown2 hb3 HNW
          go_wp2
          go_roundw
          case rel => exact ⟨k2 + 1, by omega, by go_num, HO5.out, hb5⟩
          case measure => simp [intOf]; omega
        · obtain rfl : k2 = k := by omega
          rw [show l.take k2 = l by rw [HLN.out]; simp] at hown
          have HO := Lib.hid hown
          clear hown hlt2 hk2
          go_wp2
          obtain ⟨rfl, rfl, rfl⟩ := HG.out HAL.out
          exact bodyPost_ret (res2 rfl _ _) rfl ⟨_, rfl, HO.out, hb3⟩
set_option maxRecDepth 100000 in
set_option maxHeartbeats 8000000 in
theorem RBytes_any {w : World} {A : Option Addr} {n c : Nat} {l : List Rv} (hT : TabI w A n c l) (hn : n ≤ 1000) (E : Int) (m : Nat) (X : List Value)
    (hg : allV l = true → E = 0 ∧ m = 4 * n ∧ X = byV (bytesL l)) (hbd : allV l = false → E = 1 ∧ m = 0 ∧ X = []) :
    Calls Tryd.prog 20 #[.slice A n c] w fun e w' => ∃ V, e = .returned (.tuple #[V, .int .i64 E]) ∧ w'.ownsRow w.heap.size 5 1 V m X ∧ Below w.heap.size w w' := by
  have HG := Lib.hid hg
  have HBD := Lib.hid hbd
  clear hg hbd
  obtain ⟨i0, hi, hz0, hz1, hz2⟩ := info_parts infoBy
  have HT := Lib.hid hT
  have HLN := Lib.hid hT.1
  have hcap := hT.2.1
  have hmax := hT.2.2.1
  have HV := Lib.hid (fun x w1 => refValidate_any x w1)
  clear hT
  go_enter Tryd.func20, Tryd.ntmps20
  go_upto_region 2 with fail
  go_loopw [4] (fun zi wr => ∃ k : Nat, k ≤ n ∧ zi = .int .i64 (k : Int) ∧ Below w.heap.size w wr ∧ Hid (∀ j, j < k → Val l[j]!)) (fun zi _ => n - (intOf zi).toNat)
  case atStart => exact ⟨0, by omega, rfl, Below.refl _ _, Lib.hid (fun j hj => by omega)⟩
  case round =>
    obtain ⟨k, hk, rfl, hb, hval⟩ := hrel
    by_cases hlt : k < n
    · obtain ⟨b0, off, rfl, hbs, ht⟩ := (HT.out.below hb).at_ hlt
      have HVV := Lib.hid (fun w1 => HV.out l[k]! w1)
      by_cases hq : Val l[k]!
      · have e0 : errF l[k]! = 0 := if_pos hq
        rw [e0] at HVV
        have HQ := Lib.hid hq
        clear hq e0
        generalize hxx : l[k]! = x at ht HVV
        clear hxx
        obtain ⟨op, d, a, b, imm⟩ := x
        obtain ⟨c0, c1, c2, c3, c4⟩ := ht
        simp only at c0 c1 c2 c3 c4
        go_wp2_with fail
        refine (HVV.out _).mono ?_
        rintro e w2 ⟨rfl, hw⟩
        replace hb := hb.trans (hw.mono hb.size)
        clear hw c0 c1 c2 c3 c4 hbs
        go_wp2
        go_roundw
        case rel => exact ⟨k + 1, by omega, by go_num, hb, Lib.hid (fun j hj => by
          by_cases e : j = k
          · subst e; exact HQ.out
          · exact hval.out j (by omega))⟩
        case measure => simp [intOf]; omega
      · have e0 : errF l[k]! = 1 := if_neg hq
        rw [e0] at HVV
        have HN := Lib.hid (show allV l = false from by
          cases e : allV l
          · rfl
          · exact absurd (allV_at e (show k < l.length by rw [← HLN.out]; exact hlt)) hq)
        clear hq e0 hval
        generalize hxx : l[k]! = x at ht HVV
        clear hxx
        obtain ⟨op, d, a, b, imm⟩ := x
        obtain ⟨c0, c1, c2, c3, c4⟩ := ht
        simp only at c0 c1 c2 c3 c4
        go_wp2_with fail
        refine (HVV.out _).mono ?_
        rintro e w2 ⟨rfl, hw⟩
        replace hb := hb.trans (hw.mono hb.size)
        clear hw c0 c1 c2 c3 c4 hbs
        go_wp2
        obtain ⟨rfl, rfl, rfl⟩ := HBD.out HN.out
        exact bodyPost_ret (res2 rfl _ _) rfl ⟨_, rfl, World.ownsRow_nil _ _ _ _, hb⟩
    · obtain rfl : k = n := by omega
      have HAL := Lib.hid (show allV l = true from allV_of (fun j hj => hval.out j (by rw [HLN.out]; exact hj)))
      clear hlt hk hval
      go_upto_region 9 with fail
      go_loopw [6, 7] (fun vl zi w3 => ∃ k2 : Nat, k2 ≤ k ∧ zi = .int .i64 (k2 : Int) ∧ w3.ownsRow w.heap.size 5 1 vl (4 * k2) (byV (bytesL (l.take k2))) ∧ Below w.heap.size w w3) (fun _ zi _ => k - (intOf zi).toNat)
      case atStart => exact ⟨0, by omega, rfl, World.ownsRow_nil _ _ _ _, hb⟩
      case round =>
        obtain ⟨k2, hk2, rfl, hown, hb3⟩ := hrel
        by_cases hlt2 : k2 < k
        · obtain ⟨b0, off, rfl, hbs, ht⟩ := (HT.out.below hb3).at_ hlt2
          have hk2z : k2 < l.length := by rw [← HLN.out]; exact hlt2
          have hq := allV_at HAL.out hk2z
          have HEE := Lib.hid (fun w1 => refEncodeV l[k2]! hq w1)
          have hN := (enc_facts hq).1
          have HS := Lib.hid ((bytesL_next hk2z).trans (congrArg _ (le4V _ hN)))
          clear hq hk2z
          generalize byV (bytesL (l.take k2)) = Lk at hown HS
          generalize encF l[k2]! = N at HEE hN HS
          generalize hxx : l[k2]! = x at ht HEE
          clear hxx
          obtain ⟨op, d, a, b, imm⟩ := x
          obtain ⟨c0, c1, c2, c3, c4⟩ := ht
          simp only at c0 c1 c2 c3 c4
          go_wp2_with fail
          have hown1 := hown
          clear hown
          refine (HEE.out _).mono ?_
          rintro e w4 ⟨rfl, hw⟩
          have hown2 := own_below hown1 hw
          replace hb3 := hb3.trans (hw.mono hb3.size)
          clear hw hown1 c0 c1 c2 c3 c4 hbs
          have hnw := heap_alloc_new w4 (.cells #[.int .u8 ((N : Int) % 256), .int .u8 ((N : Int) / 256 % 256), .int .u8 ((N : Int) / 65536 % 256), .int .u8 ((N : Int) / 16777216)] 5)
          have HNW := Lib.hid (news4 hnw)
          clear hnw
          have hs3 := hb3.size
          go_wp2_with (at_builtin; refine wpList_append_own _ rfl _ _ 35 rfl w.heap.size 5 i0 (.int .u8 0) 1 1 Tryd.underlying35 hi hz0 hz1 hz2 rfl (by decide) _ (4 * k2) _ rfl (hown2.alloc _) ⟨w4.heap.size, 0, none⟩ 4 4 [.int .u8 ((N : Int) % 256), .int .u8 ((N : Int) / 256 % 256), .int .u8 ((N : Int) / 65536 % 256), .int .u8 ((N : Int) / 16777216)] rfl rfl ?k1 ?k2 ?k3 ?k4 ?k5 ?_)
          case k1 => exact HNW.out
          case k2 => simp [Value.oneCell']
          case k3 => unfold maxLen; omega
          case k4 => omega
          case k5 => simp; omega
          intro v5 w5 ho5 hgr _
          have hb5 : Below w.heap.size w w5 := (hb3.alloc hs3 _).grown hgr (by simp; omega) (own_base hown2)
          have HO5 := Lib.hid (show w5.ownsRow w.heap.size 5 1 v5 (4 * (k2 + 1)) (byV (bytesL (l.take (k2 + 1)))) by
            rw [HS.out, Nat.mul_add]
            exact ho5)
          clear ho5 hgr hown2 hb3 HNW
          go_wp2
          go_roundw
          case rel => exact ⟨k2 + 1, by omega, by go_num, HO5.out, hb5⟩
          case measure => simp [intOf]; omega
        · obtain rfl : k2 = k := by omega
          rw [show l.take k2 = l by rw [HLN.out]; simp] at hown
          have HO := Lib.hid hown
          clear hown hlt2 hk2
          go_wp2
          obtain ⟨rfl, rfl, rfl⟩ := HG.out HAL.out
          exact bodyPost_ret (res2 rfl _ _) rfl ⟨_, rfl, HO.out, hb3⟩
set_option maxRecDepth 100000 in
set_option maxHeartbeats 8000000 in
theorem same_yes {w : World} {A A2 : Option Addr} {n n2 c c2 : Nat} {l : List Rv} (h : TabI w A n c l) (h2 : TabI w A2 n2 c2 l) :
    Calls Tryd.prog 22 #[.slice A n c, .slice A2 n2 c2] w fun e w' => e = .returned (.bool true) ∧ Below w.heap.size w w' := by
  obtain rfl : n2 = n := by rw [h.1, h2.1]
  have HT := Lib.hid h
  have HU := Lib.hid h2
  have hcap := h.2.1
  have hmax := h.2.2.1
  have hcap2 := h2.2.1
  have hmax2 := h2.2.2.1
  clear h h2
  go_enter Tryd.func22, Tryd.ntmps22
  go_upto_region 4 with fail
  go_loopw [5] (fun zi wr => ∃ k : Nat, k ≤ n2 ∧ zi = .int .i64 (k : Int) ∧ Below w.heap.size w wr) (fun zi _ => n2 - (intOf zi).toNat)
  case atStart => exact ⟨0, by omega, rfl, Below.refl _ _⟩
  case round =>
    obtain ⟨k, hk, rfl, hb⟩ := hrel
    by_cases hlt : k < n2
    · obtain ⟨b0, off, rfl, hbs, ht⟩ := (HT.out.below hb).at_ hlt
      obtain ⟨b2, off2, rfl, hbs2, ht2⟩ := (HU.out.below hb).at_ hlt
      generalize hxx : l[k]! = x at ht ht2
      clear hxx
      obtain ⟨op, d, a, b, imm⟩ := x
      obtain ⟨c0, c1, c2, c3, c4⟩ := ht
      obtain ⟨d0, d1, d2, d3, d4⟩ := ht2
      simp only at c0 c1 c2 c3 c4 d0 d1 d2 d3 d4
      go_wp2_with fail
      go_quiet (fail)
      go_wp2
      go_roundw
      case rel => exact ⟨k + 1, by omega, by go_num, drewNR hb⟩
      case measure => simp [intOf]; omega
    · obtain rfl : k = n2 := by omega
      go_wp2
      go_ret
      exact ⟨rfl, hb⟩
end Go.Proofs.YthkaclmnbahieaaDoor
