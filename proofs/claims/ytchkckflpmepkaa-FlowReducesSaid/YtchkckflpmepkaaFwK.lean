/-
  The errors of nodes in both packages.
-/
import Derived.Test.YtchkckflpmepkaaFwJ
namespace Go.Proofs.Ytchkckflpmepkaa
open Go.RowKit

def nodesOk (g : List (List Int)) (ns : List Int) : Bool := ns.all fun v => nodeB v g.length
def seenOk (g : List (List Int)) (ns : List Int) : Bool := ns.all fun v => wy (natG g) (-1) 0 v.toNat
def errN (g : List (List Int)) (ns : List Int) : Int := if valF g = 0 then (if nodesOk g ns then 0 else 4) else valF g
def errT (g : List (List Int)) (ns : List Int) : Int := if valF g = 0 then (if nodesOk g ns then (if seenOk g ns then 0 else 9) else 4) else valF g
theorem all_at {p : Int → Bool} {l : List Int} : l.all p = true ↔ ∀ j, j < l.length → p l[j]! = true := by
  rw [List.all_eq_true]
  constructor
  · intro h j hj
    rw [show l[j]! = l[j] by simp [hj]]
    exact h _ (List.getElem_mem _)
  · intro h x hx
    obtain ⟨j, hj, rfl⟩ := List.mem_iff_getElem.1 hx
    have := h j hj
    rwa [show l[j]! = l[j] by simp [hj]] at this
theorem all_not {p : Int → Bool} {l : List Int} {j : Nat} (hj : j < l.length) (h : p l[j]! = false) : l.all p = false := by
  refine Bool.eq_false_iff.2 fun hh => ?_
  rw [all_at.1 hh j hj] at h
  cases h
theorem errN_bad {g : List (List Int)} {ns : List Int} (h : valF g ≠ 0) : errN g ns = valF g := if_neg h
theorem errT_bad {g : List (List Int)} {ns : List Int} (h : valF g ≠ 0) : errT g ns = valF g := if_neg h
theorem natG_len (g : List (List Int)) : (natG g).length = g.length := by simp [natG]
section
variable {w : World} {A An : Option Addr} {n c m cn : Nat} {g : List (List Int)} {ns : List Int}
set_option maxRecDepth 100000 in
set_option maxHeartbeats 4000000 in
theorem node_any (h : RG w A n c g) (hn : Ints w An m cn ns) : Calls Try.prog 47 #[.slice A n c, .slice An m cn] w fun e w' => e = .returned (.int .i64 (errN g ns)) ∧ w = w' := by
  have HV := Lib.hid (refValidate_any h)
  have hN := h.1
  have hM := hn.1
  have hcap := hn.2.1
  have hmax := hn.2.2.1
  by_cases hv : valF g = 0
  · obtain ⟨v1, v2, -, -⟩ := val_zero hv
    have n10 : n ≤ 10 := by omega
    have HE1 := Lib.hid (fun j (hj : j < m) (hb : nodeB ns[j]! n = false) => show errN g ns = 4 by
      unfold errN nodesOk
      rw [if_pos hv, if_neg]
      rw [all_not (by rw [← hM]; exact hj) (by rw [← hN]; exact hb)]
      simp)
    have HE2 := Lib.hid (fun (hh : ∀ j, j < m → nodeB ns[j]! n = true) => show errN g ns = 0 by
      unfold errN nodesOk
      rw [if_pos hv, if_pos]
      exact all_at.2 (fun j hj => by rw [← hN]; exact hh j (by rw [hM]; exact hj)))
    rw [hv] at HV
    have HI := Lib.hid hn
    generalize errN g ns = E at HE1 HE2 ⊢
    clear h hn hN hM hv v1 v2
    go_enter Try.func47, Try.ntmps47
    go_wp2_with fail
    refine HV.out.mono ?_
    rintro e w1 ⟨rfl, rfl⟩
    go_wp2
    go_loop [6] (fun zi => ∃ i : Nat, i ≤ m ∧ zi = .int .i64 (i : Int) ∧ Hid (∀ j, j < i → nodeB ns[j]! n = true)) (fun zi => m - (intOf zi).toNat)
    case atStart => exact ⟨0, by omega, rfl, Lib.hid fun j hj => absurd hj (by omega)⟩
    case round =>
      obtain ⟨i, hi, rfl, HJ⟩ := hrel
      by_cases hlt : i < m
      · obtain ⟨b, off, rfl, hg, hc⟩ := HI.out.at_ hlt
        have HBAD := Lib.hid (HE1.out i hlt)
        have HJ2 := Lib.hid (show nodeB ns[i]! n = true → ∀ j, j < i + 1 → nodeB ns[j]! n = true from fun h j hj => by
          by_cases hji : j = i
          · rw [hji]; exact h
          · exact HJ.out j (by omega))
        generalize ns[i]! = p at hc HBAD HJ2
        by_cases p0 : p < 0
        · have HE := Lib.hid (HBAD.out (decide_eq_false (by omega)))
          have d0 : decide (p < 0) = true := decide_eq_true p0
          clear HBAD HJ2
          go_wp2
          go_ret
          exact ⟨ret_i (by rw [HE.out]), rfl⟩
        · have d0 : decide (p < 0) = false := decide_eq_false p0
          by_cases p1 : (n : Int) ≤ p
          · have HE := Lib.hid (HBAD.out (decide_eq_false (by omega)))
            have d1 : decide ((n : Int) ≤ p) = true := decide_eq_true p1
            clear HBAD HJ2
            go_wp2
            go_ret
            exact ⟨ret_i (by rw [HE.out]), rfl⟩
          · have HE := Lib.hid (HJ2.out (decide_eq_true (by omega)))
            have d1 : decide ((n : Int) ≤ p) = false := decide_eq_false p1
            clear HBAD HJ2
            go_wp2
            go_roundw
            case rel => exact ⟨i + 1, by omega, by go_num, HE⟩
            case measure => simp [intOf]; omega
      · obtain rfl : i = m := by omega
        have HE := Lib.hid (HE2.out HJ.out)
        go_wp2
        go_ret
        exact ⟨ret_i (by rw [HE.out]), rfl⟩
  · rw [errN_bad hv]
    generalize valF g = X at HV hv ⊢
    have dX : (X != 0) = true := by simp [hv]
    clear h hn hN hM hv
    go_enter Try.func47, Try.ntmps47
    go_wp2_with fail
    refine HV.out.mono ?_
    rintro e w1 ⟨rfl, rfl⟩
    go_wp2
    go_ret
    exact ⟨rfl, rfl⟩
theorem errN_cases (g : List (List Int)) (ns : List Int) : valF g = 0 ∧ nodesOk g ns = true ∧ errN g ns = 0 ∨ errN g ns ≠ 0 ∧ errT g ns = errN g ns := by
  by_cases hv : valF g = 0
  · cases hn : nodesOk g ns
    · refine .inr ⟨?_, ?_⟩
      · unfold errN
        rw [if_pos hv, hn]
        simp
      · unfold errN errT
        rw [if_pos hv, if_pos hv, hn]
        rfl
    · refine .inl ⟨hv, rfl, ?_⟩
      unfold errN
      rw [if_pos hv, hn]
      rfl
  · exact .inr ⟨by rw [errN_bad hv]; exact hv, by rw [errN_bad hv, errT_bad hv]⟩
set_option maxRecDepth 100000 in
set_option maxHeartbeats 4000000 in
theorem there_any (h : RG w A n c g) (hn : Ints w An m cn ns) : Calls Try.prog 55 #[.slice A n c, .slice An m cn] w fun e w' => e = .returned (.int .i64 (errT g ns)) ∧ Below w.heap.size w w' := by
  have HV := Lib.hid (node_any h hn)
  rcases errN_cases g ns with ⟨hv, hns, he⟩ | ⟨he, het⟩
  · have hG := okG_val hv
    have hM := hn.1
    have hcap := hn.2.1
    have hmax := hn.2.2.1
    have HMG := MG_of h hv
    have n10 : n ≤ 10 := by rw [h.1]; have := hG.2.1; rw [natG_len] at this; exact this
    have n1 : 0 < n := by rw [h.1]; have := hG.1; rw [natG_len] at this; exact this
    have HC := Lib.hid (reach_any hG HMG 0 n1 (-1))
    have HB := Lib.hid (show ∀ j, j < m → 0 ≤ ns[j]! ∧ ns[j]! < n from fun j hj => by
      have := of_decide_eq_true (all_at.1 hns j (by rw [← hM]; exact hj))
      rw [h.1]
      exact this)
    have HE1 := Lib.hid (fun j (hj : j < m) (hb : wy (natG g) (-1) 0 (ns[j]!).toNat = false) => show errT g ns = 9 by
      unfold errT
      rw [if_pos hv, hns, if_pos rfl, if_neg]
      unfold seenOk
      rw [all_not (p := fun v => wy (natG g) (-1) 0 v.toNat) (by rw [← hM]; exact hj) hb]
      simp)
    have HE2 := Lib.hid (fun (hh : ∀ j, j < m → wy (natG g) (-1) 0 (ns[j]!).toNat = true) => show errT g ns = 0 by
      unfold errT
      rw [if_pos hv, hns, if_pos rfl, if_pos]
      exact all_at.2 (fun j hj => hh j (by rw [hM]; exact hj)))
    rw [he] at HV
    have HI := Lib.hid hn
    generalize errT g ns = E at HE1 HE2 ⊢
    generalize wy (natG g) (-1) 0 = T at HC HE1 HE2
    clear h hn hM hv hns he HMG hG
    go_enter Try.func55, Try.ntmps55
    go_wp2_with fail
    refine HV.out.mono ?_
    rintro e w1 ⟨rfl, rfl⟩
    go_wp2_with fail
    refine HC.out.mono ?_
    rintro e w1 ⟨gb, rfl, hB, hgb, hb⟩
    have HBB := Lib.hid hB
    have hgl := hB.lt
    clear hB
    go_wp2
    go_loop [7] (fun zi => ∃ i : Nat, i ≤ m ∧ zi = .int .i64 (i : Int) ∧ Hid (∀ j, j < i → T (ns[j]!).toNat = true)) (fun zi => m - (intOf zi).toNat)
    case atStart => exact ⟨0, by omega, rfl, Lib.hid fun j hj => absurd hj (by omega)⟩
    case round =>
      obtain ⟨i, hi, rfl, HJ⟩ := hrel
      by_cases hlt : i < m
      · obtain ⟨b, off, rfl, hg, hc⟩ := (HI.out.below hb).at_ hlt
        have HBAD := Lib.hid (HE1.out i hlt)
        have hbd := HB.out i hlt
        have HJ2 := Lib.hid (show T (ns[i]!).toNat = true → ∀ j, j < i + 1 → T (ns[j]!).toNat = true from fun h j hj => by
          by_cases hji : j = i
          · rw [hji]; exact h
          · exact HJ.out j (by omega))
        generalize ns[i]! = p at hc HBAD HJ2 hbd
        obtain ⟨q, rfl⟩ : ∃ q : Nat, p = (q : Int) := ⟨p.toNat, by omega⟩
        rw [show ((q : Int)).toNat = q from rfl] at HBAD HJ2
        have hq : q < n := by omega
        obtain ⟨hcell, -⟩ := HBB.out.cell hq
        clear hbd
        cases hT : T q
        · have HE := Lib.hid (HBAD.out hT)
          rw [hT] at hcell
          clear HBAD HJ2 hT
          go_wp2
          go_ret
          exact ⟨ret_i (by rw [HE.out]), hb⟩
        · have HE := Lib.hid (HJ2.out hT)
          rw [hT] at hcell
          clear HBAD HJ2 hT
          go_wp2
          go_roundw
          case rel => exact ⟨i + 1, by omega, by go_num, HE⟩
          case measure => simp [intOf]; omega
      · obtain rfl : i = m := by omega
        have HE := Lib.hid (HE2.out HJ.out)
        go_wp2
        go_ret
        exact ⟨ret_i (by rw [HE.out]), hb⟩
  · rw [het]
    generalize errN g ns = X at HV he ⊢
    have dX : (X != 0) = true := by simp [he]
    clear h hn he het
    go_enter Try.func55, Try.ntmps55
    go_wp2_with fail
    refine HV.out.mono ?_
    rintro e w1 ⟨rfl, rfl⟩
    go_wp2
    go_ret
    exact ⟨rfl, Below.refl _ _⟩
set_option maxRecDepth 100000 in
set_option maxHeartbeats 4000000 in
theorem check_any (h : RG w A n c g) (hn : Ints w An m cn ns) : Calls Try.prog 54 #[.slice A n c, .slice An m cn] w fun e w' => e = .returned (.int .i64 (errT g ns)) ∧ Below w.heap.size w w' := by
  have HV := Lib.hid (validate_any h)
  by_cases hv : valF g = 0
  · have hG := okG_val hv
    have hN := h.1
    have hM := hn.1
    have hcap := hn.2.1
    have hmax := hn.2.2.1
    have HMG := MG_of h hv
    have n10 : n ≤ 10 := by rw [h.1]; have := hG.2.1; rw [natG_len] at this; exact this
    have HC := Lib.hid (reached_any hG HMG)
    have HE0 := Lib.hid (fun j (hj : j < m) (hb : nodeB ns[j]! n = false) => show errT g ns = 4 by
      unfold errT nodesOk
      rw [if_pos hv, if_neg]
      rw [all_not (by rw [← hM]; exact hj) (by rw [← hN]; exact hb)]
      simp)
    have HE1 := Lib.hid (fun (hh : ∀ j, j < m → nodeB ns[j]! n = true) j (hj : j < m) (hb : wy (natG g) (-1) 0 (ns[j]!).toNat = false) => show errT g ns = 9 by
      unfold errT nodesOk
      rw [if_pos hv, all_at.2 (fun j hj => by rw [← hN]; exact hh j (by rw [hM]; exact hj)), if_pos rfl, if_neg]
      unfold seenOk
      rw [all_not (p := fun v => wy (natG g) (-1) 0 v.toNat) (by rw [← hM]; exact hj) hb]
      simp)
    have HE2 := Lib.hid (fun (hh : ∀ j, j < m → nodeB ns[j]! n = true) (hh2 : ∀ j, j < m → wy (natG g) (-1) 0 (ns[j]!).toNat = true) => show errT g ns = 0 by
      unfold errT nodesOk
      rw [if_pos hv, all_at.2 (fun j hj => by rw [← hN]; exact hh j (by rw [hM]; exact hj)), if_pos rfl, if_pos]
      exact all_at.2 (fun j hj => hh2 j (by rw [hM]; exact hj)))
    rw [hv] at HV
    have HI := Lib.hid hn
    generalize errT g ns = E at HE0 HE1 HE2 ⊢
    generalize wy (natG g) (-1) 0 = T at HC HE1 HE2
    clear h hn hM hN hv HMG hG
    go_enter Try.func54, Try.ntmps54
    go_wp2_with fail
    refine HV.out.mono ?_
    rintro e w1 ⟨rfl, rfl⟩
    go_wp2
    go_loop [18] (fun zi => ∃ i : Nat, i ≤ m ∧ zi = .int .i64 (i : Int) ∧ Hid (∀ j, j < i → nodeB ns[j]! n = true)) (fun zi => m - (intOf zi).toNat)
    case atStart => exact ⟨0, by omega, rfl, Lib.hid fun j hj => absurd hj (by omega)⟩
    case round =>
      obtain ⟨i, hi, rfl, HJ⟩ := hrel
      by_cases hlt : i < m
      · obtain ⟨b, off, rfl, hg, hc⟩ := HI.out.at_ hlt
        have HBAD := Lib.hid (HE0.out i hlt)
        have HX := Lib.hid (fun B hB w1 => isNode_at ns[i]! n B hB A c w1 (by omega))
        have HJ2 := Lib.hid (show nodeB ns[i]! n = true → ∀ j, j < i + 1 → nodeB ns[j]! n = true from fun h j hj => by
          by_cases hji : j = i
          · rw [hji]; exact h
          · exact HJ.out j (by omega))
        generalize ns[i]! = p at hc HBAD HJ2 HX
        cases hB : nodeB p n
        · have HX2 := Lib.hid (HX.out false hB)
          have HE := Lib.hid (HBAD.out hB)
          clear HX HBAD HJ2 hB
          go_wp2_with (go_at_call 45; with_reducible refine (HX2.out _).mono ?_; rintro e w' ⟨rfl, rfl⟩)
          go_ret
          exact ⟨ret_i (by rw [HE.out]), Below.refl _ _⟩
        · have HX2 := Lib.hid (HX.out true hB)
          have HE := Lib.hid (HJ2.out hB)
          clear HX HBAD HJ2 hB
          go_wp2_with (go_at_call 45; with_reducible refine (HX2.out _).mono ?_; rintro e w' ⟨rfl, rfl⟩)
          go_roundw
          case rel => exact ⟨i + 1, by omega, by go_num, HE⟩
          case measure => simp [intOf]; omega
      · obtain rfl : i = m := by omega
        have HB := Lib.hid (show ∀ j, j < i → 0 ≤ ns[j]! ∧ ns[j]! < n from fun j hj => of_decide_eq_true (HJ.out j hj))
        replace HE1 := Lib.hid (HE1.out HJ.out)
        replace HE2 := Lib.hid (HE2.out HJ.out)
        clear HE0 HJ
        go_wp2_with fail
        refine HC.out.mono ?_
        rintro e w1 ⟨rfl, hb⟩
        have hb2 := hb.alloc hb.size (.cells zV 52)
        have hS := SetB.zero w1
        have hI2 := HI.out.below hb2
        go_upto_region 11 with (refine wpList_store_row rfl _ _ _ rfl w1.heap.size (setA T) rfl rfl 52 _ hS (setA_info T) (by rw [setA_size, setA_size]) (setA_one T) ?_)
        have hS2 : SetB ((w1.alloc (.cells zV 52)).setRow w1.heap.size (setA T)) w1.heap.size T := setRow_get _ _ _ _ _ hS
        have hb3 := setRow_below hb2 hb.size (setA T)
        have hbs := hb.size
        generalize World.setRow (World.alloc w1 _) _ _ = W2 at hS2 hb3 ⊢
        generalize w1.heap.size = S at hS2 ⊢
        have HI2 := Lib.hid (HI.out.below hb3)
        have HSS := Lib.hid hS2
        clear hb hb2 hS hI2 hS2 hbs
        go_wp2
        go_loop [31] (fun zi => ∃ k : Nat, k ≤ i ∧ zi = .int .i64 (k : Int) ∧ Hid (∀ j, j < k → T (ns[j]!).toNat = true)) (fun zi => i - (intOf zi).toNat)
        case atStart => exact ⟨0, by omega, rfl, Lib.hid fun j hj => absurd hj (by omega)⟩
        case round =>
          obtain ⟨k, hk, rfl, HJ⟩ := hrel
          by_cases hlt : k < i
          · obtain ⟨b, off, rfl, hg, hc⟩ := HI2.out.at_ hlt
            have HBAD := Lib.hid (HE1.out k hlt)
            have hbd := HB.out k hlt
            have HJ2 := Lib.hid (show T (ns[k]!).toNat = true → ∀ j, j < k + 1 → T (ns[j]!).toNat = true from fun h j hj => by
              by_cases hji : j = k
              · rw [hji]; exact h
              · exact HJ.out j (by omega))
            generalize ns[k]! = p at hc HBAD HJ2 hbd
            obtain ⟨q, rfl⟩ : ∃ q : Nat, p = (q : Int) := ⟨p.toNat, by omega⟩
            rw [show ((q : Int)).toNat = q from rfl] at HBAD HJ2
            have hq : q < 10 := by omega
            obtain ⟨hcell, -⟩ := HSS.out.cell hq
            clear hbd
            cases hT : T q
            · have HE := Lib.hid (HBAD.out hT)
              rw [hT] at hcell
              clear HBAD HJ2 hT
              go_wp2
              go_ret
              exact ⟨ret_i (by rw [HE.out]), hb3⟩
            · have HE := Lib.hid (HJ2.out hT)
              rw [hT] at hcell
              clear HBAD HJ2 hT
              go_wp2
              go_roundw
              case rel => exact ⟨k + 1, by omega, by go_num, HE⟩
              case measure => simp [intOf]; omega
          · obtain rfl : k = i := by omega
            have HE := Lib.hid (HE2.out HJ.out)
            go_wp2
            go_ret
            exact ⟨ret_i (by rw [HE.out]), hb3⟩
  · rw [errT_bad hv]
    generalize valF g = X at HV hv ⊢
    have dX : (X != 0) = true := by simp [hv]
    clear h hn hv
    go_enter Try.func54, Try.ntmps54
    go_wp2_with fail
    refine HV.out.mono ?_
    rintro e w1 ⟨rfl, rfl⟩
    go_wp2
    go_ret
    exact ⟨rfl, Below.refl _ _⟩
end
end Go.Proofs.Ytchkckflpmepkaa
