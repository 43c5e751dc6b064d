/-
  Bound of package time.
-/
import Derived.Test.YtjlacdnkncgpaaaTmW
import Derived.Test.YtjlacdnkncgpaaaTmZa
namespace Go.Proofs.Ytjlacdnkncgpaaa
open Go.RowKit

theorem mst_bound (zs : List Cod) : ∀ i, 0 ≤ mstF zs i ∧ mstF zs i ≤ 12 * (i + 1)
  | 0 => by simp [mstF]
  | i + 1 => by
    have h1 := mst_bound zs i
    obtain ⟨-, -, h3, h4⟩ := sum_bound zs i
    unfold mstF
    omega
section
variable {w : World} {A : Option Addr} {n c : Nat} {zs : List Cod}
set_option maxRecDepth 100000 in
set_option maxHeartbeats 8000000 in
theorem Bound_tab (h : Tab w A n c zs) : Calls Try.prog 26 #[.slice A n c] w fun e w' => e = .returned (.tuple #[.int .i64 (resB zs), .int .i64 (valF zs)]) ∧ Below w.heap.size w w' := by
  have HV := Lib.hid (validate_tab h)
  rcases val_cases zs with hv | hv | hv
  · have HT := Lib.hid h
    have HN := Lib.hid h.shape
    have hcap := h.2.1
    obtain ⟨h40, hval⟩ := val_all hv
    have HVA := Lib.hid hval
    have n40 : n ≤ 40 := by rw [h.shape]; exact h40
    have HR := Lib.hid (show resB zs = mstF zs n by rw [resB, if_pos hv, ← h.shape])
    generalize resB zs = RB at HR ⊢
    rw [hv] at HV
    rw [hv]
    clear h hv h40 hval
    go_enter Try.func26, Try.ntmps26
    go_wp2_with fail
    refine HV.out.mono ?_
    rintro e w1 ⟨rfl, hbv⟩
    go_wp2
    have hb0 : Below w.heap.size w (w1.alloc (.cells Try.zeroCells59 59)) := hbv.alloc hbv.size _
    have hr0 := rdy_zero w1
    have HBB := Lib.hid hbv.size
    generalize World.alloc w1 _ = W0 at hb0 hr0 ⊢
    generalize w1.heap.size = B at hr0 HBB ⊢
    clear hbv
    go_loopw [6, 24] (fun zm zi wr => ∃ i : Nat, i ≤ n ∧ zi = .int .i64 (i : Int) ∧ zm = .int .i64 (mstF zs i) ∧ Below w.heap.size w wr ∧ Hid (Rdy wr B (wrt zs (sumL zs i) i))) (fun _ zi _ => n - (intOf zi).toNat)
    case atStart => exact ⟨0, by omega, rfl, rfl, hb0, Lib.hid hr0⟩
    case round =>
      clear hb0 hr0
      obtain ⟨i, hin, rfl, rfl, hb, HR0⟩ := hrel
      by_cases hlt : i < n
      · obtain ⟨b0, off, rfl, hbs, ht⟩ := (HT.out.below hb).at_ hlt
        have hvx := HVA.out i (by rw [← HN.out]; exact hlt)
        obtain ⟨hcod, hop0, hop1⟩ := val_parts hvx
        obtain ⟨u1, u2, u3, u4', u5'⟩ := use_rd hvx
        have hAT := Lib.hid (show sumF zs (sumL zs i) i = mxF 0 (wrt zs (sumL zs i) i) (useL zs[i]!) + latF zs[i]!.op by unfold sumF; rw [mx_eq (fun r => by rw [mem_useL, u1])])
        have HUR := Lib.hid (fun r (hr : r ∈ useL zs[i]!) => u2 r (by rw [← u1]; exact mem_useL.1 hr))
        have HRS := Lib.hid (wrt_succ zs i)
        have HMS := Lib.hid (show mstF zs (i + 1) = max (mstF zs i) (sumF zs (sumL zs i) i) from rfl)
        obtain ⟨bd1, bd2, bd3, bd4⟩ := sum_bound zs i
        have hmb := mst_bound zs i
        have hlen : (useL zs[i]!).length ≤ 2 := useL_len _
        have HUS := Lib.hid (fun w1 => Uses_any zs[i]! w1)
        have HDF := Lib.hid (fun w1 => Defines_any zs[i]! w1)
        rw [hcod, show usesR zs[i]! = useL zs[i]! by unfold usesR; rw [hcod]; rfl] at HUS
        rw [show defR zs[i]! = (zs[i]!.d, (shF zs[i]!.op).d, 0) by unfold defR; rw [hcod]; rfl] at HDF
        have hlat := lat_pos zs[i]!.op
        obtain ⟨L, hL⟩ : ∃ L, latF zs[i]!.op = L := ⟨_, rfl⟩
        have HL := Lib.hid hL
        rw [hL] at hAT hlat
        have HRB := Lib.hid (fun r => bd2 r)
        clear bd1 bd2 hvx hL hcod u1 u2
        generalize sumF zs (sumL zs i) i = AT at hAT HRS HMS bd3 bd4
        generalize wrt zs (sumL zs i) i = f at HR0 HRS hAT HRB
        generalize mstF zs i = mm at HMS hmb ⊢
        generalize useL zs[i]! = U at hAT HUR hlen HUS
        generalize wrF zs[i]! = wf at u3 u4' u5' HRS
        generalize zs[i]! = x at ht HUS HDF HL u3 u4' u5'
        obtain ⟨op, d, a, b, imm, to⟩ := x
        obtain ⟨c0, c1, c2, c3, c4, c5⟩ := ht
        simp only at c0 c1 c2 c3 c4 c5 HL u3 u4' u5' HDF
        obtain ⟨sd, hsd⟩ : ∃ sd, sd = (shF op).d := ⟨_, rfl⟩
        rw [← hsd] at HDF u3 u4'
        clear hsd
        go_wp2_with fail
        have hx := heap_alloc_new wr (.cells #[.int .i64 op, .int .i64 d, .int .i64 a, .int .i64 b, .int .u32 imm, .int .i64 to] 47)
        have hb1 : Below w.heap.size w (wr.alloc (.cells #[.int .i64 op, .int .i64 d, .int .i64 a, .int .i64 b, .int .u32 imm, .int .i64 to] 47)) := hb.alloc hb.size _
        have HR1 := Lib.hid (HR0.out.below ((Below.refl _ _).alloc (Nat.le_refl _) (.cells #[.int .i64 op, .int .i64 d, .int .i64 a, .int .i64 b, .int .u32 imm, .int .i64 to] 47)))
        generalize World.alloc wr _ = W1 at hx hb1 HR1 ⊢
        generalize wr.heap.size = X at hx ⊢
        clear c0 c1 c2 c3 c4 c5 HR0 hb
        refine (HUS.out W1).mono ?_
        rintro e w2 ⟨v, rfl, hI, hb2⟩
        replace hx := (hb2.block _ (lt_of_block hx)).trans hx
        have HR2 := Lib.hid (HR1.out.below hb2)
        replace hb1 := hb1.trans (hb2.mono hb1.size)
        obtain ⟨VA, VC, rfl, hI⟩ := hI
        clear hb2 HR1 HUS
        obtain ⟨n2, hn2⟩ : ∃ n2, n2 = U.length := ⟨_, rfl⟩
        have HN2 := Lib.hid hn2
        rw [← hn2] at hlen hI ⊢
        clear hn2
        have HI := Lib.hid hI
        clear hI
        go_wp2
        go_loopw [11, 35] (fun za zk wr2 => ∃ k : Nat, k ≤ n2 ∧ zk = .int .i64 (k : Int) ∧ za = .int .i64 (mxF 0 f (U.take k)) ∧ wr2 = w2) (fun _ zk _ => n2 - (intOf zk).toNat)
        case atStart => exact ⟨0, by omega, rfl, rfl, rfl⟩
        case round =>
          obtain ⟨k, hk, rfl, rfl, rfl⟩ := hrel
          by_cases hk2 : k < n2
          · rcases HI.out with h0 | ⟨g, rfl, hg, hcl⟩
            · omega
            have y0 := hcl k hk2
            have hur := HUR.out U[k]! (by rw [show U[k]! = U[k]'(by rw [← HN2.out]; exact hk2) by simp [HN2.out ▸ hk2]]; exact List.getElem_mem _)
            have HTK := Lib.hid (show mxF 0 f (U.take (k + 1)) = max (mxF 0 f (U.take k)) (f U[k]!) by
              have hkl : k < U.length := by rw [← HN2.out]; exact hk2
              rw [List.take_succ_eq_append_getElem hkl, mx_snoc, show U[k]! = U[k] by simp [hkl]])
            generalize U[k]! = r at y0 hur HTK
            obtain ⟨rn, rfl⟩ : ∃ rn : Nat, r = (rn : Int) := ⟨r.toNat, by omega⟩
            have hrn : rn < 200 := by omega
            obtain ⟨y1, -⟩ := HR2.out.cell hrn
            generalize mxF 0 f (U.take k) = mk at HTK ⊢
            generalize f (rn : Int) = fr at y1 HTK
            clear hcl
            go_wp2
            exact ⟨⟨k + 1, by omega, by go_num, congrArg (Value.int .i64) HTK.out.symm, trivial⟩, by simp [intOf]; omega⟩
          · obtain rfl : k = n2 := by omega
            have hmk : mxF 0 f (U.take k) = AT - L := by rw [hAT.out, HN2.out, List.take_length]; omega
            have HAT2 := Lib.hid (show AT - L + L = AT by omega)
            rw [hmk]
            obtain ⟨MK, hMK⟩ : ∃ MK, AT - L = MK := ⟨_, rfl⟩
            rw [hMK] at HAT2 ⊢
            have hmkb : 0 ≤ MK ∧ MK ≤ 600 := by
              rw [← hMK, ← hmk]
              refine ⟨mx_ge _ _ _, mx_le (by omega) fun r => ?_⟩
              have := (HRB.out r).2
              omega
            have HMK := Lib.hid hMK
            clear hmk hMK
            obtain ⟨x0, x1, x2, x3, x4, x5⟩ := cells6 hx
            clear hAT HI HUR
            go_wp2_with (go_at_call 33; ((with_reducible refine (latency_at op L _ HL.out).mono ?_); rintro e w' ⟨rfl, rfl⟩))
            rw [HAT2.out]
            refine (HDF.out wr).mono ?_
            rintro e w3 ⟨rfl, hb3⟩
            have HR3 := Lib.hid (HR2.out.below hb3)
            replace hb1 := hb1.trans (hb3.mono hb1.size)
            clear hb3 HR2 x0 x1 x2 x3 x4 x5 HDF hx HMK hmkb HAT2
            cases sd
            · have hwf : wf = -1 := by
                rcases u5' with h | ⟨h, h2⟩
                · exact h
                · exfalso
                  have := u3.2 (by omega)
                  cases this
              have HR4 := Lib.hid (show Rdy w3 B (wrt zs (sumL zs (i + 1)) (i + 1)) by
                obtain ⟨arr, a1, a2, a3⟩ := HR3.out
                refine ⟨arr, a1, a2, fun r hr => ?_⟩
                rw [HRS.out, hwf, if_neg (by omega)]
                exact a3 r hr)
              clear HR3 HRS hwf u3 u4' u5'
              go_wp2
              go_roundw
              case rel => exact ⟨i + 1, by omega, by go_num, congrArg (Value.int .i64) HMS.out.symm, hb1, HR4⟩
              case measure => simp [intOf]; omega
            · obtain ⟨hwd, hd0, hd1⟩ := u4' rfl
              obtain ⟨D, rfl⟩ : ∃ D : Nat, d = (D : Int) := ⟨d.toNat, by omega⟩
              have hD : D < 200 := by omega
              obtain ⟨y1, y2⟩ := HR3.out.cell hD
              have HR4 := Lib.hid (show Rdy (w3.setCell ⟨B, D, none⟩ (.int .i64 AT)) B (wrt zs (sumL zs (i + 1)) (i + 1)) from HR3.out.set hD AT (fun r hr => by
                rw [HRS.out, hwd]
                by_cases hrD : r = D
                · rw [if_pos hrD, if_pos (by omega)]
                · rw [if_neg hrD, if_neg (by omega)]))
              have hb4 : Below w.heap.size w (w3.setCell ⟨B, D, none⟩ (.int .i64 AT)) := hb1.setCell HBB.out _
              clear HR3 HRS hwd u3 u4' u5' hb1
              go_upto_region 20 with fail
              clear y1 y2
              generalize World.setCell w3 _ _ = W4 at HR4 hb4 ⊢
              go_wp2
              go_roundw
              case rel => exact ⟨i + 1, by omega, by go_num, congrArg (Value.int .i64) HMS.out.symm, hb4, HR4⟩
              case measure => simp [intOf]; omega
      · obtain rfl : i = n := by omega
        rw [← HR.out]
        go_wp2
        exact bodyPost_ret (v := .tuple #[.int .i64 RB, .int .i64 0]) (by simp [results, Try.results26, go_sem]) rfl ⟨rfl, hb⟩
  · rw [hv] at HV
    rw [show resB zs = 0 from if_neg (by omega), hv]
    clear h hv
    go_enter Try.func26, Try.ntmps26
    go_wp2_with fail
    refine HV.out.mono ?_
    rintro e w1 ⟨rfl, hb⟩
    go_wp2
    exact bodyPost_ret (v := .tuple #[.int .i64 0, .int .i64 1]) (by simp [results, Try.results26, go_sem]) rfl ⟨rfl, hb⟩
  · rw [hv] at HV
    rw [show resB zs = 0 from if_neg (by omega), hv]
    clear h hv
    go_enter Try.func26, Try.ntmps26
    go_wp2_with fail
    refine HV.out.mono ?_
    rintro e w1 ⟨rfl, hb⟩
    go_wp2
    exact bodyPost_ret (v := .tuple #[.int .i64 0, .int .i64 3]) (by simp [results, Try.results26, go_sem]) rfl ⟨rfl, hb⟩
end
end Go.Proofs.Ytjlacdnkncgpaaa
