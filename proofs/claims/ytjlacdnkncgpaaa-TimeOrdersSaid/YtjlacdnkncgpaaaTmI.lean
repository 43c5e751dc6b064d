/-
  issue of package time.
-/
import Derived.Test.YtjlacdnkncgpaaaTmH
import Derived.Deep.Cut
namespace Go.Proofs.Ytjlacdnkncgpaaa
open Go.RowKit

/-- The array that tells when each register is ready. -/
def Rdy (w : World) (B : Nat) (f : Int → Int) : Prop := ∃ arr : Array Value, w.heap[B]? = some (.cells arr 59 (0, 0)) ∧ arr.size = 200 ∧ ∀ r : Nat, r < 200 → arr[r]? = some (.int .i64 (f (r : Int)))
theorem zero_arr : Try.zeroCells59 = Array.replicate 200 (Value.int .i64 0) := by kernel_rfl
theorem rdy_zero (w : World) : Rdy (w.alloc (.cells Try.zeroCells59 59)) w.heap.size (fun _ => 0) :=
  ⟨_, heap_alloc_new w _, by rw [zero_arr]; simp, fun r hr => by rw [zero_arr]; simp [hr]⟩
theorem Rdy.block {w w' : World} {B : Nat} {f : Int → Int} (h : Rdy w B f) (hb : w'.heap[B]? = w.heap[B]?) : Rdy w' B f := by
  obtain ⟨arr, h1, h2⟩ := h
  exact ⟨arr, hb.trans h1, h2⟩
theorem Rdy.lt {w : World} {B : Nat} {f : Int → Int} (h : Rdy w B f) : B < w.heap.size := by
  obtain ⟨arr, h1, h2⟩ := h
  exact lt_of_block h1
theorem Rdy.below {w w' : World} {B : Nat} {f : Int → Int} (h : Rdy w B f) (hb : Below w.heap.size w w') : Rdy w' B f := h.block (hb.block _ h.lt)
theorem Rdy.cell {w : World} {B : Nat} {f : Int → Int} (h : Rdy w B f) {r : Nat} (hr : r < 200) : w.cell? ⟨B, r, none⟩ = some (.int .i64 (f (r : Int))) ∧ w.frozen? ⟨B, r, none⟩ = false := by
  obtain ⟨arr, h1, h2, h3⟩ := h
  refine ⟨?_, by simp [World.frozen?, h1]⟩
  simp only [World.cell?, h1]
  exact h3 r hr
theorem Rdy.set {w : World} {B : Nat} {f g : Int → Int} (h : Rdy w B f) {D : Nat} (hD : D < 200) (y : Int) (hg : ∀ r : Nat, r < 200 → g (r : Int) = if r = D then y else f (r : Int)) : Rdy (w.setCell ⟨B, D, none⟩ (.int .i64 y)) B g := by
  obtain ⟨arr, h1, h2, h3⟩ := h
  refine ⟨_, heap_setCell_same w B D _ _ _ h1, by simpa using h2, fun r hr => ?_⟩
  rw [hg r hr, Array.getElem?_setIfInBounds]
  by_cases hrD : r = D
  · subst hrD
    simp [h2, hr]
  · rw [if_neg (fun e => hrD e.symm), if_neg hrD]
    exact h3 r hr
theorem own_tag {w : World} {base e size k B : Nat} {v : Value} {xs : List Value} {arr : Array Value} {t : TypeId} (h : w.ownsRow base e size v k xs) (hB : w.heap[B]? = some (.cells arr t (0, 0))) (hne : e ≠ t) : v.ownBlock ≠ some B := by
  rcases h.2 with ⟨rfl, _⟩ | ⟨g, cap, cur, rfl, _, hh, _⟩
  · simp [Value.ownBlock]
  · intro he
    have : g = B := by simpa [Value.ownBlock] using he
    subst this
    rw [hB] at hh
    injection hh with hh
    injection hh with _ ht
    exact hne ht.symm
theorem own_below {w w' : World} {base e size k : Nat} {v : Value} {xs : List Value} (h : w.ownsRow base e size v k xs) (hb : Below w.heap.size w w') : w'.ownsRow base e size v k xs := by
  refine ⟨h.1, ?_⟩
  rcases h.2 with h2 | ⟨g, cap, cur, h1, h2, h3, h4⟩
  · exact .inl h2
  · exact .inr ⟨g, cap, cur, h1, h2, (hb.block _ (lt_of_block h3)).trans h3, h4⟩
theorem own_setOther {w : World} {base e size k : Nat} {v : Value} {xs : List Value} (h : w.ownsRow base e size v k xs) {B o : Nat} (u : Value) (hne : v.ownBlock ≠ some B) : (w.setCell ⟨B, o, none⟩ u).ownsRow base e size v k xs := by
  refine ⟨h.1, ?_⟩
  rcases h.2 with h2 | ⟨g, cap, cur, rfl, h2, h3, h4⟩
  · exact .inl h2
  · exact .inr ⟨g, cap, cur, rfl, h2, (heap_setCell_other w ⟨B, o, none⟩ g u (fun e => hne (by simp [Value.ownBlock]; exact e))).trans h3, h4⟩
theorem val_all {zs : List Cod} (h : valF zs = 0) : zs.length ≤ 40 ∧ ∀ j, j < zs.length → valC zs[j]! = true := by
  unfold valF at h
  split at h
  · cases h
  · split at h
    · rename_i h1 h2
      refine ⟨by omega, fun j hj => ?_⟩
      rw [List.all_eq_true] at h2
      rw [show zs[j]! = zs[j] by simp [hj]]
      exact h2 _ (List.getElem_mem _)
    · cases h
theorem latency_at (op L : Int) (w : World) (h : latF op = L) : Calls Try.prog 33 #[.int .i64 op] w fun e w' => e = .returned (.int .i64 L) ∧ w = w' := by
  subst h
  exact latency_any op w
section
variable {w : World} {A : Option Addr} {n c : Nat} {zs : List Cod}
set_option maxRecDepth 100000 in
set_option maxHeartbeats 4000000 in
theorem issue_tab (h : Tab w A n c zs) (hv : valF zs = 0) : Calls Try.prog 28 #[.slice A n c] w fun e w' => ∃ v, e = .returned v ∧ w'.ownsRow w.heap.size 3 1 v n (iV (issL zs n)) ∧ Below w.heap.size w w' := by
  obtain ⟨i0, hi, hz0, hz1, hz2⟩ := info_parts infoInt
  have HT := Lib.hid h
  have HN := Lib.hid h.shape
  have hcap := h.2.1
  obtain ⟨h40, hval⟩ := val_all hv
  have HVA := Lib.hid hval
  have n40 : n ≤ 40 := by rw [h.shape]; exact h40
  clear h hv h40 hval
  go_enter Try.func28, Try.ntmps28
  go_wp2
  have hb0 : Below w.heap.size w (w.alloc (.cells Try.zeroCells59 59)) := (Below.refl _ _).alloc (Nat.le_refl _) _
  have hr0 := rdy_zero w
  generalize World.alloc w _ = W0 at hb0 hr0 ⊢
  obtain ⟨B, hBB⟩ : ∃ B, B = w.heap.size := ⟨_, rfl⟩
  rw [← hBB] at hr0 ⊢
  have HBB := Lib.hid hBB
  clear hBB
  go_loopw [4, 5, 18] (fun vl zn zi wr => ∃ i : Nat, i ≤ n ∧ zi = .int .i64 (i : Int) ∧ zn = .int .i64 (nxt (issL zs i) i) ∧ wr.ownsRow B 3 1 vl i (iV (issL zs i)) ∧ Below w.heap.size w wr ∧ Hid (Rdy wr B (rdy zs (issL zs i) i))) (fun _ _ zi _ => n - (intOf zi).toNat)
  case atStart => exact ⟨0, by omega, rfl, rfl, World.ownsRow_nil _ _ _ _, hb0, Lib.hid hr0⟩
  case round =>
    clear hb0 hr0
    obtain ⟨i, hin, rfl, rfl, hown, hb, HR⟩ := hrel
    by_cases hlt : i < n
    · obtain ⟨b0, off, rfl, hbs, ht⟩ := (HT.out.below hb).at_ hlt
      have hvx := HVA.out i (by rw [← HN.out]; exact hlt)
      obtain ⟨hcod, hop0, hop1⟩ := val_parts hvx
      obtain ⟨u1, u2, u3, u4', u5'⟩ := use_rd hvx
      have hAT := Lib.hid (show atF zs (issL zs i) i = mxF (nxt (issL zs i) i) (rdy zs (issL zs i) i) (useL zs[i]!) from mx_eq (fun r => by rw [mem_useL, u1]))
      have HUR := Lib.hid (fun r (hr : r ∈ useL zs[i]!) => u2 r (by rw [← u1]; exact mem_useL.1 hr))
      have HRS := Lib.hid (rdy_succ zs i)
      have HNS := Lib.hid (nxt_succ zs i)
      have HIS := Lib.hid (show issL zs (i + 1) = issL zs i ++ [atF zs (issL zs i) i] from rfl)
      obtain ⟨bd1, bd2, bd3, bd4⟩ := iss_bound zs i
      obtain ⟨bt1, bt2, bt3, bt4⟩ := iss_bound zs (i + 1)
      have hatb : 0 ≤ atF zs (issL zs i) i ∧ atF zs (issL zs i) i ≤ 13 * i + 12 := by
        have h1 := HNS.out
        have h2 : nxt (issL zs i) i ≤ atF zs (issL zs i) i := (mx_spec _ _ _).1
        omega
      have hlen : (useL zs[i]!).length ≤ 2 := useL_len _
      have HUS := Lib.hid (fun w1 => Uses_any zs[i]! w1)
      have HDF := Lib.hid (fun w1 => Defines_any zs[i]! w1)
      rw [hcod, show usesR zs[i]! = useL zs[i]! by unfold usesR; rw [hcod]; rfl] at HUS
      rw [show defR zs[i]! = (zs[i]!.d, (shF zs[i]!.op).d, 0) by unfold defR; rw [hcod]; rfl] at HDF
      have hlat := lat_pos zs[i]!.op
      obtain ⟨L, hL⟩ : ∃ L, latF zs[i]!.op = L := ⟨_, rfl⟩
      have HL := Lib.hid hL
      rw [hL] at HRS hlat
      have hnxb : 0 ≤ nxt (issL zs i) i ∧ nxt (issL zs i) i ≤ 13 * i := ⟨bd3, bd4⟩
      have HRB := Lib.hid (fun r => bd2 r)
      clear bd1 bd2 bd3 bd4 bt1 bt2 bt3 bt4 hvx hL hcod u1 u2
      generalize atF zs (issL zs i) i = AT at hAT HRS HNS HIS hatb
      generalize rdy zs (issL zs i) i = f at HR HRS hAT HRB
      generalize nxt (issL zs i) i = nx at hAT hnxb ⊢
      generalize useL zs[i]! = U at hAT HUR hlen HUS
      generalize wrF zs[i]! = wf at u3 u4' u5' HRS
      generalize zs[i]! = x at ht HUS HDF HL u3 u4' u5'
      obtain ⟨op, d, a, b, imm, to⟩ := x
      obtain ⟨c0, c1, c2, c3, c4, c5⟩ := ht
      simp only at c0 c1 c2 c3 c4 c5 HL u3 u4' u5' HDF
      obtain ⟨sd, hsd⟩ : ∃ sd, sd = (shF op).d := ⟨_, rfl⟩
      rw [← hsd] at HDF u3 u4'
      clear hsd
      go_wp2_with fail
      have hx := heap_alloc_new wr (.cells #[.int .i64 op, .int .i64 d, .int .i64 a, .int .i64 b, .int .u32 imm, .int .i64 to] 47)
      have hb1 : Below w.heap.size w (wr.alloc (.cells #[.int .i64 op, .int .i64 d, .int .i64 a, .int .i64 b, .int .u32 imm, .int .i64 to] 47)) := hb.alloc hb.size _
      have HR1 := Lib.hid (HR.out.below ((Below.refl _ _).alloc (Nat.le_refl _) (.cells #[.int .i64 op, .int .i64 d, .int .i64 a, .int .i64 b, .int .u32 imm, .int .i64 to] 47)))
      have hown1 := hown.alloc (.cells #[.int .i64 op, .int .i64 d, .int .i64 a, .int .i64 b, .int .u32 imm, .int .i64 to] 47)
      have hnx : u4.ownBlock ≠ some wr.heap.size := fun h => by have := hown.lt _ h; omega
      generalize World.alloc wr _ = W1 at hx hb1 HR1 hown1 ⊢
      generalize wr.heap.size = X at hx hnx ⊢
      clear c0 c1 c2 c3 c4 c5 hown HR hb
      refine (HUS.out W1).mono ?_
      rintro e w2 ⟨v, rfl, hI, hb2⟩
      replace hx := (hb2.block _ (lt_of_block hx)).trans hx
      have HR2 := Lib.hid (HR1.out.below hb2)
      have hown2 := own_below hown1 hb2
      replace hb1 := hb1.trans (hb2.mono hb1.size)
      obtain ⟨VA, VC, rfl, hI⟩ := hI
      clear hb2 HR1 hown1 HUS
      obtain ⟨n2, hn2⟩ : ∃ n2, n2 = U.length := ⟨_, rfl⟩
      have HN2 := Lib.hid hn2
      rw [← hn2] at hlen hI ⊢
      clear hn2
      have HI := Lib.hid hI
      clear hI
      go_wp2
      go_loopw [10, 30] (fun za zk wr2 => ∃ k : Nat, k ≤ n2 ∧ zk = .int .i64 (k : Int) ∧ za = .int .i64 (mxF nx f (U.take k)) ∧ wr2 = w2) (fun _ zk _ => n2 - (intOf zk).toNat)
      case atStart => exact ⟨0, by omega, rfl, rfl, rfl⟩
      case round =>
        obtain ⟨k, hk, rfl, rfl, rfl⟩ := hrel
        by_cases hk2 : k < n2
        · rcases HI.out with h0 | ⟨g, rfl, hg, hcl⟩
          · omega
          have y0 := hcl k hk2
          have hur := HUR.out U[k]! (by rw [show U[k]! = U[k]'(by rw [← HN2.out]; exact hk2) by simp [HN2.out ▸ hk2]]; exact List.getElem_mem _)
          have HTK := Lib.hid (show mxF nx f (U.take (k + 1)) = max (mxF nx f (U.take k)) (f U[k]!) by
            have hkl : k < U.length := by rw [← HN2.out]; exact hk2
            rw [List.take_succ_eq_append_getElem hkl, mx_snoc, show U[k]! = U[k] by simp [hkl]])
          generalize U[k]! = r at y0 hur HTK
          obtain ⟨rn, rfl⟩ : ∃ rn : Nat, r = (rn : Int) := ⟨r.toNat, by omega⟩
          have hrn : rn < 200 := by omega
          obtain ⟨y1, -⟩ := HR2.out.cell hrn
          generalize mxF nx f (U.take k) = mk at HTK ⊢
          generalize f (rn : Int) = fr at y1 HTK
          clear hcl
          go_wp2
          exact ⟨⟨k + 1, by omega, by go_num, congrArg (Value.int .i64) HTK.out.symm, trivial⟩, by simp [intOf]; omega⟩
        · obtain rfl : k = n2 := by omega
          have hmk : mxF nx f (U.take k) = AT := by rw [hAT, HN2.out, List.take_length]
          rw [hmk]
          obtain ⟨x0, x1, x2, x3, x4, x5⟩ := cells6 hx
          clear hmk hAT HI HUR
          go_wp2_with fail
          refine (HDF.out wr).mono ?_
          rintro e w3 ⟨rfl, hb3⟩
          replace hx := (hb3.block _ (lt_of_block hx)).trans hx
          have HR3 := Lib.hid (HR2.out.below hb3)
          have hown3 := own_below hown2 hb3
          replace hb1 := hb1.trans (hb3.mono hb1.size)
          clear hb3 HR2 hown2 x0 x1 x2 x3 x4 x5 HDF
          obtain ⟨x0, -, -, -, -, -⟩ := cells6 hx
          cases sd
          · have hwf : wf = -1 := by
              rcases u5' with h | ⟨h, h2⟩
              · exact h
              · exfalso
                have := u3.2 (by omega)
                cases this
            have HR4 := Lib.hid (show Rdy w3 B (rdy zs (issL zs (i + 1)) (i + 1)) by
              obtain ⟨arr, a1, a2, a3⟩ := HR3.out
              refine ⟨arr, a1, a2, fun r hr => ?_⟩
              rw [HRS.out, hwf, if_neg (by omega)]
              exact a3 r hr)
            clear HR3 HRS hwf u3 u4' u5'
            go_wp2_with (at_builtin; refine wpList_append_own _ rfl _ _ 25 rfl B 3 i0 (.int .i64 0) 1 8 Try.underlying25 hi hz0 hz1 hz2 rfl (by decide) _ i _ rfl (hown3.alloc _) ⟨w3.heap.size, 0, none⟩ 1 1 [.int .i64 AT] rfl rfl ?p1 ?p2 ?p3 ?p4 ?p5 ?_)
            case p1 => exact one_new w3 _ _
            case p2 => simp [Value.oneCell']
            case p3 => unfold maxLen; omega
            case p4 => omega
            case p5 => have := hb1.size; have := HBB.out; simp; omega
            intro v7 w7 hown7 hgrow _
            have hb7 : Below w.heap.size w w7 := (hb1.alloc hb1.size _).grown hgrow (by have := hb1.size; simp; omega) (fun g hg => HBB.out ▸ own_base (hown3.alloc (.cells #[.int .i64 AT] 3)) g hg)
            have HR7 := Lib.hid (show Rdy w7 B (rdy zs (issL zs (i + 1)) (i + 1)) by
              obtain ⟨arr, a1, a2⟩ := HR4.out
              exact ⟨arr, grown_block hgrow ((heap_alloc_old w3 _ (lt_of_block a1)).trans a1) (own_tag hown3 a1 (by decide)), a2⟩)
            have HO7 := Lib.hid (show w7.ownsRow B 3 1 v7 (i + 1) (iV (issL zs (i + 1))) by
              rw [HIS.out, show iV (issL zs i ++ [AT]) = iV (issL zs i) ++ [.int .i64 AT] by simp [iV]]
              exact hown7)
            clear hown3 hown7 hgrow HR4 x0 hx hb1
            go_wp2
            go_roundw
            case rel => exact ⟨i + 1, by omega, by go_num, congrArg (Value.int .i64) HNS.out.symm, HO7.out, hb7, HR7⟩
            case measure => simp [intOf]; omega
          · obtain ⟨hwd, hd0, hd1⟩ := u4' rfl
            obtain ⟨D, rfl⟩ : ∃ D : Nat, d = (D : Int) := ⟨d.toNat, by omega⟩
            have hD : D < 200 := by omega
            obtain ⟨y1, y2⟩ := HR3.out.cell hD
            have HR4 := Lib.hid (show Rdy (w3.setCell ⟨B, D, none⟩ (.int .i64 (AT + L))) B (rdy zs (issL zs (i + 1)) (i + 1)) from HR3.out.set hD (AT + L) (fun r hr => by
              rw [HRS.out, hwd]
              by_cases hrD : r = D
              · rw [if_pos hrD, if_pos (by omega)]
              · rw [if_neg hrD, if_neg (by omega)]))
            have hne3 : u4.ownBlock ≠ some B := by
              obtain ⟨arr, a1, a2⟩ := HR3.out
              exact own_tag hown3 a1 (by decide)
            replace hown3 := own_setOther hown3 (B := B) (o := D) (.int .i64 (AT + L)) hne3
            have hb4 : Below w.heap.size w (w3.setCell ⟨B, D, none⟩ (.int .i64 (AT + L))) := hb1.setCell (show w.heap.size ≤ B by have := HBB.out; omega) _
            clear HR3 HRS hwd u3 u4' u5' hb1 hne3
            go_upto_region 17 with (go_at_call 33; ((with_reducible refine (latency_at op L _ HL.out).mono ?_); rintro e w' ⟨rfl, rfl⟩))
            clear y1 y2
            generalize World.setCell w3 _ _ = W4 at HR4 hown3 hb4 ⊢
            have hb1 := hb4
            clear hb4
            go_wp2_with (at_builtin; refine wpList_append_own _ rfl _ _ 25 rfl B 3 i0 (.int .i64 0) 1 8 Try.underlying25 hi hz0 hz1 hz2 rfl (by decide) _ i _ rfl (hown3.alloc _) ⟨W4.heap.size, 0, none⟩ 1 1 [.int .i64 AT] rfl rfl ?q1 ?q2 ?q3 ?q4 ?q5 ?_)
            case q1 => exact one_new W4 _ _
            case q2 => simp [Value.oneCell']
            case q3 => unfold maxLen; omega
            case q4 => omega
            case q5 => have := hb1.size; have := HBB.out; simp; omega
            intro v7 w7 hown7 hgrow _
            have hb7 : Below w.heap.size w w7 := (hb1.alloc hb1.size _).grown hgrow (by have := hb1.size; simp; omega) (fun g hg => HBB.out ▸ own_base (hown3.alloc (.cells #[.int .i64 AT] 3)) g hg)
            have HR7 := Lib.hid (show Rdy w7 B (rdy zs (issL zs (i + 1)) (i + 1)) by
              obtain ⟨arr, a1, a2⟩ := HR4.out
              exact ⟨arr, grown_block hgrow ((heap_alloc_old W4 _ (lt_of_block a1)).trans a1) (own_tag hown3 a1 (by decide)), a2⟩)
            have HO7 := Lib.hid (show w7.ownsRow B 3 1 v7 (i + 1) (iV (issL zs (i + 1))) by
              rw [HIS.out, show iV (issL zs i ++ [AT]) = iV (issL zs i) ++ [.int .i64 AT] by simp [iV]]
              exact hown7)
            clear hown3 hown7 hgrow HR4 x0 hx hb1
            go_wp2
            go_roundw
            case rel => exact ⟨i + 1, by omega, by go_num, congrArg (Value.int .i64) HNS.out.symm, HO7.out, hb7, HR7⟩
            case measure => simp [intOf]; omega
    · obtain rfl : i = n := by omega
      rw [HBB.out] at hown
      go_wp2
      go_ret
      exact ⟨_, rfl, hown, hb⟩
end
end Go.Proofs.Ytjlacdnkncgpaaa
