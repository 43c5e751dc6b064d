/-
  depends of the reference.
-/
import Derived.Test.YtjlacdnkncgpaaaTmR
import Derived.BigRegion
namespace Go.Proofs.Ytjlacdnkncgpaaa
open Go.RowKit

/-- Whether an instruction depends on one before it, to the reference. -/
def depR (x y : Cod) : Bool := decide (0 ≤ wrF x) && (memB (rdF y) (wrF x) || (wrF y == wrF x)) || decide (0 ≤ wrF y) && memB (rdF x) (wrF y) || inB x.op 18 23 && inB y.op 18 23 && (inB x.op 21 23 || inB y.op 21 23)
theorem has_at {w : World} {v : Value} {l : List Int} (x : Int) (B : Bool) (h : IntsAt w v l) (hl : l.length ≤ 1000) (hB : memB l x = B) :
    Calls Try.prog 55 #[v, .int .i64 x] w fun e w' => e = .returned (.bool B) ∧ w = w' := by
  subst hB
  exact has_any x h hl
theorem rdF_len (x : Cod) : (rdF x).length ≤ 1000 := by
  unfold rdF
  repeat (first | split | simp)
theorem writes_at2 (x : Cod) (y : Int) (w : World) (h : wrF x = y) : Calls Try.prog 47 #[aggC x] w fun e w' => e = .returned (.int .i64 y) ∧ Below w.heap.size w w' := by
  subst h
  exact writes_any x w
set_option maxRecDepth 100000 in
set_option maxHeartbeats 8000000 in
theorem refDepends_any (x y : Cod) (w : World) : Calls Try.prog 38 #[aggC x, aggC y] w fun e w' => e = .returned (.bool (depR x y)) ∧ Below w.heap.size w w' := by
  have HT := Lib.hid (show depR x y = (decide (0 ≤ wrF x) && (memB (rdF y) (wrF x) || (wrF y == wrF x)) || decide (0 ≤ wrF y) && memB (rdF x) (wrF y) || inB x.op 18 23 && inB y.op 18 23 && (inB x.op 21 23 || inB y.op 21 23)) from rfl)
  have HR1 := Lib.hid (fun w1 => reads_any x w1)
  have HR2 := Lib.hid (fun w1 => reads_any y w1)
  have HW1 := Lib.hid (fun w1 => writes_at2 x _ w1 rfl)
  have HW2 := Lib.hid (fun w1 => writes_at2 y _ w1 rfl)
  have HSX := Lib.hid (fun w1 => refIsStore_at x.op _ w1 rfl)
  have HSY := Lib.hid (fun w1 => refIsStore_at y.op _ w1 rfl)
  have HMX := Lib.hid (fun w1 => refIsMemory_at x.op _ w1 rfl)
  have HMY := Lib.hid (fun w1 => refIsMemory_at y.op _ w1 rfl)
  have HL1 := Lib.hid (rdF_len x)
  have HL2 := Lib.hid (rdF_len y)
  obtain ⟨q, hq⟩ : ∃ q, memB (rdF y) (wrF x) = q := ⟨_, rfl⟩
  obtain ⟨s, hs⟩ : ∃ s, memB (rdF x) (wrF y) = s := ⟨_, rfl⟩
  rw [hq, hs] at HT
  have HQ := Lib.hid hq
  have HS := Lib.hid hs
  clear hq hs
  generalize depR x y = T at HT ⊢
  generalize rdF x = U1 at HR1 HL1 HS
  generalize rdF y = U2 at HR2 HL2 HQ
  generalize wrF x = wx at HT HW1 HQ
  generalize wrF y = wy at HT HW2 HS
  generalize inB x.op 21 23 = sx at HT HSX
  generalize inB x.op 18 23 = mx at HT HMX
  generalize inB y.op 21 23 = sy at HT HSY
  generalize inB y.op 18 23 = my at HT HMY
  obtain ⟨xop, xd, xa, xb, xi, xt⟩ := x
  obtain ⟨yop, yd, ya, yb, yi, yt⟩ := y
  simp only at HT HR1 HR2 HW1 HW2 HSX HSY HMX HMY HQ HS
  go_enter Try.func38, Try.ntmps38
  go_wp2_with fail
  have hx0 := heap_alloc_new w (.cells #[.int .i64 xop, .int .i64 xd, .int .i64 xa, .int .i64 xb, .int .u32 xi, .int .i64 xt] 47)
  have hx := (heap_alloc_old (w.alloc (.cells #[.int .i64 xop, .int .i64 xd, .int .i64 xa, .int .i64 xb, .int .u32 xi, .int .i64 xt] 47)) (.cells #[.int .i64 yop, .int .i64 yd, .int .i64 ya, .int .i64 yb, .int .u32 yi, .int .i64 yt] 47) (lt_of_block hx0)).trans hx0
  have hy := heap_alloc_new (w.alloc (.cells #[.int .i64 xop, .int .i64 xd, .int .i64 xa, .int .i64 xb, .int .u32 xi, .int .i64 xt] 47)) (.cells #[.int .i64 yop, .int .i64 yd, .int .i64 ya, .int .i64 yb, .int .u32 yi, .int .i64 yt] 47)
  rw [show (w.alloc (.cells #[.int .i64 xop, .int .i64 xd, .int .i64 xa, .int .i64 xb, .int .u32 xi, .int .i64 xt] 47)).heap.size = w.heap.size + 1 by simp] at hy
  have hb : Below w.heap.size w ((w.alloc (.cells #[.int .i64 xop, .int .i64 xd, .int .i64 xa, .int .i64 xb, .int .u32 xi, .int .i64 xt] 47)).alloc (.cells #[.int .i64 yop, .int .i64 yd, .int .i64 ya, .int .i64 yb, .int .u32 yi, .int .i64 yt] 47)) := ((Below.refl _ _).alloc (Nat.le_refl _) _).alloc (by simp) _
  generalize hW : ((w.alloc (.cells #[.int .i64 xop, .int .i64 xd, .int .i64 xa, .int .i64 xb, .int .u32 xi, .int .i64 xt] 47)).alloc (.cells #[.int .i64 yop, .int .i64 yd, .int .i64 ya, .int .i64 yb, .int .u32 yi, .int .i64 yt] 47)) = W at hx hy hb ⊢
  clear hW hx0
  generalize hY : w.heap.size + 1 = Y at hy ⊢
  obtain ⟨X, hX⟩ : ∃ X, X = w.heap.size := ⟨_, rfl⟩
  rw [← hX] at hx ⊢
  clear hY hX
  obtain ⟨x0, x1, x2, x3, x4, x5⟩ := cells6 hx
  obtain ⟨y0, y1, y2, y3, y4, y5⟩ := cells6 hy
  have Tx0 := cell_regrown x0
  have Tx1 := cell_regrown x1
  have Tx2 := cell_regrown x2
  have Tx3 := cell_regrown x3
  have Tx4 := cell_regrown x4
  have Tx5 := cell_regrown x5
  have Ty0 := cell_regrown y0
  have Ty1 := cell_regrown y1
  have Ty2 := cell_regrown y2
  have Ty3 := cell_regrown y3
  have Ty4 := cell_regrown y4
  have Ty5 := cell_regrown y5
  clear x0 x1 x2 x3 x4 x5 y0 y1 y2 y3 y4 y5
  refine wp_region_quiet_below (by kernel_rfl) (by kernel_rfl) ?_
  have Q1 := Lib.hid (show ∀ (dr : Nat) (os : Array Obj), Calls Try.prog 47 #[aggC ⟨xop, xd, xa, xb, xi, xt⟩] (Sort.grow (redrawn W dr) os) fun e w'' => e = .returned (.int .i64 wx) ∧ ∃ p : Regrown, w'' = Sort.grow (redrawn W p.d) p.os from fun dr os => Calls.regrown_of (HW1.out _))
  have Q2 := Lib.hid (show ∀ (dr : Nat) (os : Array Obj), Calls Try.prog 47 #[aggC ⟨yop, yd, ya, yb, yi, yt⟩] (Sort.grow (redrawn W dr) os) fun e w'' => e = .returned (.int .i64 wy) ∧ ∃ p : Regrown, w'' = Sort.grow (redrawn W p.d) p.os from fun dr os => Calls.regrown_of (HW2.out _))
  iterate 6 (go_big_quiet_step ((go_at_call 47; first | (with_reducible exact Q1.out _ _) | (with_reducible exact Q2.out _ _))))
  refine wpQuiet_nil ?_
  intro _ hw'
  obtain ⟨⟨dq, osq⟩, hw''⟩ := hw'
  subst hw''
  have hbq := below_regrown W dq osq
  replace hx := (hbq.block _ (lt_of_block hx)).trans hx
  replace hy := (hbq.block _ (lt_of_block hy)).trans hy
  replace hb := hb.trans (hbq.mono hb.size)
  generalize Sort.grow (redrawn W dq) osq = W3 at hx hy hb ⊢
  clear hbq Tx0 Tx1 Tx2 Tx3 Tx4 Tx5 Ty0 Ty1 Ty2 Ty3 Ty4 Ty5 HW1 HW2 Q1 Q2
  by_cases hwx : 0 ≤ wx
  · have EA := Lib.hid (show decide (0 ≤ wx) = true from decide_eq_true hwx)
    obtain ⟨y0, y1, y2, y3, y4, y5⟩ := cells6 hy
    go_wp2_with fail
    clear y0 y1 y2 y3 y4 y5
    refine (HR2.out _).mono ?_
    rintro e w5 ⟨v5, rfl, h5, hb5⟩
    replace hx := (hb5.block _ (lt_of_block hx)).trans hx
    replace hy := (hb5.block _ (lt_of_block hy)).trans hy
    replace hb := hb.trans (hb5.mono hb.size)
    clear hb5
    go_wp2_with fail
    refine (has_at wx _ h5 HL2.out HQ.out).mono ?_
    rintro e w6 ⟨rfl, rfl⟩
    clear h5
    cases q
    · by_cases hq2 : wy = wx
      · subst hq2
        have EB := Lib.hid (rfl : decide (0 ≤ wy) = decide (0 ≤ wy))
        have EQQ := Lib.hid (show (wy == wy) = true from beq_self_eq_true wy)
        have deq := EQQ.out
        go_wp2
        go_ret
        exact ⟨ret_b (by rw [HT.out]; simp [EA.out, EB.out, EQQ.out]), hb⟩
      · have EQQ := Lib.hid (show (wy == wx) = false from beq_false_of_ne hq2)
        have deq := EQQ.out
        by_cases hwy : 0 ≤ wy
        · have EB := Lib.hid (show decide (0 ≤ wy) = true from decide_eq_true hwy)
          obtain ⟨x0, x1, x2, x3, x4, x5⟩ := cells6 hx
          go_wp2_with fail
          clear x0 x1 x2 x3 x4 x5
          refine (HR1.out _).mono ?_
          rintro e w5 ⟨v5, rfl, h5, hb5⟩
          replace hx := (hb5.block _ (lt_of_block hx)).trans hx
          replace hy := (hb5.block _ (lt_of_block hy)).trans hy
          replace hb := hb.trans (hb5.mono hb.size)
          clear hb5
          go_wp2_with fail
          refine (has_at wy _ h5 HL1.out HS.out).mono ?_
          rintro e w6 ⟨rfl, rfl⟩
          clear h5
          cases s
          · obtain ⟨x0, -, -, -, -, -⟩ := cells6 hx
            obtain ⟨y0, -, -, -, -, -⟩ := cells6 hy
            clear hx hy
            cases mx
            · go_wp2_with (first | (go_at_call 51; ((with_reducible refine (HSX.out _).mono ?_); rintro e w9 ⟨rfl, rfl⟩)) | (go_at_call 51; ((with_reducible refine (HSY.out _).mono ?_); rintro e w9 ⟨rfl, rfl⟩)) | (go_at_call 56; ((with_reducible refine (HMX.out _).mono ?_); rintro e w9 ⟨rfl, rfl⟩)) | (go_at_call 56; ((with_reducible refine (HMY.out _).mono ?_); rintro e w9 ⟨rfl, rfl⟩)))
              go_ret
              exact ⟨ret_b (by rw [HT.out]; simp [EA.out, EB.out, EQQ.out]), hb⟩
            · cases my
              · go_wp2_with (first | (go_at_call 51; ((with_reducible refine (HSX.out _).mono ?_); rintro e w9 ⟨rfl, rfl⟩)) | (go_at_call 51; ((with_reducible refine (HSY.out _).mono ?_); rintro e w9 ⟨rfl, rfl⟩)) | (go_at_call 56; ((with_reducible refine (HMX.out _).mono ?_); rintro e w9 ⟨rfl, rfl⟩)) | (go_at_call 56; ((with_reducible refine (HMY.out _).mono ?_); rintro e w9 ⟨rfl, rfl⟩)))
                go_ret
                exact ⟨ret_b (by rw [HT.out]; simp [EA.out, EB.out, EQQ.out]), hb⟩
              · cases sx
                · cases sy
                  · go_wp2_with (first | (go_at_call 51; ((with_reducible refine (HSX.out _).mono ?_); rintro e w9 ⟨rfl, rfl⟩)) | (go_at_call 51; ((with_reducible refine (HSY.out _).mono ?_); rintro e w9 ⟨rfl, rfl⟩)) | (go_at_call 56; ((with_reducible refine (HMX.out _).mono ?_); rintro e w9 ⟨rfl, rfl⟩)) | (go_at_call 56; ((with_reducible refine (HMY.out _).mono ?_); rintro e w9 ⟨rfl, rfl⟩)))
                    go_ret
                    exact ⟨ret_b (by rw [HT.out]; simp [EA.out, EB.out, EQQ.out]), hb⟩
                  · go_wp2_with (first | (go_at_call 51; ((with_reducible refine (HSX.out _).mono ?_); rintro e w9 ⟨rfl, rfl⟩)) | (go_at_call 51; ((with_reducible refine (HSY.out _).mono ?_); rintro e w9 ⟨rfl, rfl⟩)) | (go_at_call 56; ((with_reducible refine (HMX.out _).mono ?_); rintro e w9 ⟨rfl, rfl⟩)) | (go_at_call 56; ((with_reducible refine (HMY.out _).mono ?_); rintro e w9 ⟨rfl, rfl⟩)))
                    go_ret
                    exact ⟨ret_b (by rw [HT.out]; simp [EA.out, EB.out, EQQ.out]), hb⟩
                · go_wp2_with (first | (go_at_call 51; ((with_reducible refine (HSX.out _).mono ?_); rintro e w9 ⟨rfl, rfl⟩)) | (go_at_call 51; ((with_reducible refine (HSY.out _).mono ?_); rintro e w9 ⟨rfl, rfl⟩)) | (go_at_call 56; ((with_reducible refine (HMX.out _).mono ?_); rintro e w9 ⟨rfl, rfl⟩)) | (go_at_call 56; ((with_reducible refine (HMY.out _).mono ?_); rintro e w9 ⟨rfl, rfl⟩)))
                  go_ret
                  exact ⟨ret_b (by rw [HT.out]; simp [EA.out, EB.out, EQQ.out]), hb⟩
          · go_wp2
            go_ret
            exact ⟨ret_b (by rw [HT.out]; simp [EA.out, EB.out, EQQ.out]), hb⟩
        · have EB := Lib.hid (show decide (0 ≤ wy) = false from decide_eq_false hwy)
          have hwy2 : wy < 0 := by omega
          obtain ⟨x0, -, -, -, -, -⟩ := cells6 hx
          obtain ⟨y0, -, -, -, -, -⟩ := cells6 hy
          clear hx hy
          cases mx
          · go_wp2_with (first | (go_at_call 51; ((with_reducible refine (HSX.out _).mono ?_); rintro e w9 ⟨rfl, rfl⟩)) | (go_at_call 51; ((with_reducible refine (HSY.out _).mono ?_); rintro e w9 ⟨rfl, rfl⟩)) | (go_at_call 56; ((with_reducible refine (HMX.out _).mono ?_); rintro e w9 ⟨rfl, rfl⟩)) | (go_at_call 56; ((with_reducible refine (HMY.out _).mono ?_); rintro e w9 ⟨rfl, rfl⟩)))
            go_ret
            exact ⟨ret_b (by rw [HT.out]; simp [EA.out, EB.out, EQQ.out]), hb⟩
          · cases my
            · go_wp2_with (first | (go_at_call 51; ((with_reducible refine (HSX.out _).mono ?_); rintro e w9 ⟨rfl, rfl⟩)) | (go_at_call 51; ((with_reducible refine (HSY.out _).mono ?_); rintro e w9 ⟨rfl, rfl⟩)) | (go_at_call 56; ((with_reducible refine (HMX.out _).mono ?_); rintro e w9 ⟨rfl, rfl⟩)) | (go_at_call 56; ((with_reducible refine (HMY.out _).mono ?_); rintro e w9 ⟨rfl, rfl⟩)))
              go_ret
              exact ⟨ret_b (by rw [HT.out]; simp [EA.out, EB.out, EQQ.out]), hb⟩
            · cases sx
              · cases sy
                · go_wp2_with (first | (go_at_call 51; ((with_reducible refine (HSX.out _).mono ?_); rintro e w9 ⟨rfl, rfl⟩)) | (go_at_call 51; ((with_reducible refine (HSY.out _).mono ?_); rintro e w9 ⟨rfl, rfl⟩)) | (go_at_call 56; ((with_reducible refine (HMX.out _).mono ?_); rintro e w9 ⟨rfl, rfl⟩)) | (go_at_call 56; ((with_reducible refine (HMY.out _).mono ?_); rintro e w9 ⟨rfl, rfl⟩)))
                  go_ret
                  exact ⟨ret_b (by rw [HT.out]; simp [EA.out, EB.out, EQQ.out]), hb⟩
                · go_wp2_with (first | (go_at_call 51; ((with_reducible refine (HSX.out _).mono ?_); rintro e w9 ⟨rfl, rfl⟩)) | (go_at_call 51; ((with_reducible refine (HSY.out _).mono ?_); rintro e w9 ⟨rfl, rfl⟩)) | (go_at_call 56; ((with_reducible refine (HMX.out _).mono ?_); rintro e w9 ⟨rfl, rfl⟩)) | (go_at_call 56; ((with_reducible refine (HMY.out _).mono ?_); rintro e w9 ⟨rfl, rfl⟩)))
                  go_ret
                  exact ⟨ret_b (by rw [HT.out]; simp [EA.out, EB.out, EQQ.out]), hb⟩
              · go_wp2_with (first | (go_at_call 51; ((with_reducible refine (HSX.out _).mono ?_); rintro e w9 ⟨rfl, rfl⟩)) | (go_at_call 51; ((with_reducible refine (HSY.out _).mono ?_); rintro e w9 ⟨rfl, rfl⟩)) | (go_at_call 56; ((with_reducible refine (HMX.out _).mono ?_); rintro e w9 ⟨rfl, rfl⟩)) | (go_at_call 56; ((with_reducible refine (HMY.out _).mono ?_); rintro e w9 ⟨rfl, rfl⟩)))
                go_ret
                exact ⟨ret_b (by rw [HT.out]; simp [EA.out, EB.out, EQQ.out]), hb⟩
    · have EB := Lib.hid (rfl : decide (0 ≤ wy) = decide (0 ≤ wy))
      have EQQ := Lib.hid (rfl : (wy == wx) = (wy == wx))
      go_wp2
      go_ret
      exact ⟨ret_b (by rw [HT.out]; simp [EA.out, EB.out, EQQ.out]), hb⟩
  · have EA := Lib.hid (show decide (0 ≤ wx) = false from decide_eq_false hwx)
    have hwx2 : wx < 0 := by omega
    have EQQ := Lib.hid (rfl : (wy == wx) = (wy == wx))
    by_cases hwy : 0 ≤ wy
    · have EB := Lib.hid (show decide (0 ≤ wy) = true from decide_eq_true hwy)
      obtain ⟨x0, x1, x2, x3, x4, x5⟩ := cells6 hx
      go_wp2_with fail
      clear x0 x1 x2 x3 x4 x5
      refine (HR1.out _).mono ?_
      rintro e w5 ⟨v5, rfl, h5, hb5⟩
      replace hx := (hb5.block _ (lt_of_block hx)).trans hx
      replace hy := (hb5.block _ (lt_of_block hy)).trans hy
      replace hb := hb.trans (hb5.mono hb.size)
      clear hb5
      go_wp2_with fail
      refine (has_at wy _ h5 HL1.out HS.out).mono ?_
      rintro e w6 ⟨rfl, rfl⟩
      clear h5
      cases s
      · obtain ⟨x0, -, -, -, -, -⟩ := cells6 hx
        obtain ⟨y0, -, -, -, -, -⟩ := cells6 hy
        clear hx hy
        cases mx
        · go_wp2_with (first | (go_at_call 51; ((with_reducible refine (HSX.out _).mono ?_); rintro e w9 ⟨rfl, rfl⟩)) | (go_at_call 51; ((with_reducible refine (HSY.out _).mono ?_); rintro e w9 ⟨rfl, rfl⟩)) | (go_at_call 56; ((with_reducible refine (HMX.out _).mono ?_); rintro e w9 ⟨rfl, rfl⟩)) | (go_at_call 56; ((with_reducible refine (HMY.out _).mono ?_); rintro e w9 ⟨rfl, rfl⟩)))
          go_ret
          exact ⟨ret_b (by rw [HT.out]; simp [EA.out, EB.out, EQQ.out]), hb⟩
        · cases my
          · go_wp2_with (first | (go_at_call 51; ((with_reducible refine (HSX.out _).mono ?_); rintro e w9 ⟨rfl, rfl⟩)) | (go_at_call 51; ((with_reducible refine (HSY.out _).mono ?_); rintro e w9 ⟨rfl, rfl⟩)) | (go_at_call 56; ((with_reducible refine (HMX.out _).mono ?_); rintro e w9 ⟨rfl, rfl⟩)) | (go_at_call 56; ((with_reducible refine (HMY.out _).mono ?_); rintro e w9 ⟨rfl, rfl⟩)))
            go_ret
            exact ⟨ret_b (by rw [HT.out]; simp [EA.out, EB.out, EQQ.out]), hb⟩
          · cases sx
            · cases sy
              · go_wp2_with (first | (go_at_call 51; ((with_reducible refine (HSX.out _).mono ?_); rintro e w9 ⟨rfl, rfl⟩)) | (go_at_call 51; ((with_reducible refine (HSY.out _).mono ?_); rintro e w9 ⟨rfl, rfl⟩)) | (go_at_call 56; ((with_reducible refine (HMX.out _).mono ?_); rintro e w9 ⟨rfl, rfl⟩)) | (go_at_call 56; ((with_reducible refine (HMY.out _).mono ?_); rintro e w9 ⟨rfl, rfl⟩)))
                go_ret
                exact ⟨ret_b (by rw [HT.out]; simp [EA.out, EB.out, EQQ.out]), hb⟩
              · go_wp2_with (first | (go_at_call 51; ((with_reducible refine (HSX.out _).mono ?_); rintro e w9 ⟨rfl, rfl⟩)) | (go_at_call 51; ((with_reducible refine (HSY.out _).mono ?_); rintro e w9 ⟨rfl, rfl⟩)) | (go_at_call 56; ((with_reducible refine (HMX.out _).mono ?_); rintro e w9 ⟨rfl, rfl⟩)) | (go_at_call 56; ((with_reducible refine (HMY.out _).mono ?_); rintro e w9 ⟨rfl, rfl⟩)))
                go_ret
                exact ⟨ret_b (by rw [HT.out]; simp [EA.out, EB.out, EQQ.out]), hb⟩
            · go_wp2_with (first | (go_at_call 51; ((with_reducible refine (HSX.out _).mono ?_); rintro e w9 ⟨rfl, rfl⟩)) | (go_at_call 51; ((with_reducible refine (HSY.out _).mono ?_); rintro e w9 ⟨rfl, rfl⟩)) | (go_at_call 56; ((with_reducible refine (HMX.out _).mono ?_); rintro e w9 ⟨rfl, rfl⟩)) | (go_at_call 56; ((with_reducible refine (HMY.out _).mono ?_); rintro e w9 ⟨rfl, rfl⟩)))
              go_ret
              exact ⟨ret_b (by rw [HT.out]; simp [EA.out, EB.out, EQQ.out]), hb⟩
      · go_wp2
        go_ret
        exact ⟨ret_b (by rw [HT.out]; simp [EA.out, EB.out, EQQ.out]), hb⟩
    · have EB := Lib.hid (show decide (0 ≤ wy) = false from decide_eq_false hwy)
      have hwy2 : wy < 0 := by omega
      obtain ⟨x0, -, -, -, -, -⟩ := cells6 hx
      obtain ⟨y0, -, -, -, -, -⟩ := cells6 hy
      clear hx hy
      cases mx
      · go_wp2_with (first | (go_at_call 51; ((with_reducible refine (HSX.out _).mono ?_); rintro e w9 ⟨rfl, rfl⟩)) | (go_at_call 51; ((with_reducible refine (HSY.out _).mono ?_); rintro e w9 ⟨rfl, rfl⟩)) | (go_at_call 56; ((with_reducible refine (HMX.out _).mono ?_); rintro e w9 ⟨rfl, rfl⟩)) | (go_at_call 56; ((with_reducible refine (HMY.out _).mono ?_); rintro e w9 ⟨rfl, rfl⟩)))
        go_ret
        exact ⟨ret_b (by rw [HT.out]; simp [EA.out, EB.out, EQQ.out]), hb⟩
      · cases my
        · go_wp2_with (first | (go_at_call 51; ((with_reducible refine (HSX.out _).mono ?_); rintro e w9 ⟨rfl, rfl⟩)) | (go_at_call 51; ((with_reducible refine (HSY.out _).mono ?_); rintro e w9 ⟨rfl, rfl⟩)) | (go_at_call 56; ((with_reducible refine (HMX.out _).mono ?_); rintro e w9 ⟨rfl, rfl⟩)) | (go_at_call 56; ((with_reducible refine (HMY.out _).mono ?_); rintro e w9 ⟨rfl, rfl⟩)))
          go_ret
          exact ⟨ret_b (by rw [HT.out]; simp [EA.out, EB.out, EQQ.out]), hb⟩
        · cases sx
          · cases sy
            · go_wp2_with (first | (go_at_call 51; ((with_reducible refine (HSX.out _).mono ?_); rintro e w9 ⟨rfl, rfl⟩)) | (go_at_call 51; ((with_reducible refine (HSY.out _).mono ?_); rintro e w9 ⟨rfl, rfl⟩)) | (go_at_call 56; ((with_reducible refine (HMX.out _).mono ?_); rintro e w9 ⟨rfl, rfl⟩)) | (go_at_call 56; ((with_reducible refine (HMY.out _).mono ?_); rintro e w9 ⟨rfl, rfl⟩)))
              go_ret
              exact ⟨ret_b (by rw [HT.out]; simp [EA.out, EB.out, EQQ.out]), hb⟩
            · go_wp2_with (first | (go_at_call 51; ((with_reducible refine (HSX.out _).mono ?_); rintro e w9 ⟨rfl, rfl⟩)) | (go_at_call 51; ((with_reducible refine (HSY.out _).mono ?_); rintro e w9 ⟨rfl, rfl⟩)) | (go_at_call 56; ((with_reducible refine (HMX.out _).mono ?_); rintro e w9 ⟨rfl, rfl⟩)) | (go_at_call 56; ((with_reducible refine (HMY.out _).mono ?_); rintro e w9 ⟨rfl, rfl⟩)))
              go_ret
              exact ⟨ret_b (by rw [HT.out]; simp [EA.out, EB.out, EQQ.out]), hb⟩
          · go_wp2_with (first | (go_at_call 51; ((with_reducible refine (HSX.out _).mono ?_); rintro e w9 ⟨rfl, rfl⟩)) | (go_at_call 51; ((with_reducible refine (HSY.out _).mono ?_); rintro e w9 ⟨rfl, rfl⟩)) | (go_at_call 56; ((with_reducible refine (HMX.out _).mono ?_); rintro e w9 ⟨rfl, rfl⟩)) | (go_at_call 56; ((with_reducible refine (HMY.out _).mono ?_); rintro e w9 ⟨rfl, rfl⟩)))
            go_ret
            exact ⟨ret_b (by rw [HT.out]; simp [EA.out, EB.out, EQQ.out]), hb⟩
end Go.Proofs.Ytjlacdnkncgpaaa
