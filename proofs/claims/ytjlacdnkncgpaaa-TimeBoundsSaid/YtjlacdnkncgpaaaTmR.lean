/-
  depends of package time.
-/
import Derived.Test.YtjlacdnkncgpaaaTmQ
namespace Go.Proofs.Ytjlacdnkncgpaaa
open Go.RowKit

/-- Whether an instruction depends on one before it. -/
def depP (x y : Cod) : Bool := (shF x.op).d && memB (useL y) x.d || (shF y.op).d && (memB (useL x) y.d || (shF x.op).d && (x.d == y.d)) || inB x.op 21 23 && (inB y.op 18 20 || inB y.op 21 23) || inB x.op 18 20 && inB y.op 21 23
theorem contains_at {w : World} {v : Value} {l : List Int} (x : Int) (B : Bool) (h : IntsAt w v l) (hl : l.length ≤ 2) (hB : memB l x = B) :
    Calls Try.prog 52 #[v, .int .i64 x] w fun e w' => e = .returned (.bool B) ∧ w = w' := by
  subst hB
  exact contains_any x h (by omega)
set_option maxRecDepth 100000 in
set_option maxHeartbeats 8000000 in
theorem depends_any (x y : Cod) (w : World) (hx : codB x = true) (hy : codB y = true) : Calls Try.prog 37 #[aggC x, aggC y] w fun e w' => e = .returned (.bool (depP x y)) ∧ Below w.heap.size w w' := by
  have HT := Lib.hid (show depP x y = ((shF x.op).d && memB (useL y) x.d || (shF y.op).d && (memB (useL x) y.d || (shF x.op).d && (x.d == y.d)) || inB x.op 21 23 && (inB y.op 18 20 || inB y.op 21 23) || inB x.op 18 20 && inB y.op 21 23) from rfl)
  have HU1 := Lib.hid (fun w1 => Uses_any x w1)
  have HU2 := Lib.hid (fun w1 => Uses_any y w1)
  have HD1 := Lib.hid (fun w1 => Defines_any x w1)
  have HD2 := Lib.hid (fun w1 => Defines_any y w1)
  rw [hx, show usesR x = useL x by unfold usesR; rw [hx]; rfl] at HU1
  rw [hy, show usesR y = useL y by unfold usesR; rw [hy]; rfl] at HU2
  rw [show defR x = (x.d, (shF x.op).d, 0) by unfold defR; rw [hx]; rfl] at HD1
  rw [show defR y = (y.d, (shF y.op).d, 0) by unfold defR; rw [hy]; rfl] at HD2
  have l1 := useL_len x
  have l2 := useL_len y
  have HSX := Lib.hid (fun w1 => isStore_at x.op _ w1 rfl)
  have HSY := Lib.hid (fun w1 => isStore_at y.op _ w1 rfl)
  have HLX := Lib.hid (fun w1 => isLoad_at x.op _ w1 rfl)
  have HLY := Lib.hid (fun w1 => isLoad_at y.op _ w1 rfl)
  have HL1 := Lib.hid l1
  have HL2 := Lib.hid l2
  have HQ := Lib.hid (rfl : memB (useL y) x.d = memB (useL y) x.d)
  have HS := Lib.hid (rfl : memB (useL x) y.d = memB (useL x) y.d)
  obtain ⟨q, hq⟩ : ∃ q, memB (useL y) x.d = q := ⟨_, rfl⟩
  obtain ⟨s, hs⟩ : ∃ s, memB (useL x) y.d = s := ⟨_, rfl⟩
  rw [hq, hs] at HT
  replace HQ := Lib.hid hq
  replace HS := Lib.hid hs
  generalize depP x y = T at HT ⊢
  generalize useL x = U1 at HU1 HL1 HS
  generalize useL y = U2 at HU2 HL2 HQ
  generalize (shF x.op).d = p at HT HD1
  generalize (shF y.op).d = r at HT HD2
  generalize inB x.op 21 23 = sx at HT HSX
  generalize inB x.op 18 20 = lx at HT HLX
  generalize inB y.op 21 23 = sy at HT HSY
  generalize inB y.op 18 20 = ly at HT HLY
  clear hq hs l1 l2 hx hy
  obtain ⟨xop, xd, xa, xb, xi, xt⟩ := x
  obtain ⟨yop, yd, ya, yb, yi, yt⟩ := y
  simp only at HT HU1 HU2 HD1 HD2 HSX HSY HLX HLY HQ HS
  go_enter Try.func37, Try.ntmps37
  go_wp2_with fail
  have hx0 := heap_alloc_new w (.cells #[.int .i64 xop, .int .i64 xd, .int .i64 xa, .int .i64 xb, .int .u32 xi, .int .i64 xt] 47)
  have hx := (heap_alloc_old (w.alloc (.cells #[.int .i64 xop, .int .i64 xd, .int .i64 xa, .int .i64 xb, .int .u32 xi, .int .i64 xt] 47)) (.cells #[.int .i64 yop, .int .i64 yd, .int .i64 ya, .int .i64 yb, .int .u32 yi, .int .i64 yt] 47) (lt_of_block hx0)).trans hx0
  have hy := heap_alloc_new (w.alloc (.cells #[.int .i64 xop, .int .i64 xd, .int .i64 xa, .int .i64 xb, .int .u32 xi, .int .i64 xt] 47)) (.cells #[.int .i64 yop, .int .i64 yd, .int .i64 ya, .int .i64 yb, .int .u32 yi, .int .i64 yt] 47)
  rw [show (w.alloc (.cells #[.int .i64 xop, .int .i64 xd, .int .i64 xa, .int .i64 xb, .int .u32 xi, .int .i64 xt] 47)).heap.size = w.heap.size + 1 by simp] at hy
  have hb : Below w.heap.size w ((w.alloc (.cells #[.int .i64 xop, .int .i64 xd, .int .i64 xa, .int .i64 xb, .int .u32 xi, .int .i64 xt] 47)).alloc (.cells #[.int .i64 yop, .int .i64 yd, .int .i64 ya, .int .i64 yb, .int .u32 yi, .int .i64 yt] 47)) := ((Below.refl _ _).alloc (Nat.le_refl _) _).alloc (by simp) _
  generalize hW : ((w.alloc (.cells #[.int .i64 xop, .int .i64 xd, .int .i64 xa, .int .i64 xb, .int .u32 xi, .int .i64 xt] 47)).alloc (.cells #[.int .i64 yop, .int .i64 yd, .int .i64 ya, .int .i64 yb, .int .u32 yi, .int .i64 yt] 47)) = W at hx hy hb ⊢
  clear hW hx0
  generalize hY : w.heap.size + 1 = Y at hy ⊢
  obtain ⟨X, hX⟩ : ∃ X, X = w.heap.size := ⟨_, rfl⟩
  rw [← hX] at hx ⊢
  clear hY hX
  refine (HU1.out W).mono ?_
  rintro e w1 ⟨v1, rfl, h1, hb2⟩
  replace hx := (hb2.block _ (lt_of_block hx)).trans hx
  replace hy := (hb2.block _ (lt_of_block hy)).trans hy
  replace hb := hb.trans (hb2.mono hb.size)
  have H1 := Lib.hid h1
  obtain ⟨y0, y1, y2, y3, y4, y5⟩ := cells6 hy
  clear hb2 h1
  go_wp2_with fail
  clear y0 y1 y2 y3 y4 y5
  refine (HU2.out w1).mono ?_
  rintro e w2 ⟨v2, rfl, h2, hb2⟩
  replace hx := (hb2.block _ (lt_of_block hx)).trans hx
  replace hy := (hb2.block _ (lt_of_block hy)).trans hy
  replace hb := hb.trans (hb2.mono hb.size)
  replace H1 := Lib.hid (H1.out.below hb2)
  have H2 := Lib.hid h2
  obtain ⟨x0, x1, x2, x3, x4, x5⟩ := cells6 hx
  clear hb2 h2
  go_wp2_with fail
  clear x0 x1 x2 x3 x4 x5
  refine (HD1.out w2).mono ?_
  rintro e w3 ⟨rfl, hb2⟩
  replace hx := (hb2.block _ (lt_of_block hx)).trans hx
  replace hy := (hb2.block _ (lt_of_block hy)).trans hy
  replace hb := hb.trans (hb2.mono hb.size)
  replace H1 := Lib.hid (H1.out.below hb2)
  replace H2 := Lib.hid (H2.out.below hb2)
  obtain ⟨y0, y1, y2, y3, y4, y5⟩ := cells6 hy
  clear hb2
  go_wp2_with fail
  clear y0 y1 y2 y3 y4 y5
  refine (HD2.out w3).mono ?_
  rintro e w4 ⟨rfl, hb2⟩
  replace hx := (hb2.block _ (lt_of_block hx)).trans hx
  replace hy := (hb2.block _ (lt_of_block hy)).trans hy
  replace hb := hb.trans (hb2.mono hb.size)
  have HC1 := Lib.hid (contains_at yd s (H1.out.below hb2) HL1.out HS.out)
  have HC2 := Lib.hid (contains_at xd q (H2.out.below hb2) HL2.out HQ.out)
  obtain ⟨x0, -, -, -, -, -⟩ := cells6 hx
  obtain ⟨y0, -, -, -, -, -⟩ := cells6 hy
  clear hb2 H1 H2 hx hy HU1 HU2 HD1 HD2
  go_upto_region 5 with fail
  cases p
  · cases r
    · cases sx
      · cases lx
        · go_wp2_with (first | (go_at_call 52; ((with_reducible refine (HC1.out).mono ?_); rintro e w9 ⟨rfl, rfl⟩)) | (go_at_call 52; ((with_reducible refine (HC2.out).mono ?_); rintro e w9 ⟨rfl, rfl⟩)) | (go_at_call 53; ((with_reducible refine (HSX.out _).mono ?_); rintro e w9 ⟨rfl, rfl⟩)) | (go_at_call 53; ((with_reducible refine (HSY.out _).mono ?_); rintro e w9 ⟨rfl, rfl⟩)) | (go_at_call 54; ((with_reducible refine (HLX.out _).mono ?_); rintro e w9 ⟨rfl, rfl⟩)) | (go_at_call 54; ((with_reducible refine (HLY.out _).mono ?_); rintro e w9 ⟨rfl, rfl⟩)))
          go_ret
          exact ⟨ret_b (by rw [HT.out]; simp ), hb⟩
        · cases sy
          · go_wp2_with (first | (go_at_call 52; ((with_reducible refine (HC1.out).mono ?_); rintro e w9 ⟨rfl, rfl⟩)) | (go_at_call 52; ((with_reducible refine (HC2.out).mono ?_); rintro e w9 ⟨rfl, rfl⟩)) | (go_at_call 53; ((with_reducible refine (HSX.out _).mono ?_); rintro e w9 ⟨rfl, rfl⟩)) | (go_at_call 53; ((with_reducible refine (HSY.out _).mono ?_); rintro e w9 ⟨rfl, rfl⟩)) | (go_at_call 54; ((with_reducible refine (HLX.out _).mono ?_); rintro e w9 ⟨rfl, rfl⟩)) | (go_at_call 54; ((with_reducible refine (HLY.out _).mono ?_); rintro e w9 ⟨rfl, rfl⟩)))
            go_ret
            exact ⟨ret_b (by rw [HT.out]; simp ), hb⟩
          · go_wp2_with (first | (go_at_call 52; ((with_reducible refine (HC1.out).mono ?_); rintro e w9 ⟨rfl, rfl⟩)) | (go_at_call 52; ((with_reducible refine (HC2.out).mono ?_); rintro e w9 ⟨rfl, rfl⟩)) | (go_at_call 53; ((with_reducible refine (HSX.out _).mono ?_); rintro e w9 ⟨rfl, rfl⟩)) | (go_at_call 53; ((with_reducible refine (HSY.out _).mono ?_); rintro e w9 ⟨rfl, rfl⟩)) | (go_at_call 54; ((with_reducible refine (HLX.out _).mono ?_); rintro e w9 ⟨rfl, rfl⟩)) | (go_at_call 54; ((with_reducible refine (HLY.out _).mono ?_); rintro e w9 ⟨rfl, rfl⟩)))
            go_ret
            exact ⟨ret_b (by rw [HT.out]; simp ), hb⟩
      · cases ly
        · cases sy
          · cases lx
            · go_wp2_with (first | (go_at_call 52; ((with_reducible refine (HC1.out).mono ?_); rintro e w9 ⟨rfl, rfl⟩)) | (go_at_call 52; ((with_reducible refine (HC2.out).mono ?_); rintro e w9 ⟨rfl, rfl⟩)) | (go_at_call 53; ((with_reducible refine (HSX.out _).mono ?_); rintro e w9 ⟨rfl, rfl⟩)) | (go_at_call 53; ((with_reducible refine (HSY.out _).mono ?_); rintro e w9 ⟨rfl, rfl⟩)) | (go_at_call 54; ((with_reducible refine (HLX.out _).mono ?_); rintro e w9 ⟨rfl, rfl⟩)) | (go_at_call 54; ((with_reducible refine (HLY.out _).mono ?_); rintro e w9 ⟨rfl, rfl⟩)))
              go_ret
              exact ⟨ret_b (by rw [HT.out]; simp ), hb⟩
            · go_wp2_with (first | (go_at_call 52; ((with_reducible refine (HC1.out).mono ?_); rintro e w9 ⟨rfl, rfl⟩)) | (go_at_call 52; ((with_reducible refine (HC2.out).mono ?_); rintro e w9 ⟨rfl, rfl⟩)) | (go_at_call 53; ((with_reducible refine (HSX.out _).mono ?_); rintro e w9 ⟨rfl, rfl⟩)) | (go_at_call 53; ((with_reducible refine (HSY.out _).mono ?_); rintro e w9 ⟨rfl, rfl⟩)) | (go_at_call 54; ((with_reducible refine (HLX.out _).mono ?_); rintro e w9 ⟨rfl, rfl⟩)) | (go_at_call 54; ((with_reducible refine (HLY.out _).mono ?_); rintro e w9 ⟨rfl, rfl⟩)))
              go_ret
              exact ⟨ret_b (by rw [HT.out]; simp ), hb⟩
          · go_wp2_with (first | (go_at_call 52; ((with_reducible refine (HC1.out).mono ?_); rintro e w9 ⟨rfl, rfl⟩)) | (go_at_call 52; ((with_reducible refine (HC2.out).mono ?_); rintro e w9 ⟨rfl, rfl⟩)) | (go_at_call 53; ((with_reducible refine (HSX.out _).mono ?_); rintro e w9 ⟨rfl, rfl⟩)) | (go_at_call 53; ((with_reducible refine (HSY.out _).mono ?_); rintro e w9 ⟨rfl, rfl⟩)) | (go_at_call 54; ((with_reducible refine (HLX.out _).mono ?_); rintro e w9 ⟨rfl, rfl⟩)) | (go_at_call 54; ((with_reducible refine (HLY.out _).mono ?_); rintro e w9 ⟨rfl, rfl⟩)))
            go_ret
            exact ⟨ret_b (by rw [HT.out]; simp ), hb⟩
        · go_wp2_with (first | (go_at_call 52; ((with_reducible refine (HC1.out).mono ?_); rintro e w9 ⟨rfl, rfl⟩)) | (go_at_call 52; ((with_reducible refine (HC2.out).mono ?_); rintro e w9 ⟨rfl, rfl⟩)) | (go_at_call 53; ((with_reducible refine (HSX.out _).mono ?_); rintro e w9 ⟨rfl, rfl⟩)) | (go_at_call 53; ((with_reducible refine (HSY.out _).mono ?_); rintro e w9 ⟨rfl, rfl⟩)) | (go_at_call 54; ((with_reducible refine (HLX.out _).mono ?_); rintro e w9 ⟨rfl, rfl⟩)) | (go_at_call 54; ((with_reducible refine (HLY.out _).mono ?_); rintro e w9 ⟨rfl, rfl⟩)))
          go_ret
          exact ⟨ret_b (by rw [HT.out]; simp ), hb⟩
    · cases s
      · cases sx
        · cases lx
          · go_wp2_with (first | (go_at_call 52; ((with_reducible refine (HC1.out).mono ?_); rintro e w9 ⟨rfl, rfl⟩)) | (go_at_call 52; ((with_reducible refine (HC2.out).mono ?_); rintro e w9 ⟨rfl, rfl⟩)) | (go_at_call 53; ((with_reducible refine (HSX.out _).mono ?_); rintro e w9 ⟨rfl, rfl⟩)) | (go_at_call 53; ((with_reducible refine (HSY.out _).mono ?_); rintro e w9 ⟨rfl, rfl⟩)) | (go_at_call 54; ((with_reducible refine (HLX.out _).mono ?_); rintro e w9 ⟨rfl, rfl⟩)) | (go_at_call 54; ((with_reducible refine (HLY.out _).mono ?_); rintro e w9 ⟨rfl, rfl⟩)))
            go_ret
            exact ⟨ret_b (by rw [HT.out]; simp ), hb⟩
          · cases sy
            · go_wp2_with (first | (go_at_call 52; ((with_reducible refine (HC1.out).mono ?_); rintro e w9 ⟨rfl, rfl⟩)) | (go_at_call 52; ((with_reducible refine (HC2.out).mono ?_); rintro e w9 ⟨rfl, rfl⟩)) | (go_at_call 53; ((with_reducible refine (HSX.out _).mono ?_); rintro e w9 ⟨rfl, rfl⟩)) | (go_at_call 53; ((with_reducible refine (HSY.out _).mono ?_); rintro e w9 ⟨rfl, rfl⟩)) | (go_at_call 54; ((with_reducible refine (HLX.out _).mono ?_); rintro e w9 ⟨rfl, rfl⟩)) | (go_at_call 54; ((with_reducible refine (HLY.out _).mono ?_); rintro e w9 ⟨rfl, rfl⟩)))
              go_ret
              exact ⟨ret_b (by rw [HT.out]; simp ), hb⟩
            · go_wp2_with (first | (go_at_call 52; ((with_reducible refine (HC1.out).mono ?_); rintro e w9 ⟨rfl, rfl⟩)) | (go_at_call 52; ((with_reducible refine (HC2.out).mono ?_); rintro e w9 ⟨rfl, rfl⟩)) | (go_at_call 53; ((with_reducible refine (HSX.out _).mono ?_); rintro e w9 ⟨rfl, rfl⟩)) | (go_at_call 53; ((with_reducible refine (HSY.out _).mono ?_); rintro e w9 ⟨rfl, rfl⟩)) | (go_at_call 54; ((with_reducible refine (HLX.out _).mono ?_); rintro e w9 ⟨rfl, rfl⟩)) | (go_at_call 54; ((with_reducible refine (HLY.out _).mono ?_); rintro e w9 ⟨rfl, rfl⟩)))
              go_ret
              exact ⟨ret_b (by rw [HT.out]; simp ), hb⟩
        · cases ly
          · cases sy
            · cases lx
              · go_wp2_with (first | (go_at_call 52; ((with_reducible refine (HC1.out).mono ?_); rintro e w9 ⟨rfl, rfl⟩)) | (go_at_call 52; ((with_reducible refine (HC2.out).mono ?_); rintro e w9 ⟨rfl, rfl⟩)) | (go_at_call 53; ((with_reducible refine (HSX.out _).mono ?_); rintro e w9 ⟨rfl, rfl⟩)) | (go_at_call 53; ((with_reducible refine (HSY.out _).mono ?_); rintro e w9 ⟨rfl, rfl⟩)) | (go_at_call 54; ((with_reducible refine (HLX.out _).mono ?_); rintro e w9 ⟨rfl, rfl⟩)) | (go_at_call 54; ((with_reducible refine (HLY.out _).mono ?_); rintro e w9 ⟨rfl, rfl⟩)))
                go_ret
                exact ⟨ret_b (by rw [HT.out]; simp ), hb⟩
              · go_wp2_with (first | (go_at_call 52; ((with_reducible refine (HC1.out).mono ?_); rintro e w9 ⟨rfl, rfl⟩)) | (go_at_call 52; ((with_reducible refine (HC2.out).mono ?_); rintro e w9 ⟨rfl, rfl⟩)) | (go_at_call 53; ((with_reducible refine (HSX.out _).mono ?_); rintro e w9 ⟨rfl, rfl⟩)) | (go_at_call 53; ((with_reducible refine (HSY.out _).mono ?_); rintro e w9 ⟨rfl, rfl⟩)) | (go_at_call 54; ((with_reducible refine (HLX.out _).mono ?_); rintro e w9 ⟨rfl, rfl⟩)) | (go_at_call 54; ((with_reducible refine (HLY.out _).mono ?_); rintro e w9 ⟨rfl, rfl⟩)))
                go_ret
                exact ⟨ret_b (by rw [HT.out]; simp ), hb⟩
            · go_wp2_with (first | (go_at_call 52; ((with_reducible refine (HC1.out).mono ?_); rintro e w9 ⟨rfl, rfl⟩)) | (go_at_call 52; ((with_reducible refine (HC2.out).mono ?_); rintro e w9 ⟨rfl, rfl⟩)) | (go_at_call 53; ((with_reducible refine (HSX.out _).mono ?_); rintro e w9 ⟨rfl, rfl⟩)) | (go_at_call 53; ((with_reducible refine (HSY.out _).mono ?_); rintro e w9 ⟨rfl, rfl⟩)) | (go_at_call 54; ((with_reducible refine (HLX.out _).mono ?_); rintro e w9 ⟨rfl, rfl⟩)) | (go_at_call 54; ((with_reducible refine (HLY.out _).mono ?_); rintro e w9 ⟨rfl, rfl⟩)))
              go_ret
              exact ⟨ret_b (by rw [HT.out]; simp ), hb⟩
          · go_wp2_with (first | (go_at_call 52; ((with_reducible refine (HC1.out).mono ?_); rintro e w9 ⟨rfl, rfl⟩)) | (go_at_call 52; ((with_reducible refine (HC2.out).mono ?_); rintro e w9 ⟨rfl, rfl⟩)) | (go_at_call 53; ((with_reducible refine (HSX.out _).mono ?_); rintro e w9 ⟨rfl, rfl⟩)) | (go_at_call 53; ((with_reducible refine (HSY.out _).mono ?_); rintro e w9 ⟨rfl, rfl⟩)) | (go_at_call 54; ((with_reducible refine (HLX.out _).mono ?_); rintro e w9 ⟨rfl, rfl⟩)) | (go_at_call 54; ((with_reducible refine (HLY.out _).mono ?_); rintro e w9 ⟨rfl, rfl⟩)))
            go_ret
            exact ⟨ret_b (by rw [HT.out]; simp ), hb⟩
      · go_wp2_with (first | (go_at_call 52; ((with_reducible refine (HC1.out).mono ?_); rintro e w9 ⟨rfl, rfl⟩)) | (go_at_call 52; ((with_reducible refine (HC2.out).mono ?_); rintro e w9 ⟨rfl, rfl⟩)) | (go_at_call 53; ((with_reducible refine (HSX.out _).mono ?_); rintro e w9 ⟨rfl, rfl⟩)) | (go_at_call 53; ((with_reducible refine (HSY.out _).mono ?_); rintro e w9 ⟨rfl, rfl⟩)) | (go_at_call 54; ((with_reducible refine (HLX.out _).mono ?_); rintro e w9 ⟨rfl, rfl⟩)) | (go_at_call 54; ((with_reducible refine (HLY.out _).mono ?_); rintro e w9 ⟨rfl, rfl⟩)))
        go_ret
        exact ⟨ret_b (by rw [HT.out]; simp ), hb⟩
  · cases q
    · cases r
      · cases sx
        · cases lx
          · go_wp2_with (first | (go_at_call 52; ((with_reducible refine (HC1.out).mono ?_); rintro e w9 ⟨rfl, rfl⟩)) | (go_at_call 52; ((with_reducible refine (HC2.out).mono ?_); rintro e w9 ⟨rfl, rfl⟩)) | (go_at_call 53; ((with_reducible refine (HSX.out _).mono ?_); rintro e w9 ⟨rfl, rfl⟩)) | (go_at_call 53; ((with_reducible refine (HSY.out _).mono ?_); rintro e w9 ⟨rfl, rfl⟩)) | (go_at_call 54; ((with_reducible refine (HLX.out _).mono ?_); rintro e w9 ⟨rfl, rfl⟩)) | (go_at_call 54; ((with_reducible refine (HLY.out _).mono ?_); rintro e w9 ⟨rfl, rfl⟩)))
            go_ret
            exact ⟨ret_b (by rw [HT.out]; simp ), hb⟩
          · cases sy
            · go_wp2_with (first | (go_at_call 52; ((with_reducible refine (HC1.out).mono ?_); rintro e w9 ⟨rfl, rfl⟩)) | (go_at_call 52; ((with_reducible refine (HC2.out).mono ?_); rintro e w9 ⟨rfl, rfl⟩)) | (go_at_call 53; ((with_reducible refine (HSX.out _).mono ?_); rintro e w9 ⟨rfl, rfl⟩)) | (go_at_call 53; ((with_reducible refine (HSY.out _).mono ?_); rintro e w9 ⟨rfl, rfl⟩)) | (go_at_call 54; ((with_reducible refine (HLX.out _).mono ?_); rintro e w9 ⟨rfl, rfl⟩)) | (go_at_call 54; ((with_reducible refine (HLY.out _).mono ?_); rintro e w9 ⟨rfl, rfl⟩)))
              go_ret
              exact ⟨ret_b (by rw [HT.out]; simp ), hb⟩
            · go_wp2_with (first | (go_at_call 52; ((with_reducible refine (HC1.out).mono ?_); rintro e w9 ⟨rfl, rfl⟩)) | (go_at_call 52; ((with_reducible refine (HC2.out).mono ?_); rintro e w9 ⟨rfl, rfl⟩)) | (go_at_call 53; ((with_reducible refine (HSX.out _).mono ?_); rintro e w9 ⟨rfl, rfl⟩)) | (go_at_call 53; ((with_reducible refine (HSY.out _).mono ?_); rintro e w9 ⟨rfl, rfl⟩)) | (go_at_call 54; ((with_reducible refine (HLX.out _).mono ?_); rintro e w9 ⟨rfl, rfl⟩)) | (go_at_call 54; ((with_reducible refine (HLY.out _).mono ?_); rintro e w9 ⟨rfl, rfl⟩)))
              go_ret
              exact ⟨ret_b (by rw [HT.out]; simp ), hb⟩
        · cases ly
          · cases sy
            · cases lx
              · go_wp2_with (first | (go_at_call 52; ((with_reducible refine (HC1.out).mono ?_); rintro e w9 ⟨rfl, rfl⟩)) | (go_at_call 52; ((with_reducible refine (HC2.out).mono ?_); rintro e w9 ⟨rfl, rfl⟩)) | (go_at_call 53; ((with_reducible refine (HSX.out _).mono ?_); rintro e w9 ⟨rfl, rfl⟩)) | (go_at_call 53; ((with_reducible refine (HSY.out _).mono ?_); rintro e w9 ⟨rfl, rfl⟩)) | (go_at_call 54; ((with_reducible refine (HLX.out _).mono ?_); rintro e w9 ⟨rfl, rfl⟩)) | (go_at_call 54; ((with_reducible refine (HLY.out _).mono ?_); rintro e w9 ⟨rfl, rfl⟩)))
                go_ret
                exact ⟨ret_b (by rw [HT.out]; simp ), hb⟩
              · go_wp2_with (first | (go_at_call 52; ((with_reducible refine (HC1.out).mono ?_); rintro e w9 ⟨rfl, rfl⟩)) | (go_at_call 52; ((with_reducible refine (HC2.out).mono ?_); rintro e w9 ⟨rfl, rfl⟩)) | (go_at_call 53; ((with_reducible refine (HSX.out _).mono ?_); rintro e w9 ⟨rfl, rfl⟩)) | (go_at_call 53; ((with_reducible refine (HSY.out _).mono ?_); rintro e w9 ⟨rfl, rfl⟩)) | (go_at_call 54; ((with_reducible refine (HLX.out _).mono ?_); rintro e w9 ⟨rfl, rfl⟩)) | (go_at_call 54; ((with_reducible refine (HLY.out _).mono ?_); rintro e w9 ⟨rfl, rfl⟩)))
                go_ret
                exact ⟨ret_b (by rw [HT.out]; simp ), hb⟩
            · go_wp2_with (first | (go_at_call 52; ((with_reducible refine (HC1.out).mono ?_); rintro e w9 ⟨rfl, rfl⟩)) | (go_at_call 52; ((with_reducible refine (HC2.out).mono ?_); rintro e w9 ⟨rfl, rfl⟩)) | (go_at_call 53; ((with_reducible refine (HSX.out _).mono ?_); rintro e w9 ⟨rfl, rfl⟩)) | (go_at_call 53; ((with_reducible refine (HSY.out _).mono ?_); rintro e w9 ⟨rfl, rfl⟩)) | (go_at_call 54; ((with_reducible refine (HLX.out _).mono ?_); rintro e w9 ⟨rfl, rfl⟩)) | (go_at_call 54; ((with_reducible refine (HLY.out _).mono ?_); rintro e w9 ⟨rfl, rfl⟩)))
              go_ret
              exact ⟨ret_b (by rw [HT.out]; simp ), hb⟩
          · go_wp2_with (first | (go_at_call 52; ((with_reducible refine (HC1.out).mono ?_); rintro e w9 ⟨rfl, rfl⟩)) | (go_at_call 52; ((with_reducible refine (HC2.out).mono ?_); rintro e w9 ⟨rfl, rfl⟩)) | (go_at_call 53; ((with_reducible refine (HSX.out _).mono ?_); rintro e w9 ⟨rfl, rfl⟩)) | (go_at_call 53; ((with_reducible refine (HSY.out _).mono ?_); rintro e w9 ⟨rfl, rfl⟩)) | (go_at_call 54; ((with_reducible refine (HLX.out _).mono ?_); rintro e w9 ⟨rfl, rfl⟩)) | (go_at_call 54; ((with_reducible refine (HLY.out _).mono ?_); rintro e w9 ⟨rfl, rfl⟩)))
            go_ret
            exact ⟨ret_b (by rw [HT.out]; simp ), hb⟩
      · cases s
        · by_cases hde : xd = yd
          · subst hde
            have deq : (xd == xd) = true := beq_self_eq_true xd
            go_wp2_with (first | (go_at_call 52; ((with_reducible refine (HC1.out).mono ?_); rintro e w9 ⟨rfl, rfl⟩)) | (go_at_call 52; ((with_reducible refine (HC2.out).mono ?_); rintro e w9 ⟨rfl, rfl⟩)) | (go_at_call 53; ((with_reducible refine (HSX.out _).mono ?_); rintro e w9 ⟨rfl, rfl⟩)) | (go_at_call 53; ((with_reducible refine (HSY.out _).mono ?_); rintro e w9 ⟨rfl, rfl⟩)) | (go_at_call 54; ((with_reducible refine (HLX.out _).mono ?_); rintro e w9 ⟨rfl, rfl⟩)) | (go_at_call 54; ((with_reducible refine (HLY.out _).mono ?_); rintro e w9 ⟨rfl, rfl⟩)))
            go_ret
            exact ⟨ret_b (by rw [HT.out]; simp [deq]), hb⟩
          · have deq : (xd == yd) = false := beq_false_of_ne hde
            cases sx
            · cases lx
              · go_wp2_with (first | (go_at_call 52; ((with_reducible refine (HC1.out).mono ?_); rintro e w9 ⟨rfl, rfl⟩)) | (go_at_call 52; ((with_reducible refine (HC2.out).mono ?_); rintro e w9 ⟨rfl, rfl⟩)) | (go_at_call 53; ((with_reducible refine (HSX.out _).mono ?_); rintro e w9 ⟨rfl, rfl⟩)) | (go_at_call 53; ((with_reducible refine (HSY.out _).mono ?_); rintro e w9 ⟨rfl, rfl⟩)) | (go_at_call 54; ((with_reducible refine (HLX.out _).mono ?_); rintro e w9 ⟨rfl, rfl⟩)) | (go_at_call 54; ((with_reducible refine (HLY.out _).mono ?_); rintro e w9 ⟨rfl, rfl⟩)))
                go_ret
                exact ⟨ret_b (by rw [HT.out]; simp [deq]), hb⟩
              · cases sy
                · go_wp2_with (first | (go_at_call 52; ((with_reducible refine (HC1.out).mono ?_); rintro e w9 ⟨rfl, rfl⟩)) | (go_at_call 52; ((with_reducible refine (HC2.out).mono ?_); rintro e w9 ⟨rfl, rfl⟩)) | (go_at_call 53; ((with_reducible refine (HSX.out _).mono ?_); rintro e w9 ⟨rfl, rfl⟩)) | (go_at_call 53; ((with_reducible refine (HSY.out _).mono ?_); rintro e w9 ⟨rfl, rfl⟩)) | (go_at_call 54; ((with_reducible refine (HLX.out _).mono ?_); rintro e w9 ⟨rfl, rfl⟩)) | (go_at_call 54; ((with_reducible refine (HLY.out _).mono ?_); rintro e w9 ⟨rfl, rfl⟩)))
                  go_ret
                  exact ⟨ret_b (by rw [HT.out]; simp [deq]), hb⟩
                · go_wp2_with (first | (go_at_call 52; ((with_reducible refine (HC1.out).mono ?_); rintro e w9 ⟨rfl, rfl⟩)) | (go_at_call 52; ((with_reducible refine (HC2.out).mono ?_); rintro e w9 ⟨rfl, rfl⟩)) | (go_at_call 53; ((with_reducible refine (HSX.out _).mono ?_); rintro e w9 ⟨rfl, rfl⟩)) | (go_at_call 53; ((with_reducible refine (HSY.out _).mono ?_); rintro e w9 ⟨rfl, rfl⟩)) | (go_at_call 54; ((with_reducible refine (HLX.out _).mono ?_); rintro e w9 ⟨rfl, rfl⟩)) | (go_at_call 54; ((with_reducible refine (HLY.out _).mono ?_); rintro e w9 ⟨rfl, rfl⟩)))
                  go_ret
                  exact ⟨ret_b (by rw [HT.out]; simp [deq]), hb⟩
            · cases ly
              · cases sy
                · cases lx
                  · go_wp2_with (first | (go_at_call 52; ((with_reducible refine (HC1.out).mono ?_); rintro e w9 ⟨rfl, rfl⟩)) | (go_at_call 52; ((with_reducible refine (HC2.out).mono ?_); rintro e w9 ⟨rfl, rfl⟩)) | (go_at_call 53; ((with_reducible refine (HSX.out _).mono ?_); rintro e w9 ⟨rfl, rfl⟩)) | (go_at_call 53; ((with_reducible refine (HSY.out _).mono ?_); rintro e w9 ⟨rfl, rfl⟩)) | (go_at_call 54; ((with_reducible refine (HLX.out _).mono ?_); rintro e w9 ⟨rfl, rfl⟩)) | (go_at_call 54; ((with_reducible refine (HLY.out _).mono ?_); rintro e w9 ⟨rfl, rfl⟩)))
                    go_ret
                    exact ⟨ret_b (by rw [HT.out]; simp [deq]), hb⟩
                  · go_wp2_with (first | (go_at_call 52; ((with_reducible refine (HC1.out).mono ?_); rintro e w9 ⟨rfl, rfl⟩)) | (go_at_call 52; ((with_reducible refine (HC2.out).mono ?_); rintro e w9 ⟨rfl, rfl⟩)) | (go_at_call 53; ((with_reducible refine (HSX.out _).mono ?_); rintro e w9 ⟨rfl, rfl⟩)) | (go_at_call 53; ((with_reducible refine (HSY.out _).mono ?_); rintro e w9 ⟨rfl, rfl⟩)) | (go_at_call 54; ((with_reducible refine (HLX.out _).mono ?_); rintro e w9 ⟨rfl, rfl⟩)) | (go_at_call 54; ((with_reducible refine (HLY.out _).mono ?_); rintro e w9 ⟨rfl, rfl⟩)))
                    go_ret
                    exact ⟨ret_b (by rw [HT.out]; simp [deq]), hb⟩
                · go_wp2_with (first | (go_at_call 52; ((with_reducible refine (HC1.out).mono ?_); rintro e w9 ⟨rfl, rfl⟩)) | (go_at_call 52; ((with_reducible refine (HC2.out).mono ?_); rintro e w9 ⟨rfl, rfl⟩)) | (go_at_call 53; ((with_reducible refine (HSX.out _).mono ?_); rintro e w9 ⟨rfl, rfl⟩)) | (go_at_call 53; ((with_reducible refine (HSY.out _).mono ?_); rintro e w9 ⟨rfl, rfl⟩)) | (go_at_call 54; ((with_reducible refine (HLX.out _).mono ?_); rintro e w9 ⟨rfl, rfl⟩)) | (go_at_call 54; ((with_reducible refine (HLY.out _).mono ?_); rintro e w9 ⟨rfl, rfl⟩)))
                  go_ret
                  exact ⟨ret_b (by rw [HT.out]; simp [deq]), hb⟩
              · go_wp2_with (first | (go_at_call 52; ((with_reducible refine (HC1.out).mono ?_); rintro e w9 ⟨rfl, rfl⟩)) | (go_at_call 52; ((with_reducible refine (HC2.out).mono ?_); rintro e w9 ⟨rfl, rfl⟩)) | (go_at_call 53; ((with_reducible refine (HSX.out _).mono ?_); rintro e w9 ⟨rfl, rfl⟩)) | (go_at_call 53; ((with_reducible refine (HSY.out _).mono ?_); rintro e w9 ⟨rfl, rfl⟩)) | (go_at_call 54; ((with_reducible refine (HLX.out _).mono ?_); rintro e w9 ⟨rfl, rfl⟩)) | (go_at_call 54; ((with_reducible refine (HLY.out _).mono ?_); rintro e w9 ⟨rfl, rfl⟩)))
                go_ret
                exact ⟨ret_b (by rw [HT.out]; simp [deq]), hb⟩
        · go_wp2_with (first | (go_at_call 52; ((with_reducible refine (HC1.out).mono ?_); rintro e w9 ⟨rfl, rfl⟩)) | (go_at_call 52; ((with_reducible refine (HC2.out).mono ?_); rintro e w9 ⟨rfl, rfl⟩)) | (go_at_call 53; ((with_reducible refine (HSX.out _).mono ?_); rintro e w9 ⟨rfl, rfl⟩)) | (go_at_call 53; ((with_reducible refine (HSY.out _).mono ?_); rintro e w9 ⟨rfl, rfl⟩)) | (go_at_call 54; ((with_reducible refine (HLX.out _).mono ?_); rintro e w9 ⟨rfl, rfl⟩)) | (go_at_call 54; ((with_reducible refine (HLY.out _).mono ?_); rintro e w9 ⟨rfl, rfl⟩)))
          go_ret
          exact ⟨ret_b (by rw [HT.out]; simp ), hb⟩
    · go_wp2_with (first | (go_at_call 52; ((with_reducible refine (HC1.out).mono ?_); rintro e w9 ⟨rfl, rfl⟩)) | (go_at_call 52; ((with_reducible refine (HC2.out).mono ?_); rintro e w9 ⟨rfl, rfl⟩)) | (go_at_call 53; ((with_reducible refine (HSX.out _).mono ?_); rintro e w9 ⟨rfl, rfl⟩)) | (go_at_call 53; ((with_reducible refine (HSY.out _).mono ?_); rintro e w9 ⟨rfl, rfl⟩)) | (go_at_call 54; ((with_reducible refine (HLX.out _).mono ?_); rintro e w9 ⟨rfl, rfl⟩)) | (go_at_call 54; ((with_reducible refine (HLY.out _).mono ?_); rintro e w9 ⟨rfl, rfl⟩)))
      go_ret
      exact ⟨ret_b (by rw [HT.out]; simp ), hb⟩
end Go.Proofs.Ytjlacdnkncgpaaa
