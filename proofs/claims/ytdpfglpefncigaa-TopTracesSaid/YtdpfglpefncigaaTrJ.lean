/-
  find of the reference; check.
-/
import Derived.Test.YtdpfglpefncigaaTrI
namespace Go.Proofs.Ytdpfglpefncigaa
open Go.RowKit

set_option maxRecDepth 100000 in
set_option maxHeartbeats 4000000 in
theorem refFind_any (b off n c : Nat) (zs : List Plc) (v t : Int) (w : World) (hL : Lies w b off zs) (hn : n = zs.length) (h64 : n ≤ 64) :
    Calls Try.prog 42 #[.slice (some ⟨b, off, none⟩) n c, .int .i64 v, .int .i64 t] w fun e w' => e = .returned (.tuple #[aggP ((fnd zs v t).getD zeroP), .bool (fnd zs v t).isSome]) ∧ Below w.heap.size w w' := by
  have HL := Lib.hid hL
  have HN := Lib.hid hn
  have HF := Lib.hid (show fnd zs v t = fndF zs v t 0 n by unfold fnd; rw [hn])
  clear hL hn
  go_enter Try.func42, Try.ntmps42
  go_wp2
  generalize hW0 : World.alloc w _ = W0
  have r0 : W0.cell? ⟨w.heap.size, 0, none⟩ = some (.int .i64 0) := by rw [← hW0]; simp [go_sem]
  have s0 : W0.frozen? ⟨w.heap.size, 0, none⟩ = false := by rw [← hW0]; exact new_free _ _ _ _
  have R0 := Lib.hid r0
  have S0 := Lib.hid s0
  have r1 : W0.cell? ⟨w.heap.size, 1, none⟩ = some (.int .i64 0) := by rw [← hW0]; simp [go_sem]
  have s1 : W0.frozen? ⟨w.heap.size, 1, none⟩ = false := by rw [← hW0]; exact new_free _ _ _ _
  have R1 := Lib.hid r1
  have S1 := Lib.hid s1
  have r2 : W0.cell? ⟨w.heap.size, 2, none⟩ = some (.int .i64 0) := by rw [← hW0]; simp [go_sem]
  have s2 : W0.frozen? ⟨w.heap.size, 2, none⟩ = false := by rw [← hW0]; exact new_free _ _ _ _
  have R2 := Lib.hid r2
  have S2 := Lib.hid s2
  have r3 : W0.cell? ⟨w.heap.size, 3, none⟩ = some (.int .i64 0) := by rw [← hW0]; simp [go_sem]
  have s3 : W0.frozen? ⟨w.heap.size, 3, none⟩ = false := by rw [← hW0]; exact new_free _ _ _ _
  have R3 := Lib.hid r3
  have S3 := Lib.hid s3
  have r4 : W0.cell? ⟨w.heap.size, 4, none⟩ = some (.int .i64 0) := by rw [← hW0]; simp [go_sem]
  have s4 : W0.frozen? ⟨w.heap.size, 4, none⟩ = false := by rw [← hW0]; exact new_free _ _ _ _
  have R4 := Lib.hid r4
  have S4 := Lib.hid s4
  have hb0 : Below w.heap.size w W0 := by rw [← hW0]; exact (Below.refl _ _).alloc (Nat.le_refl _) _
  have sz0 : w.heap.size < W0.heap.size := by rw [← hW0]; simp
  clear hW0 r0 r1 r2 r3 r4 s0 s1 s2 s3 s4
  go_loopw [8] (fun z wr => ∃ i : Nat, i ≤ n ∧ z = .int .i64 (i : Int) ∧ Below W0.heap.size W0 wr ∧ fndF zs v t i (n - i) = fndF zs v t 0 n) (fun z _ => n - (intOf z).toNat)
  case atStart => exact ⟨0, by omega, rfl, Below.refl _ _, rfl⟩
  case round =>
    obtain ⟨i, hi, rfl, hb, hf⟩ := hrel
    have hbw : Below w.heap.size w _ := hb0.trans (hb.mono hb0.size)
    by_cases hlt : i < n
    · have ht := (HL.out.below hbw).at_ (j := i) (by have := HN.out; omega)
      have hs : fndF zs v t i (n - i) = if zs[i]!.v = v ∧ covB zs[i]! t = true then some zs[i]! else fndF zs v t (i + 1) (n - (i + 1)) := by
        rw [show n - i = (n - (i + 1)) + 1 by omega]
        rfl
      rw [hs] at hf
      clear hs
      generalize zs[i]! = p at ht hf
      obtain ⟨pa, pz, pv, pk, pn⟩ := p
      obtain ⟨c0, c1, c2, c3, c4⟩ := ht
      simp only at c0 c1 c2 c3 c4 hf
      have HI := Lib.hid hf
      clear hf
      by_cases hv : pv = v
      · have dv : (pv == v) = true := by simp [hv]
        by_cases h1 : pa ≤ t
        · have d1 : decide (pa ≤ t) = true := decide_eq_true h1
          by_cases h2 : t < pz
          · have d2 : decide (t < pz) = true := decide_eq_true h2
            have HX := Lib.hid (show fnd zs v t = some ⟨pa, pz, pv, pk, pn⟩ by rw [HF.out, ← HI.out, if_pos ⟨hv, decide_eq_true ⟨h1, h2⟩⟩])
            clear hv h1 h2
            have x0 := (hb.cell (p := ⟨w.heap.size, 0, none⟩) sz0).trans R0.out
            have y0 := (hb.frozen (p := ⟨w.heap.size, 0, none⟩) sz0).trans S0.out
            have x1 := (hb.cell (p := ⟨w.heap.size, 1, none⟩) sz0).trans R1.out
            have y1 := (hb.frozen (p := ⟨w.heap.size, 1, none⟩) sz0).trans S1.out
            have x2 := (hb.cell (p := ⟨w.heap.size, 2, none⟩) sz0).trans R2.out
            have y2 := (hb.frozen (p := ⟨w.heap.size, 2, none⟩) sz0).trans S2.out
            have x3 := (hb.cell (p := ⟨w.heap.size, 3, none⟩) sz0).trans R3.out
            have y3 := (hb.frozen (p := ⟨w.heap.size, 3, none⟩) sz0).trans S3.out
            have x4 := (hb.cell (p := ⟨w.heap.size, 4, none⟩) sz0).trans R4.out
            have y4 := (hb.frozen (p := ⟨w.heap.size, 4, none⟩) sz0).trans S4.out
            have hp5 := put5_at ⟨pa, pz, pv, pk, pn⟩ x0 x1 x2 x3 x4
            have hpb := put5_below ⟨pa, pz, pv, pk, pn⟩ hbw (Nat.le_refl _)
            have HP5 := Lib.hid hp5
            clear hp5
            go_wp2
            obtain ⟨p0, p1, p2, p3, p4⟩ := HP5.out
            change bodyPost _ _ _ _ _ (put5 _ _ ⟨pa, pz, pv, pk, pn⟩)
            exact bodyPost_ret (v := .tuple #[aggP ⟨pa, pz, pv, pk, pn⟩, .bool true]) (by simp [results, Try.results42, go_sem, p0, p1, p2, p3, p4]) rfl ⟨by rw [HX.out]; rfl, hpb⟩
          · have d2 : decide (t < pz) = false := decide_eq_false h2
            have HI2 := Lib.hid (show fndF zs v t (i + 1) (n - (i + 1)) = fndF zs v t 0 n by have := HI.out; rwa [if_neg (fun h => h2 (of_decide_eq_true h.2).2)] at this)
            clear hv h1 h2
            go_wp2
            go_roundw
            case rel => exact ⟨i + 1, by omega, by go_num, hb, HI2.out⟩
            case measure => simp [intOf]; omega
        · have d1 : decide (pa ≤ t) = false := decide_eq_false h1
          have HI2 := Lib.hid (show fndF zs v t (i + 1) (n - (i + 1)) = fndF zs v t 0 n by have := HI.out; rwa [if_neg (fun h => h1 (of_decide_eq_true h.2).1)] at this)
          clear hv h1
          go_wp2
          go_roundw
          case rel => exact ⟨i + 1, by omega, by go_num, hb, HI2.out⟩
          case measure => simp [intOf]; omega
      · have dv : (pv == v) = false := by simp [hv]
        have HI2 := Lib.hid (show fndF zs v t (i + 1) (n - (i + 1)) = fndF zs v t 0 n by have := HI.out; rwa [if_neg (fun h => hv h.1)] at this)
        clear hv
        go_wp2
        go_roundw
        case rel => exact ⟨i + 1, by omega, by go_num, hb, HI2.out⟩
        case measure => simp [intOf]; omega
    · have HX := Lib.hid (show fnd zs v t = none by rw [HF.out, ← hf, show n - i = 0 by omega]; rfl)
      clear hf
      have x0 := (hb.cell (p := ⟨w.heap.size, 0, none⟩) sz0).trans R0.out
      have y0 := (hb.frozen (p := ⟨w.heap.size, 0, none⟩) sz0).trans S0.out
      have x1 := (hb.cell (p := ⟨w.heap.size, 1, none⟩) sz0).trans R1.out
      have y1 := (hb.frozen (p := ⟨w.heap.size, 1, none⟩) sz0).trans S1.out
      have x2 := (hb.cell (p := ⟨w.heap.size, 2, none⟩) sz0).trans R2.out
      have y2 := (hb.frozen (p := ⟨w.heap.size, 2, none⟩) sz0).trans S2.out
      have x3 := (hb.cell (p := ⟨w.heap.size, 3, none⟩) sz0).trans R3.out
      have y3 := (hb.frozen (p := ⟨w.heap.size, 3, none⟩) sz0).trans S3.out
      have x4 := (hb.cell (p := ⟨w.heap.size, 4, none⟩) sz0).trans R4.out
      have y4 := (hb.frozen (p := ⟨w.heap.size, 4, none⟩) sz0).trans S4.out
      have hp5 := put5_at zeroP x0 x1 x2 x3 x4
      have hpb := put5_below zeroP hbw (Nat.le_refl _)
      have HP5 := Lib.hid hp5
      clear hp5
      go_wp2
      obtain ⟨p0, p1, p2, p3, p4⟩ := HP5.out
      change bodyPost _ _ _ _ _ (put5 _ _ zeroP)
      exact bodyPost_ret (v := .tuple #[aggP zeroP, .bool false]) (by simp [results, Try.results42, go_sem, p0, p1, p2, p3, p4]) rfl ⟨by rw [HX.out]; rfl, hpb⟩
/-- What check answers. -/
def chkF (zs : List Plc) (v x y : Int) : Int := if valF zs ≠ 0 then valF zs else if inB v 0 63 && inB x 0 32768 && inB y 0 32768 && decide (x ≤ y) then 0 else 1
theorem check_gen (V : Value) (zs : List Plc) (v x y : Int) (w : World)
    (hV : ∀ w1, Below w.heap.size w w1 → Calls Try.prog 18 #[V] w1 fun e w' => e = .returned (.int .i64 (valF zs)) ∧ Below w1.heap.size w1 w') :
    Calls Try.prog 39 #[V, .int .i64 v, .int .i64 x, .int .i64 y] w fun e w' => e = .returned (.int .i64 (chkF zs v x y)) ∧ Below w.heap.size w w' := by
  obtain ⟨X, hX⟩ : ∃ X, X = valF zs := ⟨_, rfl⟩
  have hv := hV w (Below.refl _ _)
  rw [← hX] at hv
  have HV := Lib.hid hv
  have HX := Lib.hid hX
  clear hV hv hX
  by_cases h0 : X = 0
  · subst h0
    cases hA : inB v 0 63
    · have HA := Lib.hid hA
      have HR := Lib.hid (show chkF zs v x y = 1 by unfold chkF; rw [← HX.out, if_neg (by simp), hA]; rfl)
      clear hA
      go_enter Try.func39, Try.ntmps39
      go_wp2_with fail
      refine HV.out.mono ?_
      rintro e w1 ⟨rfl, hb1⟩
      go_wp2_with (go_at_call 59; ((with_reducible refine (isVariable_at v _ _ HA.out).mono ?_); rintro e w' ⟨rfl, rfl⟩))
      go_ret
      exact ⟨ret_i HR.out.symm, hb1⟩
    · have HA := Lib.hid hA
      clear hA
      cases hB : inB x 0 32768
      · have HB := Lib.hid hB
        have HR := Lib.hid (show chkF zs v x y = 1 by unfold chkF; rw [← HX.out, if_neg (by simp), HA.out, hB]; rfl)
        clear hB
        go_enter Try.func39, Try.ntmps39
        go_wp2_with fail
        refine HV.out.mono ?_
        rintro e w1 ⟨rfl, hb1⟩
        go_wp2_with (first | (go_at_call 59; ((with_reducible refine (isVariable_at v _ _ HA.out).mono ?_); rintro e w' ⟨rfl, rfl⟩)) | (go_at_call 60; ((with_reducible refine (isAddress_at x _ _ HB.out).mono ?_); rintro e w' ⟨rfl, rfl⟩)))
        go_ret
        exact ⟨ret_i HR.out.symm, hb1⟩
      · have HB := Lib.hid hB
        clear hB
        cases hC : inB y 0 32768
        · have HC := Lib.hid hC
          have HR := Lib.hid (show chkF zs v x y = 1 by unfold chkF; rw [← HX.out, if_neg (by simp), HA.out, HB.out, hC]; rfl)
          clear hC
          go_enter Try.func39, Try.ntmps39
          go_wp2_with fail
          refine HV.out.mono ?_
          rintro e w1 ⟨rfl, hb1⟩
          go_wp2_with (first | (go_at_call 59; ((with_reducible refine (isVariable_at v _ _ HA.out).mono ?_); rintro e w' ⟨rfl, rfl⟩)) | (go_at_call 60; ((with_reducible refine (isAddress_at x _ _ HB.out).mono ?_); rintro e w' ⟨rfl, rfl⟩)) | (go_at_call 60; ((with_reducible refine (isAddress_at y _ _ HC.out).mono ?_); rintro e w' ⟨rfl, rfl⟩)))
          go_ret
          exact ⟨ret_i HR.out.symm, hb1⟩
        · have HC := Lib.hid hC
          clear hC
          by_cases hxy : x ≤ y
          · have dxy : decide (y < x) = false := decide_eq_false (by omega)
            have HR := Lib.hid (show chkF zs v x y = 0 by unfold chkF; rw [← HX.out, if_neg (by simp), HA.out, HB.out, HC.out, decide_eq_true hxy]; rfl)
            clear hxy
            go_enter Try.func39, Try.ntmps39
            go_wp2_with fail
            refine HV.out.mono ?_
            rintro e w1 ⟨rfl, hb1⟩
            go_wp2_with (first | (go_at_call 59; ((with_reducible refine (isVariable_at v _ _ HA.out).mono ?_); rintro e w' ⟨rfl, rfl⟩)) | (go_at_call 60; ((with_reducible refine (isAddress_at x _ _ HB.out).mono ?_); rintro e w' ⟨rfl, rfl⟩)) | (go_at_call 60; ((with_reducible refine (isAddress_at y _ _ HC.out).mono ?_); rintro e w' ⟨rfl, rfl⟩)))
            go_ret
            exact ⟨ret_i HR.out.symm, hb1⟩
          · have dxy : decide (y < x) = true := decide_eq_true (by omega)
            have HR := Lib.hid (show chkF zs v x y = 1 by unfold chkF; rw [← HX.out, if_neg (by simp), HA.out, HB.out, HC.out, decide_eq_false hxy]; rfl)
            clear hxy
            go_enter Try.func39, Try.ntmps39
            go_wp2_with fail
            refine HV.out.mono ?_
            rintro e w1 ⟨rfl, hb1⟩
            go_wp2_with (first | (go_at_call 59; ((with_reducible refine (isVariable_at v _ _ HA.out).mono ?_); rintro e w' ⟨rfl, rfl⟩)) | (go_at_call 60; ((with_reducible refine (isAddress_at x _ _ HB.out).mono ?_); rintro e w' ⟨rfl, rfl⟩)) | (go_at_call 60; ((with_reducible refine (isAddress_at y _ _ HC.out).mono ?_); rintro e w' ⟨rfl, rfl⟩)))
            go_ret
            exact ⟨ret_i HR.out.symm, hb1⟩
  · have d0 : (X != 0) = true := by simp [h0]
    have HR := Lib.hid (show chkF zs v x y = X by unfold chkF; rw [← HX.out, if_pos h0])
    clear h0
    go_enter Try.func39, Try.ntmps39
    go_wp2_with fail
    refine HV.out.mono ?_
    rintro e w1 ⟨rfl, hb1⟩
    go_wp2
    go_ret
    exact ⟨ret_i HR.out.symm, hb1⟩
end Go.Proofs.Ytdpfglpefncigaa
