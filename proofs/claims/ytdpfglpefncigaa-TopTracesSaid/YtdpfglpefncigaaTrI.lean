/-
  find and check of both packages.
-/
import Derived.Test.YtdpfglpefncigaaTrH
namespace Go.Proofs.Ytdpfglpefncigaa
open Go.RowKit

/-- The first place of a variable that covers an address, from a row on. -/
def fndF (zs : List Plc) (v t : Int) : Nat → Nat → Option Plc
  | _, 0 => none
  | i, f + 1 => if zs[i]!.v = v ∧ covB zs[i]! t = true then some zs[i]! else fndF zs v t (i + 1) f
/-- A new block of five cells: what it holds, and that it may be written. -/
theorem new_free (w : World) (cs : Array Value) (T k : Nat) : (w.alloc (.cells cs T)).frozen? ⟨w.heap.size, k, none⟩ = false := by
  have h := heap_alloc_new w (.cells cs T)
  generalize w.alloc (.cells cs T) = W at h ⊢
  simp [World.frozen?, h]
/-- A block of five cells written over. -/
def put5 (W : World) (B : Nat) (p : Plc) : World :=
  ((((W.setCell ⟨B, 0, none⟩ (.int .i64 p.a)).setCell ⟨B, 1, none⟩ (.int .i64 p.z)).setCell ⟨B, 2, none⟩ (.int .i64 p.v)).setCell ⟨B, 3, none⟩ (.int .i64 p.k)).setCell ⟨B, 4, none⟩ (.int .i64 p.n)
theorem put5_at {W : World} {B : Nat} (p : Plc) {v0 v1 v2 v3 v4 : Value} (h0 : W.cell? ⟨B, 0, none⟩ = some v0) (h1 : W.cell? ⟨B, 1, none⟩ = some v1) (h2 : W.cell? ⟨B, 2, none⟩ = some v2) (h3 : W.cell? ⟨B, 3, none⟩ = some v3) (h4 : W.cell? ⟨B, 4, none⟩ = some v4) :
    (put5 W B p).cell? ⟨B, 0, none⟩ = some (.int .i64 p.a) ∧ (put5 W B p).cell? ⟨B, 1, none⟩ = some (.int .i64 p.z) ∧ (put5 W B p).cell? ⟨B, 2, none⟩ = some (.int .i64 p.v) ∧ (put5 W B p).cell? ⟨B, 3, none⟩ = some (.int .i64 p.k) ∧ (put5 W B p).cell? ⟨B, 4, none⟩ = some (.int .i64 p.n) := by
  unfold put5
  refine ⟨?_, ?_, ?_, ?_, ?_⟩ <;> simp [go_sem, h0, h1, h2, h3, h4]
theorem put5_below {W0 W : World} {B : Nat} (p : Plc) (h : Below W0.heap.size W0 W) (hB : W0.heap.size ≤ B) : Below W0.heap.size W0 (put5 W B p) :=
  ((((h.setCell hB _).setCell hB _).setCell hB _).setCell hB _).setCell hB _
def fnd (zs : List Plc) (v t : Int) : Option Plc := fndF zs v t 0 zs.length
def zeroP : Plc := ⟨0, 0, 0, 0, 0⟩
set_option maxRecDepth 100000 in
set_option maxHeartbeats 4000000 in
theorem find_any (b off n c : Nat) (zs : List Plc) (v t : Int) (w : World) (hL : Lies w b off zs) (hn : n = zs.length) (h64 : n ≤ 64) :
    Calls Try.prog 40 #[.slice (some ⟨b, off, none⟩) n c, .int .i64 v, .int .i64 t] w fun e w' => e = .returned (aggP ((fnd zs v t).getD zeroP)) ∧ Below w.heap.size w w' := by
  have HL := Lib.hid hL
  have HN := Lib.hid hn
  have HF := Lib.hid (show fnd zs v t = fndF zs v t 0 n by unfold fnd; rw [hn])
  clear hL hn
  go_enter Try.func40, Try.ntmps40
  go_wp2
  generalize hW0 : World.alloc w _ = W0
  have r0 : W0.cell? ⟨w.heap.size, 0, none⟩ = some (.int .i64 0) := by rw [← hW0]; simp [go_sem]
  have r1 : W0.cell? ⟨w.heap.size, 1, none⟩ = some (.int .i64 0) := by rw [← hW0]; simp [go_sem]
  have r2 : W0.cell? ⟨w.heap.size, 2, none⟩ = some (.int .i64 0) := by rw [← hW0]; simp [go_sem]
  have r3 : W0.cell? ⟨w.heap.size, 3, none⟩ = some (.int .i64 0) := by rw [← hW0]; simp [go_sem]
  have r4 : W0.cell? ⟨w.heap.size, 4, none⟩ = some (.int .i64 0) := by rw [← hW0]; simp [go_sem]
  have hb0 : Below w.heap.size w W0 := by rw [← hW0]; exact (Below.refl _ _).alloc (Nat.le_refl _) _
  have sz0 : w.heap.size < W0.heap.size := by rw [← hW0]; simp
  have s0 : W0.frozen? ⟨w.heap.size, 0, none⟩ = false := by rw [← hW0]; exact new_free _ _ _ _
  have R0 := Lib.hid r0
  have S0 := Lib.hid s0
  have s1 : W0.frozen? ⟨w.heap.size, 1, none⟩ = false := by rw [← hW0]; exact new_free _ _ _ _
  have R1 := Lib.hid r1
  have S1 := Lib.hid s1
  have s2 : W0.frozen? ⟨w.heap.size, 2, none⟩ = false := by rw [← hW0]; exact new_free _ _ _ _
  have R2 := Lib.hid r2
  have S2 := Lib.hid s2
  have s3 : W0.frozen? ⟨w.heap.size, 3, none⟩ = false := by rw [← hW0]; exact new_free _ _ _ _
  have R3 := Lib.hid r3
  have S3 := Lib.hid s3
  have s4 : W0.frozen? ⟨w.heap.size, 4, none⟩ = false := by rw [← hW0]; exact new_free _ _ _ _
  have R4 := Lib.hid r4
  have S4 := Lib.hid s4
  clear hW0 r0 r1 r2 r3 r4 s0 s1 s2 s3 s4
  go_loopw [11] (fun z wr => ∃ i : Nat, i ≤ n ∧ z = .int .i64 (i : Int) ∧ Below W0.heap.size W0 wr ∧ fndF zs v t i (n - i) = fndF zs v t 0 n) (fun z _ => n - (intOf z).toNat)
  case atStart => exact ⟨0, by omega, rfl, Below.refl _ _, rfl⟩
  case round =>
    obtain ⟨i, hi, rfl, hb, hf⟩ := hrel
    have hbw : Below w.heap.size w _ := hb0.trans (hb.mono hb0.size)
    by_cases hlt : i < n
    · have ht := (HL.out.below hbw).at_ (j := i) (by have := HN.out; omega)
      have hs : fndF zs v t i (n - i) = if zs[i]!.v = v ∧ covB zs[i]! t = true then some zs[i]! else fndF zs v t (i + 1) (n - (i + 1)) := by
        rw [show n - i = (n - (i + 1)) + 1 by omega]
        rfl
      rw [hs] at hf
      clear hs
      generalize zs[i]! = p at ht hf
      obtain ⟨pa, pz, pv, pk, pn⟩ := p
      obtain ⟨c0, c1, c2, c3, c4⟩ := ht
      simp only at c0 c1 c2 c3 c4 hf
      obtain ⟨C, hC⟩ : ∃ C, C = covB ⟨pa, pz, pv, pk, pn⟩ t := ⟨_, rfl⟩
      rw [← hC] at hf
      have HC := Lib.hid hC.symm
      have HI := Lib.hid hf
      clear hC hf
      by_cases hv : pv = v
      · have dv : (pv == v) = true := by simp [hv]
        have HV := Lib.hid hv
        clear hv
        go_wp2_with fail
        generalize hW1 : World.alloc wr _ = W1
        have t0 : W1.cell? ⟨wr.heap.size, 0, none⟩ = some (.int .i64 pa) := by rw [← hW1]; simp [go_sem]
        have t1 : W1.cell? ⟨wr.heap.size, 1, none⟩ = some (.int .i64 pz) := by rw [← hW1]; simp [go_sem]
        have t2 : W1.cell? ⟨wr.heap.size, 2, none⟩ = some (.int .i64 pv) := by rw [← hW1]; simp [go_sem]
        have t3 : W1.cell? ⟨wr.heap.size, 3, none⟩ = some (.int .i64 pk) := by rw [← hW1]; simp [go_sem]
        have t4 : W1.cell? ⟨wr.heap.size, 4, none⟩ = some (.int .i64 pn) := by rw [← hW1]; simp [go_sem]
        have hb1 : Below wr.heap.size wr W1 := by rw [← hW1]; exact (Below.refl _ _).alloc (Nat.le_refl _) _
        have sz1 : wr.heap.size < W1.heap.size := by rw [← hW1]; simp
        clear hW1 c0 c1 c2 c3 c4
        refine (covers_at ⟨pa, pz, pv, pk, pn⟩ t C _ HC.out).mono ?_
        rintro e w1 ⟨rfl, hb2⟩
        have u0 := keep_cell hb2 sz1 t0
        have u1 := keep_cell hb2 sz1 t1
        have u2 := keep_cell hb2 sz1 t2
        have u3 := keep_cell hb2 sz1 t3
        have u4 := keep_cell hb2 sz1 t4
        have hb := hb.trans ((hb1.trans (hb2.mono hb1.size)).mono hb.size)
        have hbw : Below w.heap.size w w1 := hb0.trans (hb.mono hb0.size)
        clear t0 t1 t2 t3 t4
        cases C
        · clear u0 u1 u2 u3 u4
          go_wp2
          go_roundw
          case rel => exact ⟨i + 1, by omega, by go_num, hb, by have := HI.out; rwa [if_neg (by simp)] at this⟩
          case measure => simp [intOf]; omega
        · have HX := Lib.hid (show fnd zs v t = some ⟨pa, pz, pv, pk, pn⟩ by rw [HF.out, ← HI.out, if_pos ⟨HV.out, rfl⟩])
          have x0 := (hb.cell (p := ⟨w.heap.size, 0, none⟩) sz0).trans R0.out
          have y0 := (hb.frozen (p := ⟨w.heap.size, 0, none⟩) sz0).trans S0.out
          have x1 := (hb.cell (p := ⟨w.heap.size, 1, none⟩) sz0).trans R1.out
          have y1 := (hb.frozen (p := ⟨w.heap.size, 1, none⟩) sz0).trans S1.out
          have x2 := (hb.cell (p := ⟨w.heap.size, 2, none⟩) sz0).trans R2.out
          have y2 := (hb.frozen (p := ⟨w.heap.size, 2, none⟩) sz0).trans S2.out
          have x3 := (hb.cell (p := ⟨w.heap.size, 3, none⟩) sz0).trans R3.out
          have y3 := (hb.frozen (p := ⟨w.heap.size, 3, none⟩) sz0).trans S3.out
          have x4 := (hb.cell (p := ⟨w.heap.size, 4, none⟩) sz0).trans R4.out
          have y4 := (hb.frozen (p := ⟨w.heap.size, 4, none⟩) sz0).trans S4.out
          have hp5 := put5_at ⟨pa, pz, pv, pk, pn⟩ x0 x1 x2 x3 x4
          have hpb := put5_below ⟨pa, pz, pv, pk, pn⟩ hbw (Nat.le_refl _)
          have HP5 := Lib.hid hp5
          clear hp5
          go_wp2
          obtain ⟨p0, p1, p2, p3, p4⟩ := HP5.out
          change bodyPost _ _ _ _ _ (put5 _ _ ⟨pa, pz, pv, pk, pn⟩)
          exact bodyPost_ret (v := aggP ⟨pa, pz, pv, pk, pn⟩) (by simp [results, Try.results40, go_sem, p0, p1, p2, p3, p4]) rfl ⟨by rw [HX.out]; rfl, hpb⟩
      · have dv : (pv == v) = false := by simp [hv]
        have HI2 := Lib.hid (show fndF zs v t (i + 1) (n - (i + 1)) = fndF zs v t 0 n by have := HI.out; rwa [if_neg (by simp [hv])] at this)
        clear hv
        go_wp2
        go_roundw
        case rel => exact ⟨i + 1, by omega, by go_num, hb.alloc hb.size _, HI2.out⟩
        case measure => simp [intOf]; omega
    · have HX := Lib.hid (show fnd zs v t = none by rw [HF.out, ← hf, show n - i = 0 by omega]; rfl)
      clear hf
      have x0 := (hb.cell (p := ⟨w.heap.size, 0, none⟩) sz0).trans R0.out
      have y0 := (hb.frozen (p := ⟨w.heap.size, 0, none⟩) sz0).trans S0.out
      have x1 := (hb.cell (p := ⟨w.heap.size, 1, none⟩) sz0).trans R1.out
      have y1 := (hb.frozen (p := ⟨w.heap.size, 1, none⟩) sz0).trans S1.out
      have x2 := (hb.cell (p := ⟨w.heap.size, 2, none⟩) sz0).trans R2.out
      have y2 := (hb.frozen (p := ⟨w.heap.size, 2, none⟩) sz0).trans S2.out
      have x3 := (hb.cell (p := ⟨w.heap.size, 3, none⟩) sz0).trans R3.out
      have y3 := (hb.frozen (p := ⟨w.heap.size, 3, none⟩) sz0).trans S3.out
      have x4 := (hb.cell (p := ⟨w.heap.size, 4, none⟩) sz0).trans R4.out
      have y4 := (hb.frozen (p := ⟨w.heap.size, 4, none⟩) sz0).trans S4.out
      have hp5 := put5_at zeroP x0 x1 x2 x3 x4
      have hpb := put5_below zeroP hbw (Nat.le_refl _)
      have HP5 := Lib.hid hp5
      clear hp5
      go_wp2
      obtain ⟨p0, p1, p2, p3, p4⟩ := HP5.out
      change bodyPost _ _ _ _ _ (put5 _ _ zeroP)
      exact bodyPost_ret (v := aggP zeroP) (by simp [results, Try.results40, go_sem, p0, p1, p2, p3, p4]) rfl ⟨by rw [HX.out]; rfl, hpb⟩
end Go.Proofs.Ytdpfglpefncigaa
