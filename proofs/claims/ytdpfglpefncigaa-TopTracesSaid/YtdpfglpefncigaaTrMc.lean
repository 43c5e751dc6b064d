/-
  The closure of Merge; the first of no places.
-/
import Derived.Test.YtdpfglpefncigaaTrMb
namespace Go.Proofs.Ytdpfglpefncigaa
open Go.RowKit

theorem joined_at (qa qz qv qk qn pa pz pv pk pn : Int) (X : Bool) (w : World) (h : sameB ⟨qa, qz, qv, qk, qn⟩ ⟨pa, pz, pv, pk, pn⟩ = X) :
    Calls Try.prog 58 #[.agg #[.int .i64 qa, .int .i64 qz, .int .i64 qv, .int .i64 qk, .int .i64 qn], .agg #[.int .i64 pa, .int .i64 pz, .int .i64 pv, .int .i64 pk, .int .i64 pn]] w fun e w' => e = .returned (.tuple #[.agg #[.int .i64 qa, .int .i64 pz, .int .i64 qv, .int .i64 qk, .int .i64 qn], .bool X]) ∧ Below w.heap.size w w' := by
  subst h
  exact joined_any ⟨qa, qz, qv, qk, qn⟩ ⟨pa, pz, pv, pk, pn⟩ w
def goesOn (q x : Plc) : Bool := sameB x q && decide (x.z = q.a)
set_option maxRecDepth 100000 in
theorem pred_merge (B : Nat) (p : Plc) (w : World) (hB : B < w.heap.size) (ht : At5 w B 0 p) :
    PredOk 57 #[.pointer (some ⟨B, 0, none⟩)] (goesOn p) w := fun W x hb => by
  obtain ⟨pa, pz, pv, pk, pn⟩ := p
  obtain ⟨qa, qz, qv, qk, qn⟩ := x
  obtain ⟨c0, c1, c2, c3, c4⟩ := ht
  simp only [Nat.zero_add] at c0 c1 c2 c3 c4
  have hBW : B < W.heap.size := Nat.lt_of_lt_of_le hB hb.size
  have hne : B ≠ W.heap.size := by omega
  have d0 : W.cell? ⟨B, 0, none⟩ = some (.int .i64 pa) := (hb.cell (p := ⟨B, 0, none⟩) hB).trans c0
  have d1 : W.cell? ⟨B, 1, none⟩ = some (.int .i64 pz) := (hb.cell (p := ⟨B, 1, none⟩) hB).trans c1
  have d2 : W.cell? ⟨B, 2, none⟩ = some (.int .i64 pv) := (hb.cell (p := ⟨B, 2, none⟩) hB).trans c2
  have d3 : W.cell? ⟨B, 3, none⟩ = some (.int .i64 pk) := (hb.cell (p := ⟨B, 3, none⟩) hB).trans c3
  have d4 : W.cell? ⟨B, 4, none⟩ = some (.int .i64 pn) := (hb.cell (p := ⟨B, 4, none⟩) hB).trans c4
  clear c0 c1 c2 c3 c4
  show Calls Try.prog 57 #[.agg #[.int .i64 qa, .int .i64 qz, .int .i64 qv, .int .i64 qk, .int .i64 qn], .pointer (some ⟨B, 0, none⟩)] W _
  obtain ⟨X, hX⟩ : ∃ X, X = sameB ⟨qa, qz, qv, qk, qn⟩ ⟨pa, pz, pv, pk, pn⟩ := ⟨_, rfl⟩
  have HX := Lib.hid hX.symm
  have HG := Lib.hid (show goesOn ⟨pa, pz, pv, pk, pn⟩ ⟨qa, qz, qv, qk, qn⟩ = (X && decide (qz = pa)) by rw [hX]; rfl)
  clear hX
  go_enter Try.func57, Try.ntmps57
  go_wp2_with fail
  generalize hW1 : World.alloc W _ = W1
  have t0 : W1.cell? ⟨W.heap.size, 0, none⟩ = some (.int .i64 qa) := by rw [← hW1]; simp [go_sem]
  have t1 : W1.cell? ⟨W.heap.size, 1, none⟩ = some (.int .i64 qz) := by rw [← hW1]; simp [go_sem]
  have hb1 : Below W.heap.size W W1 := by rw [← hW1]; exact (Below.refl _ _).alloc (Nat.le_refl _) _
  have sz1 : W.heap.size < W1.heap.size := by rw [← hW1]; simp
  clear hW1
  refine (joined_at qa qz qv qk qn pa pz pv pk pn X _ HX.out).mono ?_
  rintro e W2 ⟨rfl, hb2⟩
  have u1 := keep_cell hb2 sz1 t1
  have hb3 := hb1.trans (hb2.mono hb1.size)
  have e0 := (hb3.cell (p := ⟨B, 0, none⟩) hBW).trans d0
  have hb4 := keep_below hb3 hb
  clear t0 t1 d0 d1 d2 d3 d4
  have hnB : W.heap.size ≠ W2.heap.size := by have := hb2.size; omega
  have hnB2 : B ≠ W2.heap.size := by have := hb3.size; omega
  have l1 : W.heap.size < W2.heap.size := by have := hb2.size; omega
  have l2 : B < W2.heap.size := by have := hb3.size; omega
  have hn1 : W2.heap.size ≠ W.heap.size := hnB.symm
  have hn2 : W2.heap.size ≠ B := hnB2.symm
  have hb5 : Below w.heap.size w (W2.alloc (.cells #[.int .i64 qa, .int .i64 pz, .int .i64 qv, .int .i64 qk, .int .i64 qn] 33)) := hb4.alloc hb4.size _
  cases X
  · go_wp2
    go_ret
    exact ⟨ret_b (by rw [HG.out]; rfl), hb5⟩
  · by_cases hz : qz = pa
    · subst hz
      go_wp2
      go_ret
      exact ⟨ret_b (by rw [HG.out]; simp), hb5⟩
    · have dz : (qz == pa) = false := by simp [hz]
      have HG2 := Lib.hid (show (true && decide (qz = pa)) = false by simp [hz])
      go_wp2
      go_ret
      exact ⟨ret_b (by rw [HG.out]; exact HG2.out.symm), hb5⟩
theorem indexFunc_empty (A : Option Addr) (c : Nat) (F : Value) (w : World) : Calls Try.prog 56 #[.slice A 0 c, F] w fun e w' => e = .returned (.int .i64 (-1)) ∧ w' = w := by
  go_enter Try.func56, Try.ntmps56
  go_wp2
  go_loopw [8] (fun z wr => z = .int .i64 0 ∧ wr = w) (fun _ _ => 0)
  case atStart => exact ⟨rfl, rfl⟩
  case round =>
    obtain ⟨rfl, rfl⟩ := hrel
    go_wp2
    go_ret
    exact ⟨rfl, rfl⟩
end Go.Proofs.Ytdpfglpefncigaa
