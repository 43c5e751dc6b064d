/-
  Two places as one; the order of one place.
-/
import Derived.Test.YtdpfglpefncigaaTrRc
import Derived.RegionTactic
import Derived.ChangeAlike
namespace Go.Proofs.Ytdpfglpefncigaa
open Go.RowKit

theorem drew_cell {W : World} {a : Addr} {v : Value} (h : W.cell? a = some v) : W.drew.cell? a = some v := h
def joinP (p q : Plc) : Plc := ⟨p.a, q.z, p.v, p.k, p.n⟩
def sameB (p q : Plc) : Bool := decide (p.v = q.v) && (decide (p.k = q.k) && decide (p.n = q.n))
set_option maxRecDepth 100000 in
set_option maxHeartbeats 2000000 in
theorem joined_any (p q : Plc) (w : World) : Calls Try.prog 58 #[aggP p, aggP q] w fun e w' => e = .returned (.tuple #[aggP (joinP p q), .bool (sameB p q)]) ∧ Below w.heap.size w w' := by
  obtain ⟨pa, pz, pv, pk, pn⟩ := p
  obtain ⟨qa, qz, qv, qk, qn⟩ := q
  show Calls Try.prog 58 #[.agg #[.int .i64 pa, .int .i64 pz, .int .i64 pv, .int .i64 pk, .int .i64 pn], .agg #[.int .i64 qa, .int .i64 qz, .int .i64 qv, .int .i64 qk, .int .i64 qn]] w _
  go_enter Try.func58, Try.ntmps58
  go_wp2
  generalize hW : World.alloc (World.alloc (World.alloc (World.alloc w _) _) _) _ = W
  have a0 : W.cell? ⟨w.heap.size, 0, none⟩ = some (.int .i64 pa) := by rw [← hW]; simp [go_sem]
  have a1 : W.cell? ⟨w.heap.size, 1, none⟩ = some (.int .i64 qz) := by rw [← hW]; simp [go_sem]
  have a2 : W.cell? ⟨w.heap.size, 2, none⟩ = some (.int .i64 pv) := by rw [← hW]; simp [go_sem]
  have a3 : W.cell? ⟨w.heap.size, 3, none⟩ = some (.int .i64 pk) := by rw [← hW]; simp [go_sem]
  have a4 : W.cell? ⟨w.heap.size, 4, none⟩ = some (.int .i64 pn) := by rw [← hW]; simp [go_sem]
  have b0 : W.cell? ⟨w.heap.size + 1, 0, none⟩ = some (.int .i64 pa) := by rw [← hW]; simp [go_sem]
  have b1 : W.cell? ⟨w.heap.size + 1, 1, none⟩ = some (.int .i64 qz) := by rw [← hW]; simp [go_sem]
  have b2 : W.cell? ⟨w.heap.size + 1, 2, none⟩ = some (.int .i64 qv) := by rw [← hW]; simp [go_sem]
  have b3 : W.cell? ⟨w.heap.size + 1, 3, none⟩ = some (.int .i64 qk) := by rw [← hW]; simp [go_sem]
  have b4 : W.cell? ⟨w.heap.size + 1, 4, none⟩ = some (.int .i64 qn) := by rw [← hW]; simp [go_sem]
  have r0 : W.cell? ⟨w.heap.size + 1 + 1, 0, none⟩ = some (.int .i64 0) := by rw [← hW]; simp [go_sem]
  have r1 : W.cell? ⟨w.heap.size + 1 + 1, 1, none⟩ = some (.int .i64 0) := by rw [← hW]; simp [go_sem]
  have r2 : W.cell? ⟨w.heap.size + 1 + 1, 2, none⟩ = some (.int .i64 0) := by rw [← hW]; simp [go_sem]
  have r3 : W.cell? ⟨w.heap.size + 1 + 1, 3, none⟩ = some (.int .i64 0) := by rw [← hW]; simp [go_sem]
  have r4 : W.cell? ⟨w.heap.size + 1 + 1, 4, none⟩ = some (.int .i64 0) := by rw [← hW]; simp [go_sem]
  have d0 : W.cell? ⟨w.heap.size + 1 + 1 + 1, 0, none⟩ = some (.int .i64 pa) := by rw [← hW]; simp [go_sem]
  have d1 : W.cell? ⟨w.heap.size + 1 + 1 + 1, 1, none⟩ = some (.int .i64 qz) := by rw [← hW]; simp [go_sem]
  have d2 : W.cell? ⟨w.heap.size + 1 + 1 + 1, 2, none⟩ = some (.int .i64 pv) := by rw [← hW]; simp [go_sem]
  have d3 : W.cell? ⟨w.heap.size + 1 + 1 + 1, 3, none⟩ = some (.int .i64 pk) := by rw [← hW]; simp [go_sem]
  have d4 : W.cell? ⟨w.heap.size + 1 + 1 + 1, 4, none⟩ = some (.int .i64 pn) := by rw [← hW]; simp [go_sem]
  have f0 : W.frozen? ⟨w.heap.size + 1 + 1, 0, none⟩ = false := by rw [← hW]; simp [go_sem]
  have f1 : W.frozen? ⟨w.heap.size + 1 + 1, 1, none⟩ = false := by rw [← hW]; simp [go_sem]
  have f2 : W.frozen? ⟨w.heap.size + 1 + 1, 2, none⟩ = false := by rw [← hW]; simp [go_sem]
  have f3 : W.frozen? ⟨w.heap.size + 1 + 1, 3, none⟩ = false := by rw [← hW]; simp [go_sem]
  have f4 : W.frozen? ⟨w.heap.size + 1 + 1, 4, none⟩ = false := by rw [← hW]; simp [go_sem]
  have hb : Below w.heap.size w W := by
    rw [← hW]
    exact ((((Below.refl _ _).alloc (Nat.le_refl _) _).alloc (by simp) _).alloc (by simp; omega) _).alloc (by simp; omega) _
  clear hW
  have HP5 := Lib.hid (put5_at ⟨pa, qz, pv, pk, pn⟩ r0 r1 r2 r3 r4)
  by_cases hv : pv = qv
  · subst hv
    by_cases hk : pk = qk
    · subst hk
      by_cases hn : pn = qn
      · subst hn
        go_region
        change Exit.then _ _ _ _ ((put5 W (w.heap.size + 1 + 1) ⟨pa, qz, pv, pk, pn⟩).drew)
        obtain ⟨p0, p1, p2, p3, p4⟩ := HP5.out
        have g0 : ((put5 W (w.heap.size + 1 + 1) ⟨pa, qz, pv, pk, pn⟩).drew).cell? ⟨w.heap.size + 1 + 1, 0, none⟩ = some (.int .i64 pa) := drew_cell p0
        have g1 : ((put5 W (w.heap.size + 1 + 1) ⟨pa, qz, pv, pk, pn⟩).drew).cell? ⟨w.heap.size + 1 + 1, 1, none⟩ = some (.int .i64 qz) := drew_cell p1
        have g2 : ((put5 W (w.heap.size + 1 + 1) ⟨pa, qz, pv, pk, pn⟩).drew).cell? ⟨w.heap.size + 1 + 1, 2, none⟩ = some (.int .i64 pv) := drew_cell p2
        have g3 : ((put5 W (w.heap.size + 1 + 1) ⟨pa, qz, pv, pk, pn⟩).drew).cell? ⟨w.heap.size + 1 + 1, 3, none⟩ = some (.int .i64 pk) := drew_cell p3
        have g4 : ((put5 W (w.heap.size + 1 + 1) ⟨pa, qz, pv, pk, pn⟩).drew).cell? ⟨w.heap.size + 1 + 1, 4, none⟩ = some (.int .i64 pn) := drew_cell p4
        have hb9 : Below w.heap.size w ((put5 W (w.heap.size + 1 + 1) ⟨pa, qz, pv, pk, pn⟩).drew) := drewR (put5_below _ hb (by omega))
        generalize (put5 W (w.heap.size + 1 + 1) ⟨pa, qz, pv, pk, pn⟩).drew = W9 at g0 g1 g2 g3 g4 hb9 ⊢
        clear p0 p1 p2 p3 p4 a0 a1 a2 a3 a4 b0 b1 b2 b3 b4 r0 r1 r2 r3 r4 d0 d1 d2 d3 d4 f0 f1 f2 f3 f4
        go_wp2
        exact bodyPost_ret (v := .tuple #[aggP ⟨pa, qz, pv, pk, pn⟩, .bool true]) (by simp [results, Try.results58, go_sem, g0, g1, g2, g3, g4]) rfl ⟨by rw [show sameB _ _ = true by simp [sameB]]; rfl, hb9⟩
      · go_region
        change Exit.then _ _ _ _ ((put5 W (w.heap.size + 1 + 1) ⟨pa, qz, pv, pk, pn⟩).drew)
        obtain ⟨p0, p1, p2, p3, p4⟩ := HP5.out
        have g0 : ((put5 W (w.heap.size + 1 + 1) ⟨pa, qz, pv, pk, pn⟩).drew).cell? ⟨w.heap.size + 1 + 1, 0, none⟩ = some (.int .i64 pa) := drew_cell p0
        have g1 : ((put5 W (w.heap.size + 1 + 1) ⟨pa, qz, pv, pk, pn⟩).drew).cell? ⟨w.heap.size + 1 + 1, 1, none⟩ = some (.int .i64 qz) := drew_cell p1
        have g2 : ((put5 W (w.heap.size + 1 + 1) ⟨pa, qz, pv, pk, pn⟩).drew).cell? ⟨w.heap.size + 1 + 1, 2, none⟩ = some (.int .i64 pv) := drew_cell p2
        have g3 : ((put5 W (w.heap.size + 1 + 1) ⟨pa, qz, pv, pk, pn⟩).drew).cell? ⟨w.heap.size + 1 + 1, 3, none⟩ = some (.int .i64 pk) := drew_cell p3
        have g4 : ((put5 W (w.heap.size + 1 + 1) ⟨pa, qz, pv, pk, pn⟩).drew).cell? ⟨w.heap.size + 1 + 1, 4, none⟩ = some (.int .i64 pn) := drew_cell p4
        have hb9 : Below w.heap.size w ((put5 W (w.heap.size + 1 + 1) ⟨pa, qz, pv, pk, pn⟩).drew) := drewR (put5_below _ hb (by omega))
        generalize (put5 W (w.heap.size + 1 + 1) ⟨pa, qz, pv, pk, pn⟩).drew = W9 at g0 g1 g2 g3 g4 hb9 ⊢
        clear p0 p1 p2 p3 p4 a0 a1 a2 a3 a4 b0 b1 b2 b3 b4 r0 r1 r2 r3 r4 d0 d1 d2 d3 d4 f0 f1 f2 f3 f4
        go_wp2
        exact bodyPost_ret (v := .tuple #[aggP ⟨pa, qz, pv, pk, pn⟩, .bool false]) (by simp [results, Try.results58, go_sem, g0, g1, g2, g3, g4]) rfl ⟨by rw [show sameB _ _ = false by simp [sameB, hn]]; rfl, hb9⟩
    · go_region
      change Exit.then _ _ _ _ ((put5 W (w.heap.size + 1 + 1) ⟨pa, qz, pv, pk, pn⟩).drew)
      obtain ⟨p0, p1, p2, p3, p4⟩ := HP5.out
      have g0 : ((put5 W (w.heap.size + 1 + 1) ⟨pa, qz, pv, pk, pn⟩).drew).cell? ⟨w.heap.size + 1 + 1, 0, none⟩ = some (.int .i64 pa) := drew_cell p0
      have g1 : ((put5 W (w.heap.size + 1 + 1) ⟨pa, qz, pv, pk, pn⟩).drew).cell? ⟨w.heap.size + 1 + 1, 1, none⟩ = some (.int .i64 qz) := drew_cell p1
      have g2 : ((put5 W (w.heap.size + 1 + 1) ⟨pa, qz, pv, pk, pn⟩).drew).cell? ⟨w.heap.size + 1 + 1, 2, none⟩ = some (.int .i64 pv) := drew_cell p2
      have g3 : ((put5 W (w.heap.size + 1 + 1) ⟨pa, qz, pv, pk, pn⟩).drew).cell? ⟨w.heap.size + 1 + 1, 3, none⟩ = some (.int .i64 pk) := drew_cell p3
      have g4 : ((put5 W (w.heap.size + 1 + 1) ⟨pa, qz, pv, pk, pn⟩).drew).cell? ⟨w.heap.size + 1 + 1, 4, none⟩ = some (.int .i64 pn) := drew_cell p4
      have hb9 : Below w.heap.size w ((put5 W (w.heap.size + 1 + 1) ⟨pa, qz, pv, pk, pn⟩).drew) := drewR (put5_below _ hb (by omega))
      generalize (put5 W (w.heap.size + 1 + 1) ⟨pa, qz, pv, pk, pn⟩).drew = W9 at g0 g1 g2 g3 g4 hb9 ⊢
      clear p0 p1 p2 p3 p4 a0 a1 a2 a3 a4 b0 b1 b2 b3 b4 r0 r1 r2 r3 r4 d0 d1 d2 d3 d4 f0 f1 f2 f3 f4
      go_wp2
      exact bodyPost_ret (v := .tuple #[aggP ⟨pa, qz, pv, pk, pn⟩, .bool false]) (by simp [results, Try.results58, go_sem, g0, g1, g2, g3, g4]) rfl ⟨by rw [show sameB _ _ = false by simp [sameB, hk]]; rfl, hb9⟩
  · go_region
    change Exit.then _ _ _ _ ((put5 W (w.heap.size + 1 + 1) ⟨pa, qz, pv, pk, pn⟩).drew)
    obtain ⟨p0, p1, p2, p3, p4⟩ := HP5.out
    have g0 : ((put5 W (w.heap.size + 1 + 1) ⟨pa, qz, pv, pk, pn⟩).drew).cell? ⟨w.heap.size + 1 + 1, 0, none⟩ = some (.int .i64 pa) := drew_cell p0
    have g1 : ((put5 W (w.heap.size + 1 + 1) ⟨pa, qz, pv, pk, pn⟩).drew).cell? ⟨w.heap.size + 1 + 1, 1, none⟩ = some (.int .i64 qz) := drew_cell p1
    have g2 : ((put5 W (w.heap.size + 1 + 1) ⟨pa, qz, pv, pk, pn⟩).drew).cell? ⟨w.heap.size + 1 + 1, 2, none⟩ = some (.int .i64 pv) := drew_cell p2
    have g3 : ((put5 W (w.heap.size + 1 + 1) ⟨pa, qz, pv, pk, pn⟩).drew).cell? ⟨w.heap.size + 1 + 1, 3, none⟩ = some (.int .i64 pk) := drew_cell p3
    have g4 : ((put5 W (w.heap.size + 1 + 1) ⟨pa, qz, pv, pk, pn⟩).drew).cell? ⟨w.heap.size + 1 + 1, 4, none⟩ = some (.int .i64 pn) := drew_cell p4
    have hb9 : Below w.heap.size w ((put5 W (w.heap.size + 1 + 1) ⟨pa, qz, pv, pk, pn⟩).drew) := drewR (put5_below _ hb (by omega))
    generalize (put5 W (w.heap.size + 1 + 1) ⟨pa, qz, pv, pk, pn⟩).drew = W9 at g0 g1 g2 g3 g4 hb9 ⊢
    clear p0 p1 p2 p3 p4 a0 a1 a2 a3 a4 b0 b1 b2 b3 b4 r0 r1 r2 r3 r4 d0 d1 d2 d3 d4 f0 f1 f2 f3 f4
    go_wp2
    exact bodyPost_ret (v := .tuple #[aggP ⟨pa, qz, pv, pk, pn⟩, .bool false]) (by simp [results, Try.results58, go_sem, g0, g1, g2, g3, g4]) rfl ⟨by rw [show sameB _ _ = false by simp [sameB, hv]]; rfl, hb9⟩
set_option maxRecDepth 100000 in
theorem insertion_one (V F : Value) (w : World) : Calls Try.prog 66 #[V, .int .i64 0, .int .i64 1, F] w fun e w' => e = .returned (.tuple #[]) ∧ w' = w := by
  go_enter Try.func66, Try.ntmps66
  go_wp2
  go_loopw [8] (fun z wr => z = .int .i64 1 ∧ wr = w) (fun _ _ => 0)
  case atStart => exact ⟨rfl, rfl⟩
  case round =>
    obtain ⟨rfl, rfl⟩ := hrel
    go_wp2
    refine bodyPost_end (results_none rfl _ _ _) rfl ?_
    exact ⟨rfl, rfl⟩
end Go.Proofs.Ytdpfglpefncigaa
