/-
  A machine that came in as an argument.
-/
import Derived.Test.YtdpfglpefncigaaTrVa
import Derived.Test.YtdpfglpefncigaaTrDp
import Derived.OpenShut
namespace Go.Proofs.Ytdpfglpefncigaa
open Go.ChangeShapes Go.WideShapes Go.ChangeAt Go.WideMaps Go.WideElems Go.RowKit Go.Deep

theorem one_at {cs : List Value} {j : Nat} {x : Value} (h : (cs.drop j).take 1 = [x]) : cs[j]? = some x := by
  have h1 := congrArg (·[0]?) h
  simpa using h1
theorem wf_u32 {n : Int} (h : (Lit.int .u32 n).wf = true) : 0 ≤ n ∧ n ≤ 4294967295 := by
  unfold Lit.wf at h
  simp only [Bool.and_eq_true, decide_eq_true_eq] at h
  exact h
def regAt (MC : Array Value) (j : Nat) : Int := match MC[j]? with
  | some v => intOf v
  | none => 0
section
variable {H : Type} {enc : TypeId × Value → H} {W : World} {base b0 : Nat} {held : Bool}
set_option maxRecDepth 100000 in
theorem byt_cells {cs : List Value} {fuel : Nat} {x : DataW H × List MemPlace} (hf : DataW.trod enc Try.prog W base (fun _ => true) held fuel 39 cs = some x) :
    ∃ A n c l, cs = [.slice A n c] ∧ n = l.length ∧ BytesAt W W.heap.size (.slice A n c) l := by
  rcases open_ints Try.underlying39 Try.underlying5 cellsU8 hf with ⟨rfl, -⟩ | ⟨a, len, cap, zs, rfl, -, hl, hm, hz, -, hcell, hwz⟩
  · exact ⟨_, _, _, [], rfl, rfl, .inl ⟨rfl, none, 0, rfl⟩⟩
  · simp only [if_true] at hz
    by_cases hn : len = 0
    · subst hn
      exact ⟨_, _, _, [], rfl, rfl, .inl ⟨rfl, _, _, rfl⟩⟩
    · obtain ⟨ab, ao, spot⟩ := a
      have hspot : spot = none := by simpa [Addr.add] using World.cell?_spot (hcell 0 (by omega))
      subst hspot
      have hl' : ((zs.take len).map Int.toNat).length = len := by simp; omega
      have hb : ab < W.heap.size := by
        have h0 := hcell 0 (by omega)
        rw [Addr.add_lit] at h0
        apply Classical.byContradiction
        intro hb
        have : W.heap[ab]? = none := Array.getElem?_eq_none (by omega)
        simp [World.cell?, this] at h0
      refine ⟨_, len, cap, (zs.take len).map Int.toNat, rfl, hl'.symm, .inr ⟨by omega, ab, ao, cap, by rw [hl'], by omega, hb, fun j hj => ?_⟩⟩
      rw [hl'] at hj
      have hc := hcell j (by omega)
      rw [Addr.add_lit] at hc
      have e : zs.getD j 0 = zs[j]'(by omega) := by simp [List.getD, List.getElem?_eq_getElem (show j < zs.length by omega)]
      have hr := wf_byte (hwz (zs[j]'(by omega)) (List.getElem_mem _))
      have e2 : ((zs.take len).map Int.toNat)[j]! = (zs[j]'(by omega)).toNat := by
        have : j < ((zs.take len).map Int.toNat).length := by omega
        rw [show ((zs.take len).map Int.toNat)[j]! = ((zs.take len).map Int.toNat)[j] by simp only [getElem!_pos, this]]
        simp
      rw [e2, hc, e]
      refine ⟨by omega, ?_⟩
      congr 2
      omega
set_option maxRecDepth 100000 in
theorem open_mach {v : Value} {d : DataW H} {p : List MemPlace} (hv : Value.okWide Try.prog W .any b0 41 v) (h : DataW.Trod enc Try.prog W base (fun _ => true) held 41 v d p) :
    ∃ MC R at_ A n c l, v = .agg MC ∧ Mach W MC R at_ A n c l := by
  obtain ⟨MC, rfl, hsz⟩ := okWide_struct Try.underlying41 hv
  obtain ⟨fuel, hf⟩ := h
  obtain ⟨xs, m, _, hx, hcl, hlen, hg⟩ := DataW.trod_struct Try.underlying41 hf
  rw [show Try.prog.cellsOf 41 = 36 by kernel_rfl] at hsz hcl
  have g0 := hg 0 _ rfl
  have g2 := hg 2 _ rfl
  have g3 := hg 3 _ rfl
  have c1 : Try.prog.cellsOf 37 = 1 := by kernel_rfl
  have c2 : Try.prog.cellsOf 39 = 1 := by kernel_rfl
  have c32 : Try.prog.cellsOf 38 = 32 := by kernel_rfl
  have hl5 : xs.length = 5 := hlen
  obtain ⟨y0, hy0⟩ : ∃ y, xs[0]? = some y := ⟨_, List.getElem?_eq_getElem (by omega)⟩
  obtain ⟨y2, hy2⟩ : ∃ y, xs[2]? = some y := ⟨_, List.getElem?_eq_getElem (by omega)⟩
  obtain ⟨y3, hy3⟩ : ∃ y, xs[3]? = some y := ⟨_, List.getElem?_eq_getElem (by omega)⟩
  rw [hy0] at g0
  rw [hy2] at g2
  rw [hy3] at g3
  simp only [c1, c2, c32, Value.cells] at g0 g2 g3
  obtain ⟨at_, e2, -, w2⟩ := DataW.trod_int Try.underlying37 g2
  obtain ⟨A, n, c, l, e3, hn, hB⟩ := byt_cells g3
  obtain ⟨ys, m2, _, _, hl32, hys, hreg⟩ := DataW.trod_array Try.underlying38 g0
  have hr : ∀ j, j < 32 → ∃ n, MC[j]? = some (.int .u32 n) := by
    intro j hj
    have g := hreg j hj
    obtain ⟨y, hy⟩ : ∃ y, ys[j]? = some y := ⟨_, List.getElem?_eq_getElem (by omega)⟩
    rw [hy, c1, Nat.mul_one] at g
    obtain ⟨n, en, -, -⟩ := DataW.trod_int Try.underlying37 g
    have := one_at en
    simp at this
    rw [c32] at this
    simp [hj] at this
    exact ⟨n, this⟩
  have a2 := one_at e2
  have a3 := one_at e3
  simp at a2 a3
  refine ⟨MC, regAt MC, at_, A, n, c, l, rfl, ⟨fun j hj => ?_, a2, a3, hn, hB, (wf_u32 w2).1, (wf_u32 w2).2, hsz⟩⟩
  obtain ⟨n, hn⟩ := hr j hj
  rw [hn]
  unfold regAt
  rw [hn]
  rfl
end
end Go.Proofs.Ytdpfglpefncigaa
