/-
  Bytes that came in as an argument.
-/
import Derived.Test.YtdpfglpefncigaaTrP
import Derived.Test.YtdpfglpefncigaaTrRa
import Derived.ChangeSlices
namespace Go.Proofs.Ytdpfglpefncigaa
open Go.ChangeShapes Go.WideShapes Go.ChangeAt Go.WideMaps Go.WideElems Go.RowKit Go.Deep

theorem wf_byte {n : Int} (h : (Lit.int .u8 n).wf = true) : 0 ≤ n ∧ n ≤ 255 := by
  unfold Lit.wf at h
  simp only [Bool.and_eq_true, decide_eq_true_eq] at h
  exact h
theorem cellsU8 : Try.prog.cellsOf 5 = 1 := by kernel_rfl
section
variable {H : Type} {enc : TypeId × Value → H} {W : World} {base b0 : Nat} {held : Bool}
set_option maxRecDepth 100000 in
theorem open_byt {v : Value} {d : DataW H} {p : List MemPlace} (hv : Value.okWide Try.prog W .any b0 39 v) (h : DataW.Trod enc Try.prog W base (fun _ => true) held 39 v d p) :
    ∃ A n c l, v = .slice A n c ∧ n = l.length ∧ BytesAt W W.heap.size (.slice A n c) l := by
  obtain ⟨A, n, c, rfl⟩ := okWide_slice Try.underlying39 hv
  obtain ⟨fuel, hf⟩ := h
  rcases open_ints Try.underlying39 Try.underlying5 cellsU8 hf with ⟨hcs, -⟩ | ⟨a, len, cap, zs, hcs, -, hl, hm, hz, -, hcell, hwz⟩
  · simp [Value.cells] at hcs
    obtain ⟨rfl, rfl, rfl⟩ := hcs
    exact ⟨_, _, _, [], rfl, rfl, .inl ⟨rfl, none, 0, rfl⟩⟩
  · simp [Value.cells] at hcs
    obtain ⟨rfl, rfl, rfl⟩ := hcs
    simp only [if_true] at hz
    by_cases hn : n = 0
    · subst hn
      exact ⟨_, _, _, [], rfl, rfl, .inl ⟨rfl, _, _, rfl⟩⟩
    · obtain ⟨ab, ao, spot⟩ := a
      have hspot : spot = none := by simpa [Addr.add] using World.cell?_spot (hcell 0 (by omega))
      subst hspot
      have hl' : ((zs.take n).map Int.toNat).length = n := by simp; omega
      have hb : ab < W.heap.size := by
        have h0 := hcell 0 (by omega)
        rw [Addr.add_lit] at h0
        apply Classical.byContradiction
        intro hb
        have : W.heap[ab]? = none := Array.getElem?_eq_none (by omega)
        simp [World.cell?, this] at h0
      refine ⟨_, n, c, (zs.take n).map Int.toNat, rfl, hl'.symm, .inr ⟨by omega, ab, ao, c, by rw [hl'], by omega, hb, fun j hj => ?_⟩⟩
      rw [hl'] at hj
      have hc := hcell j (by omega)
      rw [Addr.add_lit] at hc
      have e : zs.getD j 0 = zs[j]'(by omega) := by simp [List.getD, List.getElem?_eq_getElem (show j < zs.length by omega)]
      have hr := wf_byte (hwz (zs[j]'(by omega)) (List.getElem_mem _))
      have e2 : ((zs.take n).map Int.toNat)[j]! = (zs[j]'(by omega)).toNat := by
        have : j < ((zs.take n).map Int.toNat).length := by omega
        rw [show ((zs.take n).map Int.toNat)[j]! = ((zs.take n).map Int.toNat)[j] by simp only [getElem!_pos, this]]
        simp
      rw [e2, hc, e]
      refine ⟨by omega, ?_⟩
      congr 2
      omega
end
end Go.Proofs.Ytdpfglpefncigaa
