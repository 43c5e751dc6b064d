/-
  Encode of package trace, at every table.
-/
import Derived.Test.YtdpfglpefncigaaTrK
namespace Go.Proofs.Ytdpfglpefncigaa
open Go.RowKit

/-- Where the place before a row begins. -/
def lastA (zs : List Plc) (j : Nat) : Int := if j = 0 then 0 else zs[j - 1]!.a
/-- The numbers of a row. -/
def rowNums (l : Int) (p : Plc) : List Nat := [(p.a - l).toNat, (p.z - p.a).toNat, p.v.toNat, p.k.toNat, p.n.toNat]
def grpAll (l : List Nat) : List Nat := l.flatMap (grpF 5)
/-- The bytes of a table up to a row. -/
def encUpto (zs : List Plc) (i : Nat) : List Nat := grpF 5 zs.length ++ (List.range i).flatMap fun j => grpAll (rowNums (lastA zs j) zs[j]!)
def encF (zs : List Plc) : List Nat := encUpto zs zs.length
theorem grpF_length : ∀ f n, (grpF f n).length ≤ f
  | 0, _ => Nat.le_refl _
  | f + 1, n => by
    unfold grpF
    split
    · simp
    · have := grpF_length f (n / 128)
      simp
      exact this
theorem grpAll_length : ∀ l : List Nat, (grpAll l).length ≤ 5 * l.length
  | [] => Nat.le_refl _
  | x :: l => by
    have h1 := grpAll_length l
    have h2 := grpF_length 5 x
    show (List.flatMap (grpF 5) (x :: l)).length ≤ _
    rw [List.flatMap_cons, List.length_append]
    have h1 : (List.flatMap (grpF 5) l).length ≤ 5 * l.length := h1
    rw [List.length_cons]
    omega
theorem encUpto_succ (zs : List Plc) (i : Nat) : encUpto zs (i + 1) = encUpto zs i ++ grpAll (rowNums (lastA zs i) zs[i]!) := by
  unfold encUpto
  rw [List.range_succ, List.flatMap_append, List.append_assoc]
  simp
theorem encUpto_length (zs : List Plc) : ∀ i, (encUpto zs i).length ≤ 5 + 25 * i
  | 0 => by
    have := grpF_length 5 zs.length
    unfold encUpto
    simp
    exact this
  | i + 1 => by
    have h1 := encUpto_length zs i
    have h2 := grpAll_length (rowNums (lastA zs i) zs[i]!)
    have h3 : (rowNums (lastA zs i) zs[i]!).length = 5 := rfl
    rw [encUpto_succ, List.length_append]
    omega
theorem bytesV_append (a b : List Nat) : bytesV (a ++ b) = bytesV a ++ bytesV b := by simp [bytesV]
theorem bytesV_length (a : List Nat) : (bytesV a).length = a.length := by simp [bytesV]
/-- A right place's numbers. -/
theorem place_nums {p : Plc} (h : isPlB p = true) : ∃ A Z V K N : Nat, p = ⟨A, Z, V, K, N⟩ ∧ A < Z ∧ Z ≤ 32768 ∧ V ≤ 63 ∧ K ≤ 2 ∧ N ≤ 4294967295 := by
  obtain ⟨a, z, v, k, n⟩ := p
  simp only [isPlB, Bool.and_eq_true, inB_iff, decide_eq_true_eq, kindB] at h
  obtain ⟨⟨⟨⟨⟨ha, hz⟩, haz⟩, hv⟩, hn⟩, hk⟩ := h
  refine ⟨a.toNat, z.toNat, v.toNat, k.toNat, n.toNat, ?_, by omega, by omega, by omega, ?_, ?_⟩
  · have hk0 : 0 ≤ k := by
      split at hk
      · omega
      · split at hk
        · omega
        · split at hk
          · omega
          · exact absurd hk (by simp)
    rw [Int.toNat_of_nonneg ha.1, Int.toNat_of_nonneg hz.1, Int.toNat_of_nonneg hv.1, Int.toNat_of_nonneg hk0, Int.toNat_of_nonneg hn]
  · split at hk
    · omega
    · split at hk
      · omega
      · split at hk
        · omega
        · exact absurd hk (by simp)
  · split at hk
    · have := of_decide_eq_true hk; omega
    · split at hk
      · have := of_decide_eq_true hk; omega
      · split at hk
        · have := of_decide_eq_true hk; omega
        · exact absurd hk (by simp)
theorem okAll_at {zs : List Plc} (h : okAll zs = true) {j : Nat} (hj : j < zs.length) : okAt zs j = true := by
  unfold okAll at h
  rw [List.all_eq_true] at h
  exact h j (List.mem_range.2 hj)
theorem okAt_place {zs : List Plc} {j : Nat} (h : okAt zs j = true) : isPlB zs[j]! = true := by
  unfold okAt at h
  exact (Bool.and_eq_true _ _ ▸ h).1
/-- What a table's numbers are, where the one before begins. -/
theorem last_nums {zs : List Plc} (h : okAll zs = true) {j : Nat} (hj : j < zs.length) : ∃ L : Nat, lastA zs j = (L : Int) ∧ (L : Int) ≤ zs[j]!.a := by
  have hp := fun k hk => place_nums (okAt_place (okAll_at h (j := k) hk))
  unfold lastA
  by_cases h0 : j = 0
  · rw [if_pos h0]
    obtain ⟨A, Z, V, K, N, e, _⟩ := hp j hj
    exact ⟨0, rfl, by rw [e]; simp⟩
  · rw [if_neg h0]
    obtain ⟨A, Z, V, K, N, e, _⟩ := hp (j - 1) (by omega)
    refine ⟨A, by rw [e], ?_⟩
    have := ok_sorted (zs := zs) (n := zs.length) (fun k hk => okAll_at h hk) 1 (j - 1) (by omega)
    rw [show j - 1 + 1 = j by omega, e] at this
    exact this
theorem valF_ok {zs : List Plc} (h : valF zs = 0) : zs.length ≤ 64 ∧ okAll zs = true := by
  unfold valF at h
  split at h
  · omega
  · split at h
    · omega
    · rename_i h1 h2
      refine ⟨by omega, ?_⟩
      cases ho : okAll zs
      · exact absurd ho h2
      · rfl
end Go.Proofs.Ytdpfglpefncigaa
