/-
  Decode of the reference: facts.
-/
import Derived.Test.YtdpfglpefncigaaTrDa
import Derived.Test.YtdpfglpefncigaaTrW
import Derived.Test.YtdpfglpefncigaaTrEn
namespace Go.Proofs.Ytdpfglpefncigaa
open Go.RowKit

def DecPost : Option (List Plc) → World → Ending → World → Prop
  | none, _, e, _ => e = .returned (.tuple #[.slice none 0 0, .int .i64 2])
  | some ps, w, e, w' => ∃ v, e = .returned (.tuple #[v, .int .i64 0]) ∧ w'.ownsRow w.heap.size 33 5 v ps.length (placesV ps)
theorem step_num (n x t : Nat) (hn : n < 2 ^ t) (ht : t ≤ 40) (hx : x < 256) : wrap64 ((n : Int) + wrap64 ((x : Int) % 128 * 2 ^ t)) = ((n + x % 128 * 2 ^ t : Nat) : Int) := by
  have hm := Nat.mod_lt x (show 0 < 128 by omega)
  have hp : 2 ^ t ≤ 2 ^ 40 := Nat.pow_le_pow_right (by omega) ht
  have hq : x % 128 * 2 ^ t ≤ 127 * 2 ^ 40 := Nat.mul_le_mul (by omega) hp
  have e2 : (x : Int) % 128 * 2 ^ t = ((x % 128 * 2 ^ t : Nat) : Int) := by push_cast; rfl
  rw [e2]
  unfold wrap64
  omega
theorem lastN_le (nums : List Nat) (h : ∀ k, k < nums.length → nums[k]! < 140737488355328) : ∀ j, 5 * j < nums.length + 5 → lastN nums j ≤ j * 140737488355328
  | 0, _ => by simp [lastN]
  | j + 1, hj => by
    have h1 := lastN_le nums h j (by omega)
    by_cases hk : 1 + 5 * j < nums.length
    · have h2 := h (1 + 5 * j) hk
      unfold lastN
      omega
    · have : nums[1 + 5 * j]! = 0 := by
        rw [List.getElem!_eq_getElem?_getD, List.getElem?_eq_none (by omega)]
        rfl
      unfold lastN
      omega
theorem get_lt {nums : List Nat} (h : ∀ m ∈ nums, m < 140737488355328) (k : Nat) (hk : k < nums.length) : nums[k]! < 140737488355328 := by
  rw [show nums[k]! = nums[k] by simp [hk]]
  exact h _ (List.getElem_mem _)
theorem dec_none1 {l : List Nat} (h : rfP l [] 0 0 = none) : refDecP l = none := by unfold refDecP; rw [h]
theorem dec_none2 {l nums : List Nat} {N T : Nat} (h : rfP l [] 0 0 = some (nums, N, T)) (h2 : 0 < T ∨ nums.length = 0 ∨ 64 < nums[0]! ∨ nums.length ≠ 1 + 5 * nums[0]!) : refDecP l = none := by
  unfold refDecP
  rw [h]
  exact if_pos h2
theorem dec_none3 {l nums : List Nat} {N T : Nat} (h : rfP l [] 0 0 = some (nums, N, T)) (h2 : ¬ (valF (tabOf nums nums[0]!) = 0 ∧ encF (tabOf nums nums[0]!) = l)) : refDecP l = none := by
  unfold refDecP
  rw [h]
  by_cases h3 : 0 < T ∨ nums.length = 0 ∨ 64 < nums[0]! ∨ nums.length ≠ 1 + 5 * nums[0]!
  · exact if_pos h3
  · exact (if_neg h3).trans (if_neg h2)
theorem dec_some {l nums : List Nat} {N T : Nat} (h : rfP l [] 0 0 = some (nums, N, T)) (h2 : ¬ (0 < T ∨ nums.length = 0 ∨ 64 < nums[0]! ∨ nums.length ≠ 1 + 5 * nums[0]!)) (h3 : valF (tabOf nums nums[0]!) = 0 ∧ encF (tabOf nums nums[0]!) = l) : refDecP l = some (tabOf nums nums[0]!) := by
  unfold refDecP
  rw [h]
  exact (if_neg h2).trans (if_pos h3)
theorem strs_ne {a b : List Nat} (ha : ∀ x ∈ a, x < 256) (hb : ∀ x ∈ b, x < 256) (h : a ≠ b) : strB a ≠ strB b := by
  intro he
  apply h
  have h1 : (a.map UInt8.ofNat) = b.map UInt8.ofNat := by
    have := congrArg (fun x : ByteArray => x.data.toList) he
    simpa [strB] using this
  have h2 : (a.map UInt8.ofNat).map UInt8.toNat = (b.map UInt8.ofNat).map UInt8.toNat := by rw [h1]
  rw [List.map_map, List.map_map] at h2
  have e : ∀ l : List Nat, (∀ x ∈ l, x < 256) → l.map (UInt8.toNat ∘ UInt8.ofNat) = l := by
    intro l hl
    conv => rhs; rw [← List.map_id l]
    apply List.map_congr_left
    intro x hx
    have := hl x hx
    simp
    omega
  rwa [e a ha, e b hb] at h2
theorem encF_lt (zs : List Plc) : ∀ x ∈ encF zs, x < 256 := encF_byte zs
end Go.Proofs.Ytdpfglpefncigaa
