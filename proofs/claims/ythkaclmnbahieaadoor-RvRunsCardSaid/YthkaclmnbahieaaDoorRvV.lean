/-
  Numbers of bytes: number of the program, read of the reference.
-/
import Derived.Test.YthkaclmnbahieaaDoorRvU
import Derived.Test.YthkaclmnbahieaaDoorRvL
namespace Go.Proofs.YthkaclmnbahieaaDoor
open Go.RowKit

/-- The number of the first k bytes. -/
def numP (l : List Int) : Nat → Nat
  | 0 => 0
  | k + 1 => numP l k + (l[k]!).toNat * 2 ^ (8 * k)
theorem numP_lt {l : List Int} {n : Nat} (hb : ∀ j, j < n → 0 ≤ l[j]! ∧ l[j]! < 256) : ∀ k, k ≤ n → numP l k < 2 ^ (8 * k)
  | 0, _ => by simp [numP]
  | k + 1, h => by
    have ih := numP_lt hb k (by omega)
    have h0 := hb k (by omega)
    have h1 : (l[k]!).toNat ≤ 255 := by omega
    have h2 := Nat.mul_le_mul_right (2 ^ (8 * k)) h1
    unfold numP
    rw [show 8 * (k + 1) = 8 * k + 8 by omega, Nat.pow_add]
    omega
theorem u32_put {a x k : Nat} (ha : a < 2 ^ k) (hx : x < 256) (hk : k ≤ 24) : bits .or .u32 (a : Int) ((x : Int) * ((2 ^ k : Nat) : Int)) = ((a + x * 2 ^ k : Nat) : Int) := by
  have hp : 2 ^ k ≤ 2 ^ 24 := Nat.pow_le_pow_right (by omega) hk
  have h2 : x * 2 ^ k ≤ 255 * 2 ^ 24 := Nat.mul_le_mul (by omega) hp
  rw [show (x : Int) * ((2 ^ k : Nat) : Int) = ((x * 2 ^ k : Nat) : Int) by push_cast; rfl, u32_or a _ (by omega) (by omega), or_top x ha]
set_option maxRecDepth 100000 in
set_option maxHeartbeats 4000000 in
theorem number_any {w : World} {A : Option Addr} {n c : Nat} {l : List Int} (hB : Byt w A n c l) (hn : n ≤ 4) :
    Calls Tryd.prog 47 #[.slice A n c] w fun e w' => e = .returned (.int .u32 (numP l n : Nat)) ∧ w' = w := by
  have HB := Lib.hid hB
  have HP := Lib.hid (fun k hk => numP_lt hB.2.2.2.1 k hk)
  have hcap := hB.2.1
  have hmax := hB.2.2.1
  clear hB
  go_enter Tryd.func47, Tryd.ntmps47
  go_upto_region 3 with fail
  go_loopw [3, 8] (fun zn zi wr => ∃ k : Nat, k ≤ n ∧ zi = .int .i64 (k : Int) ∧ zn = .int .u32 (numP l k : Nat) ∧ wr = w) (fun _ zi _ => n - (intOf zi).toNat)
  case atStart => exact ⟨0, by omega, rfl, rfl, rfl⟩
  case round =>
    obtain ⟨k, hk, rfl, rfl, rfl⟩ := hrel
    by_cases hlt : k < n
    · obtain ⟨b, off, rfl, hbs, hc, h0, h1⟩ := HB.out.at_ hlt
      have hPk := HP.out k hk
      obtain ⟨x, hx⟩ : ∃ x : Nat, l[k]! = (x : Int) := ⟨(l[k]!).toNat, by omega⟩
      rw [hx] at hc h0 h1
      have hx2 : x < 256 := by omega
      have HN := Lib.hid (show numP l (k + 1) = numP l k + x * 2 ^ (8 * k) by rw [numP, hx, Int.toNat_natCast])
      clear hx h0 h1
      generalize numP l k = N at hPk HN
      obtain rfl | rfl | rfl | rfl : k = 0 ∨ k = 1 ∨ k = 2 ∨ k = 3 := by omega
      · have q : bits .or .u32 (N : Int) ((x : Int) * 1) = ((N + x * 2 ^ (8 * 0) : Nat) : Int) := u32_put (k := 0) hPk hx2 (by decide)
        rw [Int.mul_one] at q
        rw [Nat.add_zero] at hc
        rw [show ((0 : Nat) : Int) = 0 from rfl]
        go_wp2
        go_roundw
        case rel => exact ⟨1, by omega, rfl, by rw [HN.out]; exact congrArg _ (by first | exact q | simp), by first | rfl | trivial⟩
        case measure => simp [intOf]; omega
      · have q : bits .or .u32 (N : Int) ((x : Int) * 256) = ((N + x * 2 ^ (8 * 1) : Nat) : Int) := u32_put (k := 8) hPk hx2 (by decide)
        rw [show ((1 : Nat) : Int) = 1 from rfl]
        go_wp2
        go_roundw
        case rel => exact ⟨2, by omega, rfl, by rw [HN.out]; exact congrArg _ (by first | exact q | simp), by first | rfl | trivial⟩
        case measure => simp [intOf]; omega
      · have q : bits .or .u32 (N : Int) ((x : Int) * 65536) = ((N + x * 2 ^ (8 * 2) : Nat) : Int) := u32_put (k := 16) hPk hx2 (by decide)
        rw [show ((2 : Nat) : Int) = 2 from rfl]
        go_wp2
        go_roundw
        case rel => exact ⟨3, by omega, rfl, by rw [HN.out]; exact congrArg _ (by first | exact q | simp), by first | rfl | trivial⟩
        case measure => simp [intOf]; omega
      · have q : bits .or .u32 (N : Int) ((x : Int) * 16777216) = ((N + x * 2 ^ (8 * 3) : Nat) : Int) := u32_put (k := 24) hPk hx2 (by decide)
        rw [show ((3 : Nat) : Int) = 3 from rfl]
        go_wp2
        go_roundw
        case rel => exact ⟨4, by omega, rfl, by rw [HN.out]; exact congrArg _ (by first | exact q | simp), by first | rfl | trivial⟩
        case measure => simp [intOf]; omega
    · obtain rfl : k = n := by omega
      go_wp2
      go_ret
      exact ⟨rfl, rfl⟩
/-- The number of bytes from a place on, from the highest. -/
def rdP (l : List Int) (p m : Nat) : Nat → Nat
  | 0 => 0
  | k + 1 => (l[p + (m - 1 - k)]!).toNat + 256 * rdP l p m k
set_option maxRecDepth 100000 in
set_option maxHeartbeats 4000000 in
theorem read_any {w : World} {A : Option Addr} {n c : Nat} {l : List Int} (hB : Byt w A n c l) (p m : Nat) (hm : m ≤ 4) (hp : p + m ≤ n) :
    Calls Tryd.prog 48 #[.slice A n c, .int .i64 (p : Int), .int .i64 (m : Int)] w fun e w' => e = .returned (.int .u32 (rdP l p m m : Nat)) ∧ w' = w := by
  have HB := Lib.hid hB
  have hcap := hB.2.1
  have hmax := hB.2.2.1
  have hb := hB.2.2.2.1
  have HP := Lib.hid (show ∀ k, k ≤ m → rdP l p m k < 256 ^ k from fun k => by
    induction k with
    | zero => intro _; simp [rdP]
    | succ k ih =>
      intro hk
      have h1 := ih (by omega)
      have h2 := hb (p + (m - 1 - k)) (by omega)
      rw [rdP, Nat.pow_succ]
      omega)
  clear hB hb
  go_enter Tryd.func48, Tryd.ntmps48
  go_upto_region 3 with fail
  go_loopw [7, 8] (fun zn zi wr => ∃ k : Nat, k ≤ m ∧ zi = .int .i64 ((m : Int) - 1 - (k : Int)) ∧ zn = .int .u32 (rdP l p m k : Nat) ∧ wr = w) (fun _ zi _ => (intOf zi + 1).toNat)
  case atStart => exact ⟨0, by omega, by simp, rfl, rfl⟩
  case round =>
    obtain ⟨k, hk, rfl, rfl, rfl⟩ := hrel
    by_cases hlt : k < m
    · obtain ⟨j, hj⟩ : ∃ j : Nat, (m : Int) - 1 - (k : Int) = (j : Int) ∧ j = m - 1 - k := ⟨m - 1 - k, by omega, rfl⟩
      obtain ⟨hj1, hj2⟩ := hj
      obtain ⟨b, off, rfl, hbs, hc, h0, h1⟩ := HB.out.at_ (j := p + j) (by omega)
      have hPk := HP.out k hk
      obtain ⟨x, hx⟩ : ∃ x : Nat, l[p + j]! = (x : Int) := ⟨(l[p + j]!).toNat, by omega⟩
      rw [hx] at hc h0 h1
      have hx2 : x < 256 := by omega
      have HN := Lib.hid (show rdP l p m (k + 1) = x + 256 * rdP l p m k by rw [rdP, ← hj2, hx, Int.toNat_natCast])
      clear hx h0 h1
      generalize rdP l p m k = N at hPk HN
      have hN : N < 16777216 := by
        have : 256 ^ k ≤ 256 ^ 3 := Nat.pow_le_pow_right (by decide) (by omega)
        omega
      have q : bits .or .u32 ((N : Int) * 256) (x : Int) = ((x + 256 * N : Nat) : Int) := by
        rw [show (N : Int) * 256 = ((N * 256 : Nat) : Int) by omega, u32_or _ x (by omega) (by omega), Nat.or_comm]
        have := or_top (x := x) (k := 8) N (by omega)
        rw [show (2 : Nat) ^ 8 = 256 by decide] at this
        rw [this, Nat.mul_comm N 256]
      have hjm : (j : Int) + 1 ≤ (m : Int) := by omega
      have hjn : (p : Int) + (j : Int) < (n : Int) := by omega
      rw [hj1]
      have HJ := Lib.hid hj2
      have HJ1 := Lib.hid hj1
      clear hj1 hj2
      go_wp2
      go_roundw
      case rel => exact ⟨k + 1, by omega, by have := HJ1.out; congr 1; omega, by rw [HN.out]; exact congrArg _ (by first | exact q | (push_cast; omega) | simp), by first | rfl | trivial⟩
      case measure => simp [intOf]
    · obtain rfl : k = m := by omega
      have e : (k : Int) - 1 - (k : Int) = -1 := by omega
      rw [e]
      go_wp2
      go_ret
      exact ⟨rfl, rfl⟩
theorem num_take {l : List Int} {p : Nat} (_ : p + 4 ≤ l.length) : numP ((l.drop p).take 4) 4 = num4 l p := by
  have g : ∀ j, j < 4 → ((l.drop p).take 4)[j]! = l[p + j]! := fun j hj => by
    rw [get_take hj]
    simp [List.getElem!_eq_getElem?_getD, List.getElem?_drop]
  unfold num4
  simp only [numP]
  rw [g 0 (by omega), g 1 (by omega), g 2 (by omega), g 3 (by omega)]
  simp
  omega
theorem rd_num (l : List Int) (p : Nat) : rdP l p 4 4 = num4 l p := by
  unfold num4
  simp only [rdP]
  simp
  omega
end Go.Proofs.YthkaclmnbahieaaDoor
