/-
  Instructions of the first set as plain numbers: the word of an instruction, the instruction of a word; both are inverse.
-/
namespace Go.Proofs.YthkaclmnbahieaaDoor

/-- An instruction of the first set. -/
structure Rv where
  op : Int
  d : Int
  a : Int
  b : Int
  imm : Int
deriving DecidableEq, Inhabited

/-- Kind, op, f3 and f7 of the operations, in their order. -/
def fmtT : List (Nat × Nat × Nat × Nat) := [
  (0, 0x33, 0, 0), (0, 0x33, 0, 0x20), (0, 0x33, 1, 0), (0, 0x33, 2, 0), (0, 0x33, 3, 0),
  (0, 0x33, 4, 0), (0, 0x33, 5, 0), (0, 0x33, 5, 0x20), (0, 0x33, 6, 0), (0, 0x33, 7, 0),
  (0, 0x33, 0, 1), (0, 0x33, 4, 1), (0, 0x33, 5, 1), (0, 0x33, 6, 1), (0, 0x33, 7, 1),
  (1, 0x13, 0, 0), (1, 0x13, 2, 0), (1, 0x13, 3, 0), (1, 0x13, 4, 0), (1, 0x13, 6, 0), (1, 0x13, 7, 0),
  (2, 0x13, 1, 0), (2, 0x13, 5, 0), (2, 0x13, 5, 0x20),
  (3, 0x37, 0, 0),
  (1, 0x03, 4, 0), (1, 0x03, 5, 0), (1, 0x03, 2, 0),
  (4, 0x23, 0, 0), (4, 0x23, 1, 0), (4, 0x23, 2, 0),
  (5, 0x63, 0, 0), (5, 0x63, 1, 0), (5, 0x63, 4, 0), (5, 0x63, 5, 0), (5, 0x63, 6, 0), (5, 0x63, 7, 0),
  (6, 0x6f, 0, 0), (1, 0x67, 0, 0),
  (7, 0x73, 0, 0), (7, 0x73, 0, 0x2000)]
def kT (i : Nat) : Nat := (fmtT.getD i (0, 0, 0, 0)).1
def oT (i : Nat) : Nat := (fmtT.getD i (0, 0, 0, 0)).2.1
def f3T (i : Nat) : Nat := (fmtT.getD i (0, 0, 0, 0)).2.2.1
def f7T (i : Nat) : Nat := (fmtT.getD i (0, 0, 0, 0)).2.2.2

def hasD (k : Nat) : Bool := k == 0 || k == 1 || k == 2 || k == 3 || k == 6
def hasA (k : Nat) : Bool := k == 0 || k == 1 || k == 2 || k == 4 || k == 5
def hasB (k : Nat) : Bool := k == 0 || k == 4 || k == 5
def hasI (k : Nat) : Bool := k == 1 || k == 2 || k == 3 || k == 4 || k == 5 || k == 6
def lowT (k : Nat) : Int := if k = 1 ∨ k = 4 then -2048 else if k = 5 then -4096 else if k = 6 then -1048576 else 0
def highT (k : Nat) : Int := if k = 1 ∨ k = 4 then 2047 else if k = 2 then 31 else if k = 3 then 1048575 else if k = 5 then 4094 else if k = 6 then 1048574 else 0
def evenT (k : Nat) : Bool := k == 5 || k == 6

def regF (has : Bool) (x : Int) : Prop := x = 0 ∨ (has = true ∧ 0 < x ∧ x < 32)
instance (has : Bool) (x : Int) : Decidable (regF has x) := by unfold regF; infer_instance
/-- What Validate asks of a kind. -/
def ValK (k : Nat) (d a b imm : Int) : Prop := regF (hasD k) d ∧ regF (hasA k) a ∧ regF (hasB k) b ∧ lowT k ≤ imm ∧ imm ≤ highT k ∧ (evenT k = true → imm % 2 = 0)
instance (k : Nat) (d a b imm : Int) : Decidable (ValK k d a b imm) := by unfold ValK; infer_instance
def Val (x : Rv) : Prop := 0 ≤ x.op ∧ x.op ≤ 40 ∧ ValK (kT x.op.toNat) x.d x.a x.b x.imm
instance (x : Rv) : Decidable (Val x) := by unfold Val; infer_instance

def part (n lo hi to : Nat) : Nat := n / 2 ^ lo % 2 ^ (hi - lo + 1) * 2 ^ to
/-- The word of the fields of a kind. -/
def encK (k o f3 f7 d a b n : Nat) : Nat :=
  if k = 0 then o ||| f3 * 4096 ||| d * 128 ||| a * 32768 ||| b * 1048576 ||| f7 * 33554432
  else if k = 1 then o ||| f3 * 4096 ||| d * 128 ||| a * 32768 ||| part n 0 11 20
  else if k = 2 then o ||| f3 * 4096 ||| d * 128 ||| a * 32768 ||| n * 1048576 ||| f7 * 33554432
  else if k = 3 then o ||| f3 * 4096 ||| d * 128 ||| n * 4096
  else if k = 4 then o ||| f3 * 4096 ||| a * 32768 ||| b * 1048576 ||| part n 0 4 7 ||| part n 5 11 25
  else if k = 5 then o ||| f3 * 4096 ||| a * 32768 ||| b * 1048576 ||| part n 11 11 7 ||| part n 1 4 8 ||| part n 5 10 25 ||| part n 12 12 31
  else if k = 6 then o ||| f3 * 4096 ||| d * 128 ||| part n 12 19 12 ||| part n 11 11 20 ||| part n 1 10 21 ||| part n 20 20 31
  else o ||| f3 * 4096 ||| f7 * 128
def u32 (n : Int) : Nat := (n % 4294967296).toNat
def encF (x : Rv) : Nat := encK (kT x.op.toNat) (oT x.op.toNat) (f3T x.op.toNat) (f7T x.op.toNat) x.d.toNat x.a.toNat x.b.toNat (u32 x.imm)
/-- A number of some bits with its sign. -/
def sgn (n bits : Nat) : Int := if n / 2 ^ (bits - 1) % 2 = 1 then (n : Int) - 2 ^ bits else n
def extI (k w : Nat) : Int :=
  if k = 1 then sgn (w / 1048576) 12
  else if k = 2 then (part w 20 24 0 : Nat)
  else if k = 3 then (w / 4096 : Nat)
  else if k = 4 then sgn (part w 7 11 0 ||| part w 25 31 5) 12
  else if k = 5 then sgn (part w 8 11 1 ||| part w 25 30 5 ||| part w 7 7 11 ||| part w 31 31 12) 13
  else if k = 6 then sgn (part w 21 30 1 ||| part w 20 20 11 ||| part w 12 19 12 ||| part w 31 31 20) 21
  else 0
def extK (k op w : Nat) : Rv := ⟨op, if hasD k then (part w 7 11 0 : Nat) else 0, if hasA k then (part w 15 19 0 : Nat) else 0, if hasB k then (part w 20 24 0 : Nat) else 0, extI k w⟩
def extF (op w : Nat) : Rv := extK (kT op) op w

theorem or_top {x k : Nat} (y : Nat) (h : x < 2 ^ k) : x ||| y * 2 ^ k = x + y * 2 ^ k := by
  rw [← Nat.shiftLeft_eq, Nat.or_comm, ← Nat.shiftLeft_add_eq_or_of_lt h, Nat.add_comm]
theorem or_ins {x y z : Nat} (k j : Nat) (hx : x < 2 ^ k) (hy : x + y * 2 ^ k < 2 ^ j) : (x + z * 2 ^ j) ||| y * 2 ^ k = x + y * 2 ^ k + z * 2 ^ j := by
  have hxj : x < 2 ^ j := by omega
  rw [← or_top z hxj, Nat.or_assoc, Nat.or_comm (z * 2 ^ j), ← Nat.or_assoc, or_top y hx, or_top z hy]
theorem enc0 {o f3 f7 d a b n : Nat} (ho : o < 128) (h3 : f3 < 8) (hd : d < 32) (ha : a < 32) (hb : b < 32) : encK 0 o f3 f7 d a b n = o + d * 128 + f3 * 4096 + a * 32768 + b * 1048576 + f7 * 33554432 := by
  unfold encK
  rw [if_pos rfl, or_top (k := 12) f3 (by omega), or_ins (x := o) (y := d) (z := f3) 7 12 (by omega) (by omega), or_top (k := 15) a (by omega), or_top (k := 20) b (by omega), or_top (k := 25) f7 (by omega)]
theorem enc1 {o f3 f7 d a b n : Nat} (ho : o < 128) (h3 : f3 < 8) (hd : d < 32) (ha : a < 32) : encK 1 o f3 f7 d a b n = o + d * 128 + f3 * 4096 + a * 32768 + n % 4096 * 1048576 := by
  unfold encK part
  rw [if_neg (by decide), if_pos rfl, or_top (k := 12) f3 (by omega), or_ins (x := o) (y := d) (z := f3) 7 12 (by omega) (by omega), or_top (k := 15) a (by omega), or_top (k := 20) _ (by omega)]
  simp
theorem enc2 {o f3 f7 d a b n : Nat} (ho : o < 128) (h3 : f3 < 8) (hd : d < 32) (ha : a < 32) (hn : n < 32) : encK 2 o f3 f7 d a b n = o + d * 128 + f3 * 4096 + a * 32768 + n * 1048576 + f7 * 33554432 := by
  unfold encK
  rw [if_neg (by decide), if_neg (by decide), if_pos rfl, or_top (k := 12) f3 (by omega), or_ins (x := o) (y := d) (z := f3) 7 12 (by omega) (by omega), or_top (k := 15) a (by omega), or_top (k := 20) _ (by omega), or_top (k := 25) f7 (by omega)]
theorem enc3 {o f7 d a b n : Nat} (ho : o < 128) (hd : d < 32) : encK 3 o 0 f7 d a b n = o + d * 128 + n * 4096 := by
  unfold encK
  rw [if_neg (by decide), if_neg (by decide), if_neg (by decide), if_pos rfl, Nat.zero_mul, Nat.or_zero, or_top (k := 7) d (by omega), or_top (k := 12) _ (by omega)]
theorem enc4 {o f3 f7 d a b n : Nat} (ho : o < 128) (h3 : f3 < 8) (ha : a < 32) (hb : b < 32) : encK 4 o f3 f7 d a b n = o + n % 32 * 128 + f3 * 4096 + a * 32768 + b * 1048576 + n / 32 % 128 * 33554432 := by
  have e1 : part n 0 4 7 = n % 32 * 2 ^ 7 := by unfold part; simp
  have e2 : part n 5 11 25 = n / 32 % 128 * 2 ^ 25 := by unfold part; simp
  unfold encK
  rw [if_neg (by decide), if_neg (by decide), if_neg (by decide), if_neg (by decide), if_pos rfl, e1, e2, or_top (k := 12) f3 (by omega), or_top (k := 15) a (by omega), or_top (k := 20) b (by omega)]
  have h := or_ins (x := o) (y := n % 32) (z := f3 + a * 8 + b * 256) 7 12 (by omega) (by omega)
  rw [show o + f3 * 2 ^ 12 + a * 2 ^ 15 + b * 2 ^ 20 = o + (f3 + a * 8 + b * 256) * 2 ^ 12 by omega, h, or_top (k := 25) _ (by omega)]
  omega
theorem enc5 {o f3 f7 d a b n : Nat} (ho : o < 128) (h3 : f3 < 8) (ha : a < 32) (hb : b < 32) : encK 5 o f3 f7 d a b n = o + n / 2048 % 2 * 128 + n / 2 % 16 * 256 + f3 * 4096 + a * 32768 + b * 1048576 + n / 32 % 64 * 33554432 + n / 4096 % 2 * 2147483648 := by
  have e1 : part n 11 11 7 = n / 2048 % 2 * 2 ^ 7 := by unfold part; simp
  have e2 : part n 1 4 8 = n / 2 % 16 * 2 ^ 8 := by unfold part; simp
  have e3 : part n 5 10 25 = n / 32 % 64 * 2 ^ 25 := by unfold part; simp
  have e4 : part n 12 12 31 = n / 4096 % 2 * 2 ^ 31 := by unfold part; simp
  unfold encK
  rw [if_neg (by decide), if_neg (by decide), if_neg (by decide), if_neg (by decide), if_neg (by decide), if_pos rfl, e1, e2, e3, e4, or_top (k := 12) f3 (by omega), or_top (k := 15) a (by omega), or_top (k := 20) b (by omega)]
  have h := or_ins (x := o) (y := n / 2048 % 2) (z := f3 + a * 8 + b * 256) 7 12 (by omega) (by omega)
  have h2 := or_ins (x := o + n / 2048 % 2 * 2 ^ 7) (y := n / 2 % 16) (z := f3 + a * 8 + b * 256) 8 12 (by omega) (by omega)
  rw [show o + f3 * 2 ^ 12 + a * 2 ^ 15 + b * 2 ^ 20 = o + (f3 + a * 8 + b * 256) * 2 ^ 12 by omega, h, h2, or_top (k := 25) _ (by omega), or_top (k := 31) _ (by omega)]
  omega
theorem enc6 {o f7 d a b n : Nat} (ho : o < 128) (hd : d < 32) : encK 6 o 0 f7 d a b n = o + d * 128 + n / 4096 % 256 * 4096 + n / 2048 % 2 * 1048576 + n / 2 % 1024 * 2097152 + n / 1048576 % 2 * 2147483648 := by
  have e1 : part n 12 19 12 = n / 4096 % 256 * 2 ^ 12 := by unfold part; simp
  have e2 : part n 11 11 20 = n / 2048 % 2 * 2 ^ 20 := by unfold part; simp
  have e3 : part n 1 10 21 = n / 2 % 1024 * 2 ^ 21 := by unfold part; simp
  have e4 : part n 20 20 31 = n / 1048576 % 2 * 2 ^ 31 := by unfold part; simp
  unfold encK
  rw [if_neg (by decide), if_neg (by decide), if_neg (by decide), if_neg (by decide), if_neg (by decide), if_neg (by decide), if_pos rfl, Nat.zero_mul, Nat.or_zero, e1, e2, e3, e4, or_top (k := 7) d (by omega), or_top (k := 12) _ (by omega), or_top (k := 20) _ (by omega), or_top (k := 21) _ (by omega), or_top (k := 31) _ (by omega)]
theorem enc7 {o f7 d a b n : Nat} (ho : o < 128) : encK 7 o 0 f7 d a b n = o + f7 * 128 := by
  unfold encK
  rw [if_neg (by decide), if_neg (by decide), if_neg (by decide), if_neg (by decide), if_neg (by decide), if_neg (by decide), if_neg (by decide), Nat.zero_mul, Nat.or_zero, or_top (k := 7) _ (by omega)]

/-! The parts of the Imm, read. -/
theorem ext4 (w : Nat) : part w 7 11 0 ||| part w 25 31 5 = w / 128 % 32 + w / 33554432 % 128 * 32 := by
  have e1 : part w 7 11 0 = w / 128 % 32 := by unfold part; simp
  have e2 : part w 25 31 5 = w / 33554432 % 128 * 2 ^ 5 := by unfold part; simp
  rw [e1, e2, or_top (k := 5) _ (by omega)]
theorem ext5 (w : Nat) : part w 8 11 1 ||| part w 25 30 5 ||| part w 7 7 11 ||| part w 31 31 12 = w / 256 % 16 * 2 + w / 33554432 % 64 * 32 + w / 128 % 2 * 2048 + w / 2147483648 % 2 * 4096 := by
  have e1 : part w 8 11 1 = w / 256 % 16 * 2 := by unfold part; simp
  have e2 : part w 25 30 5 = w / 33554432 % 64 * 2 ^ 5 := by unfold part; simp
  have e3 : part w 7 7 11 = w / 128 % 2 * 2 ^ 11 := by unfold part; simp
  have e4 : part w 31 31 12 = w / 2147483648 % 2 * 2 ^ 12 := by unfold part; simp
  rw [e1, e2, e3, e4, or_top (k := 5) _ (by omega), or_top (k := 11) _ (by omega), or_top (k := 12) _ (by omega)]
theorem ext6 (w : Nat) : part w 21 30 1 ||| part w 20 20 11 ||| part w 12 19 12 ||| part w 31 31 20 = w / 2097152 % 1024 * 2 + w / 1048576 % 2 * 2048 + w / 4096 % 256 * 4096 + w / 2147483648 % 2 * 1048576 := by
  have e1 : part w 21 30 1 = w / 2097152 % 1024 * 2 := by unfold part; simp
  have e2 : part w 20 20 11 = w / 1048576 % 2 * 2 ^ 11 := by unfold part; simp
  have e3 : part w 12 19 12 = w / 4096 % 256 * 2 ^ 12 := by unfold part; simp
  have e4 : part w 31 31 20 = w / 2147483648 % 2 * 2 ^ 20 := by unfold part; simp
  rw [e1, e2, e3, e4, or_top (k := 11) _ (by omega), or_top (k := 12) _ (by omega), or_top (k := 20) _ (by omega)]
theorem kT_le {i : Nat} (h : i < 41) : kT i ≤ 7 := by
  have : ∀ i, i < 41 → kT i ≤ 7 := by decide +kernel
  exact this i h
theorem oT_lt {i : Nat} (h : i < 41) : oT i < 128 := by
  have : ∀ i, i < 41 → oT i < 128 := by decide +kernel
  exact this i h
theorem f3T_lt {i : Nat} (h : i < 41) : f3T i < 8 := by
  have : ∀ i, i < 41 → f3T i < 8 := by decide +kernel
  exact this i h
theorem f3T_zero {i : Nat} (h : i < 41) (hk : kT i = 3 ∨ kT i = 6 ∨ kT i = 7) : f3T i = 0 := by
  have : ∀ i, i < 41 → (kT i = 3 ∨ kT i = 6 ∨ kT i = 7) → f3T i = 0 := by decide +kernel
  exact this i h hk
theorem f7T_lt {i : Nat} (h : i < 41) : f7T i < 16384 ∧ (kT i = 0 ∨ kT i = 2 → f7T i < 128) := by
  have : ∀ i, i < 41 → f7T i < 16384 ∧ (kT i = 0 ∨ kT i = 2 → f7T i < 128) := by decide +kernel
  exact this i h
theorem fld {S x y z K M N : Nat} (hN : N = K * M) (hx : x < K) (hy : y < M) (hS : S = x + y * K + z * N) : S / K % M = y := by
  subst hN hS
  have hK : 0 < K := by omega
  rw [show x + y * K + z * (K * M) = x + (y + z * M) * K by rw [Nat.add_mul, Nat.mul_assoc z M K, Nat.mul_comm M K]; omega, Nat.add_mul_div_right _ _ hK, Nat.div_eq_of_lt hx, Nat.zero_add, Nat.add_mul_mod_self_right, Nat.mod_eq_of_lt hy]
theorem fldt {S x y K : Nat} (hx : x < K) (hS : S = x + y * K) : S / K = y := by
  subst hS
  have hK : 0 < K := by omega
  rw [Nat.add_mul_div_right _ _ hK, Nat.div_eq_of_lt hx, Nat.zero_add]
theorem part7 (w : Nat) : part w 7 11 0 = w / 128 % 32 := by unfold part; simp
theorem part15 (w : Nat) : part w 15 19 0 = w / 32768 % 32 := by unfold part; simp
theorem part20 (w : Nat) : part w 20 24 0 = w / 1048576 % 32 := by unfold part; simp
/-- What is told of a valid instruction's word, for a kind. -/
def EncOK (k o f3 f7 op : Nat) (d a b imm : Int) : Prop :=
    encK k o f3 f7 d.toNat a.toNat b.toNat (u32 imm) < 4294967296 ∧ encK k o f3 f7 d.toNat a.toNat b.toNat (u32 imm) % 128 = o ∧
    (k ≠ 3 ∧ k ≠ 6 ∧ k ≠ 7 → encK k o f3 f7 d.toNat a.toNat b.toNat (u32 imm) / 4096 % 8 = f3) ∧ (k = 0 ∨ k = 2 → encK k o f3 f7 d.toNat a.toNat b.toNat (u32 imm) / 33554432 = f7) ∧
    (k = 7 → encK k o f3 f7 d.toNat a.toNat b.toNat (u32 imm) / 128 = f7) ∧
    extK k op (encK k o f3 f7 d.toNat a.toNat b.toNat (u32 imm)) = ⟨op, d, a, b, imm⟩
theorem ext_enc0 {o f3 f7 op : Nat} {d a b imm : Int} (ho : o < 128) (h3 : f3 < 8) (h70 : f7 < 128) (hv : ValK 0 d a b imm) : EncOK 0 o f3 f7 op d a b imm := by
  obtain ⟨hd, ha, hb, hl, hh, he⟩ := hv
  unfold EncOK
  simp [regF, hasD, hasA, hasB, lowT, highT] at hd ha hb hl hh
  obtain ⟨D, eD⟩ : ∃ D, D = d.toNat := ⟨_, rfl⟩
  have hD : D < 32 := by omega
  have iD : (D : Int) = d := by omega
  obtain ⟨A, eA⟩ : ∃ A, A = a.toNat := ⟨_, rfl⟩
  have hA : A < 32 := by omega
  have iA : (A : Int) = a := by omega
  obtain ⟨B, eB⟩ : ∃ B, B = b.toNat := ⟨_, rfl⟩
  have hB : B < 32 := by omega
  have iB : (B : Int) = b := by omega
  rw [← eD, ← eA, ← eB, enc0 ho h3 hD hA hB]
  obtain ⟨S, hS⟩ : ∃ S, S = o + D * 128 + f3 * 4096 + A * 32768 + B * 1048576 + f7 * 33554432 := ⟨_, rfl⟩
  rw [← hS]
  have e_o : S % 128 = o := by rw [hS, show o + D * 128 + f3 * 4096 + A * 32768 + B * 1048576 + f7 * 33554432 = o + (D + f3 * 32 + A * 256 + B * 8192 + f7 * 262144) * 128 by omega, Nat.add_mul_mod_self_right, Nat.mod_eq_of_lt ho]
  have e_D : S / 128 % 32 = D := fld (x := o) (z := f3 + A * 8 + B * 256 + f7 * 8192) (N := 4096) (by omega) (by omega) (by omega) (by omega)
  have e_f3 : S / 4096 % 8 = f3 := fld (x := o + D * 128) (z := A + B * 32 + f7 * 1024) (N := 32768) (by omega) (by omega) (by omega) (by omega)
  have e_A : S / 32768 % 32 = A := fld (x := o + D * 128 + f3 * 4096) (z := B + f7 * 32) (N := 1048576) (by omega) (by omega) (by omega) (by omega)
  have e_B : S / 1048576 % 32 = B := fld (x := o + D * 128 + f3 * 4096 + A * 32768) (z := f7) (N := 33554432) (by omega) (by omega) (by omega) (by omega)
  have t_f7 : S / 33554432 = f7 := fldt (x := o + D * 128 + f3 * 4096 + A * 32768 + B * 1048576) (by omega) (by omega)
  have e_f7 : S / 33554432 % 128 = f7 := by rw [t_f7, Nat.mod_eq_of_lt (by omega)]
  have hlt : S < 4294967296 := by omega
  clear hS
  refine ⟨hlt, e_o, fun _ => e_f3, fun _ => t_f7, fun h => by omega, ?_⟩
  simp only [extK, extI, hasD, hasA, hasB, sgn]
  simp only [part7, part15, part20, e_D, e_A, e_B]
  simp
  omega
theorem ext_enc1 {o f3 f7 op : Nat} {d a b imm : Int} (ho : o < 128) (h3 : f3 < 8) (hv : ValK 1 d a b imm) : EncOK 1 o f3 f7 op d a b imm := by
  obtain ⟨hd, ha, hb, hl, hh, he⟩ := hv
  unfold EncOK
  simp [regF, hasD, hasA, hasB, lowT, highT] at hd ha hb hl hh
  obtain ⟨D, eD⟩ : ∃ D, D = d.toNat := ⟨_, rfl⟩
  have hD : D < 32 := by omega
  have iD : (D : Int) = d := by omega
  obtain ⟨A, eA⟩ : ∃ A, A = a.toNat := ⟨_, rfl⟩
  have hA : A < 32 := by omega
  have iA : (A : Int) = a := by omega
  rw [← eD, ← eA, enc1 ho h3 hD hA]
  obtain ⟨X, eX⟩ : ∃ X, X = u32 imm % 4096 := ⟨_, rfl⟩
  have hX : X < 4096 := by omega
  have iX : ((X : Nat) : Int) = imm % 4096 := by unfold u32 at eX; omega
  rw [← eX]
  obtain ⟨S, hS⟩ : ∃ S, S = o + D * 128 + f3 * 4096 + A * 32768 + X * 1048576 := ⟨_, rfl⟩
  rw [← hS]
  have e_o : S % 128 = o := by rw [hS, show o + D * 128 + f3 * 4096 + A * 32768 + X * 1048576 = o + (D + f3 * 32 + A * 256 + X * 8192) * 128 by omega, Nat.add_mul_mod_self_right, Nat.mod_eq_of_lt ho]
  have e_D : S / 128 % 32 = D := fld (x := o) (z := f3 + A * 8 + X * 256) (N := 4096) (by omega) (by omega) (by omega) (by omega)
  have e_f3 : S / 4096 % 8 = f3 := fld (x := o + D * 128) (z := A + X * 32) (N := 32768) (by omega) (by omega) (by omega) (by omega)
  have e_A : S / 32768 % 32 = A := fld (x := o + D * 128 + f3 * 4096) (z := X) (N := 1048576) (by omega) (by omega) (by omega) (by omega)
  have t_X : S / 1048576 = X := fldt (x := o + D * 128 + f3 * 4096 + A * 32768) (by omega) (by omega)
  have e_X : S / 1048576 % 4096 = X := by rw [t_X, Nat.mod_eq_of_lt (by omega)]
  have hlt : S < 4294967296 := by omega
  clear hS
  refine ⟨hlt, e_o, fun _ => e_f3, fun h => by omega, fun h => by omega, ?_⟩
  simp only [extK, extI, hasD, hasA, hasB, sgn]
  simp only [part7, part15, part20, e_D, e_A, t_X]
  simp
  refine ⟨by clear iX; omega, by clear iX; omega, by clear iX; omega, ?_⟩
  try clear e_o
  try clear e_f3
  try clear e_D
  try clear e_A
  try clear e_B
  try clear e_X
  try clear e_Y
  try clear e_Z
  try clear e_T
  try clear t_X
  clear hlt
  split <;> omega
theorem ext_enc2 {o f3 f7 op : Nat} {d a b imm : Int} (ho : o < 128) (h3 : f3 < 8) (h70 : f7 < 128) (hv : ValK 2 d a b imm) : EncOK 2 o f3 f7 op d a b imm := by
  obtain ⟨hd, ha, hb, hl, hh, he⟩ := hv
  unfold EncOK
  simp [regF, hasD, hasA, hasB, lowT, highT] at hd ha hb hl hh
  obtain ⟨D, eD⟩ : ∃ D, D = d.toNat := ⟨_, rfl⟩
  have hD : D < 32 := by omega
  have iD : (D : Int) = d := by omega
  obtain ⟨A, eA⟩ : ∃ A, A = a.toNat := ⟨_, rfl⟩
  have hA : A < 32 := by omega
  have iA : (A : Int) = a := by omega
  obtain ⟨X, eX⟩ : ∃ X, X = u32 imm := ⟨_, rfl⟩
  have hX : X < 32 := by unfold u32 at eX; omega
  have iX : (X : Int) = imm := by unfold u32 at eX; omega
  rw [← eD, ← eA, ← eX, enc2 ho h3 hD hA hX]
  obtain ⟨S, hS⟩ : ∃ S, S = o + D * 128 + f3 * 4096 + A * 32768 + X * 1048576 + f7 * 33554432 := ⟨_, rfl⟩
  rw [← hS]
  have e_o : S % 128 = o := by rw [hS, show o + D * 128 + f3 * 4096 + A * 32768 + X * 1048576 + f7 * 33554432 = o + (D + f3 * 32 + A * 256 + X * 8192 + f7 * 262144) * 128 by omega, Nat.add_mul_mod_self_right, Nat.mod_eq_of_lt ho]
  have e_D : S / 128 % 32 = D := fld (x := o) (z := f3 + A * 8 + X * 256 + f7 * 8192) (N := 4096) (by omega) (by omega) (by omega) (by omega)
  have e_f3 : S / 4096 % 8 = f3 := fld (x := o + D * 128) (z := A + X * 32 + f7 * 1024) (N := 32768) (by omega) (by omega) (by omega) (by omega)
  have e_A : S / 32768 % 32 = A := fld (x := o + D * 128 + f3 * 4096) (z := X + f7 * 32) (N := 1048576) (by omega) (by omega) (by omega) (by omega)
  have e_X : S / 1048576 % 32 = X := fld (x := o + D * 128 + f3 * 4096 + A * 32768) (z := f7) (N := 33554432) (by omega) (by omega) (by omega) (by omega)
  have t_f7 : S / 33554432 = f7 := fldt (x := o + D * 128 + f3 * 4096 + A * 32768 + X * 1048576) (by omega) (by omega)
  have e_f7 : S / 33554432 % 128 = f7 := by rw [t_f7, Nat.mod_eq_of_lt (by omega)]
  have hlt : S < 4294967296 := by omega
  clear hS
  refine ⟨hlt, e_o, fun _ => e_f3, fun _ => t_f7, fun h => by omega, ?_⟩
  simp only [extK, extI, hasD, hasA, hasB, sgn]
  simp only [part7, part15, part20, e_D, e_A, e_X]
  simp
  omega
theorem ext_enc3 {o f3 f7 op : Nat} {d a b imm : Int} (ho : o < 128) (h3 : f3 < 8) (h30 : f3 = 0) (hv : ValK 3 d a b imm) : EncOK 3 o f3 f7 op d a b imm := by
  obtain ⟨hd, ha, hb, hl, hh, he⟩ := hv
  unfold EncOK
  simp [regF, hasD, hasA, hasB, lowT, highT] at hd ha hb hl hh
  subst h30
  obtain ⟨D, eD⟩ : ∃ D, D = d.toNat := ⟨_, rfl⟩
  have hD : D < 32 := by omega
  have iD : (D : Int) = d := by omega
  obtain ⟨X, eX⟩ : ∃ X, X = u32 imm := ⟨_, rfl⟩
  have hX : X < 1048576 := by unfold u32 at eX; omega
  have iX : (X : Int) = imm := by unfold u32 at eX; omega
  rw [← eD, ← eX, enc3 ho hD]
  obtain ⟨S, hS⟩ : ∃ S, S = o + D * 128 + X * 4096 := ⟨_, rfl⟩
  rw [← hS]
  have e_o : S % 128 = o := by rw [hS, show o + D * 128 + X * 4096 = o + (D + X * 32) * 128 by omega, Nat.add_mul_mod_self_right, Nat.mod_eq_of_lt ho]
  have e_D : S / 128 % 32 = D := fld (x := o) (z := X) (N := 4096) (by omega) (by omega) (by omega) (by omega)
  have t_X : S / 4096 = X := fldt (x := o + D * 128) (by omega) (by omega)
  have e_X : S / 4096 % 1048576 = X := by rw [t_X, Nat.mod_eq_of_lt (by omega)]
  have hlt : S < 4294967296 := by omega
  clear hS
  refine ⟨hlt, e_o, fun h => by omega, fun h => by omega, fun h => by omega, ?_⟩
  simp only [extK, extI, hasD, hasA, hasB, sgn]
  simp only [part7, part15, part20, e_D, t_X]
  simp
  omega
theorem ext_enc4 {o f3 f7 op : Nat} {d a b imm : Int} (ho : o < 128) (h3 : f3 < 8) (hv : ValK 4 d a b imm) : EncOK 4 o f3 f7 op d a b imm := by
  obtain ⟨hd, ha, hb, hl, hh, he⟩ := hv
  unfold EncOK
  simp [regF, hasD, hasA, hasB, lowT, highT] at hd ha hb hl hh
  obtain ⟨A, eA⟩ : ∃ A, A = a.toNat := ⟨_, rfl⟩
  have hA : A < 32 := by omega
  have iA : (A : Int) = a := by omega
  obtain ⟨B, eB⟩ : ∃ B, B = b.toNat := ⟨_, rfl⟩
  have hB : B < 32 := by omega
  have iB : (B : Int) = b := by omega
  rw [← eA, ← eB, enc4 ho h3 hA hB]
  obtain ⟨X, eX⟩ : ∃ X, X = u32 imm % 32 := ⟨_, rfl⟩
  have hX : X < 32 := by omega
  obtain ⟨Y, eY⟩ : ∃ Y, Y = u32 imm / 32 % 128 := ⟨_, rfl⟩
  have hY : Y < 128 := by omega
  have iX : ((X + Y * 32 : Nat) : Int) = imm % 4096 := by unfold u32 at eX eY; omega
  rw [← eX, ← eY]
  clear eX eY
  obtain ⟨S, hS⟩ : ∃ S, S = o + X * 128 + f3 * 4096 + A * 32768 + B * 1048576 + Y * 33554432 := ⟨_, rfl⟩
  rw [← hS]
  have e_o : S % 128 = o := by rw [hS, show o + X * 128 + f3 * 4096 + A * 32768 + B * 1048576 + Y * 33554432 = o + (X + f3 * 32 + A * 256 + B * 8192 + Y * 262144) * 128 by omega, Nat.add_mul_mod_self_right, Nat.mod_eq_of_lt ho]
  have e_X : S / 128 % 32 = X := fld (x := o) (z := f3 + A * 8 + B * 256 + Y * 8192) (N := 4096) (by omega) (by omega) (by omega) (by omega)
  have e_f3 : S / 4096 % 8 = f3 := fld (x := o + X * 128) (z := A + B * 32 + Y * 1024) (N := 32768) (by omega) (by omega) (by omega) (by omega)
  have e_A : S / 32768 % 32 = A := fld (x := o + X * 128 + f3 * 4096) (z := B + Y * 32) (N := 1048576) (by omega) (by omega) (by omega) (by omega)
  have e_B : S / 1048576 % 32 = B := fld (x := o + X * 128 + f3 * 4096 + A * 32768) (z := Y) (N := 33554432) (by omega) (by omega) (by omega) (by omega)
  have t_Y : S / 33554432 = Y := fldt (x := o + X * 128 + f3 * 4096 + A * 32768 + B * 1048576) (by omega) (by omega)
  have e_Y : S / 33554432 % 128 = Y := by rw [t_Y, Nat.mod_eq_of_lt (by omega)]
  have hlt : S < 4294967296 := by omega
  clear hS
  refine ⟨hlt, e_o, fun _ => e_f3, fun h => by omega, fun h => by omega, ?_⟩
  simp only [extK, extI, hasD, hasA, hasB, sgn, ext4]
  simp only [part7, part15, part20, e_A, e_B, e_X, e_Y]
  simp
  refine ⟨by clear iX; omega, by clear iX; omega, by clear iX; omega, ?_⟩
  try clear e_o
  try clear e_f3
  try clear e_D
  try clear e_A
  try clear e_B
  try clear e_X
  try clear e_Y
  try clear e_Z
  try clear e_T
  try clear t_X
  clear hlt
  split <;> omega
theorem ext_enc5 {o f3 f7 op : Nat} {d a b imm : Int} (ho : o < 128) (h3 : f3 < 8) (hv : ValK 5 d a b imm) : EncOK 5 o f3 f7 op d a b imm := by
  obtain ⟨hd, ha, hb, hl, hh, he⟩ := hv
  unfold EncOK
  simp [regF, hasD, hasA, hasB, lowT, highT, evenT] at hd ha hb hl hh he
  obtain ⟨A, eA⟩ : ∃ A, A = a.toNat := ⟨_, rfl⟩
  have hA : A < 32 := by omega
  have iA : (A : Int) = a := by omega
  obtain ⟨B, eB⟩ : ∃ B, B = b.toNat := ⟨_, rfl⟩
  have hB : B < 32 := by omega
  have iB : (B : Int) = b := by omega
  rw [← eA, ← eB, enc5 ho h3 hA hB]
  obtain ⟨Y, eY⟩ : ∃ Y, Y = u32 imm / 2 % 16 := ⟨_, rfl⟩
  have hY : Y < 16 := by omega
  obtain ⟨Z, eZ⟩ : ∃ Z, Z = u32 imm / 32 % 64 := ⟨_, rfl⟩
  have hZ : Z < 64 := by omega
  obtain ⟨X, eX⟩ : ∃ X, X = u32 imm / 2048 % 2 := ⟨_, rfl⟩
  have hX : X < 2 := by omega
  obtain ⟨T, eT⟩ : ∃ T, T = u32 imm / 4096 % 2 := ⟨_, rfl⟩
  have hT : T < 2 := by omega
  have iX : ((Y * 2 + Z * 32 + X * 2048 + T * 4096 : Nat) : Int) = imm % 8192 := by unfold u32 at eY eZ eX eT; omega
  rw [← eY, ← eZ, ← eX, ← eT]
  clear eY eZ eX eT
  obtain ⟨S, hS⟩ : ∃ S, S = o + X * 128 + Y * 256 + f3 * 4096 + A * 32768 + B * 1048576 + Z * 33554432 + T * 2147483648 := ⟨_, rfl⟩
  rw [← hS]
  have e_o : S % 128 = o := by rw [hS, show o + X * 128 + Y * 256 + f3 * 4096 + A * 32768 + B * 1048576 + Z * 33554432 + T * 2147483648 = o + (X + Y * 2 + f3 * 32 + A * 256 + B * 8192 + Z * 262144 + T * 16777216) * 128 by omega, Nat.add_mul_mod_self_right, Nat.mod_eq_of_lt ho]
  have e_X : S / 128 % 2 = X := fld (x := o) (z := Y + f3 * 16 + A * 128 + B * 4096 + Z * 131072 + T * 8388608) (N := 256) (by omega) (by omega) (by omega) (by omega)
  have e_Y : S / 256 % 16 = Y := fld (x := o + X * 128) (z := f3 + A * 8 + B * 256 + Z * 8192 + T * 524288) (N := 4096) (by omega) (by omega) (by omega) (by omega)
  have e_f3 : S / 4096 % 8 = f3 := fld (x := o + X * 128 + Y * 256) (z := A + B * 32 + Z * 1024 + T * 65536) (N := 32768) (by omega) (by omega) (by omega) (by omega)
  have e_A : S / 32768 % 32 = A := fld (x := o + X * 128 + Y * 256 + f3 * 4096) (z := B + Z * 32 + T * 2048) (N := 1048576) (by omega) (by omega) (by omega) (by omega)
  have e_B : S / 1048576 % 32 = B := fld (x := o + X * 128 + Y * 256 + f3 * 4096 + A * 32768) (z := Z + T * 64) (N := 33554432) (by omega) (by omega) (by omega) (by omega)
  have e_Z : S / 33554432 % 64 = Z := fld (x := o + X * 128 + Y * 256 + f3 * 4096 + A * 32768 + B * 1048576) (z := T) (N := 2147483648) (by omega) (by omega) (by omega) (by omega)
  have t_T : S / 2147483648 = T := fldt (x := o + X * 128 + Y * 256 + f3 * 4096 + A * 32768 + B * 1048576 + Z * 33554432) (by omega) (by omega)
  have e_T : S / 2147483648 % 2 = T := by rw [t_T, Nat.mod_eq_of_lt (by omega)]
  have hlt : S < 4294967296 := by omega
  clear hS
  refine ⟨hlt, e_o, fun _ => e_f3, fun h => by omega, fun h => by omega, ?_⟩
  simp only [extK, extI, hasD, hasA, hasB, sgn, ext5]
  simp only [part7, part15, part20, e_A, e_B, e_Y, e_Z, e_X, e_T]
  simp
  refine ⟨by clear iX; omega, by clear iX; omega, by clear iX; omega, ?_⟩
  try clear e_o
  try clear e_f3
  try clear e_D
  try clear e_A
  try clear e_B
  try clear e_X
  try clear e_Y
  try clear e_Z
  try clear e_T
  try clear t_X
  clear hlt
  split <;> omega
theorem bits21 (n : Nat) : n % 2097152 = n % 2 + n / 2 % 1024 * 2 + n / 2048 % 2 * 2048 + n / 4096 % 256 * 4096 + n / 1048576 % 2 * 1048576 := by
  have h1 : n % (1048576 * 2) = n % 1048576 + 1048576 * (n / 1048576 % 2) := Nat.mod_mul
  have h2 : n % (4096 * 256) = n % 4096 + 4096 * (n / 4096 % 256) := Nat.mod_mul
  have h3 : n % (2048 * 2) = n % 2048 + 2048 * (n / 2048 % 2) := Nat.mod_mul
  have h4 : n % (2 * 1024) = n % 2 + 2 * (n / 2 % 1024) := Nat.mod_mul
  generalize n / 1048576 % 2 = a at *
  generalize n / 4096 % 256 = b at *
  generalize n / 2048 % 2 = c at *
  generalize n / 2 % 1024 = d at *
  omega
theorem ext_enc6 {o f3 f7 op : Nat} {d a b imm : Int} (ho : o < 128) (h3 : f3 < 8) (h30 : f3 = 0) (hv : ValK 6 d a b imm) : EncOK 6 o f3 f7 op d a b imm := by
  obtain ⟨hd, ha, hb, hl, hh, he⟩ := hv
  unfold EncOK
  simp [regF, hasD, hasA, hasB, lowT, highT, evenT] at hd ha hb hl hh he
  subst h30
  obtain ⟨D, eD⟩ : ∃ D, D = d.toNat := ⟨_, rfl⟩
  have hD : D < 32 := by omega
  have iD : (D : Int) = d := by omega
  rw [← eD, enc6 ho hD]
  obtain ⟨Z, eZ⟩ : ∃ Z, Z = u32 imm / 2 % 1024 := ⟨_, rfl⟩
  have hZ : Z < 1024 := by omega
  obtain ⟨Y, eY⟩ : ∃ Y, Y = u32 imm / 2048 % 2 := ⟨_, rfl⟩
  have hY : Y < 2 := by omega
  obtain ⟨X, eX⟩ : ∃ X, X = u32 imm / 4096 % 256 := ⟨_, rfl⟩
  have hX : X < 256 := by omega
  obtain ⟨T, eT⟩ : ∃ T, T = u32 imm / 1048576 % 2 := ⟨_, rfl⟩
  have hT : T < 2 := by omega
  have iX : ((Z * 2 + Y * 2048 + X * 4096 + T * 1048576 : Nat) : Int) = imm % 2097152 := by
    have h0 := bits21 (u32 imm)
    rw [← eZ, ← eY, ← eX, ← eT] at h0
    have h1 : ((u32 imm % 2097152 : Nat) : Int) = imm % 2097152 := by unfold u32; omega
    clear eX eY eZ eT
    omega
  rw [← eZ, ← eY, ← eX, ← eT]
  clear eZ eY eX eT
  obtain ⟨S, hS⟩ : ∃ S, S = o + D * 128 + X * 4096 + Y * 1048576 + Z * 2097152 + T * 2147483648 := ⟨_, rfl⟩
  rw [← hS]
  have e_o : S % 128 = o := by rw [hS, show o + D * 128 + X * 4096 + Y * 1048576 + Z * 2097152 + T * 2147483648 = o + (D + X * 32 + Y * 8192 + Z * 16384 + T * 16777216) * 128 by omega, Nat.add_mul_mod_self_right, Nat.mod_eq_of_lt ho]
  have e_D : S / 128 % 32 = D := fld (x := o) (z := X + Y * 256 + Z * 512 + T * 524288) (N := 4096) (by omega) (by omega) (by omega) (by omega)
  have e_X : S / 4096 % 256 = X := fld (x := o + D * 128) (z := Y + Z * 2 + T * 2048) (N := 1048576) (by omega) (by omega) (by omega) (by omega)
  have e_Y : S / 1048576 % 2 = Y := fld (x := o + D * 128 + X * 4096) (z := Z + T * 1024) (N := 2097152) (by omega) (by omega) (by omega) (by omega)
  have e_Z : S / 2097152 % 1024 = Z := fld (x := o + D * 128 + X * 4096 + Y * 1048576) (z := T) (N := 2147483648) (by omega) (by omega) (by omega) (by omega)
  have t_T : S / 2147483648 = T := fldt (x := o + D * 128 + X * 4096 + Y * 1048576 + Z * 2097152) (by omega) (by omega)
  have e_T : S / 2147483648 % 2 = T := by rw [t_T, Nat.mod_eq_of_lt (by omega)]
  have hlt : S < 4294967296 := by omega
  clear hS
  refine ⟨hlt, e_o, fun h => by omega, fun h => by omega, fun h => by omega, ?_⟩
  simp only [extK, extI, hasD, hasA, hasB, sgn, ext6]
  simp only [part7, part15, part20, e_D, e_Z, e_Y, e_X, e_T]
  simp
  refine ⟨by clear iX; omega, by clear iX; omega, by clear iX; omega, ?_⟩
  try clear e_o
  try clear e_f3
  try clear e_D
  try clear e_A
  try clear e_B
  try clear e_X
  try clear e_Y
  try clear e_Z
  try clear e_T
  try clear t_X
  clear hlt
  split <;> omega
theorem ext_enc7 {o f3 f7 op : Nat} {d a b imm : Int} (ho : o < 128) (h3 : f3 < 8) (h30 : f3 = 0) (h7 : f7 < 16384) (hv : ValK 7 d a b imm) : EncOK 7 o f3 f7 op d a b imm := by
  obtain ⟨hd, ha, hb, hl, hh, he⟩ := hv
  unfold EncOK
  simp [regF, hasD, hasA, hasB, lowT, highT] at hd ha hb hl hh
  subst h30
  rw [enc7 ho]
  refine ⟨by omega, by omega, fun h => by omega, fun h => by omega, fun h => by omega, ?_⟩
  simp only [extK, extI, hasD, hasA, hasB]
  simp
  omega
theorem ext_encK {k o f3 f7 op : Nat} {d a b imm : Int} (hk : k ≤ 7) (ho : o < 128) (h3 : f3 < 8) (h30 : k = 3 ∨ k = 6 ∨ k = 7 → f3 = 0) (h7 : f7 < 16384) (h70 : k = 0 ∨ k = 2 → f7 < 128) (hv : ValK k d a b imm) : EncOK k o f3 f7 op d a b imm := by
  obtain rfl | rfl | rfl | rfl | rfl | rfl | rfl | rfl : k = 0 ∨ k = 1 ∨ k = 2 ∨ k = 3 ∨ k = 4 ∨ k = 5 ∨ k = 6 ∨ k = 7 := by omega
  · exact ext_enc0 ho h3 (h70 (by simp)) hv
  · exact ext_enc1 ho h3 hv
  · exact ext_enc2 ho h3 (h70 (by simp)) hv
  · exact ext_enc3 ho h3 (h30 (by simp)) hv
  · exact ext_enc4 ho h3 hv
  · exact ext_enc5 ho h3 hv
  · exact ext_enc6 ho h3 (h30 (by simp)) hv
  · exact ext_enc7 ho h3 (h30 (by simp)) h7 hv
theorem sgn12 {n : Nat} (h : n < 4096) : -2048 ≤ sgn n 12 ∧ sgn n 12 ≤ 2047 := by
  unfold sgn
  simp
  split <;> omega
theorem sgn13 {n : Nat} (h : n < 8192) (h2 : n % 2 = 0) : -4096 ≤ sgn n 13 ∧ sgn n 13 ≤ 4094 ∧ sgn n 13 % 2 = 0 := by
  unfold sgn
  simp
  split <;> omega
theorem sgn21 {n : Nat} (h : n < 2097152) (h2 : n % 2 = 0) : -1048576 ≤ sgn n 21 ∧ sgn n 21 ≤ 1048574 ∧ sgn n 21 % 2 = 0 := by
  unfold sgn
  simp
  split <;> omega
theorem regN (x : Nat) (h : x < 32) : regF true (x : Int) := by
  unfold regF
  simp
  omega
theorem reg0 (h : Bool) : regF h 0 := .inl rfl
theorem ext_val {k : Nat} (hk : k ≤ 7) (op w : Nat) (hw : w < 4294967296) : ValK k (extK k op w).d (extK k op w).a (extK k op w).b (extK k op w).imm := by
  have p7 : part w 7 11 0 < 32 := by unfold part; simp; omega
  have p15 : part w 15 19 0 < 32 := by unfold part; simp; omega
  have p20 : part w 20 24 0 < 32 := by unfold part; simp; omega
  obtain rfl | rfl | rfl | rfl | rfl | rfl | rfl | rfl : k = 0 ∨ k = 1 ∨ k = 2 ∨ k = 3 ∨ k = 4 ∨ k = 5 ∨ k = 6 ∨ k = 7 := by omega
  · exact ⟨regN _ p7, regN _ p15, regN _ p20, (by decide : (0 : Int) ≤ 0), (by decide : (0 : Int) ≤ 0), fun h => by cases h⟩
  · obtain ⟨h1, h2⟩ := sgn12 (n := w / 1048576) (by omega)
    exact ⟨regN _ p7, regN _ p15, reg0 _, h1, h2, fun h => by cases h⟩
  · exact ⟨regN _ p7, regN _ p15, reg0 _, Int.natCast_nonneg _, by show ((part w 20 24 0 : Nat) : Int) ≤ 31; omega, fun h => by cases h⟩
  · exact ⟨regN _ p7, reg0 _, reg0 _, Int.natCast_nonneg _, by show ((w / 4096 : Nat) : Int) ≤ 1048575; omega, fun h => by cases h⟩
  · obtain ⟨h1, h2⟩ := sgn12 (n := part w 7 11 0 ||| part w 25 31 5) (by rw [ext4]; omega)
    exact ⟨reg0 _, regN _ p15, regN _ p20, h1, h2, fun h => by cases h⟩
  · obtain ⟨h1, h2, h3⟩ := sgn13 (n := part w 8 11 1 ||| part w 25 30 5 ||| part w 7 7 11 ||| part w 31 31 12) (by rw [ext5]; omega) (by rw [ext5]; omega)
    exact ⟨reg0 _, regN _ p15, regN _ p20, h1, h2, fun _ => h3⟩
  · obtain ⟨h1, h2, h3⟩ := sgn21 (n := part w 21 30 1 ||| part w 20 20 11 ||| part w 12 19 12 ||| part w 31 31 20) (by rw [ext6]; omega) (by rw [ext6]; omega)
    exact ⟨regN _ p7, reg0 _, reg0 _, h1, h2, fun _ => h3⟩
  · exact ⟨reg0 _, reg0 _, reg0 _, (by decide : (0 : Int) ≤ 0), (by decide : (0 : Int) ≤ 0), fun h => by cases h⟩

/-! Which operation a word has. -/
/-- The key of an operation in the map. -/
def keyT (i : Nat) : Int × Int × Int :=
  if kT i = 1 ∨ kT i = 4 ∨ kT i = 5 then (oT i, f3T i, -1) else if kT i = 3 ∨ kT i = 6 then (oT i, -1, -1) else if kT i = 7 then (oT i, -1, f7T i) else (oT i, f3T i, f7T i)
/-- What the map of the first operations answers. -/
def look : Nat → Int × Int × Int → Option Nat
  | 0, _ => none
  | n + 1, k => if keyT n = k then some n else look n k
def orE (a b : Option Nat) : Option Nat := match a with | some x => some x | none => b
def find3 (o f3 f7 s : Nat) : Option Nat := orE (look 41 (o, f3, f7)) (orE (look 41 (o, f3, -1)) (orE (look 41 (o, -1, -1)) (look 41 (o, -1, s))))
def findF (w : Nat) : Option Nat := find3 (w % 128) (w / 4096 % 8) (w / 33554432) (w / 128)
theorem look_lt {n : Nat} {k : Int × Int × Int} {i : Nat} (h : look n k = some i) : i < n := by
  induction n with
  | zero => cases h
  | succ n ih =>
    unfold look at h
    split at h
    · injection h with h
      omega
    · have := ih h
      omega
theorem look_key {n : Nat} {k : Int × Int × Int} {i : Nat} (h : look n k = some i) : keyT i = k := by
  induction n with
  | zero => cases h
  | succ n ih =>
    unfold look at h
    split at h
    · rename_i e
      injection h with h
      rw [← h]
      exact e
    · exact ih h
theorem keyT_inj {i j : Nat} (hi : i < 41) (hj : j < 41) (h : keyT i = keyT j) : i = j := by
  have : ∀ i, i < 41 → ∀ j, j < 41 → keyT i = keyT j → i = j := by decide +kernel
  exact this i hi j hj h
theorem look_of {n i : Nat} (hn : n ≤ 41) (hi : i < n) : look n (keyT i) = some i := by
  induction n with
  | zero => omega
  | succ n ih =>
    unfold look
    by_cases e : i = n
    · subst e
      rw [if_pos rfl]
    · rw [if_neg (fun h => e (keyT_inj (by omega) (by omega) h).symm)]
      exact ih (by omega) (by omega)
theorem look_none {k : Int × Int × Int} (h : ∀ i, i < 41 → keyT i ≠ k) : look 41 k = none := by
  rcases e : look 41 k with _ | i
  · rfl
  · exact absurd (look_key e) (h i (look_lt e))
theorem key1 {i : Nat} (h : i < 41) (f7 : Nat) : (kT i = 1 ∨ kT i = 4 ∨ kT i = 5) → ∀ j, j < 41 → keyT j ≠ ((oT i : Int), (f3T i : Int), (f7 : Int)) := by
  have key : ∀ i, i < 41 → (kT i = 1 ∨ kT i = 4 ∨ kT i = 5) → ∀ j, j < 41 → (keyT j).1 = (oT i : Int) → (keyT j).2.1 = (f3T i : Int) → (keyT j).2.2 < 0 := by decide +kernel
  intro hk j hj e
  have := key i h hk j hj (by rw [e]) (by rw [e])
  rw [e] at this
  simp at this
  omega
theorem key2 {i : Nat} (h : i < 41) (f3 : Nat) (f7 : Int) : (kT i = 3 ∨ kT i = 6 ∨ kT i = 7) → ∀ j, j < 41 → keyT j ≠ ((oT i : Int), (f3 : Int), f7) := by
  have key : ∀ i, i < 41 → (kT i = 3 ∨ kT i = 6 ∨ kT i = 7) → ∀ j, j < 41 → (keyT j).1 = (oT i : Int) → (keyT j).2.1 < 0 := by decide +kernel
  intro hk j hj e
  have := key i h hk j hj (by rw [e])
  rw [e] at this
  simp at this
  omega
theorem key3 {i : Nat} (h : i < 41) : kT i = 7 → ∀ j, j < 41 → keyT j ≠ ((oT i : Int), (-1 : Int), (-1 : Int)) := by
  have key : ∀ i, i < 41 → kT i = 7 → ∀ j, j < 41 → keyT j ≠ ((oT i : Int), (-1 : Int), (-1 : Int)) := by decide +kernel
  exact key i h
theorem find_of {i w : Nat} (h : i < 41) (ho : w % 128 = oT i) (h3 : kT i ≠ 3 ∧ kT i ≠ 6 ∧ kT i ≠ 7 → w / 4096 % 8 = f3T i) (h7 : kT i = 0 ∨ kT i = 2 → w / 33554432 = f7T i) (hs : kT i = 7 → w / 128 = f7T i) : findF w = some i := by
  unfold findF find3
  rw [ho]
  have hk := kT_le h
  have hl := look_of (Nat.le_refl _) h
  by_cases k3 : kT i = 3 ∨ kT i = 6 ∨ kT i = 7
  · rw [look_none (key2 h _ _ k3), look_none (key2 h _ _ k3)]
    by_cases k7 : kT i = 7
    · rw [look_none (key3 h k7), hs k7]
      unfold keyT at hl
      rw [if_neg (by omega), if_neg (by omega), if_pos k7] at hl
      rw [hl]
      rfl
    · unfold keyT at hl
      rw [if_neg (by omega), if_pos (by omega)] at hl
      rw [hl]
      rfl
  · rw [h3 (by omega)]
    by_cases k1 : kT i = 1 ∨ kT i = 4 ∨ kT i = 5
    · rw [look_none (key1 h _ k1)]
      unfold keyT at hl
      rw [if_pos k1] at hl
      rw [hl]
      rfl
    · rw [h7 (by omega)]
      unfold keyT at hl
      rw [if_neg k1, if_neg (by omega), if_neg (by omega)] at hl
      rw [hl]
      rfl
theorem orE_some {a b : Option Nat} {i : Nat} (h : orE a b = some i) : a = some i ∨ b = some i := by
  cases a with
  | none => exact .inr h
  | some x => exact .inl h
theorem find_lt {w i : Nat} (h : findF w = some i) : i < 41 := by
  unfold findF find3 at h
  rcases orE_some h with h | h
  · exact look_lt h
  · rcases orE_some h with h | h
    · exact look_lt h
    · rcases orE_some h with h | h <;> exact look_lt h
/-- The instruction of a word. -/
def decF (w : Nat) : Option Rv := match findF w with | none => none | some i => if encF (extF i w) = w then some (extF i w) else none
theorem op_lt {x : Rv} (h : Val x) : x.op.toNat < 41 ∧ ((x.op.toNat : Nat) : Int) = x.op := by
  obtain ⟨h0, h1, _⟩ := h
  omega
theorem enc_facts {x : Rv} (h : Val x) : encF x < 4294967296 ∧ findF (encF x) = some x.op.toNat ∧ extF x.op.toNat (encF x) = x := by
  obtain ⟨hi, he⟩ := op_lt h
  obtain ⟨h0, h1, hv⟩ := h
  obtain ⟨e1, e2, e3, e4, e5, e6⟩ := ext_encK (op := x.op.toNat) (f7 := f7T x.op.toNat) (kT_le hi) (oT_lt hi) (f3T_lt hi) (f3T_zero hi) (f7T_lt hi).1 (f7T_lt hi).2 hv
  refine ⟨e1, find_of hi e2 e3 e4 e5, e6.trans ?_⟩
  rw [he]
theorem ext_op (k op w : Nat) : (extK k op w).op = (op : Int) := rfl
theorem ext_Val {i w : Nat} (h : i < 41) (hw : w < 4294967296) : Val (extF i w) := by
  have e : (extF i w).op = (i : Int) := rfl
  refine ⟨by rw [e]; omega, by rw [e]; omega, ?_⟩
  rw [e, Int.toNat_natCast]
  exact ext_val (kT_le h) i w hw
theorem dec_enc {x : Rv} (h : Val x) : decF (encF x) = some x := by
  obtain ⟨_, h2, h3⟩ := enc_facts h
  unfold decF
  rw [h2]
  simp only
  rw [h3, if_pos rfl]
theorem dec_some {w : Nat} (hw : w < 4294967296) {x : Rv} (h : decF w = some x) : Val x ∧ encF x = w := by
  unfold decF at h
  split at h
  · cases h
  · rename_i i e
    split at h
    · rename_i e2
      injection h with h
      rw [← h]
      exact ⟨ext_Val (find_lt e) hw, e2⟩
    · cases h
/-- The reference's: the first operation that makes the word. -/
def rdecF : Nat → Nat → Option Nat
  | 0, _ => none
  | n + 1, w => match rdecF n w with | some i => some i | none => if encF (extF n w) = w then some n else none
theorem rdec_some {n w i : Nat} (hn : n ≤ 41) (hw : w < 4294967296) (h : rdecF n w = some i) : i < n ∧ decF w = some (extF i w) := by
  induction n with
  | zero => cases h
  | succ n ih =>
    unfold rdecF at h
    split at h
    · rename_i j e
      injection h with h
      subst h
      obtain ⟨h1, h2⟩ := ih (by omega) e
      exact ⟨by omega, h2⟩
    · split at h
      · rename_i e
        injection h with h
        subst h
        refine ⟨by omega, ?_⟩
        have := dec_enc (ext_Val (i := n) (by omega) hw)
        rw [e] at this
        exact this
      · cases h
theorem rdec_none {n w : Nat} (h : rdecF n w = none) : ∀ i, i < n → encF (extF i w) ≠ w := by
  induction n with
  | zero => intro i hi; omega
  | succ n ih =>
    unfold rdecF at h
    split at h
    · cases h
    · rename_i e
      split at h
      · cases h
      · rename_i e2
        intro i hi
        by_cases hin : i = n
        · subst hin
          exact e2
        · exact ih e i (by omega)
theorem rdec_eq {w : Nat} (hw : w < 4294967296) : decF w = (rdecF 41 w).map fun i => extF i w := by
  rcases e : rdecF 41 w with _ | i
  · rcases e2 : decF w with _ | x
    · rfl
    · obtain ⟨h1, h2⟩ := dec_some hw e2
      obtain ⟨h3, h4⟩ := op_lt h1
      have h5 := (enc_facts h1).2.2
      rw [h2] at h5
      exact absurd (by rw [h5]; exact h2) (rdec_none e x.op.toNat h3)
  · exact (rdec_some (Nat.le_refl _) hw e).2
end Go.Proofs.YthkaclmnbahieaaDoor
