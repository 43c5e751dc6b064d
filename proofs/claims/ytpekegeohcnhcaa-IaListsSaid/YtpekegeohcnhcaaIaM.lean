/-
  Instructions of the second set as numbers, their bytes, and how bytes are read: plain mathematics.
-/
namespace Go.Proofs.Ytpekegeohcnhcaa

structure Ins where
  op : Int
  d : Int
  s : Int
  sz : Int
  imm : Int
deriving DecidableEq, Inhabited
def isR (n : Int) : Bool := decide (0 ≤ n ∧ n < 8)
def isL (n : Int) : Bool := decide (0 ≤ n ∧ n < 4)
def isC (n : Int) : Bool := decide (0 ≤ n ∧ n < 16 ∧ n ≠ 10 ∧ n ≠ 11)
/-- Whether a number lies from -h on below h. -/
def isS (n h : Int) : Bool := decide (-h ≤ n ∧ n < h)
/-- A row of the table: the byte, the number, the sizes, which instructions there are, how they are written. -/
structure Rw where
  o : Int
  n : Int
  z : Int
  f : Nat
  w : Nat
deriving Inhabited
def tbl : List Rw := [
  ⟨0x89, 0, 48, 2, 2⟩, ⟨0xb8, 0, 48, 3, 5⟩, ⟨0x8b, 0, 48, 4, 6⟩, ⟨0x89, 0, 48, 5, 8⟩, ⟨0xb6, 0, 32, 4, 7⟩, ⟨0xb7, 0, 32, 4, 7⟩, ⟨0x88, 0, 32, 6, 8⟩,
  ⟨0x01, 0, 48, 2, 2⟩, ⟨0x09, 0, 48, 2, 2⟩, ⟨0x21, 0, 48, 2, 2⟩, ⟨0x29, 0, 48, 2, 2⟩, ⟨0x31, 0, 48, 2, 2⟩, ⟨0x39, 0, 48, 2, 2⟩, ⟨0x85, 0, 48, 2, 2⟩,
  ⟨0x81, 0, 48, 3, 9⟩, ⟨0x81, 1, 48, 3, 9⟩, ⟨0x81, 4, 48, 3, 9⟩, ⟨0x81, 5, 48, 3, 9⟩, ⟨0x81, 6, 48, 3, 9⟩, ⟨0x81, 7, 48, 3, 9⟩,
  ⟨0xaf, 0, 32, 2, 4⟩, ⟨0xd3, 4, 48, 1, 3⟩, ⟨0xd3, 5, 48, 1, 3⟩, ⟨0xd3, 7, 48, 1, 3⟩, ⟨0xf7, 2, 48, 1, 3⟩, ⟨0xf7, 3, 48, 1, 3⟩, ⟨0xf7, 6, 32, 1, 3⟩, ⟨0xf7, 7, 32, 1, 3⟩,
  ⟨0x99, 0, 32, 0, 0⟩, ⟨0x90, 0, 32, 7, 10⟩, ⟨0xb6, 0, 32, 8, 4⟩, ⟨0x40, 0, 32, 9, 11⟩, ⟨0x70, 0, 40, 10, 12⟩, ⟨0xeb, 0, 40, 11, 13⟩, ⟨0xf4, 0, 32, 0, 0⟩, ⟨0x0b, 0, 32, 0, 1⟩, ⟨0x90, 0, 32, 0, 0⟩]
def rw_ (op : Int) : Rw := tbl.getD op.toNat default
/-- Half of the numbers of a size. -/
def half (sz : Int) : Int := if sz = 8 then 128 else if sz = 16 then 32768 else 2147483648
def fitB (f : Nat) (x : Ins) : Bool := match f with
  | 0 => decide (x.d = 0) && (decide (x.s = 0) && decide (x.imm = 0))
  | 1 => isR x.d && (decide (x.s = 0) && decide (x.imm = 0))
  | 2 => isR x.d && (isR x.s && decide (x.imm = 0))
  | 3 => isR x.d && (decide (x.s = 0) && decide (0 ≤ x.imm ∧ x.imm < 2 * half x.sz))
  | 4 => isR x.d && (isR x.s && (decide (x.s ≠ 4) && isS x.imm 2147483648))
  | 5 => isR x.d && (isR x.s && (decide (x.d ≠ 4) && isS x.imm 2147483648))
  | 6 => isR x.d && (isR x.s && (decide (x.d ≠ 4) && isS x.imm 2147483648)) && isL x.s
  | 7 => isL x.d && (isC x.s && decide (x.imm = 0))
  | 8 => isR x.d && (isL x.s && decide (x.imm = 0))
  | 9 => isR x.d && (isR x.s && isC x.imm)
  | 10 => decide (x.d = 0) && (isC x.s && isS x.imm (half x.sz))
  | _ => decide (x.d = 0) && (decide (x.s = 0) && isS x.imm (half x.sz))
/-- Whether a size is one of those that there are. -/
def szB (z sz : Int) : Bool := decide (sz = 32) || (decide (z = 48) && decide (sz = 16) || decide (z = 40) && decide (sz = 8))
def valB (x : Ins) : Bool := decide (0 ≤ x.op ∧ x.op ≤ 36) && (szB (rw_ x.op).z x.sz && fitB (rw_ x.op).f x)
def le4 (n : Int) : List Int := [n % 256, n / 256 % 256, n / 65536 % 256, n / 16777216 % 256]
def le2 (n : Int) : List Int := [n % 256, n / 256 % 256]
def les (sz n : Int) : List Int := if sz = 16 then le2 n else le4 n
/-- The signed number of a word. -/
def sgn (h n : Int) : Int := if h ≤ n % (2 * h) then n % (2 * h) - 2 * h else n % (2 * h)
def wrB (w : Nat) (o n : Int) (x : Ins) : List Int := match w with
  | 0 => [o]
  | 1 => [15, o]
  | 2 => [o, 192 + 8 * x.s + x.d]
  | 3 => [o, 192 + 8 * n + x.d]
  | 4 => [15, o, 192 + 8 * x.d + x.s]
  | 5 => (o + x.d) :: les x.sz x.imm
  | 6 => o :: (128 + 8 * x.d + x.s) :: le4 x.imm
  | 7 => 15 :: o :: (128 + 8 * x.d + x.s) :: le4 x.imm
  | 8 => o :: (128 + 8 * x.s + x.d) :: le4 x.imm
  | 9 => if isS (sgn (half x.sz) x.imm) 128 = true then [131, 192 + 8 * n + x.d, x.imm % 256] else o :: (192 + 8 * n + x.d) :: les x.sz x.imm
  | 10 => [15, o + x.s, 192 + x.d]
  | 11 => [15, o + x.imm, 192 + 8 * x.d + x.s]
  | 12 => if x.sz = 8 then [o + x.s, x.imm % 256] else 15 :: (128 + x.s) :: le4 x.imm
  | _ => if x.sz = 8 then [o, x.imm % 256] else 233 :: le4 x.imm
/-- The bytes of an instruction. -/
def encF (x : Ins) : List Int := (if x.sz = 16 then [102] else []) ++ wrB (rw_ x.op).w (rw_ x.op).o (rw_ x.op).n x

/-! Reading. -/
def bt (b : List Int) (p : Nat) : Int := b.getD p 0
def nx2 (b : List Int) (p : Nat) : Int := bt b p + 256 * bt b (p + 1)
def nx4 (b : List Int) (p : Nat) : Int := bt b p + 256 * bt b (p + 1) + 65536 * bt b (p + 2) + 16777216 * bt b (p + 3)
def nxs (sz : Int) (b : List Int) (p : Nat) : Int := if sz = 16 then nx2 b p else nx4 b p
def regR (m : Int) : Int := m / 8 % 8
def regL (m : Int) : Int := m % 8
def farB (m : Int) : Bool := decide (m / 64 = 2)
def farI (b : List Int) (p : Nat) : Int := if farB (bt b p) then sgn 2147483648 (nx4 b (p + 1)) else 0
def plainF (c : Int) : Int :=
  if c = 1 then 7 else if c = 9 then 8 else if c = 33 then 9 else if c = 41 then 10 else if c = 49 then 11 else if c = 57 then 12 else if c = 133 then 13 else if c = 153 then 28 else if c = 244 then 34 else if c = 144 then 36 else -1
def g81 (r : Int) : Int := [14, 15, -1, -1, 16, 17, 18, 19].getD r.toNat 0
def gd3 (r : Int) : Int := [-1, -1, -1, -1, 21, 22, -1, 23].getD r.toNat 0
def gf7 (r : Int) : Int := [-1, -1, 24, 25, -1, -1, 26, 27].getD r.toNat 0
/-- Behind the byte for two registers. -/
def aft (b : List Int) (p : Nat) : Nat := if farB (bt b p) then p + 5 else p + 1
def grpF (sz c : Int) (b : List Int) (p : Nat) : Ins :=
  if c = 129 then ⟨g81 (regR (bt b p)), regL (bt b p), 0, sz, nxs sz b (aft b p)⟩
  else if c = 131 then ⟨g81 (regR (bt b p)), regL (bt b p), 0, sz, sgn 128 (bt b (aft b p)) % (2 * half sz)⟩
  else if c = 211 then ⟨gd3 (regR (bt b p)), regL (bt b p), 0, sz, farI b p⟩
  else if c = 247 then ⟨gf7 (regR (bt b p)), regL (bt b p), 0, sz, farI b p⟩
  else ⟨-1, regL (bt b p), 0, sz, farI b p⟩
def shortF (sz c : Int) (b : List Int) (p : Nat) : Ins :=
  if plainF c = 28 ∨ plainF c = 34 ∨ plainF c = 36 then ⟨plainF c, 0, 0, sz, 0⟩
  else if 184 ≤ c ∧ c ≤ 191 then ⟨1, c - 184, 0, sz, nxs sz b p⟩
  else if c = 139 then ⟨2, regR (bt b p), regL (bt b p), sz, farI b p⟩
  else if c = 136 then ⟨6, regL (bt b p), regR (bt b p), sz, farI b p⟩
  else if c = 137 then ⟨if farB (bt b p) then 3 else 0, regL (bt b p), regR (bt b p), sz, farI b p⟩
  else if 112 ≤ c ∧ c ≤ 127 then ⟨32, 0, c - 112, 8, sgn 128 (bt b p)⟩
  else if c = 235 then ⟨33, 0, 0, 8, sgn 128 (bt b p)⟩
  else if c = 233 then ⟨33, 0, 0, sz, sgn 2147483648 (nx4 b p)⟩
  else if 0 ≤ plainF c then ⟨plainF c, regL (bt b p), regR (bt b p), sz, farI b p⟩
  else grpF sz c b p
def longF (sz c : Int) (b : List Int) (p : Nat) : Ins :=
  if c = 11 then ⟨35, 0, 0, sz, 0⟩
  else if c = 182 then ⟨if farB (bt b p) then 4 else 30, regR (bt b p), regL (bt b p), sz, farI b p⟩
  else if c = 183 then ⟨5, regR (bt b p), regL (bt b p), sz, farI b p⟩
  else if c = 175 then ⟨20, regR (bt b p), regL (bt b p), sz, farI b p⟩
  else if 144 ≤ c ∧ c ≤ 159 then ⟨29, regL (bt b p), c - 144, sz, farI b p⟩
  else if 64 ≤ c ∧ c ≤ 79 then ⟨31, regR (bt b p), regL (bt b p), sz, c - 64⟩
  else if 128 ≤ c ∧ c ≤ 143 then ⟨32, 0, c - 128, sz, sgn 2147483648 (nx4 b p)⟩
  else ⟨-1, 0, 0, sz, 0⟩
/-- What bytes may begin with. -/
def canF (b : List Int) : Ins :=
  if bt b 0 = 102 then (if bt b 1 = 15 then longF 16 (bt b 2) b 3 else shortF 16 (bt b 1) b 2)
  else (if bt b 0 = 15 then longF 32 (bt b 1) b 2 else shortF 32 (bt b 0) b 1)
def pre (a b : List Int) : Bool := a.isPrefixOf b
/-- What Decode tells. -/
def decF (b : List Int) : Option Ins := if valB (canF b) && pre (encF (canF b)) b then some (canF b) else none
theorem reg_both {r m : Int} (h1 : 0 ≤ r ∧ r < 8) (h2 : 0 ≤ m ∧ m < 8) : regR (192 + 8 * r + m) = r ∧ regL (192 + 8 * r + m) = m ∧ farB (192 + 8 * r + m) = false ∧ regR (128 + 8 * r + m) = r ∧ regL (128 + 8 * r + m) = m ∧ farB (128 + 8 * r + m) = true := by
  unfold regR regL farB
  refine ⟨by omega, by omega, decide_eq_false (by omega), by omega, by omega, decide_eq_true (by omega)⟩
theorem nx4_le {n : Int} {l _ : List Int} {p : Nat} (h : ∀ i, i < 4 → bt l (p + i) = (le4 n).getD i 0) : nx4 l p = n % 4294967296 := by
  have h0 := h 0 (by omega)
  have h1 := h 1 (by omega)
  have h2 := h 2 (by omega)
  have h3 := h 3 (by omega)
  simp [le4] at h0 h1 h2 h3
  unfold nx4
  rw [h0, h1, h2, h3]
  omega
theorem sgn_of {h n m : Int} (hh : 0 < h) (hn : -h ≤ n ∧ n < h) (hm : m = n % (2 * h)) : sgn h m = n := by
  unfold sgn
  rw [hm, Int.emod_emod]
  by_cases h0 : 0 ≤ n
  · rw [Int.emod_eq_of_lt h0 (by omega), if_neg (by omega)]
  · have : n % (2 * h) = n + 2 * h := by
      rw [← Int.add_emod_right]
      exact Int.emod_eq_of_lt (by omega) (by omega)
    rw [this, if_pos (by omega)]
    omega
/-! The reference's guess. -/
def num4 (b : List Int) (p : Nat) : Int := if p + 4 ≤ b.length then nx4 b p else 0
def num2 (b : List Int) (p : Nat) : Int := if p + 2 ≤ b.length then nx2 b p else 0
def nums (sz : Int) (b : List Int) (p : Nat) : Int := if sz = 16 then num2 b p else num4 b p
def sgnR (h n : Int) : Int := if h ≤ n then n - 2 * h else n
def byTwoF (c : Int) : Int := if c = 1 then 7 else if c = 9 then 8 else if c = 33 then 9 else if c = 41 then 10 else if c = 49 then 11 else if c = 57 then 12 else if c = 133 then 13 else if c = 137 then 0 else -1
def dig81 (r : Int) : Int := [14, 15, -1, -1, 16, 17, 18, 19].getD r.toNat (-1)
def digd3 (r : Int) : Int := [-1, -1, -1, -1, 21, 22, -1, 23].getD r.toNat (-1)
def digf7 (r : Int) : Int := [-1, -1, 24, 25, -1, -1, 26, 27].getD r.toNat (-1)
def noIns : Ins := ⟨-1, 0, 0, 0, 0⟩
def secF (b : List Int) (p : Nat) : Ins :=
  if bt b (p + 1) = 11 then ⟨35, 0, 0, 32, 0⟩
  else if bt b (p + 1) = 175 then ⟨20, regR (bt b (p + 2)), regL (bt b (p + 2)), 32, 0⟩
  else if bt b (p + 1) = 182 ∧ 192 ≤ bt b (p + 2) then ⟨30, regR (bt b (p + 2)), regL (bt b (p + 2)), 32, 0⟩
  else if bt b (p + 1) = 182 then ⟨4, regR (bt b (p + 2)), regL (bt b (p + 2)), 32, sgnR 2147483648 (num4 b (p + 3))⟩
  else if bt b (p + 1) = 183 then ⟨5, regR (bt b (p + 2)), regL (bt b (p + 2)), 32, sgnR 2147483648 (num4 b (p + 3))⟩
  else if 144 ≤ bt b (p + 1) ∧ bt b (p + 1) ≤ 159 then ⟨29, regL (bt b (p + 2)), bt b (p + 1) - 144, 32, 0⟩
  else if 64 ≤ bt b (p + 1) ∧ bt b (p + 1) ≤ 79 then ⟨31, regR (bt b (p + 2)), regL (bt b (p + 2)), 32, bt b (p + 1) - 64⟩
  else if 128 ≤ bt b (p + 1) ∧ bt b (p + 1) ≤ 143 then ⟨32, 0, bt b (p + 1) - 128, 32, sgnR 2147483648 (num4 b (p + 2))⟩
  else noIns
def gueF (sz : Int) (b : List Int) (p : Nat) : Ins :=
  if b.length ≤ p then noIns
  else if bt b p = 15 then secF b p
  else if bt b p = 137 ∧ (128 ≤ bt b (p + 1) ∧ bt b (p + 1) < 192) then ⟨3, regL (bt b (p + 1)), regR (bt b (p + 1)), sz, sgnR 2147483648 (num4 b (p + 2))⟩
  else if bt b p = 139 then ⟨2, regR (bt b (p + 1)), regL (bt b (p + 1)), sz, sgnR 2147483648 (num4 b (p + 2))⟩
  else if bt b p = 136 then ⟨6, regL (bt b (p + 1)), regR (bt b (p + 1)), sz, sgnR 2147483648 (num4 b (p + 2))⟩
  else if 0 ≤ byTwoF (bt b p) then ⟨byTwoF (bt b p), regL (bt b (p + 1)), regR (bt b (p + 1)), sz, 0⟩
  else if 184 ≤ bt b p ∧ bt b p ≤ 191 then ⟨1, bt b p - 184, 0, sz, nums sz b (p + 1)⟩
  else if bt b p = 131 then ⟨dig81 (regR (bt b (p + 1))), regL (bt b (p + 1)), 0, sz, sgnR 128 (bt b (p + 2)) % (2 * half sz)⟩
  else if bt b p = 129 then ⟨dig81 (regR (bt b (p + 1))), regL (bt b (p + 1)), 0, sz, nums sz b (p + 2)⟩
  else if bt b p = 211 then ⟨digd3 (regR (bt b (p + 1))), regL (bt b (p + 1)), 0, sz, 0⟩
  else if bt b p = 247 then ⟨digf7 (regR (bt b (p + 1))), regL (bt b (p + 1)), 0, sz, 0⟩
  else if 112 ≤ bt b p ∧ bt b p ≤ 127 then ⟨32, 0, bt b p - 112, 8, sgnR 128 (bt b (p + 1))⟩
  else if bt b p = 235 then ⟨33, 0, 0, 8, sgnR 128 (bt b (p + 1))⟩
  else if bt b p = 233 then ⟨33, 0, 0, 32, sgnR 2147483648 (num4 b (p + 1))⟩
  else if bt b p = 153 then ⟨28, 0, 0, sz, 0⟩
  else if bt b p = 244 then ⟨34, 0, 0, sz, 0⟩
  else if bt b p = 144 then ⟨36, 0, 0, sz, 0⟩
  else noIns
/-- What the reference guesses. -/
def gueT (b : List Int) : Ins := if bt b 0 = 102 then gueF 16 b 1 else gueF 32 b 0
def rdecF (b : List Int) : Option Ins := if valB (gueT b) && pre (encF (gueT b)) b then some (gueT b) else none
theorem sgnR_of {h n m : Int} (hh : 0 < h) (hn : -h ≤ n ∧ n < h) (hm : m = n % (2 * h)) : sgnR h m = n := by
  have := sgn_of hh hn hm
  have h0 := Int.emod_nonneg n (show 2 * h ≠ 0 by omega)
  have h1 := Int.emod_lt_of_pos n (show 0 < 2 * h by omega)
  unfold sgn at this
  rw [Int.emod_eq_of_lt (by omega) (by omega)] at this
  exact this
theorem reg_mem {r m : Int} (h1 : 0 ≤ r ∧ r < 8) (h2 : 0 ≤ m ∧ m < 8) : (192 ≤ 192 + 8 * r + m) = True ∧ (192 + 8 * r + m < 192) = False ∧ (128 ≤ 128 + 8 * r + m) = True ∧ (128 + 8 * r + m < 192) = True ∧ (192 ≤ 128 + 8 * r + m) = False := by
  refine ⟨?_, ?_, ?_, ?_, ?_⟩ <;> simp only [eq_iff_iff, iff_true, iff_false] <;> omega
section
attribute [local simp] canF encF wrB rw_ tbl bt shortF longF grpF aft plainF farI les le2 le4 nxs nx2 nx4 half g81 gd3 gf7 gueT gueF secF byTwoF nums num2 num4 dig81 digd3 digf7
theorem can_0_16 (rest : List Int) (d s : Int) (hd : 0 ≤ d ∧ d < 8) (hs : 0 ≤ s ∧ s < 8) : canF (encF ⟨0, d, s, 16, 0⟩ ++ rest) = ⟨0, d, s, 16, 0⟩ := by
  obtain ⟨e1, e2, e3, -⟩ := reg_both (r := s) (m := d) (by omega) (by omega)
  obtain ⟨q1, q2, -⟩ := reg_mem (r := s) (m := d) (by omega) (by omega)
  simp [e1, e2, e3]
theorem gue_0_16 (rest : List Int) (d s : Int) (hd : 0 ≤ d ∧ d < 8) (hs : 0 ≤ s ∧ s < 8) : gueT (encF ⟨0, d, s, 16, 0⟩ ++ rest) = ⟨0, d, s, 16, 0⟩ := by
  obtain ⟨e1, e2, e3, -⟩ := reg_both (r := s) (m := d) (by omega) (by omega)
  obtain ⟨q1, q2, -⟩ := reg_mem (r := s) (m := d) (by omega) (by omega)
  simp [e1, e2, q2]
theorem can_0_32 (rest : List Int) (d s : Int) (hd : 0 ≤ d ∧ d < 8) (hs : 0 ≤ s ∧ s < 8) : canF (encF ⟨0, d, s, 32, 0⟩ ++ rest) = ⟨0, d, s, 32, 0⟩ := by
  obtain ⟨e1, e2, e3, -⟩ := reg_both (r := s) (m := d) (by omega) (by omega)
  obtain ⟨q1, q2, -⟩ := reg_mem (r := s) (m := d) (by omega) (by omega)
  simp [e1, e2, e3]
theorem gue_0_32 (rest : List Int) (d s : Int) (hd : 0 ≤ d ∧ d < 8) (hs : 0 ≤ s ∧ s < 8) : gueT (encF ⟨0, d, s, 32, 0⟩ ++ rest) = ⟨0, d, s, 32, 0⟩ := by
  obtain ⟨e1, e2, e3, -⟩ := reg_both (r := s) (m := d) (by omega) (by omega)
  obtain ⟨q1, q2, -⟩ := reg_mem (r := s) (m := d) (by omega) (by omega)
  simp [e1, e2, q2]
theorem can_1_16 (rest : List Int) (d imm : Int) (hd : 0 ≤ d ∧ d < 8) (himm : 0 ≤ imm ∧ imm < 65536) : canF (encF ⟨1, d, 0, 16, imm⟩ ++ rest) = ⟨1, d, 0, 16, imm⟩ := by
  have e4 : imm % 256 + 256 * (imm / 256 % 256) = imm := by omega
  have hd2 : d = 0 ∨ d = 1 ∨ d = 2 ∨ d = 3 ∨ d = 4 ∨ d = 5 ∨ d = 6 ∨ d = 7 := by omega
  rcases hd2 with rfl | rfl | rfl | rfl | rfl | rfl | rfl | rfl <;> simp [e4]
theorem gue_1_16 (rest : List Int) (d imm : Int) (hd : 0 ≤ d ∧ d < 8) (himm : 0 ≤ imm ∧ imm < 65536) : gueT (encF ⟨1, d, 0, 16, imm⟩ ++ rest) = ⟨1, d, 0, 16, imm⟩ := by
  have e4 : imm % 256 + 256 * (imm / 256 % 256) = imm := by omega
  have hd2 : d = 0 ∨ d = 1 ∨ d = 2 ∨ d = 3 ∨ d = 4 ∨ d = 5 ∨ d = 6 ∨ d = 7 := by omega
  rcases hd2 with rfl | rfl | rfl | rfl | rfl | rfl | rfl | rfl <;> simp [e4]
theorem can_1_32 (rest : List Int) (d imm : Int) (hd : 0 ≤ d ∧ d < 8) (himm : 0 ≤ imm ∧ imm < 4294967296) : canF (encF ⟨1, d, 0, 32, imm⟩ ++ rest) = ⟨1, d, 0, 32, imm⟩ := by
  have e4 : imm % 256 + 256 * (imm / 256 % 256) + 65536 * (imm / 65536 % 256) + 16777216 * (imm / 16777216 % 256) = imm := by omega
  have hd2 : d = 0 ∨ d = 1 ∨ d = 2 ∨ d = 3 ∨ d = 4 ∨ d = 5 ∨ d = 6 ∨ d = 7 := by omega
  rcases hd2 with rfl | rfl | rfl | rfl | rfl | rfl | rfl | rfl <;> simp [e4]
theorem gue_1_32 (rest : List Int) (d imm : Int) (hd : 0 ≤ d ∧ d < 8) (himm : 0 ≤ imm ∧ imm < 4294967296) : gueT (encF ⟨1, d, 0, 32, imm⟩ ++ rest) = ⟨1, d, 0, 32, imm⟩ := by
  have e4 : imm % 256 + 256 * (imm / 256 % 256) + 65536 * (imm / 65536 % 256) + 16777216 * (imm / 16777216 % 256) = imm := by omega
  have hd2 : d = 0 ∨ d = 1 ∨ d = 2 ∨ d = 3 ∨ d = 4 ∨ d = 5 ∨ d = 6 ∨ d = 7 := by omega
  rcases hd2 with rfl | rfl | rfl | rfl | rfl | rfl | rfl | rfl <;> simp [e4]
theorem can_2_16 (rest : List Int) (d s imm : Int) (hd : 0 ≤ d ∧ d < 8) (hs : 0 ≤ s ∧ s < 8) (himm : -2147483648 ≤ imm ∧ imm < 2147483648) : canF (encF ⟨2, d, s, 16, imm⟩ ++ rest) = ⟨2, d, s, 16, imm⟩ := by
  obtain ⟨-, -, -, e1, e2, e3⟩ := reg_both (r := d) (m := s) (by omega) (by omega)
  obtain ⟨-, -, q1, q2, q3⟩ := reg_mem (r := d) (m := s) (by omega) (by omega)
  have e4 : sgn 2147483648 (imm % 256 + 256 * (imm / 256 % 256) + 65536 * (imm / 65536 % 256) + 16777216 * (imm / 16777216 % 256)) = imm := sgn_of (by omega) himm (by omega)
  simp [e1, e2, e3, e4]
theorem gue_2_16 (rest : List Int) (d s imm : Int) (hd : 0 ≤ d ∧ d < 8) (hs : 0 ≤ s ∧ s < 8) (himm : -2147483648 ≤ imm ∧ imm < 2147483648) : gueT (encF ⟨2, d, s, 16, imm⟩ ++ rest) = ⟨2, d, s, 16, imm⟩ := by
  obtain ⟨-, -, -, e1, e2, e3⟩ := reg_both (r := d) (m := s) (by omega) (by omega)
  obtain ⟨-, -, q1, q2, q3⟩ := reg_mem (r := d) (m := s) (by omega) (by omega)
  have e4 : sgnR 2147483648 (imm % 256 + 256 * (imm / 256 % 256) + 65536 * (imm / 65536 % 256) + 16777216 * (imm / 16777216 % 256)) = imm := sgnR_of (by omega) himm (by omega)
  simp [e1, e2, e4, q1, q2]
theorem can_2_32 (rest : List Int) (d s imm : Int) (hd : 0 ≤ d ∧ d < 8) (hs : 0 ≤ s ∧ s < 8) (himm : -2147483648 ≤ imm ∧ imm < 2147483648) : canF (encF ⟨2, d, s, 32, imm⟩ ++ rest) = ⟨2, d, s, 32, imm⟩ := by
  obtain ⟨-, -, -, e1, e2, e3⟩ := reg_both (r := d) (m := s) (by omega) (by omega)
  obtain ⟨-, -, q1, q2, q3⟩ := reg_mem (r := d) (m := s) (by omega) (by omega)
  have e4 : sgn 2147483648 (imm % 256 + 256 * (imm / 256 % 256) + 65536 * (imm / 65536 % 256) + 16777216 * (imm / 16777216 % 256)) = imm := sgn_of (by omega) himm (by omega)
  simp [e1, e2, e3, e4]
theorem gue_2_32 (rest : List Int) (d s imm : Int) (hd : 0 ≤ d ∧ d < 8) (hs : 0 ≤ s ∧ s < 8) (himm : -2147483648 ≤ imm ∧ imm < 2147483648) : gueT (encF ⟨2, d, s, 32, imm⟩ ++ rest) = ⟨2, d, s, 32, imm⟩ := by
  obtain ⟨-, -, -, e1, e2, e3⟩ := reg_both (r := d) (m := s) (by omega) (by omega)
  obtain ⟨-, -, q1, q2, q3⟩ := reg_mem (r := d) (m := s) (by omega) (by omega)
  have e4 : sgnR 2147483648 (imm % 256 + 256 * (imm / 256 % 256) + 65536 * (imm / 65536 % 256) + 16777216 * (imm / 16777216 % 256)) = imm := sgnR_of (by omega) himm (by omega)
  simp [e1, e2, e4, q1, q2]
theorem can_3_16 (rest : List Int) (d s imm : Int) (hd : 0 ≤ d ∧ d < 8) (hs : 0 ≤ s ∧ s < 8) (himm : -2147483648 ≤ imm ∧ imm < 2147483648) : canF (encF ⟨3, d, s, 16, imm⟩ ++ rest) = ⟨3, d, s, 16, imm⟩ := by
  obtain ⟨-, -, -, e1, e2, e3⟩ := reg_both (r := s) (m := d) (by omega) (by omega)
  obtain ⟨-, -, q1, q2, q3⟩ := reg_mem (r := s) (m := d) (by omega) (by omega)
  have e4 : sgn 2147483648 (imm % 256 + 256 * (imm / 256 % 256) + 65536 * (imm / 65536 % 256) + 16777216 * (imm / 16777216 % 256)) = imm := sgn_of (by omega) himm (by omega)
  simp [e1, e2, e3, e4]
theorem gue_3_16 (rest : List Int) (d s imm : Int) (hd : 0 ≤ d ∧ d < 8) (hs : 0 ≤ s ∧ s < 8) (himm : -2147483648 ≤ imm ∧ imm < 2147483648) : gueT (encF ⟨3, d, s, 16, imm⟩ ++ rest) = ⟨3, d, s, 16, imm⟩ := by
  obtain ⟨-, -, -, e1, e2, e3⟩ := reg_both (r := s) (m := d) (by omega) (by omega)
  obtain ⟨-, -, q1, q2, q3⟩ := reg_mem (r := s) (m := d) (by omega) (by omega)
  have e4 : sgnR 2147483648 (imm % 256 + 256 * (imm / 256 % 256) + 65536 * (imm / 65536 % 256) + 16777216 * (imm / 16777216 % 256)) = imm := sgnR_of (by omega) himm (by omega)
  simp [e1, e2, e4, q1, q2]
theorem can_3_32 (rest : List Int) (d s imm : Int) (hd : 0 ≤ d ∧ d < 8) (hs : 0 ≤ s ∧ s < 8) (himm : -2147483648 ≤ imm ∧ imm < 2147483648) : canF (encF ⟨3, d, s, 32, imm⟩ ++ rest) = ⟨3, d, s, 32, imm⟩ := by
  obtain ⟨-, -, -, e1, e2, e3⟩ := reg_both (r := s) (m := d) (by omega) (by omega)
  obtain ⟨-, -, q1, q2, q3⟩ := reg_mem (r := s) (m := d) (by omega) (by omega)
  have e4 : sgn 2147483648 (imm % 256 + 256 * (imm / 256 % 256) + 65536 * (imm / 65536 % 256) + 16777216 * (imm / 16777216 % 256)) = imm := sgn_of (by omega) himm (by omega)
  simp [e1, e2, e3, e4]
theorem gue_3_32 (rest : List Int) (d s imm : Int) (hd : 0 ≤ d ∧ d < 8) (hs : 0 ≤ s ∧ s < 8) (himm : -2147483648 ≤ imm ∧ imm < 2147483648) : gueT (encF ⟨3, d, s, 32, imm⟩ ++ rest) = ⟨3, d, s, 32, imm⟩ := by
  obtain ⟨-, -, -, e1, e2, e3⟩ := reg_both (r := s) (m := d) (by omega) (by omega)
  obtain ⟨-, -, q1, q2, q3⟩ := reg_mem (r := s) (m := d) (by omega) (by omega)
  have e4 : sgnR 2147483648 (imm % 256 + 256 * (imm / 256 % 256) + 65536 * (imm / 65536 % 256) + 16777216 * (imm / 16777216 % 256)) = imm := sgnR_of (by omega) himm (by omega)
  simp [e1, e2, e4, q1, q2]
theorem can_4_32 (rest : List Int) (d s imm : Int) (hd : 0 ≤ d ∧ d < 8) (hs : 0 ≤ s ∧ s < 8) (himm : -2147483648 ≤ imm ∧ imm < 2147483648) : canF (encF ⟨4, d, s, 32, imm⟩ ++ rest) = ⟨4, d, s, 32, imm⟩ := by
  obtain ⟨-, -, -, e1, e2, e3⟩ := reg_both (r := d) (m := s) (by omega) (by omega)
  obtain ⟨-, -, q1, q2, q3⟩ := reg_mem (r := d) (m := s) (by omega) (by omega)
  have e4 : sgn 2147483648 (imm % 256 + 256 * (imm / 256 % 256) + 65536 * (imm / 65536 % 256) + 16777216 * (imm / 16777216 % 256)) = imm := sgn_of (by omega) himm (by omega)
  simp [e1, e2, e3, e4]
theorem gue_4_32 (rest : List Int) (d s imm : Int) (hd : 0 ≤ d ∧ d < 8) (hs : 0 ≤ s ∧ s < 8) (himm : -2147483648 ≤ imm ∧ imm < 2147483648) : gueT (encF ⟨4, d, s, 32, imm⟩ ++ rest) = ⟨4, d, s, 32, imm⟩ := by
  obtain ⟨-, -, -, e1, e2, e3⟩ := reg_both (r := d) (m := s) (by omega) (by omega)
  obtain ⟨-, -, q1, q2, q3⟩ := reg_mem (r := d) (m := s) (by omega) (by omega)
  have e4 : sgnR 2147483648 (imm % 256 + 256 * (imm / 256 % 256) + 65536 * (imm / 65536 % 256) + 16777216 * (imm / 16777216 % 256)) = imm := sgnR_of (by omega) himm (by omega)
  simp [e1, e2, e4, q3]
theorem can_5_32 (rest : List Int) (d s imm : Int) (hd : 0 ≤ d ∧ d < 8) (hs : 0 ≤ s ∧ s < 8) (himm : -2147483648 ≤ imm ∧ imm < 2147483648) : canF (encF ⟨5, d, s, 32, imm⟩ ++ rest) = ⟨5, d, s, 32, imm⟩ := by
  obtain ⟨-, -, -, e1, e2, e3⟩ := reg_both (r := d) (m := s) (by omega) (by omega)
  obtain ⟨-, -, q1, q2, q3⟩ := reg_mem (r := d) (m := s) (by omega) (by omega)
  have e4 : sgn 2147483648 (imm % 256 + 256 * (imm / 256 % 256) + 65536 * (imm / 65536 % 256) + 16777216 * (imm / 16777216 % 256)) = imm := sgn_of (by omega) himm (by omega)
  simp [e1, e2, e3, e4]
theorem gue_5_32 (rest : List Int) (d s imm : Int) (hd : 0 ≤ d ∧ d < 8) (hs : 0 ≤ s ∧ s < 8) (himm : -2147483648 ≤ imm ∧ imm < 2147483648) : gueT (encF ⟨5, d, s, 32, imm⟩ ++ rest) = ⟨5, d, s, 32, imm⟩ := by
  obtain ⟨-, -, -, e1, e2, e3⟩ := reg_both (r := d) (m := s) (by omega) (by omega)
  obtain ⟨-, -, q1, q2, q3⟩ := reg_mem (r := d) (m := s) (by omega) (by omega)
  have e4 : sgnR 2147483648 (imm % 256 + 256 * (imm / 256 % 256) + 65536 * (imm / 65536 % 256) + 16777216 * (imm / 16777216 % 256)) = imm := sgnR_of (by omega) himm (by omega)
  simp [e1, e2, e4, q3]
theorem can_6_32 (rest : List Int) (d s imm : Int) (hd : 0 ≤ d ∧ d < 8) (hs : 0 ≤ s ∧ s < 4) (himm : -2147483648 ≤ imm ∧ imm < 2147483648) : canF (encF ⟨6, d, s, 32, imm⟩ ++ rest) = ⟨6, d, s, 32, imm⟩ := by
  obtain ⟨-, -, -, e1, e2, e3⟩ := reg_both (r := s) (m := d) (by omega) (by omega)
  obtain ⟨-, -, q1, q2, q3⟩ := reg_mem (r := s) (m := d) (by omega) (by omega)
  have e4 : sgn 2147483648 (imm % 256 + 256 * (imm / 256 % 256) + 65536 * (imm / 65536 % 256) + 16777216 * (imm / 16777216 % 256)) = imm := sgn_of (by omega) himm (by omega)
  simp [e1, e2, e3, e4]
theorem gue_6_32 (rest : List Int) (d s imm : Int) (hd : 0 ≤ d ∧ d < 8) (hs : 0 ≤ s ∧ s < 4) (himm : -2147483648 ≤ imm ∧ imm < 2147483648) : gueT (encF ⟨6, d, s, 32, imm⟩ ++ rest) = ⟨6, d, s, 32, imm⟩ := by
  obtain ⟨-, -, -, e1, e2, e3⟩ := reg_both (r := s) (m := d) (by omega) (by omega)
  obtain ⟨-, -, q1, q2, q3⟩ := reg_mem (r := s) (m := d) (by omega) (by omega)
  have e4 : sgnR 2147483648 (imm % 256 + 256 * (imm / 256 % 256) + 65536 * (imm / 65536 % 256) + 16777216 * (imm / 16777216 % 256)) = imm := sgnR_of (by omega) himm (by omega)
  simp [e1, e2, e4, q1, q2]
theorem can_7_16 (rest : List Int) (d s : Int) (hd : 0 ≤ d ∧ d < 8) (hs : 0 ≤ s ∧ s < 8) : canF (encF ⟨7, d, s, 16, 0⟩ ++ rest) = ⟨7, d, s, 16, 0⟩ := by
  obtain ⟨e1, e2, e3, -⟩ := reg_both (r := s) (m := d) (by omega) (by omega)
  obtain ⟨q1, q2, -⟩ := reg_mem (r := s) (m := d) (by omega) (by omega)
  simp [e1, e2, e3]
theorem gue_7_16 (rest : List Int) (d s : Int) (hd : 0 ≤ d ∧ d < 8) (hs : 0 ≤ s ∧ s < 8) : gueT (encF ⟨7, d, s, 16, 0⟩ ++ rest) = ⟨7, d, s, 16, 0⟩ := by
  obtain ⟨e1, e2, e3, -⟩ := reg_both (r := s) (m := d) (by omega) (by omega)
  obtain ⟨q1, q2, -⟩ := reg_mem (r := s) (m := d) (by omega) (by omega)
  simp [e1, e2, q2]
theorem can_7_32 (rest : List Int) (d s : Int) (hd : 0 ≤ d ∧ d < 8) (hs : 0 ≤ s ∧ s < 8) : canF (encF ⟨7, d, s, 32, 0⟩ ++ rest) = ⟨7, d, s, 32, 0⟩ := by
  obtain ⟨e1, e2, e3, -⟩ := reg_both (r := s) (m := d) (by omega) (by omega)
  obtain ⟨q1, q2, -⟩ := reg_mem (r := s) (m := d) (by omega) (by omega)
  simp [e1, e2, e3]
theorem gue_7_32 (rest : List Int) (d s : Int) (hd : 0 ≤ d ∧ d < 8) (hs : 0 ≤ s ∧ s < 8) : gueT (encF ⟨7, d, s, 32, 0⟩ ++ rest) = ⟨7, d, s, 32, 0⟩ := by
  obtain ⟨e1, e2, e3, -⟩ := reg_both (r := s) (m := d) (by omega) (by omega)
  obtain ⟨q1, q2, -⟩ := reg_mem (r := s) (m := d) (by omega) (by omega)
  simp [e1, e2, q2]
theorem can_8_16 (rest : List Int) (d s : Int) (hd : 0 ≤ d ∧ d < 8) (hs : 0 ≤ s ∧ s < 8) : canF (encF ⟨8, d, s, 16, 0⟩ ++ rest) = ⟨8, d, s, 16, 0⟩ := by
  obtain ⟨e1, e2, e3, -⟩ := reg_both (r := s) (m := d) (by omega) (by omega)
  obtain ⟨q1, q2, -⟩ := reg_mem (r := s) (m := d) (by omega) (by omega)
  simp [e1, e2, e3]
theorem gue_8_16 (rest : List Int) (d s : Int) (hd : 0 ≤ d ∧ d < 8) (hs : 0 ≤ s ∧ s < 8) : gueT (encF ⟨8, d, s, 16, 0⟩ ++ rest) = ⟨8, d, s, 16, 0⟩ := by
  obtain ⟨e1, e2, e3, -⟩ := reg_both (r := s) (m := d) (by omega) (by omega)
  obtain ⟨q1, q2, -⟩ := reg_mem (r := s) (m := d) (by omega) (by omega)
  simp [e1, e2, q2]
theorem can_8_32 (rest : List Int) (d s : Int) (hd : 0 ≤ d ∧ d < 8) (hs : 0 ≤ s ∧ s < 8) : canF (encF ⟨8, d, s, 32, 0⟩ ++ rest) = ⟨8, d, s, 32, 0⟩ := by
  obtain ⟨e1, e2, e3, -⟩ := reg_both (r := s) (m := d) (by omega) (by omega)
  obtain ⟨q1, q2, -⟩ := reg_mem (r := s) (m := d) (by omega) (by omega)
  simp [e1, e2, e3]
theorem gue_8_32 (rest : List Int) (d s : Int) (hd : 0 ≤ d ∧ d < 8) (hs : 0 ≤ s ∧ s < 8) : gueT (encF ⟨8, d, s, 32, 0⟩ ++ rest) = ⟨8, d, s, 32, 0⟩ := by
  obtain ⟨e1, e2, e3, -⟩ := reg_both (r := s) (m := d) (by omega) (by omega)
  obtain ⟨q1, q2, -⟩ := reg_mem (r := s) (m := d) (by omega) (by omega)
  simp [e1, e2, q2]
theorem can_9_16 (rest : List Int) (d s : Int) (hd : 0 ≤ d ∧ d < 8) (hs : 0 ≤ s ∧ s < 8) : canF (encF ⟨9, d, s, 16, 0⟩ ++ rest) = ⟨9, d, s, 16, 0⟩ := by
  obtain ⟨e1, e2, e3, -⟩ := reg_both (r := s) (m := d) (by omega) (by omega)
  obtain ⟨q1, q2, -⟩ := reg_mem (r := s) (m := d) (by omega) (by omega)
  simp [e1, e2, e3]
theorem gue_9_16 (rest : List Int) (d s : Int) (hd : 0 ≤ d ∧ d < 8) (hs : 0 ≤ s ∧ s < 8) : gueT (encF ⟨9, d, s, 16, 0⟩ ++ rest) = ⟨9, d, s, 16, 0⟩ := by
  obtain ⟨e1, e2, e3, -⟩ := reg_both (r := s) (m := d) (by omega) (by omega)
  obtain ⟨q1, q2, -⟩ := reg_mem (r := s) (m := d) (by omega) (by omega)
  simp [e1, e2, q2]
theorem can_9_32 (rest : List Int) (d s : Int) (hd : 0 ≤ d ∧ d < 8) (hs : 0 ≤ s ∧ s < 8) : canF (encF ⟨9, d, s, 32, 0⟩ ++ rest) = ⟨9, d, s, 32, 0⟩ := by
  obtain ⟨e1, e2, e3, -⟩ := reg_both (r := s) (m := d) (by omega) (by omega)
  obtain ⟨q1, q2, -⟩ := reg_mem (r := s) (m := d) (by omega) (by omega)
  simp [e1, e2, e3]
theorem gue_9_32 (rest : List Int) (d s : Int) (hd : 0 ≤ d ∧ d < 8) (hs : 0 ≤ s ∧ s < 8) : gueT (encF ⟨9, d, s, 32, 0⟩ ++ rest) = ⟨9, d, s, 32, 0⟩ := by
  obtain ⟨e1, e2, e3, -⟩ := reg_both (r := s) (m := d) (by omega) (by omega)
  obtain ⟨q1, q2, -⟩ := reg_mem (r := s) (m := d) (by omega) (by omega)
  simp [e1, e2, q2]
theorem can_10_16 (rest : List Int) (d s : Int) (hd : 0 ≤ d ∧ d < 8) (hs : 0 ≤ s ∧ s < 8) : canF (encF ⟨10, d, s, 16, 0⟩ ++ rest) = ⟨10, d, s, 16, 0⟩ := by
  obtain ⟨e1, e2, e3, -⟩ := reg_both (r := s) (m := d) (by omega) (by omega)
  obtain ⟨q1, q2, -⟩ := reg_mem (r := s) (m := d) (by omega) (by omega)
  simp [e1, e2, e3]
theorem gue_10_16 (rest : List Int) (d s : Int) (hd : 0 ≤ d ∧ d < 8) (hs : 0 ≤ s ∧ s < 8) : gueT (encF ⟨10, d, s, 16, 0⟩ ++ rest) = ⟨10, d, s, 16, 0⟩ := by
  obtain ⟨e1, e2, e3, -⟩ := reg_both (r := s) (m := d) (by omega) (by omega)
  obtain ⟨q1, q2, -⟩ := reg_mem (r := s) (m := d) (by omega) (by omega)
  simp [e1, e2, q2]
theorem can_10_32 (rest : List Int) (d s : Int) (hd : 0 ≤ d ∧ d < 8) (hs : 0 ≤ s ∧ s < 8) : canF (encF ⟨10, d, s, 32, 0⟩ ++ rest) = ⟨10, d, s, 32, 0⟩ := by
  obtain ⟨e1, e2, e3, -⟩ := reg_both (r := s) (m := d) (by omega) (by omega)
  obtain ⟨q1, q2, -⟩ := reg_mem (r := s) (m := d) (by omega) (by omega)
  simp [e1, e2, e3]
theorem gue_10_32 (rest : List Int) (d s : Int) (hd : 0 ≤ d ∧ d < 8) (hs : 0 ≤ s ∧ s < 8) : gueT (encF ⟨10, d, s, 32, 0⟩ ++ rest) = ⟨10, d, s, 32, 0⟩ := by
  obtain ⟨e1, e2, e3, -⟩ := reg_both (r := s) (m := d) (by omega) (by omega)
  obtain ⟨q1, q2, -⟩ := reg_mem (r := s) (m := d) (by omega) (by omega)
  simp [e1, e2, q2]
theorem can_11_16 (rest : List Int) (d s : Int) (hd : 0 ≤ d ∧ d < 8) (hs : 0 ≤ s ∧ s < 8) : canF (encF ⟨11, d, s, 16, 0⟩ ++ rest) = ⟨11, d, s, 16, 0⟩ := by
  obtain ⟨e1, e2, e3, -⟩ := reg_both (r := s) (m := d) (by omega) (by omega)
  obtain ⟨q1, q2, -⟩ := reg_mem (r := s) (m := d) (by omega) (by omega)
  simp [e1, e2, e3]
theorem gue_11_16 (rest : List Int) (d s : Int) (hd : 0 ≤ d ∧ d < 8) (hs : 0 ≤ s ∧ s < 8) : gueT (encF ⟨11, d, s, 16, 0⟩ ++ rest) = ⟨11, d, s, 16, 0⟩ := by
  obtain ⟨e1, e2, e3, -⟩ := reg_both (r := s) (m := d) (by omega) (by omega)
  obtain ⟨q1, q2, -⟩ := reg_mem (r := s) (m := d) (by omega) (by omega)
  simp [e1, e2, q2]
theorem can_11_32 (rest : List Int) (d s : Int) (hd : 0 ≤ d ∧ d < 8) (hs : 0 ≤ s ∧ s < 8) : canF (encF ⟨11, d, s, 32, 0⟩ ++ rest) = ⟨11, d, s, 32, 0⟩ := by
  obtain ⟨e1, e2, e3, -⟩ := reg_both (r := s) (m := d) (by omega) (by omega)
  obtain ⟨q1, q2, -⟩ := reg_mem (r := s) (m := d) (by omega) (by omega)
  simp [e1, e2, e3]
theorem gue_11_32 (rest : List Int) (d s : Int) (hd : 0 ≤ d ∧ d < 8) (hs : 0 ≤ s ∧ s < 8) : gueT (encF ⟨11, d, s, 32, 0⟩ ++ rest) = ⟨11, d, s, 32, 0⟩ := by
  obtain ⟨e1, e2, e3, -⟩ := reg_both (r := s) (m := d) (by omega) (by omega)
  obtain ⟨q1, q2, -⟩ := reg_mem (r := s) (m := d) (by omega) (by omega)
  simp [e1, e2, q2]
theorem can_12_16 (rest : List Int) (d s : Int) (hd : 0 ≤ d ∧ d < 8) (hs : 0 ≤ s ∧ s < 8) : canF (encF ⟨12, d, s, 16, 0⟩ ++ rest) = ⟨12, d, s, 16, 0⟩ := by
  obtain ⟨e1, e2, e3, -⟩ := reg_both (r := s) (m := d) (by omega) (by omega)
  obtain ⟨q1, q2, -⟩ := reg_mem (r := s) (m := d) (by omega) (by omega)
  simp [e1, e2, e3]
theorem gue_12_16 (rest : List Int) (d s : Int) (hd : 0 ≤ d ∧ d < 8) (hs : 0 ≤ s ∧ s < 8) : gueT (encF ⟨12, d, s, 16, 0⟩ ++ rest) = ⟨12, d, s, 16, 0⟩ := by
  obtain ⟨e1, e2, e3, -⟩ := reg_both (r := s) (m := d) (by omega) (by omega)
  obtain ⟨q1, q2, -⟩ := reg_mem (r := s) (m := d) (by omega) (by omega)
  simp [e1, e2, q2]
theorem can_12_32 (rest : List Int) (d s : Int) (hd : 0 ≤ d ∧ d < 8) (hs : 0 ≤ s ∧ s < 8) : canF (encF ⟨12, d, s, 32, 0⟩ ++ rest) = ⟨12, d, s, 32, 0⟩ := by
  obtain ⟨e1, e2, e3, -⟩ := reg_both (r := s) (m := d) (by omega) (by omega)
  obtain ⟨q1, q2, -⟩ := reg_mem (r := s) (m := d) (by omega) (by omega)
  simp [e1, e2, e3]
theorem gue_12_32 (rest : List Int) (d s : Int) (hd : 0 ≤ d ∧ d < 8) (hs : 0 ≤ s ∧ s < 8) : gueT (encF ⟨12, d, s, 32, 0⟩ ++ rest) = ⟨12, d, s, 32, 0⟩ := by
  obtain ⟨e1, e2, e3, -⟩ := reg_both (r := s) (m := d) (by omega) (by omega)
  obtain ⟨q1, q2, -⟩ := reg_mem (r := s) (m := d) (by omega) (by omega)
  simp [e1, e2, q2]
theorem can_13_16 (rest : List Int) (d s : Int) (hd : 0 ≤ d ∧ d < 8) (hs : 0 ≤ s ∧ s < 8) : canF (encF ⟨13, d, s, 16, 0⟩ ++ rest) = ⟨13, d, s, 16, 0⟩ := by
  obtain ⟨e1, e2, e3, -⟩ := reg_both (r := s) (m := d) (by omega) (by omega)
  obtain ⟨q1, q2, -⟩ := reg_mem (r := s) (m := d) (by omega) (by omega)
  simp [e1, e2, e3]
theorem gue_13_16 (rest : List Int) (d s : Int) (hd : 0 ≤ d ∧ d < 8) (hs : 0 ≤ s ∧ s < 8) : gueT (encF ⟨13, d, s, 16, 0⟩ ++ rest) = ⟨13, d, s, 16, 0⟩ := by
  obtain ⟨e1, e2, e3, -⟩ := reg_both (r := s) (m := d) (by omega) (by omega)
  obtain ⟨q1, q2, -⟩ := reg_mem (r := s) (m := d) (by omega) (by omega)
  simp [e1, e2, q2]
theorem can_13_32 (rest : List Int) (d s : Int) (hd : 0 ≤ d ∧ d < 8) (hs : 0 ≤ s ∧ s < 8) : canF (encF ⟨13, d, s, 32, 0⟩ ++ rest) = ⟨13, d, s, 32, 0⟩ := by
  obtain ⟨e1, e2, e3, -⟩ := reg_both (r := s) (m := d) (by omega) (by omega)
  obtain ⟨q1, q2, -⟩ := reg_mem (r := s) (m := d) (by omega) (by omega)
  simp [e1, e2, e3]
theorem gue_13_32 (rest : List Int) (d s : Int) (hd : 0 ≤ d ∧ d < 8) (hs : 0 ≤ s ∧ s < 8) : gueT (encF ⟨13, d, s, 32, 0⟩ ++ rest) = ⟨13, d, s, 32, 0⟩ := by
  obtain ⟨e1, e2, e3, -⟩ := reg_both (r := s) (m := d) (by omega) (by omega)
  obtain ⟨q1, q2, -⟩ := reg_mem (r := s) (m := d) (by omega) (by omega)
  simp [e1, e2, q2]
theorem can_14_16 (rest : List Int) (d imm : Int) (hd : 0 ≤ d ∧ d < 8) (himm : 0 ≤ imm ∧ imm < 65536) : canF (encF ⟨14, d, 0, 16, imm⟩ ++ rest) = ⟨14, d, 0, 16, imm⟩ := by
  obtain ⟨e1, e2, e3, -⟩ := reg_both (r := 0) (m := d) (by omega) (by omega)
  have f1 := e1
  have f2 := e2
  have f3 := e3
  simp at f1 f2 f3
  have e4 : imm % 256 + 256 * (imm / 256 % 256) = imm := by omega
  by_cases h : isS (sgn (half 16) imm) 128 = true
  · have h2 : -128 ≤ sgn 32768 imm ∧ sgn 32768 imm < 128 := of_decide_eq_true h
    have e5 : sgn 128 (imm % 256) % 65536 = imm := by
      rw [sgn_of (n := sgn 32768 imm) (by omega) h2 (by unfold sgn; split <;> omega)]
      unfold sgn
      split <;> omega
    have h3 : isS (sgn 32768 imm) 128 = true := h
    simp [f1, f2, f3, e5, h3]
  · have h3 : isS (sgn 32768 imm) 128 = false := (Bool.not_eq_true _).mp h
    simp [f1, f2, f3, e4, h3]
theorem gue_14_16 (rest : List Int) (d imm : Int) (hd : 0 ≤ d ∧ d < 8) (himm : 0 ≤ imm ∧ imm < 65536) : gueT (encF ⟨14, d, 0, 16, imm⟩ ++ rest) = ⟨14, d, 0, 16, imm⟩ := by
  obtain ⟨e1, e2, e3, -⟩ := reg_both (r := 0) (m := d) (by omega) (by omega)
  have f1 := e1
  have f2 := e2
  have f3 := e3
  simp at f1 f2 f3
  have e4 : imm % 256 + 256 * (imm / 256 % 256) = imm := by omega
  by_cases h : isS (sgn (half 16) imm) 128 = true
  · have h2 : -128 ≤ sgn 32768 imm ∧ sgn 32768 imm < 128 := of_decide_eq_true h
    have e5 : sgnR 128 (imm % 256) % 65536 = imm := by
      rw [sgnR_of (n := sgn 32768 imm) (by omega) h2 (by unfold sgn; split <;> omega)]
      unfold sgn
      split <;> omega
    have h3 : isS (sgn 32768 imm) 128 = true := h
    simp [f1, f2, e5, h3]
  · have h3 : isS (sgn 32768 imm) 128 = false := (Bool.not_eq_true _).mp h
    simp [f1, f2, e4, h3]
theorem can_14_32 (rest : List Int) (d imm : Int) (hd : 0 ≤ d ∧ d < 8) (himm : 0 ≤ imm ∧ imm < 4294967296) : canF (encF ⟨14, d, 0, 32, imm⟩ ++ rest) = ⟨14, d, 0, 32, imm⟩ := by
  obtain ⟨e1, e2, e3, -⟩ := reg_both (r := 0) (m := d) (by omega) (by omega)
  have f1 := e1
  have f2 := e2
  have f3 := e3
  simp at f1 f2 f3
  have e4 : imm % 256 + 256 * (imm / 256 % 256) + 65536 * (imm / 65536 % 256) + 16777216 * (imm / 16777216 % 256) = imm := by omega
  by_cases h : isS (sgn (half 32) imm) 128 = true
  · have h2 : -128 ≤ sgn 2147483648 imm ∧ sgn 2147483648 imm < 128 := of_decide_eq_true h
    have e5 : sgn 128 (imm % 256) % 4294967296 = imm := by
      rw [sgn_of (n := sgn 2147483648 imm) (by omega) h2 (by unfold sgn; split <;> omega)]
      unfold sgn
      split <;> omega
    have h3 : isS (sgn 2147483648 imm) 128 = true := h
    simp [f1, f2, f3, e5, h3]
  · have h3 : isS (sgn 2147483648 imm) 128 = false := (Bool.not_eq_true _).mp h
    simp [f1, f2, f3, e4, h3]
theorem gue_14_32 (rest : List Int) (d imm : Int) (hd : 0 ≤ d ∧ d < 8) (himm : 0 ≤ imm ∧ imm < 4294967296) : gueT (encF ⟨14, d, 0, 32, imm⟩ ++ rest) = ⟨14, d, 0, 32, imm⟩ := by
  obtain ⟨e1, e2, e3, -⟩ := reg_both (r := 0) (m := d) (by omega) (by omega)
  have f1 := e1
  have f2 := e2
  have f3 := e3
  simp at f1 f2 f3
  have e4 : imm % 256 + 256 * (imm / 256 % 256) + 65536 * (imm / 65536 % 256) + 16777216 * (imm / 16777216 % 256) = imm := by omega
  by_cases h : isS (sgn (half 32) imm) 128 = true
  · have h2 : -128 ≤ sgn 2147483648 imm ∧ sgn 2147483648 imm < 128 := of_decide_eq_true h
    have e5 : sgnR 128 (imm % 256) % 4294967296 = imm := by
      rw [sgnR_of (n := sgn 2147483648 imm) (by omega) h2 (by unfold sgn; split <;> omega)]
      unfold sgn
      split <;> omega
    have h3 : isS (sgn 2147483648 imm) 128 = true := h
    simp [f1, f2, e5, h3]
  · have h3 : isS (sgn 2147483648 imm) 128 = false := (Bool.not_eq_true _).mp h
    simp [f1, f2, e4, h3]
theorem can_15_16 (rest : List Int) (d imm : Int) (hd : 0 ≤ d ∧ d < 8) (himm : 0 ≤ imm ∧ imm < 65536) : canF (encF ⟨15, d, 0, 16, imm⟩ ++ rest) = ⟨15, d, 0, 16, imm⟩ := by
  obtain ⟨e1, e2, e3, -⟩ := reg_both (r := 1) (m := d) (by omega) (by omega)
  have f1 := e1
  have f2 := e2
  have f3 := e3
  simp at f1 f2 f3
  have e4 : imm % 256 + 256 * (imm / 256 % 256) = imm := by omega
  by_cases h : isS (sgn (half 16) imm) 128 = true
  · have h2 : -128 ≤ sgn 32768 imm ∧ sgn 32768 imm < 128 := of_decide_eq_true h
    have e5 : sgn 128 (imm % 256) % 65536 = imm := by
      rw [sgn_of (n := sgn 32768 imm) (by omega) h2 (by unfold sgn; split <;> omega)]
      unfold sgn
      split <;> omega
    have h3 : isS (sgn 32768 imm) 128 = true := h
    simp [f1, f2, f3, e5, h3]
  · have h3 : isS (sgn 32768 imm) 128 = false := (Bool.not_eq_true _).mp h
    simp [f1, f2, f3, e4, h3]
theorem gue_15_16 (rest : List Int) (d imm : Int) (hd : 0 ≤ d ∧ d < 8) (himm : 0 ≤ imm ∧ imm < 65536) : gueT (encF ⟨15, d, 0, 16, imm⟩ ++ rest) = ⟨15, d, 0, 16, imm⟩ := by
  obtain ⟨e1, e2, e3, -⟩ := reg_both (r := 1) (m := d) (by omega) (by omega)
  have f1 := e1
  have f2 := e2
  have f3 := e3
  simp at f1 f2 f3
  have e4 : imm % 256 + 256 * (imm / 256 % 256) = imm := by omega
  by_cases h : isS (sgn (half 16) imm) 128 = true
  · have h2 : -128 ≤ sgn 32768 imm ∧ sgn 32768 imm < 128 := of_decide_eq_true h
    have e5 : sgnR 128 (imm % 256) % 65536 = imm := by
      rw [sgnR_of (n := sgn 32768 imm) (by omega) h2 (by unfold sgn; split <;> omega)]
      unfold sgn
      split <;> omega
    have h3 : isS (sgn 32768 imm) 128 = true := h
    simp [f1, f2, e5, h3]
  · have h3 : isS (sgn 32768 imm) 128 = false := (Bool.not_eq_true _).mp h
    simp [f1, f2, e4, h3]
theorem can_15_32 (rest : List Int) (d imm : Int) (hd : 0 ≤ d ∧ d < 8) (himm : 0 ≤ imm ∧ imm < 4294967296) : canF (encF ⟨15, d, 0, 32, imm⟩ ++ rest) = ⟨15, d, 0, 32, imm⟩ := by
  obtain ⟨e1, e2, e3, -⟩ := reg_both (r := 1) (m := d) (by omega) (by omega)
  have f1 := e1
  have f2 := e2
  have f3 := e3
  simp at f1 f2 f3
  have e4 : imm % 256 + 256 * (imm / 256 % 256) + 65536 * (imm / 65536 % 256) + 16777216 * (imm / 16777216 % 256) = imm := by omega
  by_cases h : isS (sgn (half 32) imm) 128 = true
  · have h2 : -128 ≤ sgn 2147483648 imm ∧ sgn 2147483648 imm < 128 := of_decide_eq_true h
    have e5 : sgn 128 (imm % 256) % 4294967296 = imm := by
      rw [sgn_of (n := sgn 2147483648 imm) (by omega) h2 (by unfold sgn; split <;> omega)]
      unfold sgn
      split <;> omega
    have h3 : isS (sgn 2147483648 imm) 128 = true := h
    simp [f1, f2, f3, e5, h3]
  · have h3 : isS (sgn 2147483648 imm) 128 = false := (Bool.not_eq_true _).mp h
    simp [f1, f2, f3, e4, h3]
theorem gue_15_32 (rest : List Int) (d imm : Int) (hd : 0 ≤ d ∧ d < 8) (himm : 0 ≤ imm ∧ imm < 4294967296) : gueT (encF ⟨15, d, 0, 32, imm⟩ ++ rest) = ⟨15, d, 0, 32, imm⟩ := by
  obtain ⟨e1, e2, e3, -⟩ := reg_both (r := 1) (m := d) (by omega) (by omega)
  have f1 := e1
  have f2 := e2
  have f3 := e3
  simp at f1 f2 f3
  have e4 : imm % 256 + 256 * (imm / 256 % 256) + 65536 * (imm / 65536 % 256) + 16777216 * (imm / 16777216 % 256) = imm := by omega
  by_cases h : isS (sgn (half 32) imm) 128 = true
  · have h2 : -128 ≤ sgn 2147483648 imm ∧ sgn 2147483648 imm < 128 := of_decide_eq_true h
    have e5 : sgnR 128 (imm % 256) % 4294967296 = imm := by
      rw [sgnR_of (n := sgn 2147483648 imm) (by omega) h2 (by unfold sgn; split <;> omega)]
      unfold sgn
      split <;> omega
    have h3 : isS (sgn 2147483648 imm) 128 = true := h
    simp [f1, f2, e5, h3]
  · have h3 : isS (sgn 2147483648 imm) 128 = false := (Bool.not_eq_true _).mp h
    simp [f1, f2, e4, h3]
theorem can_16_16 (rest : List Int) (d imm : Int) (hd : 0 ≤ d ∧ d < 8) (himm : 0 ≤ imm ∧ imm < 65536) : canF (encF ⟨16, d, 0, 16, imm⟩ ++ rest) = ⟨16, d, 0, 16, imm⟩ := by
  obtain ⟨e1, e2, e3, -⟩ := reg_both (r := 4) (m := d) (by omega) (by omega)
  have f1 := e1
  have f2 := e2
  have f3 := e3
  simp at f1 f2 f3
  have e4 : imm % 256 + 256 * (imm / 256 % 256) = imm := by omega
  by_cases h : isS (sgn (half 16) imm) 128 = true
  · have h2 : -128 ≤ sgn 32768 imm ∧ sgn 32768 imm < 128 := of_decide_eq_true h
    have e5 : sgn 128 (imm % 256) % 65536 = imm := by
      rw [sgn_of (n := sgn 32768 imm) (by omega) h2 (by unfold sgn; split <;> omega)]
      unfold sgn
      split <;> omega
    have h3 : isS (sgn 32768 imm) 128 = true := h
    simp [f1, f2, f3, e5, h3]
  · have h3 : isS (sgn 32768 imm) 128 = false := (Bool.not_eq_true _).mp h
    simp [f1, f2, f3, e4, h3]
theorem gue_16_16 (rest : List Int) (d imm : Int) (hd : 0 ≤ d ∧ d < 8) (himm : 0 ≤ imm ∧ imm < 65536) : gueT (encF ⟨16, d, 0, 16, imm⟩ ++ rest) = ⟨16, d, 0, 16, imm⟩ := by
  obtain ⟨e1, e2, e3, -⟩ := reg_both (r := 4) (m := d) (by omega) (by omega)
  have f1 := e1
  have f2 := e2
  have f3 := e3
  simp at f1 f2 f3
  have e4 : imm % 256 + 256 * (imm / 256 % 256) = imm := by omega
  by_cases h : isS (sgn (half 16) imm) 128 = true
  · have h2 : -128 ≤ sgn 32768 imm ∧ sgn 32768 imm < 128 := of_decide_eq_true h
    have e5 : sgnR 128 (imm % 256) % 65536 = imm := by
      rw [sgnR_of (n := sgn 32768 imm) (by omega) h2 (by unfold sgn; split <;> omega)]
      unfold sgn
      split <;> omega
    have h3 : isS (sgn 32768 imm) 128 = true := h
    simp [f1, f2, e5, h3]
  · have h3 : isS (sgn 32768 imm) 128 = false := (Bool.not_eq_true _).mp h
    simp [f1, f2, e4, h3]
theorem can_16_32 (rest : List Int) (d imm : Int) (hd : 0 ≤ d ∧ d < 8) (himm : 0 ≤ imm ∧ imm < 4294967296) : canF (encF ⟨16, d, 0, 32, imm⟩ ++ rest) = ⟨16, d, 0, 32, imm⟩ := by
  obtain ⟨e1, e2, e3, -⟩ := reg_both (r := 4) (m := d) (by omega) (by omega)
  have f1 := e1
  have f2 := e2
  have f3 := e3
  simp at f1 f2 f3
  have e4 : imm % 256 + 256 * (imm / 256 % 256) + 65536 * (imm / 65536 % 256) + 16777216 * (imm / 16777216 % 256) = imm := by omega
  by_cases h : isS (sgn (half 32) imm) 128 = true
  · have h2 : -128 ≤ sgn 2147483648 imm ∧ sgn 2147483648 imm < 128 := of_decide_eq_true h
    have e5 : sgn 128 (imm % 256) % 4294967296 = imm := by
      rw [sgn_of (n := sgn 2147483648 imm) (by omega) h2 (by unfold sgn; split <;> omega)]
      unfold sgn
      split <;> omega
    have h3 : isS (sgn 2147483648 imm) 128 = true := h
    simp [f1, f2, f3, e5, h3]
  · have h3 : isS (sgn 2147483648 imm) 128 = false := (Bool.not_eq_true _).mp h
    simp [f1, f2, f3, e4, h3]
theorem gue_16_32 (rest : List Int) (d imm : Int) (hd : 0 ≤ d ∧ d < 8) (himm : 0 ≤ imm ∧ imm < 4294967296) : gueT (encF ⟨16, d, 0, 32, imm⟩ ++ rest) = ⟨16, d, 0, 32, imm⟩ := by
  obtain ⟨e1, e2, e3, -⟩ := reg_both (r := 4) (m := d) (by omega) (by omega)
  have f1 := e1
  have f2 := e2
  have f3 := e3
  simp at f1 f2 f3
  have e4 : imm % 256 + 256 * (imm / 256 % 256) + 65536 * (imm / 65536 % 256) + 16777216 * (imm / 16777216 % 256) = imm := by omega
  by_cases h : isS (sgn (half 32) imm) 128 = true
  · have h2 : -128 ≤ sgn 2147483648 imm ∧ sgn 2147483648 imm < 128 := of_decide_eq_true h
    have e5 : sgnR 128 (imm % 256) % 4294967296 = imm := by
      rw [sgnR_of (n := sgn 2147483648 imm) (by omega) h2 (by unfold sgn; split <;> omega)]
      unfold sgn
      split <;> omega
    have h3 : isS (sgn 2147483648 imm) 128 = true := h
    simp [f1, f2, e5, h3]
  · have h3 : isS (sgn 2147483648 imm) 128 = false := (Bool.not_eq_true _).mp h
    simp [f1, f2, e4, h3]
theorem can_17_16 (rest : List Int) (d imm : Int) (hd : 0 ≤ d ∧ d < 8) (himm : 0 ≤ imm ∧ imm < 65536) : canF (encF ⟨17, d, 0, 16, imm⟩ ++ rest) = ⟨17, d, 0, 16, imm⟩ := by
  obtain ⟨e1, e2, e3, -⟩ := reg_both (r := 5) (m := d) (by omega) (by omega)
  have f1 := e1
  have f2 := e2
  have f3 := e3
  simp at f1 f2 f3
  have e4 : imm % 256 + 256 * (imm / 256 % 256) = imm := by omega
  by_cases h : isS (sgn (half 16) imm) 128 = true
  · have h2 : -128 ≤ sgn 32768 imm ∧ sgn 32768 imm < 128 := of_decide_eq_true h
    have e5 : sgn 128 (imm % 256) % 65536 = imm := by
      rw [sgn_of (n := sgn 32768 imm) (by omega) h2 (by unfold sgn; split <;> omega)]
      unfold sgn
      split <;> omega
    have h3 : isS (sgn 32768 imm) 128 = true := h
    simp [f1, f2, f3, e5, h3]
  · have h3 : isS (sgn 32768 imm) 128 = false := (Bool.not_eq_true _).mp h
    simp [f1, f2, f3, e4, h3]
theorem gue_17_16 (rest : List Int) (d imm : Int) (hd : 0 ≤ d ∧ d < 8) (himm : 0 ≤ imm ∧ imm < 65536) : gueT (encF ⟨17, d, 0, 16, imm⟩ ++ rest) = ⟨17, d, 0, 16, imm⟩ := by
  obtain ⟨e1, e2, e3, -⟩ := reg_both (r := 5) (m := d) (by omega) (by omega)
  have f1 := e1
  have f2 := e2
  have f3 := e3
  simp at f1 f2 f3
  have e4 : imm % 256 + 256 * (imm / 256 % 256) = imm := by omega
  by_cases h : isS (sgn (half 16) imm) 128 = true
  · have h2 : -128 ≤ sgn 32768 imm ∧ sgn 32768 imm < 128 := of_decide_eq_true h
    have e5 : sgnR 128 (imm % 256) % 65536 = imm := by
      rw [sgnR_of (n := sgn 32768 imm) (by omega) h2 (by unfold sgn; split <;> omega)]
      unfold sgn
      split <;> omega
    have h3 : isS (sgn 32768 imm) 128 = true := h
    simp [f1, f2, e5, h3]
  · have h3 : isS (sgn 32768 imm) 128 = false := (Bool.not_eq_true _).mp h
    simp [f1, f2, e4, h3]
theorem can_17_32 (rest : List Int) (d imm : Int) (hd : 0 ≤ d ∧ d < 8) (himm : 0 ≤ imm ∧ imm < 4294967296) : canF (encF ⟨17, d, 0, 32, imm⟩ ++ rest) = ⟨17, d, 0, 32, imm⟩ := by
  obtain ⟨e1, e2, e3, -⟩ := reg_both (r := 5) (m := d) (by omega) (by omega)
  have f1 := e1
  have f2 := e2
  have f3 := e3
  simp at f1 f2 f3
  have e4 : imm % 256 + 256 * (imm / 256 % 256) + 65536 * (imm / 65536 % 256) + 16777216 * (imm / 16777216 % 256) = imm := by omega
  by_cases h : isS (sgn (half 32) imm) 128 = true
  · have h2 : -128 ≤ sgn 2147483648 imm ∧ sgn 2147483648 imm < 128 := of_decide_eq_true h
    have e5 : sgn 128 (imm % 256) % 4294967296 = imm := by
      rw [sgn_of (n := sgn 2147483648 imm) (by omega) h2 (by unfold sgn; split <;> omega)]
      unfold sgn
      split <;> omega
    have h3 : isS (sgn 2147483648 imm) 128 = true := h
    simp [f1, f2, f3, e5, h3]
  · have h3 : isS (sgn 2147483648 imm) 128 = false := (Bool.not_eq_true _).mp h
    simp [f1, f2, f3, e4, h3]
theorem gue_17_32 (rest : List Int) (d imm : Int) (hd : 0 ≤ d ∧ d < 8) (himm : 0 ≤ imm ∧ imm < 4294967296) : gueT (encF ⟨17, d, 0, 32, imm⟩ ++ rest) = ⟨17, d, 0, 32, imm⟩ := by
  obtain ⟨e1, e2, e3, -⟩ := reg_both (r := 5) (m := d) (by omega) (by omega)
  have f1 := e1
  have f2 := e2
  have f3 := e3
  simp at f1 f2 f3
  have e4 : imm % 256 + 256 * (imm / 256 % 256) + 65536 * (imm / 65536 % 256) + 16777216 * (imm / 16777216 % 256) = imm := by omega
  by_cases h : isS (sgn (half 32) imm) 128 = true
  · have h2 : -128 ≤ sgn 2147483648 imm ∧ sgn 2147483648 imm < 128 := of_decide_eq_true h
    have e5 : sgnR 128 (imm % 256) % 4294967296 = imm := by
      rw [sgnR_of (n := sgn 2147483648 imm) (by omega) h2 (by unfold sgn; split <;> omega)]
      unfold sgn
      split <;> omega
    have h3 : isS (sgn 2147483648 imm) 128 = true := h
    simp [f1, f2, e5, h3]
  · have h3 : isS (sgn 2147483648 imm) 128 = false := (Bool.not_eq_true _).mp h
    simp [f1, f2, e4, h3]
theorem can_18_16 (rest : List Int) (d imm : Int) (hd : 0 ≤ d ∧ d < 8) (himm : 0 ≤ imm ∧ imm < 65536) : canF (encF ⟨18, d, 0, 16, imm⟩ ++ rest) = ⟨18, d, 0, 16, imm⟩ := by
  obtain ⟨e1, e2, e3, -⟩ := reg_both (r := 6) (m := d) (by omega) (by omega)
  have f1 := e1
  have f2 := e2
  have f3 := e3
  simp at f1 f2 f3
  have e4 : imm % 256 + 256 * (imm / 256 % 256) = imm := by omega
  by_cases h : isS (sgn (half 16) imm) 128 = true
  · have h2 : -128 ≤ sgn 32768 imm ∧ sgn 32768 imm < 128 := of_decide_eq_true h
    have e5 : sgn 128 (imm % 256) % 65536 = imm := by
      rw [sgn_of (n := sgn 32768 imm) (by omega) h2 (by unfold sgn; split <;> omega)]
      unfold sgn
      split <;> omega
    have h3 : isS (sgn 32768 imm) 128 = true := h
    simp [f1, f2, f3, e5, h3]
  · have h3 : isS (sgn 32768 imm) 128 = false := (Bool.not_eq_true _).mp h
    simp [f1, f2, f3, e4, h3]
theorem gue_18_16 (rest : List Int) (d imm : Int) (hd : 0 ≤ d ∧ d < 8) (himm : 0 ≤ imm ∧ imm < 65536) : gueT (encF ⟨18, d, 0, 16, imm⟩ ++ rest) = ⟨18, d, 0, 16, imm⟩ := by
  obtain ⟨e1, e2, e3, -⟩ := reg_both (r := 6) (m := d) (by omega) (by omega)
  have f1 := e1
  have f2 := e2
  have f3 := e3
  simp at f1 f2 f3
  have e4 : imm % 256 + 256 * (imm / 256 % 256) = imm := by omega
  by_cases h : isS (sgn (half 16) imm) 128 = true
  · have h2 : -128 ≤ sgn 32768 imm ∧ sgn 32768 imm < 128 := of_decide_eq_true h
    have e5 : sgnR 128 (imm % 256) % 65536 = imm := by
      rw [sgnR_of (n := sgn 32768 imm) (by omega) h2 (by unfold sgn; split <;> omega)]
      unfold sgn
      split <;> omega
    have h3 : isS (sgn 32768 imm) 128 = true := h
    simp [f1, f2, e5, h3]
  · have h3 : isS (sgn 32768 imm) 128 = false := (Bool.not_eq_true _).mp h
    simp [f1, f2, e4, h3]
theorem can_18_32 (rest : List Int) (d imm : Int) (hd : 0 ≤ d ∧ d < 8) (himm : 0 ≤ imm ∧ imm < 4294967296) : canF (encF ⟨18, d, 0, 32, imm⟩ ++ rest) = ⟨18, d, 0, 32, imm⟩ := by
  obtain ⟨e1, e2, e3, -⟩ := reg_both (r := 6) (m := d) (by omega) (by omega)
  have f1 := e1
  have f2 := e2
  have f3 := e3
  simp at f1 f2 f3
  have e4 : imm % 256 + 256 * (imm / 256 % 256) + 65536 * (imm / 65536 % 256) + 16777216 * (imm / 16777216 % 256) = imm := by omega
  by_cases h : isS (sgn (half 32) imm) 128 = true
  · have h2 : -128 ≤ sgn 2147483648 imm ∧ sgn 2147483648 imm < 128 := of_decide_eq_true h
    have e5 : sgn 128 (imm % 256) % 4294967296 = imm := by
      rw [sgn_of (n := sgn 2147483648 imm) (by omega) h2 (by unfold sgn; split <;> omega)]
      unfold sgn
      split <;> omega
    have h3 : isS (sgn 2147483648 imm) 128 = true := h
    simp [f1, f2, f3, e5, h3]
  · have h3 : isS (sgn 2147483648 imm) 128 = false := (Bool.not_eq_true _).mp h
    simp [f1, f2, f3, e4, h3]
theorem gue_18_32 (rest : List Int) (d imm : Int) (hd : 0 ≤ d ∧ d < 8) (himm : 0 ≤ imm ∧ imm < 4294967296) : gueT (encF ⟨18, d, 0, 32, imm⟩ ++ rest) = ⟨18, d, 0, 32, imm⟩ := by
  obtain ⟨e1, e2, e3, -⟩ := reg_both (r := 6) (m := d) (by omega) (by omega)
  have f1 := e1
  have f2 := e2
  have f3 := e3
  simp at f1 f2 f3
  have e4 : imm % 256 + 256 * (imm / 256 % 256) + 65536 * (imm / 65536 % 256) + 16777216 * (imm / 16777216 % 256) = imm := by omega
  by_cases h : isS (sgn (half 32) imm) 128 = true
  · have h2 : -128 ≤ sgn 2147483648 imm ∧ sgn 2147483648 imm < 128 := of_decide_eq_true h
    have e5 : sgnR 128 (imm % 256) % 4294967296 = imm := by
      rw [sgnR_of (n := sgn 2147483648 imm) (by omega) h2 (by unfold sgn; split <;> omega)]
      unfold sgn
      split <;> omega
    have h3 : isS (sgn 2147483648 imm) 128 = true := h
    simp [f1, f2, e5, h3]
  · have h3 : isS (sgn 2147483648 imm) 128 = false := (Bool.not_eq_true _).mp h
    simp [f1, f2, e4, h3]
theorem can_19_16 (rest : List Int) (d imm : Int) (hd : 0 ≤ d ∧ d < 8) (himm : 0 ≤ imm ∧ imm < 65536) : canF (encF ⟨19, d, 0, 16, imm⟩ ++ rest) = ⟨19, d, 0, 16, imm⟩ := by
  obtain ⟨e1, e2, e3, -⟩ := reg_both (r := 7) (m := d) (by omega) (by omega)
  have f1 := e1
  have f2 := e2
  have f3 := e3
  simp at f1 f2 f3
  have e4 : imm % 256 + 256 * (imm / 256 % 256) = imm := by omega
  by_cases h : isS (sgn (half 16) imm) 128 = true
  · have h2 : -128 ≤ sgn 32768 imm ∧ sgn 32768 imm < 128 := of_decide_eq_true h
    have e5 : sgn 128 (imm % 256) % 65536 = imm := by
      rw [sgn_of (n := sgn 32768 imm) (by omega) h2 (by unfold sgn; split <;> omega)]
      unfold sgn
      split <;> omega
    have h3 : isS (sgn 32768 imm) 128 = true := h
    simp [f1, f2, f3, e5, h3]
  · have h3 : isS (sgn 32768 imm) 128 = false := (Bool.not_eq_true _).mp h
    simp [f1, f2, f3, e4, h3]
theorem gue_19_16 (rest : List Int) (d imm : Int) (hd : 0 ≤ d ∧ d < 8) (himm : 0 ≤ imm ∧ imm < 65536) : gueT (encF ⟨19, d, 0, 16, imm⟩ ++ rest) = ⟨19, d, 0, 16, imm⟩ := by
  obtain ⟨e1, e2, e3, -⟩ := reg_both (r := 7) (m := d) (by omega) (by omega)
  have f1 := e1
  have f2 := e2
  have f3 := e3
  simp at f1 f2 f3
  have e4 : imm % 256 + 256 * (imm / 256 % 256) = imm := by omega
  by_cases h : isS (sgn (half 16) imm) 128 = true
  · have h2 : -128 ≤ sgn 32768 imm ∧ sgn 32768 imm < 128 := of_decide_eq_true h
    have e5 : sgnR 128 (imm % 256) % 65536 = imm := by
      rw [sgnR_of (n := sgn 32768 imm) (by omega) h2 (by unfold sgn; split <;> omega)]
      unfold sgn
      split <;> omega
    have h3 : isS (sgn 32768 imm) 128 = true := h
    simp [f1, f2, e5, h3]
  · have h3 : isS (sgn 32768 imm) 128 = false := (Bool.not_eq_true _).mp h
    simp [f1, f2, e4, h3]
theorem can_19_32 (rest : List Int) (d imm : Int) (hd : 0 ≤ d ∧ d < 8) (himm : 0 ≤ imm ∧ imm < 4294967296) : canF (encF ⟨19, d, 0, 32, imm⟩ ++ rest) = ⟨19, d, 0, 32, imm⟩ := by
  obtain ⟨e1, e2, e3, -⟩ := reg_both (r := 7) (m := d) (by omega) (by omega)
  have f1 := e1
  have f2 := e2
  have f3 := e3
  simp at f1 f2 f3
  have e4 : imm % 256 + 256 * (imm / 256 % 256) + 65536 * (imm / 65536 % 256) + 16777216 * (imm / 16777216 % 256) = imm := by omega
  by_cases h : isS (sgn (half 32) imm) 128 = true
  · have h2 : -128 ≤ sgn 2147483648 imm ∧ sgn 2147483648 imm < 128 := of_decide_eq_true h
    have e5 : sgn 128 (imm % 256) % 4294967296 = imm := by
      rw [sgn_of (n := sgn 2147483648 imm) (by omega) h2 (by unfold sgn; split <;> omega)]
      unfold sgn
      split <;> omega
    have h3 : isS (sgn 2147483648 imm) 128 = true := h
    simp [f1, f2, f3, e5, h3]
  · have h3 : isS (sgn 2147483648 imm) 128 = false := (Bool.not_eq_true _).mp h
    simp [f1, f2, f3, e4, h3]
theorem gue_19_32 (rest : List Int) (d imm : Int) (hd : 0 ≤ d ∧ d < 8) (himm : 0 ≤ imm ∧ imm < 4294967296) : gueT (encF ⟨19, d, 0, 32, imm⟩ ++ rest) = ⟨19, d, 0, 32, imm⟩ := by
  obtain ⟨e1, e2, e3, -⟩ := reg_both (r := 7) (m := d) (by omega) (by omega)
  have f1 := e1
  have f2 := e2
  have f3 := e3
  simp at f1 f2 f3
  have e4 : imm % 256 + 256 * (imm / 256 % 256) + 65536 * (imm / 65536 % 256) + 16777216 * (imm / 16777216 % 256) = imm := by omega
  by_cases h : isS (sgn (half 32) imm) 128 = true
  · have h2 : -128 ≤ sgn 2147483648 imm ∧ sgn 2147483648 imm < 128 := of_decide_eq_true h
    have e5 : sgnR 128 (imm % 256) % 4294967296 = imm := by
      rw [sgnR_of (n := sgn 2147483648 imm) (by omega) h2 (by unfold sgn; split <;> omega)]
      unfold sgn
      split <;> omega
    have h3 : isS (sgn 2147483648 imm) 128 = true := h
    simp [f1, f2, e5, h3]
  · have h3 : isS (sgn 2147483648 imm) 128 = false := (Bool.not_eq_true _).mp h
    simp [f1, f2, e4, h3]
theorem can_20_32 (rest : List Int) (d s : Int) (hd : 0 ≤ d ∧ d < 8) (hs : 0 ≤ s ∧ s < 8) : canF (encF ⟨20, d, s, 32, 0⟩ ++ rest) = ⟨20, d, s, 32, 0⟩ := by
  obtain ⟨e1, e2, e3, -⟩ := reg_both (r := d) (m := s) (by omega) (by omega)
  obtain ⟨q1, q2, -⟩ := reg_mem (r := d) (m := s) (by omega) (by omega)
  simp [e1, e2, e3]
theorem gue_20_32 (rest : List Int) (d s : Int) (hd : 0 ≤ d ∧ d < 8) (hs : 0 ≤ s ∧ s < 8) : gueT (encF ⟨20, d, s, 32, 0⟩ ++ rest) = ⟨20, d, s, 32, 0⟩ := by
  obtain ⟨e1, e2, e3, -⟩ := reg_both (r := d) (m := s) (by omega) (by omega)
  obtain ⟨q1, q2, -⟩ := reg_mem (r := d) (m := s) (by omega) (by omega)
  simp [e1, e2]
theorem can_21_16 (rest : List Int) (d : Int) (hd : 0 ≤ d ∧ d < 8) : canF (encF ⟨21, d, 0, 16, 0⟩ ++ rest) = ⟨21, d, 0, 16, 0⟩ := by
  obtain ⟨e1, e2, e3, -⟩ := reg_both (r := 4) (m := d) (by omega) (by omega)
  have f1 := e1
  have f2 := e2
  have f3 := e3
  simp at f1 f2 f3
  simp [f1, f2, f3]
theorem gue_21_16 (rest : List Int) (d : Int) (hd : 0 ≤ d ∧ d < 8) : gueT (encF ⟨21, d, 0, 16, 0⟩ ++ rest) = ⟨21, d, 0, 16, 0⟩ := by
  obtain ⟨e1, e2, e3, -⟩ := reg_both (r := 4) (m := d) (by omega) (by omega)
  have f1 := e1
  have f2 := e2
  have f3 := e3
  simp at f1 f2 f3
  simp [f1, f2]
theorem can_21_32 (rest : List Int) (d : Int) (hd : 0 ≤ d ∧ d < 8) : canF (encF ⟨21, d, 0, 32, 0⟩ ++ rest) = ⟨21, d, 0, 32, 0⟩ := by
  obtain ⟨e1, e2, e3, -⟩ := reg_both (r := 4) (m := d) (by omega) (by omega)
  have f1 := e1
  have f2 := e2
  have f3 := e3
  simp at f1 f2 f3
  simp [f1, f2, f3]
theorem gue_21_32 (rest : List Int) (d : Int) (hd : 0 ≤ d ∧ d < 8) : gueT (encF ⟨21, d, 0, 32, 0⟩ ++ rest) = ⟨21, d, 0, 32, 0⟩ := by
  obtain ⟨e1, e2, e3, -⟩ := reg_both (r := 4) (m := d) (by omega) (by omega)
  have f1 := e1
  have f2 := e2
  have f3 := e3
  simp at f1 f2 f3
  simp [f1, f2]
theorem can_22_16 (rest : List Int) (d : Int) (hd : 0 ≤ d ∧ d < 8) : canF (encF ⟨22, d, 0, 16, 0⟩ ++ rest) = ⟨22, d, 0, 16, 0⟩ := by
  obtain ⟨e1, e2, e3, -⟩ := reg_both (r := 5) (m := d) (by omega) (by omega)
  have f1 := e1
  have f2 := e2
  have f3 := e3
  simp at f1 f2 f3
  simp [f1, f2, f3]
theorem gue_22_16 (rest : List Int) (d : Int) (hd : 0 ≤ d ∧ d < 8) : gueT (encF ⟨22, d, 0, 16, 0⟩ ++ rest) = ⟨22, d, 0, 16, 0⟩ := by
  obtain ⟨e1, e2, e3, -⟩ := reg_both (r := 5) (m := d) (by omega) (by omega)
  have f1 := e1
  have f2 := e2
  have f3 := e3
  simp at f1 f2 f3
  simp [f1, f2]
theorem can_22_32 (rest : List Int) (d : Int) (hd : 0 ≤ d ∧ d < 8) : canF (encF ⟨22, d, 0, 32, 0⟩ ++ rest) = ⟨22, d, 0, 32, 0⟩ := by
  obtain ⟨e1, e2, e3, -⟩ := reg_both (r := 5) (m := d) (by omega) (by omega)
  have f1 := e1
  have f2 := e2
  have f3 := e3
  simp at f1 f2 f3
  simp [f1, f2, f3]
theorem gue_22_32 (rest : List Int) (d : Int) (hd : 0 ≤ d ∧ d < 8) : gueT (encF ⟨22, d, 0, 32, 0⟩ ++ rest) = ⟨22, d, 0, 32, 0⟩ := by
  obtain ⟨e1, e2, e3, -⟩ := reg_both (r := 5) (m := d) (by omega) (by omega)
  have f1 := e1
  have f2 := e2
  have f3 := e3
  simp at f1 f2 f3
  simp [f1, f2]
theorem can_23_16 (rest : List Int) (d : Int) (hd : 0 ≤ d ∧ d < 8) : canF (encF ⟨23, d, 0, 16, 0⟩ ++ rest) = ⟨23, d, 0, 16, 0⟩ := by
  obtain ⟨e1, e2, e3, -⟩ := reg_both (r := 7) (m := d) (by omega) (by omega)
  have f1 := e1
  have f2 := e2
  have f3 := e3
  simp at f1 f2 f3
  simp [f1, f2, f3]
theorem gue_23_16 (rest : List Int) (d : Int) (hd : 0 ≤ d ∧ d < 8) : gueT (encF ⟨23, d, 0, 16, 0⟩ ++ rest) = ⟨23, d, 0, 16, 0⟩ := by
  obtain ⟨e1, e2, e3, -⟩ := reg_both (r := 7) (m := d) (by omega) (by omega)
  have f1 := e1
  have f2 := e2
  have f3 := e3
  simp at f1 f2 f3
  simp [f1, f2]
theorem can_23_32 (rest : List Int) (d : Int) (hd : 0 ≤ d ∧ d < 8) : canF (encF ⟨23, d, 0, 32, 0⟩ ++ rest) = ⟨23, d, 0, 32, 0⟩ := by
  obtain ⟨e1, e2, e3, -⟩ := reg_both (r := 7) (m := d) (by omega) (by omega)
  have f1 := e1
  have f2 := e2
  have f3 := e3
  simp at f1 f2 f3
  simp [f1, f2, f3]
theorem gue_23_32 (rest : List Int) (d : Int) (hd : 0 ≤ d ∧ d < 8) : gueT (encF ⟨23, d, 0, 32, 0⟩ ++ rest) = ⟨23, d, 0, 32, 0⟩ := by
  obtain ⟨e1, e2, e3, -⟩ := reg_both (r := 7) (m := d) (by omega) (by omega)
  have f1 := e1
  have f2 := e2
  have f3 := e3
  simp at f1 f2 f3
  simp [f1, f2]
theorem can_24_16 (rest : List Int) (d : Int) (hd : 0 ≤ d ∧ d < 8) : canF (encF ⟨24, d, 0, 16, 0⟩ ++ rest) = ⟨24, d, 0, 16, 0⟩ := by
  obtain ⟨e1, e2, e3, -⟩ := reg_both (r := 2) (m := d) (by omega) (by omega)
  have f1 := e1
  have f2 := e2
  have f3 := e3
  simp at f1 f2 f3
  simp [f1, f2, f3]
theorem gue_24_16 (rest : List Int) (d : Int) (hd : 0 ≤ d ∧ d < 8) : gueT (encF ⟨24, d, 0, 16, 0⟩ ++ rest) = ⟨24, d, 0, 16, 0⟩ := by
  obtain ⟨e1, e2, e3, -⟩ := reg_both (r := 2) (m := d) (by omega) (by omega)
  have f1 := e1
  have f2 := e2
  have f3 := e3
  simp at f1 f2 f3
  simp [f1, f2]
theorem can_24_32 (rest : List Int) (d : Int) (hd : 0 ≤ d ∧ d < 8) : canF (encF ⟨24, d, 0, 32, 0⟩ ++ rest) = ⟨24, d, 0, 32, 0⟩ := by
  obtain ⟨e1, e2, e3, -⟩ := reg_both (r := 2) (m := d) (by omega) (by omega)
  have f1 := e1
  have f2 := e2
  have f3 := e3
  simp at f1 f2 f3
  simp [f1, f2, f3]
theorem gue_24_32 (rest : List Int) (d : Int) (hd : 0 ≤ d ∧ d < 8) : gueT (encF ⟨24, d, 0, 32, 0⟩ ++ rest) = ⟨24, d, 0, 32, 0⟩ := by
  obtain ⟨e1, e2, e3, -⟩ := reg_both (r := 2) (m := d) (by omega) (by omega)
  have f1 := e1
  have f2 := e2
  have f3 := e3
  simp at f1 f2 f3
  simp [f1, f2]
theorem can_25_16 (rest : List Int) (d : Int) (hd : 0 ≤ d ∧ d < 8) : canF (encF ⟨25, d, 0, 16, 0⟩ ++ rest) = ⟨25, d, 0, 16, 0⟩ := by
  obtain ⟨e1, e2, e3, -⟩ := reg_both (r := 3) (m := d) (by omega) (by omega)
  have f1 := e1
  have f2 := e2
  have f3 := e3
  simp at f1 f2 f3
  simp [f1, f2, f3]
theorem gue_25_16 (rest : List Int) (d : Int) (hd : 0 ≤ d ∧ d < 8) : gueT (encF ⟨25, d, 0, 16, 0⟩ ++ rest) = ⟨25, d, 0, 16, 0⟩ := by
  obtain ⟨e1, e2, e3, -⟩ := reg_both (r := 3) (m := d) (by omega) (by omega)
  have f1 := e1
  have f2 := e2
  have f3 := e3
  simp at f1 f2 f3
  simp [f1, f2]
theorem can_25_32 (rest : List Int) (d : Int) (hd : 0 ≤ d ∧ d < 8) : canF (encF ⟨25, d, 0, 32, 0⟩ ++ rest) = ⟨25, d, 0, 32, 0⟩ := by
  obtain ⟨e1, e2, e3, -⟩ := reg_both (r := 3) (m := d) (by omega) (by omega)
  have f1 := e1
  have f2 := e2
  have f3 := e3
  simp at f1 f2 f3
  simp [f1, f2, f3]
theorem gue_25_32 (rest : List Int) (d : Int) (hd : 0 ≤ d ∧ d < 8) : gueT (encF ⟨25, d, 0, 32, 0⟩ ++ rest) = ⟨25, d, 0, 32, 0⟩ := by
  obtain ⟨e1, e2, e3, -⟩ := reg_both (r := 3) (m := d) (by omega) (by omega)
  have f1 := e1
  have f2 := e2
  have f3 := e3
  simp at f1 f2 f3
  simp [f1, f2]
theorem can_26_32 (rest : List Int) (d : Int) (hd : 0 ≤ d ∧ d < 8) : canF (encF ⟨26, d, 0, 32, 0⟩ ++ rest) = ⟨26, d, 0, 32, 0⟩ := by
  obtain ⟨e1, e2, e3, -⟩ := reg_both (r := 6) (m := d) (by omega) (by omega)
  have f1 := e1
  have f2 := e2
  have f3 := e3
  simp at f1 f2 f3
  simp [f1, f2, f3]
theorem gue_26_32 (rest : List Int) (d : Int) (hd : 0 ≤ d ∧ d < 8) : gueT (encF ⟨26, d, 0, 32, 0⟩ ++ rest) = ⟨26, d, 0, 32, 0⟩ := by
  obtain ⟨e1, e2, e3, -⟩ := reg_both (r := 6) (m := d) (by omega) (by omega)
  have f1 := e1
  have f2 := e2
  have f3 := e3
  simp at f1 f2 f3
  simp [f1, f2]
theorem can_27_32 (rest : List Int) (d : Int) (hd : 0 ≤ d ∧ d < 8) : canF (encF ⟨27, d, 0, 32, 0⟩ ++ rest) = ⟨27, d, 0, 32, 0⟩ := by
  obtain ⟨e1, e2, e3, -⟩ := reg_both (r := 7) (m := d) (by omega) (by omega)
  have f1 := e1
  have f2 := e2
  have f3 := e3
  simp at f1 f2 f3
  simp [f1, f2, f3]
theorem gue_27_32 (rest : List Int) (d : Int) (hd : 0 ≤ d ∧ d < 8) : gueT (encF ⟨27, d, 0, 32, 0⟩ ++ rest) = ⟨27, d, 0, 32, 0⟩ := by
  obtain ⟨e1, e2, e3, -⟩ := reg_both (r := 7) (m := d) (by omega) (by omega)
  have f1 := e1
  have f2 := e2
  have f3 := e3
  simp at f1 f2 f3
  simp [f1, f2]
theorem can_28_32 (rest : List Int)  : canF (encF ⟨28, 0, 0, 32, 0⟩ ++ rest) = ⟨28, 0, 0, 32, 0⟩ := by
  simp
theorem gue_28_32 (rest : List Int)  : gueT (encF ⟨28, 0, 0, 32, 0⟩ ++ rest) = ⟨28, 0, 0, 32, 0⟩ := by
  simp
theorem can_29_32 (rest : List Int) (d s : Int) (hd : 0 ≤ d ∧ d < 4) (hs : s = 0 ∨ s = 1 ∨ s = 2 ∨ s = 3 ∨ s = 4 ∨ s = 5 ∨ s = 6 ∨ s = 7 ∨ s = 8 ∨ s = 9 ∨ s = 12 ∨ s = 13 ∨ s = 14 ∨ s = 15) : canF (encF ⟨29, d, s, 32, 0⟩ ++ rest) = ⟨29, d, s, 32, 0⟩ := by
  obtain ⟨e1, e2, e3, -⟩ := reg_both (r := 0) (m := d) (by omega) (by omega)
  have f1 := e1
  have f2 := e2
  have f3 := e3
  simp at f1 f2 f3
  rcases hs with rfl | rfl | rfl | rfl | rfl | rfl | rfl | rfl | rfl | rfl | rfl | rfl | rfl | rfl <;> simp [f2, f3]
theorem gue_29_32 (rest : List Int) (d s : Int) (hd : 0 ≤ d ∧ d < 4) (hs : s = 0 ∨ s = 1 ∨ s = 2 ∨ s = 3 ∨ s = 4 ∨ s = 5 ∨ s = 6 ∨ s = 7 ∨ s = 8 ∨ s = 9 ∨ s = 12 ∨ s = 13 ∨ s = 14 ∨ s = 15) : gueT (encF ⟨29, d, s, 32, 0⟩ ++ rest) = ⟨29, d, s, 32, 0⟩ := by
  obtain ⟨e1, e2, e3, -⟩ := reg_both (r := 0) (m := d) (by omega) (by omega)
  have f1 := e1
  have f2 := e2
  have f3 := e3
  simp at f1 f2 f3
  rcases hs with rfl | rfl | rfl | rfl | rfl | rfl | rfl | rfl | rfl | rfl | rfl | rfl | rfl | rfl <;> simp [f2]
theorem can_30_32 (rest : List Int) (d s : Int) (hd : 0 ≤ d ∧ d < 8) (hs : 0 ≤ s ∧ s < 4) : canF (encF ⟨30, d, s, 32, 0⟩ ++ rest) = ⟨30, d, s, 32, 0⟩ := by
  obtain ⟨e1, e2, e3, -⟩ := reg_both (r := d) (m := s) (by omega) (by omega)
  obtain ⟨q1, q2, -⟩ := reg_mem (r := d) (m := s) (by omega) (by omega)
  simp [e1, e2, e3]
theorem gue_30_32 (rest : List Int) (d s : Int) (hd : 0 ≤ d ∧ d < 8) (hs : 0 ≤ s ∧ s < 4) : gueT (encF ⟨30, d, s, 32, 0⟩ ++ rest) = ⟨30, d, s, 32, 0⟩ := by
  obtain ⟨e1, e2, e3, -⟩ := reg_both (r := d) (m := s) (by omega) (by omega)
  obtain ⟨q1, q2, -⟩ := reg_mem (r := d) (m := s) (by omega) (by omega)
  simp [e1, e2, q1]
theorem can_31_32 (rest : List Int) (d s imm : Int) (hd : 0 ≤ d ∧ d < 8) (hs : 0 ≤ s ∧ s < 8) (himm : imm = 0 ∨ imm = 1 ∨ imm = 2 ∨ imm = 3 ∨ imm = 4 ∨ imm = 5 ∨ imm = 6 ∨ imm = 7 ∨ imm = 8 ∨ imm = 9 ∨ imm = 12 ∨ imm = 13 ∨ imm = 14 ∨ imm = 15) : canF (encF ⟨31, d, s, 32, imm⟩ ++ rest) = ⟨31, d, s, 32, imm⟩ := by
  obtain ⟨e1, e2, e3, -⟩ := reg_both (r := d) (m := s) (by omega) (by omega)
  obtain ⟨q1, q2, -⟩ := reg_mem (r := d) (m := s) (by omega) (by omega)
  rcases himm with rfl | rfl | rfl | rfl | rfl | rfl | rfl | rfl | rfl | rfl | rfl | rfl | rfl | rfl <;> simp [e1, e2]
theorem gue_31_32 (rest : List Int) (d s imm : Int) (hd : 0 ≤ d ∧ d < 8) (hs : 0 ≤ s ∧ s < 8) (himm : imm = 0 ∨ imm = 1 ∨ imm = 2 ∨ imm = 3 ∨ imm = 4 ∨ imm = 5 ∨ imm = 6 ∨ imm = 7 ∨ imm = 8 ∨ imm = 9 ∨ imm = 12 ∨ imm = 13 ∨ imm = 14 ∨ imm = 15) : gueT (encF ⟨31, d, s, 32, imm⟩ ++ rest) = ⟨31, d, s, 32, imm⟩ := by
  obtain ⟨e1, e2, e3, -⟩ := reg_both (r := d) (m := s) (by omega) (by omega)
  obtain ⟨q1, q2, -⟩ := reg_mem (r := d) (m := s) (by omega) (by omega)
  rcases himm with rfl | rfl | rfl | rfl | rfl | rfl | rfl | rfl | rfl | rfl | rfl | rfl | rfl | rfl <;> simp [e1, e2, q1]
theorem can_32_8 (rest : List Int) (s imm : Int) (hs : s = 0 ∨ s = 1 ∨ s = 2 ∨ s = 3 ∨ s = 4 ∨ s = 5 ∨ s = 6 ∨ s = 7 ∨ s = 8 ∨ s = 9 ∨ s = 12 ∨ s = 13 ∨ s = 14 ∨ s = 15) (himm : -128 ≤ imm ∧ imm < 128) : canF (encF ⟨32, 0, s, 8, imm⟩ ++ rest) = ⟨32, 0, s, 8, imm⟩ := by
  have e4 : sgn 128 (imm % 256) = imm := sgn_of (by omega) himm (by omega)
  rcases hs with rfl | rfl | rfl | rfl | rfl | rfl | rfl | rfl | rfl | rfl | rfl | rfl | rfl | rfl <;> simp [e4]
theorem gue_32_8 (rest : List Int) (s imm : Int) (hs : s = 0 ∨ s = 1 ∨ s = 2 ∨ s = 3 ∨ s = 4 ∨ s = 5 ∨ s = 6 ∨ s = 7 ∨ s = 8 ∨ s = 9 ∨ s = 12 ∨ s = 13 ∨ s = 14 ∨ s = 15) (himm : -128 ≤ imm ∧ imm < 128) : gueT (encF ⟨32, 0, s, 8, imm⟩ ++ rest) = ⟨32, 0, s, 8, imm⟩ := by
  have e4 : sgnR 128 (imm % 256) = imm := sgnR_of (by omega) himm (by omega)
  rcases hs with rfl | rfl | rfl | rfl | rfl | rfl | rfl | rfl | rfl | rfl | rfl | rfl | rfl | rfl <;> simp [e4]
theorem can_32_32 (rest : List Int) (s imm : Int) (hs : s = 0 ∨ s = 1 ∨ s = 2 ∨ s = 3 ∨ s = 4 ∨ s = 5 ∨ s = 6 ∨ s = 7 ∨ s = 8 ∨ s = 9 ∨ s = 12 ∨ s = 13 ∨ s = 14 ∨ s = 15) (himm : -2147483648 ≤ imm ∧ imm < 2147483648) : canF (encF ⟨32, 0, s, 32, imm⟩ ++ rest) = ⟨32, 0, s, 32, imm⟩ := by
  have e4 : sgn 2147483648 (imm % 256 + 256 * (imm / 256 % 256) + 65536 * (imm / 65536 % 256) + 16777216 * (imm / 16777216 % 256)) = imm := sgn_of (by omega) himm (by omega)
  rcases hs with rfl | rfl | rfl | rfl | rfl | rfl | rfl | rfl | rfl | rfl | rfl | rfl | rfl | rfl <;> simp [e4]
theorem gue_32_32 (rest : List Int) (s imm : Int) (hs : s = 0 ∨ s = 1 ∨ s = 2 ∨ s = 3 ∨ s = 4 ∨ s = 5 ∨ s = 6 ∨ s = 7 ∨ s = 8 ∨ s = 9 ∨ s = 12 ∨ s = 13 ∨ s = 14 ∨ s = 15) (himm : -2147483648 ≤ imm ∧ imm < 2147483648) : gueT (encF ⟨32, 0, s, 32, imm⟩ ++ rest) = ⟨32, 0, s, 32, imm⟩ := by
  have e4 : sgnR 2147483648 (imm % 256 + 256 * (imm / 256 % 256) + 65536 * (imm / 65536 % 256) + 16777216 * (imm / 16777216 % 256)) = imm := sgnR_of (by omega) himm (by omega)
  rcases hs with rfl | rfl | rfl | rfl | rfl | rfl | rfl | rfl | rfl | rfl | rfl | rfl | rfl | rfl <;> simp [e4]
theorem can_33_8 (rest : List Int) (imm : Int) (himm : -128 ≤ imm ∧ imm < 128) : canF (encF ⟨33, 0, 0, 8, imm⟩ ++ rest) = ⟨33, 0, 0, 8, imm⟩ := by
  have e4 : sgn 128 (imm % 256) = imm := sgn_of (by omega) himm (by omega)
  simp [e4]
theorem gue_33_8 (rest : List Int) (imm : Int) (himm : -128 ≤ imm ∧ imm < 128) : gueT (encF ⟨33, 0, 0, 8, imm⟩ ++ rest) = ⟨33, 0, 0, 8, imm⟩ := by
  have e4 : sgnR 128 (imm % 256) = imm := sgnR_of (by omega) himm (by omega)
  simp [e4]
theorem can_33_32 (rest : List Int) (imm : Int) (himm : -2147483648 ≤ imm ∧ imm < 2147483648) : canF (encF ⟨33, 0, 0, 32, imm⟩ ++ rest) = ⟨33, 0, 0, 32, imm⟩ := by
  have e4 : sgn 2147483648 (imm % 256 + 256 * (imm / 256 % 256) + 65536 * (imm / 65536 % 256) + 16777216 * (imm / 16777216 % 256)) = imm := sgn_of (by omega) himm (by omega)
  simp [e4]
theorem gue_33_32 (rest : List Int) (imm : Int) (himm : -2147483648 ≤ imm ∧ imm < 2147483648) : gueT (encF ⟨33, 0, 0, 32, imm⟩ ++ rest) = ⟨33, 0, 0, 32, imm⟩ := by
  have e4 : sgnR 2147483648 (imm % 256 + 256 * (imm / 256 % 256) + 65536 * (imm / 65536 % 256) + 16777216 * (imm / 16777216 % 256)) = imm := sgnR_of (by omega) himm (by omega)
  simp [e4]
theorem can_34_32 (rest : List Int)  : canF (encF ⟨34, 0, 0, 32, 0⟩ ++ rest) = ⟨34, 0, 0, 32, 0⟩ := by
  simp
theorem gue_34_32 (rest : List Int)  : gueT (encF ⟨34, 0, 0, 32, 0⟩ ++ rest) = ⟨34, 0, 0, 32, 0⟩ := by
  simp
theorem can_35_32 (rest : List Int)  : canF (encF ⟨35, 0, 0, 32, 0⟩ ++ rest) = ⟨35, 0, 0, 32, 0⟩ := by
  simp
theorem gue_35_32 (rest : List Int)  : gueT (encF ⟨35, 0, 0, 32, 0⟩ ++ rest) = ⟨35, 0, 0, 32, 0⟩ := by
  simp
theorem can_36_32 (rest : List Int)  : canF (encF ⟨36, 0, 0, 32, 0⟩ ++ rest) = ⟨36, 0, 0, 32, 0⟩ := by
  simp
theorem gue_36_32 (rest : List Int)  : gueT (encF ⟨36, 0, 0, 32, 0⟩ ++ rest) = ⟨36, 0, 0, 32, 0⟩ := by
  simp
end
theorem isR_of {n : Int} (h : isR n = true) : 0 ≤ n ∧ n < 8 := of_decide_eq_true h
theorem isL_of {n : Int} (h : isL n = true) : 0 ≤ n ∧ n < 4 := of_decide_eq_true h
theorem isS_of {n k : Int} (h : isS n k = true) : -k ≤ n ∧ n < k := of_decide_eq_true h
theorem isC_of {n : Int} (h : isC n = true) : n = 0 ∨ n = 1 ∨ n = 2 ∨ n = 3 ∨ n = 4 ∨ n = 5 ∨ n = 6 ∨ n = 7 ∨ n = 8 ∨ n = 9 ∨ n = 12 ∨ n = 13 ∨ n = 14 ∨ n = 15 := by
  have := of_decide_eq_true h
  omega
theorem op_cases {n : Int} (h : 0 ≤ n ∧ n ≤ 36) : n = 0 ∨ n = 1 ∨ n = 2 ∨ n = 3 ∨ n = 4 ∨ n = 5 ∨ n = 6 ∨ n = 7 ∨ n = 8 ∨ n = 9 ∨ n = 10 ∨ n = 11 ∨ n = 12 ∨ n = 13 ∨ n = 14 ∨ n = 15 ∨ n = 16 ∨ n = 17 ∨ n = 18 ∨ n = 19 ∨ n = 20 ∨ n = 21 ∨ n = 22 ∨ n = 23 ∨ n = 24 ∨ n = 25 ∨ n = 26 ∨ n = 27 ∨ n = 28 ∨ n = 29 ∨ n = 30 ∨ n = 31 ∨ n = 32 ∨ n = 33 ∨ n = 34 ∨ n = 35 ∨ n = 36 := by omega
theorem can_enc (x : Ins) (rest : List Int) (hv : valB x = true) : canF (encF x ++ rest) = x := by
  obtain ⟨op, d, s, sz, imm⟩ := x
  simp only [valB, Bool.and_eq_true] at hv
  obtain ⟨h0, hz, hf⟩ := hv
  have h0 := op_cases (of_decide_eq_true h0)
  rcases h0 with rfl | rfl | rfl | rfl | rfl | rfl | rfl | rfl | rfl | rfl | rfl | rfl | rfl | rfl | rfl | rfl | rfl | rfl | rfl | rfl | rfl | rfl | rfl | rfl | rfl | rfl | rfl | rfl | rfl | rfl | rfl | rfl | rfl | rfl | rfl | rfl | rfl
  · have hz : sz = 32 ∨ sz = 16 := by simp [rw_, tbl, szB] at hz; omega
    have hf : fitB 2 ⟨0, d, s, sz, imm⟩ = true := hf
    simp only [fitB, Bool.and_eq_true, decide_eq_true_eq] at hf
    obtain ⟨h1, h2, rfl⟩ := hf
    rcases hz with rfl | rfl
    · exact can_0_32 rest _ _ (isR_of h1) (isR_of h2)
    · exact can_0_16 rest _ _ (isR_of h1) (isR_of h2)
  · have hz : sz = 32 ∨ sz = 16 := by simp [rw_, tbl, szB] at hz; omega
    have hf : fitB 3 ⟨1, d, s, sz, imm⟩ = true := hf
    simp only [fitB, Bool.and_eq_true, decide_eq_true_eq] at hf
    obtain ⟨h1, rfl, h3⟩ := hf
    rcases hz with rfl | rfl
    · exact can_1_32 rest _ _ (isR_of h1) h3
    · exact can_1_16 rest _ _ (isR_of h1) h3
  · have hz : sz = 32 ∨ sz = 16 := by simp [rw_, tbl, szB] at hz; omega
    have hf : fitB 4 ⟨2, d, s, sz, imm⟩ = true := hf
    simp only [fitB, Bool.and_eq_true, decide_eq_true_eq] at hf
    obtain ⟨h1, h2, -, h3⟩ := hf
    rcases hz with rfl | rfl
    · exact can_2_32 rest _ _ _ (isR_of h1) (isR_of h2) (isS_of h3)
    · exact can_2_16 rest _ _ _ (isR_of h1) (isR_of h2) (isS_of h3)
  · have hz : sz = 32 ∨ sz = 16 := by simp [rw_, tbl, szB] at hz; omega
    have hf : fitB 5 ⟨3, d, s, sz, imm⟩ = true := hf
    simp only [fitB, Bool.and_eq_true, decide_eq_true_eq] at hf
    obtain ⟨h1, h2, -, h3⟩ := hf
    rcases hz with rfl | rfl
    · exact can_3_32 rest _ _ _ (isR_of h1) (isR_of h2) (isS_of h3)
    · exact can_3_16 rest _ _ _ (isR_of h1) (isR_of h2) (isS_of h3)
  · have hz : sz = 32 := by simp [rw_, tbl, szB] at hz; omega
    have hf : fitB 4 ⟨4, d, s, sz, imm⟩ = true := hf
    simp only [fitB, Bool.and_eq_true, decide_eq_true_eq] at hf
    obtain ⟨h1, h2, -, h3⟩ := hf
    subst hz
    exact can_4_32 rest _ _ _ (isR_of h1) (isR_of h2) (isS_of h3)
  · have hz : sz = 32 := by simp [rw_, tbl, szB] at hz; omega
    have hf : fitB 4 ⟨5, d, s, sz, imm⟩ = true := hf
    simp only [fitB, Bool.and_eq_true, decide_eq_true_eq] at hf
    obtain ⟨h1, h2, -, h3⟩ := hf
    subst hz
    exact can_5_32 rest _ _ _ (isR_of h1) (isR_of h2) (isS_of h3)
  · have hz : sz = 32 := by simp [rw_, tbl, szB] at hz; omega
    have hf : fitB 6 ⟨6, d, s, sz, imm⟩ = true := hf
    simp only [fitB, Bool.and_eq_true, decide_eq_true_eq] at hf
    obtain ⟨⟨h1, -, -, h3⟩, h2⟩ := hf
    subst hz
    exact can_6_32 rest _ _ _ (isR_of h1) (isL_of h2) (isS_of h3)
  · have hz : sz = 32 ∨ sz = 16 := by simp [rw_, tbl, szB] at hz; omega
    have hf : fitB 2 ⟨7, d, s, sz, imm⟩ = true := hf
    simp only [fitB, Bool.and_eq_true, decide_eq_true_eq] at hf
    obtain ⟨h1, h2, rfl⟩ := hf
    rcases hz with rfl | rfl
    · exact can_7_32 rest _ _ (isR_of h1) (isR_of h2)
    · exact can_7_16 rest _ _ (isR_of h1) (isR_of h2)
  · have hz : sz = 32 ∨ sz = 16 := by simp [rw_, tbl, szB] at hz; omega
    have hf : fitB 2 ⟨8, d, s, sz, imm⟩ = true := hf
    simp only [fitB, Bool.and_eq_true, decide_eq_true_eq] at hf
    obtain ⟨h1, h2, rfl⟩ := hf
    rcases hz with rfl | rfl
    · exact can_8_32 rest _ _ (isR_of h1) (isR_of h2)
    · exact can_8_16 rest _ _ (isR_of h1) (isR_of h2)
  · have hz : sz = 32 ∨ sz = 16 := by simp [rw_, tbl, szB] at hz; omega
    have hf : fitB 2 ⟨9, d, s, sz, imm⟩ = true := hf
    simp only [fitB, Bool.and_eq_true, decide_eq_true_eq] at hf
    obtain ⟨h1, h2, rfl⟩ := hf
    rcases hz with rfl | rfl
    · exact can_9_32 rest _ _ (isR_of h1) (isR_of h2)
    · exact can_9_16 rest _ _ (isR_of h1) (isR_of h2)
  · have hz : sz = 32 ∨ sz = 16 := by simp [rw_, tbl, szB] at hz; omega
    have hf : fitB 2 ⟨10, d, s, sz, imm⟩ = true := hf
    simp only [fitB, Bool.and_eq_true, decide_eq_true_eq] at hf
    obtain ⟨h1, h2, rfl⟩ := hf
    rcases hz with rfl | rfl
    · exact can_10_32 rest _ _ (isR_of h1) (isR_of h2)
    · exact can_10_16 rest _ _ (isR_of h1) (isR_of h2)
  · have hz : sz = 32 ∨ sz = 16 := by simp [rw_, tbl, szB] at hz; omega
    have hf : fitB 2 ⟨11, d, s, sz, imm⟩ = true := hf
    simp only [fitB, Bool.and_eq_true, decide_eq_true_eq] at hf
    obtain ⟨h1, h2, rfl⟩ := hf
    rcases hz with rfl | rfl
    · exact can_11_32 rest _ _ (isR_of h1) (isR_of h2)
    · exact can_11_16 rest _ _ (isR_of h1) (isR_of h2)
  · have hz : sz = 32 ∨ sz = 16 := by simp [rw_, tbl, szB] at hz; omega
    have hf : fitB 2 ⟨12, d, s, sz, imm⟩ = true := hf
    simp only [fitB, Bool.and_eq_true, decide_eq_true_eq] at hf
    obtain ⟨h1, h2, rfl⟩ := hf
    rcases hz with rfl | rfl
    · exact can_12_32 rest _ _ (isR_of h1) (isR_of h2)
    · exact can_12_16 rest _ _ (isR_of h1) (isR_of h2)
  · have hz : sz = 32 ∨ sz = 16 := by simp [rw_, tbl, szB] at hz; omega
    have hf : fitB 2 ⟨13, d, s, sz, imm⟩ = true := hf
    simp only [fitB, Bool.and_eq_true, decide_eq_true_eq] at hf
    obtain ⟨h1, h2, rfl⟩ := hf
    rcases hz with rfl | rfl
    · exact can_13_32 rest _ _ (isR_of h1) (isR_of h2)
    · exact can_13_16 rest _ _ (isR_of h1) (isR_of h2)
  · have hz : sz = 32 ∨ sz = 16 := by simp [rw_, tbl, szB] at hz; omega
    have hf : fitB 3 ⟨14, d, s, sz, imm⟩ = true := hf
    simp only [fitB, Bool.and_eq_true, decide_eq_true_eq] at hf
    obtain ⟨h1, rfl, h3⟩ := hf
    rcases hz with rfl | rfl
    · exact can_14_32 rest _ _ (isR_of h1) h3
    · exact can_14_16 rest _ _ (isR_of h1) h3
  · have hz : sz = 32 ∨ sz = 16 := by simp [rw_, tbl, szB] at hz; omega
    have hf : fitB 3 ⟨15, d, s, sz, imm⟩ = true := hf
    simp only [fitB, Bool.and_eq_true, decide_eq_true_eq] at hf
    obtain ⟨h1, rfl, h3⟩ := hf
    rcases hz with rfl | rfl
    · exact can_15_32 rest _ _ (isR_of h1) h3
    · exact can_15_16 rest _ _ (isR_of h1) h3
  · have hz : sz = 32 ∨ sz = 16 := by simp [rw_, tbl, szB] at hz; omega
    have hf : fitB 3 ⟨16, d, s, sz, imm⟩ = true := hf
    simp only [fitB, Bool.and_eq_true, decide_eq_true_eq] at hf
    obtain ⟨h1, rfl, h3⟩ := hf
    rcases hz with rfl | rfl
    · exact can_16_32 rest _ _ (isR_of h1) h3
    · exact can_16_16 rest _ _ (isR_of h1) h3
  · have hz : sz = 32 ∨ sz = 16 := by simp [rw_, tbl, szB] at hz; omega
    have hf : fitB 3 ⟨17, d, s, sz, imm⟩ = true := hf
    simp only [fitB, Bool.and_eq_true, decide_eq_true_eq] at hf
    obtain ⟨h1, rfl, h3⟩ := hf
    rcases hz with rfl | rfl
    · exact can_17_32 rest _ _ (isR_of h1) h3
    · exact can_17_16 rest _ _ (isR_of h1) h3
  · have hz : sz = 32 ∨ sz = 16 := by simp [rw_, tbl, szB] at hz; omega
    have hf : fitB 3 ⟨18, d, s, sz, imm⟩ = true := hf
    simp only [fitB, Bool.and_eq_true, decide_eq_true_eq] at hf
    obtain ⟨h1, rfl, h3⟩ := hf
    rcases hz with rfl | rfl
    · exact can_18_32 rest _ _ (isR_of h1) h3
    · exact can_18_16 rest _ _ (isR_of h1) h3
  · have hz : sz = 32 ∨ sz = 16 := by simp [rw_, tbl, szB] at hz; omega
    have hf : fitB 3 ⟨19, d, s, sz, imm⟩ = true := hf
    simp only [fitB, Bool.and_eq_true, decide_eq_true_eq] at hf
    obtain ⟨h1, rfl, h3⟩ := hf
    rcases hz with rfl | rfl
    · exact can_19_32 rest _ _ (isR_of h1) h3
    · exact can_19_16 rest _ _ (isR_of h1) h3
  · have hz : sz = 32 := by simp [rw_, tbl, szB] at hz; omega
    have hf : fitB 2 ⟨20, d, s, sz, imm⟩ = true := hf
    simp only [fitB, Bool.and_eq_true, decide_eq_true_eq] at hf
    obtain ⟨h1, h2, rfl⟩ := hf
    subst hz
    exact can_20_32 rest _ _ (isR_of h1) (isR_of h2)
  · have hz : sz = 32 ∨ sz = 16 := by simp [rw_, tbl, szB] at hz; omega
    have hf : fitB 1 ⟨21, d, s, sz, imm⟩ = true := hf
    simp only [fitB, Bool.and_eq_true, decide_eq_true_eq] at hf
    obtain ⟨h1, rfl, rfl⟩ := hf
    rcases hz with rfl | rfl
    · exact can_21_32 rest _ (isR_of h1)
    · exact can_21_16 rest _ (isR_of h1)
  · have hz : sz = 32 ∨ sz = 16 := by simp [rw_, tbl, szB] at hz; omega
    have hf : fitB 1 ⟨22, d, s, sz, imm⟩ = true := hf
    simp only [fitB, Bool.and_eq_true, decide_eq_true_eq] at hf
    obtain ⟨h1, rfl, rfl⟩ := hf
    rcases hz with rfl | rfl
    · exact can_22_32 rest _ (isR_of h1)
    · exact can_22_16 rest _ (isR_of h1)
  · have hz : sz = 32 ∨ sz = 16 := by simp [rw_, tbl, szB] at hz; omega
    have hf : fitB 1 ⟨23, d, s, sz, imm⟩ = true := hf
    simp only [fitB, Bool.and_eq_true, decide_eq_true_eq] at hf
    obtain ⟨h1, rfl, rfl⟩ := hf
    rcases hz with rfl | rfl
    · exact can_23_32 rest _ (isR_of h1)
    · exact can_23_16 rest _ (isR_of h1)
  · have hz : sz = 32 ∨ sz = 16 := by simp [rw_, tbl, szB] at hz; omega
    have hf : fitB 1 ⟨24, d, s, sz, imm⟩ = true := hf
    simp only [fitB, Bool.and_eq_true, decide_eq_true_eq] at hf
    obtain ⟨h1, rfl, rfl⟩ := hf
    rcases hz with rfl | rfl
    · exact can_24_32 rest _ (isR_of h1)
    · exact can_24_16 rest _ (isR_of h1)
  · have hz : sz = 32 ∨ sz = 16 := by simp [rw_, tbl, szB] at hz; omega
    have hf : fitB 1 ⟨25, d, s, sz, imm⟩ = true := hf
    simp only [fitB, Bool.and_eq_true, decide_eq_true_eq] at hf
    obtain ⟨h1, rfl, rfl⟩ := hf
    rcases hz with rfl | rfl
    · exact can_25_32 rest _ (isR_of h1)
    · exact can_25_16 rest _ (isR_of h1)
  · have hz : sz = 32 := by simp [rw_, tbl, szB] at hz; omega
    have hf : fitB 1 ⟨26, d, s, sz, imm⟩ = true := hf
    simp only [fitB, Bool.and_eq_true, decide_eq_true_eq] at hf
    obtain ⟨h1, rfl, rfl⟩ := hf
    subst hz
    exact can_26_32 rest _ (isR_of h1)
  · have hz : sz = 32 := by simp [rw_, tbl, szB] at hz; omega
    have hf : fitB 1 ⟨27, d, s, sz, imm⟩ = true := hf
    simp only [fitB, Bool.and_eq_true, decide_eq_true_eq] at hf
    obtain ⟨h1, rfl, rfl⟩ := hf
    subst hz
    exact can_27_32 rest _ (isR_of h1)
  · have hz : sz = 32 := by simp [rw_, tbl, szB] at hz; omega
    have hf : fitB 0 ⟨28, d, s, sz, imm⟩ = true := hf
    simp only [fitB, Bool.and_eq_true, decide_eq_true_eq] at hf
    obtain ⟨rfl, rfl, rfl⟩ := hf
    subst hz
    exact can_28_32 rest 
  · have hz : sz = 32 := by simp [rw_, tbl, szB] at hz; omega
    have hf : fitB 7 ⟨29, d, s, sz, imm⟩ = true := hf
    simp only [fitB, Bool.and_eq_true, decide_eq_true_eq] at hf
    obtain ⟨h1, h2, rfl⟩ := hf
    subst hz
    exact can_29_32 rest _ _ (isL_of h1) (isC_of h2)
  · have hz : sz = 32 := by simp [rw_, tbl, szB] at hz; omega
    have hf : fitB 8 ⟨30, d, s, sz, imm⟩ = true := hf
    simp only [fitB, Bool.and_eq_true, decide_eq_true_eq] at hf
    obtain ⟨h1, h2, rfl⟩ := hf
    subst hz
    exact can_30_32 rest _ _ (isR_of h1) (isL_of h2)
  · have hz : sz = 32 := by simp [rw_, tbl, szB] at hz; omega
    have hf : fitB 9 ⟨31, d, s, sz, imm⟩ = true := hf
    simp only [fitB, Bool.and_eq_true] at hf
    obtain ⟨h1, h2, h3⟩ := hf
    subst hz
    exact can_31_32 rest _ _ _ (isR_of h1) (isR_of h2) (isC_of h3)
  · have hz : sz = 32 ∨ sz = 8 := by simp [rw_, tbl, szB] at hz; omega
    have hf : fitB 10 ⟨32, d, s, sz, imm⟩ = true := hf
    simp only [fitB, Bool.and_eq_true, decide_eq_true_eq] at hf
    obtain ⟨rfl, h2, h3⟩ := hf
    rcases hz with rfl | rfl
    · exact can_32_32 rest _ _ (isC_of h2) (isS_of h3)
    · exact can_32_8 rest _ _ (isC_of h2) (isS_of h3)
  · have hz : sz = 32 ∨ sz = 8 := by simp [rw_, tbl, szB] at hz; omega
    have hf : fitB 11 ⟨33, d, s, sz, imm⟩ = true := hf
    simp only [fitB, Bool.and_eq_true, decide_eq_true_eq] at hf
    obtain ⟨rfl, rfl, h3⟩ := hf
    rcases hz with rfl | rfl
    · exact can_33_32 rest _ (isS_of h3)
    · exact can_33_8 rest _ (isS_of h3)
  · have hz : sz = 32 := by simp [rw_, tbl, szB] at hz; omega
    have hf : fitB 0 ⟨34, d, s, sz, imm⟩ = true := hf
    simp only [fitB, Bool.and_eq_true, decide_eq_true_eq] at hf
    obtain ⟨rfl, rfl, rfl⟩ := hf
    subst hz
    exact can_34_32 rest 
  · have hz : sz = 32 := by simp [rw_, tbl, szB] at hz; omega
    have hf : fitB 0 ⟨35, d, s, sz, imm⟩ = true := hf
    simp only [fitB, Bool.and_eq_true, decide_eq_true_eq] at hf
    obtain ⟨rfl, rfl, rfl⟩ := hf
    subst hz
    exact can_35_32 rest 
  · have hz : sz = 32 := by simp [rw_, tbl, szB] at hz; omega
    have hf : fitB 0 ⟨36, d, s, sz, imm⟩ = true := hf
    simp only [fitB, Bool.and_eq_true, decide_eq_true_eq] at hf
    obtain ⟨rfl, rfl, rfl⟩ := hf
    subst hz
    exact can_36_32 rest 
theorem gue_enc (x : Ins) (rest : List Int) (hv : valB x = true) : gueT (encF x ++ rest) = x := by
  obtain ⟨op, d, s, sz, imm⟩ := x
  simp only [valB, Bool.and_eq_true] at hv
  obtain ⟨h0, hz, hf⟩ := hv
  have h0 := op_cases (of_decide_eq_true h0)
  rcases h0 with rfl | rfl | rfl | rfl | rfl | rfl | rfl | rfl | rfl | rfl | rfl | rfl | rfl | rfl | rfl | rfl | rfl | rfl | rfl | rfl | rfl | rfl | rfl | rfl | rfl | rfl | rfl | rfl | rfl | rfl | rfl | rfl | rfl | rfl | rfl | rfl | rfl
  · have hz : sz = 32 ∨ sz = 16 := by simp [rw_, tbl, szB] at hz; omega
    have hf : fitB 2 ⟨0, d, s, sz, imm⟩ = true := hf
    simp only [fitB, Bool.and_eq_true, decide_eq_true_eq] at hf
    obtain ⟨h1, h2, rfl⟩ := hf
    rcases hz with rfl | rfl
    · exact gue_0_32 rest _ _ (isR_of h1) (isR_of h2)
    · exact gue_0_16 rest _ _ (isR_of h1) (isR_of h2)
  · have hz : sz = 32 ∨ sz = 16 := by simp [rw_, tbl, szB] at hz; omega
    have hf : fitB 3 ⟨1, d, s, sz, imm⟩ = true := hf
    simp only [fitB, Bool.and_eq_true, decide_eq_true_eq] at hf
    obtain ⟨h1, rfl, h3⟩ := hf
    rcases hz with rfl | rfl
    · exact gue_1_32 rest _ _ (isR_of h1) h3
    · exact gue_1_16 rest _ _ (isR_of h1) h3
  · have hz : sz = 32 ∨ sz = 16 := by simp [rw_, tbl, szB] at hz; omega
    have hf : fitB 4 ⟨2, d, s, sz, imm⟩ = true := hf
    simp only [fitB, Bool.and_eq_true, decide_eq_true_eq] at hf
    obtain ⟨h1, h2, -, h3⟩ := hf
    rcases hz with rfl | rfl
    · exact gue_2_32 rest _ _ _ (isR_of h1) (isR_of h2) (isS_of h3)
    · exact gue_2_16 rest _ _ _ (isR_of h1) (isR_of h2) (isS_of h3)
  · have hz : sz = 32 ∨ sz = 16 := by simp [rw_, tbl, szB] at hz; omega
    have hf : fitB 5 ⟨3, d, s, sz, imm⟩ = true := hf
    simp only [fitB, Bool.and_eq_true, decide_eq_true_eq] at hf
    obtain ⟨h1, h2, -, h3⟩ := hf
    rcases hz with rfl | rfl
    · exact gue_3_32 rest _ _ _ (isR_of h1) (isR_of h2) (isS_of h3)
    · exact gue_3_16 rest _ _ _ (isR_of h1) (isR_of h2) (isS_of h3)
  · have hz : sz = 32 := by simp [rw_, tbl, szB] at hz; omega
    have hf : fitB 4 ⟨4, d, s, sz, imm⟩ = true := hf
    simp only [fitB, Bool.and_eq_true, decide_eq_true_eq] at hf
    obtain ⟨h1, h2, -, h3⟩ := hf
    subst hz
    exact gue_4_32 rest _ _ _ (isR_of h1) (isR_of h2) (isS_of h3)
  · have hz : sz = 32 := by simp [rw_, tbl, szB] at hz; omega
    have hf : fitB 4 ⟨5, d, s, sz, imm⟩ = true := hf
    simp only [fitB, Bool.and_eq_true, decide_eq_true_eq] at hf
    obtain ⟨h1, h2, -, h3⟩ := hf
    subst hz
    exact gue_5_32 rest _ _ _ (isR_of h1) (isR_of h2) (isS_of h3)
  · have hz : sz = 32 := by simp [rw_, tbl, szB] at hz; omega
    have hf : fitB 6 ⟨6, d, s, sz, imm⟩ = true := hf
    simp only [fitB, Bool.and_eq_true, decide_eq_true_eq] at hf
    obtain ⟨⟨h1, -, -, h3⟩, h2⟩ := hf
    subst hz
    exact gue_6_32 rest _ _ _ (isR_of h1) (isL_of h2) (isS_of h3)
  · have hz : sz = 32 ∨ sz = 16 := by simp [rw_, tbl, szB] at hz; omega
    have hf : fitB 2 ⟨7, d, s, sz, imm⟩ = true := hf
    simp only [fitB, Bool.and_eq_true, decide_eq_true_eq] at hf
    obtain ⟨h1, h2, rfl⟩ := hf
    rcases hz with rfl | rfl
    · exact gue_7_32 rest _ _ (isR_of h1) (isR_of h2)
    · exact gue_7_16 rest _ _ (isR_of h1) (isR_of h2)
  · have hz : sz = 32 ∨ sz = 16 := by simp [rw_, tbl, szB] at hz; omega
    have hf : fitB 2 ⟨8, d, s, sz, imm⟩ = true := hf
    simp only [fitB, Bool.and_eq_true, decide_eq_true_eq] at hf
    obtain ⟨h1, h2, rfl⟩ := hf
    rcases hz with rfl | rfl
    · exact gue_8_32 rest _ _ (isR_of h1) (isR_of h2)
    · exact gue_8_16 rest _ _ (isR_of h1) (isR_of h2)
  · have hz : sz = 32 ∨ sz = 16 := by simp [rw_, tbl, szB] at hz; omega
    have hf : fitB 2 ⟨9, d, s, sz, imm⟩ = true := hf
    simp only [fitB, Bool.and_eq_true, decide_eq_true_eq] at hf
    obtain ⟨h1, h2, rfl⟩ := hf
    rcases hz with rfl | rfl
    · exact gue_9_32 rest _ _ (isR_of h1) (isR_of h2)
    · exact gue_9_16 rest _ _ (isR_of h1) (isR_of h2)
  · have hz : sz = 32 ∨ sz = 16 := by simp [rw_, tbl, szB] at hz; omega
    have hf : fitB 2 ⟨10, d, s, sz, imm⟩ = true := hf
    simp only [fitB, Bool.and_eq_true, decide_eq_true_eq] at hf
    obtain ⟨h1, h2, rfl⟩ := hf
    rcases hz with rfl | rfl
    · exact gue_10_32 rest _ _ (isR_of h1) (isR_of h2)
    · exact gue_10_16 rest _ _ (isR_of h1) (isR_of h2)
  · have hz : sz = 32 ∨ sz = 16 := by simp [rw_, tbl, szB] at hz; omega
    have hf : fitB 2 ⟨11, d, s, sz, imm⟩ = true := hf
    simp only [fitB, Bool.and_eq_true, decide_eq_true_eq] at hf
    obtain ⟨h1, h2, rfl⟩ := hf
    rcases hz with rfl | rfl
    · exact gue_11_32 rest _ _ (isR_of h1) (isR_of h2)
    · exact gue_11_16 rest _ _ (isR_of h1) (isR_of h2)
  · have hz : sz = 32 ∨ sz = 16 := by simp [rw_, tbl, szB] at hz; omega
    have hf : fitB 2 ⟨12, d, s, sz, imm⟩ = true := hf
    simp only [fitB, Bool.and_eq_true, decide_eq_true_eq] at hf
    obtain ⟨h1, h2, rfl⟩ := hf
    rcases hz with rfl | rfl
    · exact gue_12_32 rest _ _ (isR_of h1) (isR_of h2)
    · exact gue_12_16 rest _ _ (isR_of h1) (isR_of h2)
  · have hz : sz = 32 ∨ sz = 16 := by simp [rw_, tbl, szB] at hz; omega
    have hf : fitB 2 ⟨13, d, s, sz, imm⟩ = true := hf
    simp only [fitB, Bool.and_eq_true, decide_eq_true_eq] at hf
    obtain ⟨h1, h2, rfl⟩ := hf
    rcases hz with rfl | rfl
    · exact gue_13_32 rest _ _ (isR_of h1) (isR_of h2)
    · exact gue_13_16 rest _ _ (isR_of h1) (isR_of h2)
  · have hz : sz = 32 ∨ sz = 16 := by simp [rw_, tbl, szB] at hz; omega
    have hf : fitB 3 ⟨14, d, s, sz, imm⟩ = true := hf
    simp only [fitB, Bool.and_eq_true, decide_eq_true_eq] at hf
    obtain ⟨h1, rfl, h3⟩ := hf
    rcases hz with rfl | rfl
    · exact gue_14_32 rest _ _ (isR_of h1) h3
    · exact gue_14_16 rest _ _ (isR_of h1) h3
  · have hz : sz = 32 ∨ sz = 16 := by simp [rw_, tbl, szB] at hz; omega
    have hf : fitB 3 ⟨15, d, s, sz, imm⟩ = true := hf
    simp only [fitB, Bool.and_eq_true, decide_eq_true_eq] at hf
    obtain ⟨h1, rfl, h3⟩ := hf
    rcases hz with rfl | rfl
    · exact gue_15_32 rest _ _ (isR_of h1) h3
    · exact gue_15_16 rest _ _ (isR_of h1) h3
  · have hz : sz = 32 ∨ sz = 16 := by simp [rw_, tbl, szB] at hz; omega
    have hf : fitB 3 ⟨16, d, s, sz, imm⟩ = true := hf
    simp only [fitB, Bool.and_eq_true, decide_eq_true_eq] at hf
    obtain ⟨h1, rfl, h3⟩ := hf
    rcases hz with rfl | rfl
    · exact gue_16_32 rest _ _ (isR_of h1) h3
    · exact gue_16_16 rest _ _ (isR_of h1) h3
  · have hz : sz = 32 ∨ sz = 16 := by simp [rw_, tbl, szB] at hz; omega
    have hf : fitB 3 ⟨17, d, s, sz, imm⟩ = true := hf
    simp only [fitB, Bool.and_eq_true, decide_eq_true_eq] at hf
    obtain ⟨h1, rfl, h3⟩ := hf
    rcases hz with rfl | rfl
    · exact gue_17_32 rest _ _ (isR_of h1) h3
    · exact gue_17_16 rest _ _ (isR_of h1) h3
  · have hz : sz = 32 ∨ sz = 16 := by simp [rw_, tbl, szB] at hz; omega
    have hf : fitB 3 ⟨18, d, s, sz, imm⟩ = true := hf
    simp only [fitB, Bool.and_eq_true, decide_eq_true_eq] at hf
    obtain ⟨h1, rfl, h3⟩ := hf
    rcases hz with rfl | rfl
    · exact gue_18_32 rest _ _ (isR_of h1) h3
    · exact gue_18_16 rest _ _ (isR_of h1) h3
  · have hz : sz = 32 ∨ sz = 16 := by simp [rw_, tbl, szB] at hz; omega
    have hf : fitB 3 ⟨19, d, s, sz, imm⟩ = true := hf
    simp only [fitB, Bool.and_eq_true, decide_eq_true_eq] at hf
    obtain ⟨h1, rfl, h3⟩ := hf
    rcases hz with rfl | rfl
    · exact gue_19_32 rest _ _ (isR_of h1) h3
    · exact gue_19_16 rest _ _ (isR_of h1) h3
  · have hz : sz = 32 := by simp [rw_, tbl, szB] at hz; omega
    have hf : fitB 2 ⟨20, d, s, sz, imm⟩ = true := hf
    simp only [fitB, Bool.and_eq_true, decide_eq_true_eq] at hf
    obtain ⟨h1, h2, rfl⟩ := hf
    subst hz
    exact gue_20_32 rest _ _ (isR_of h1) (isR_of h2)
  · have hz : sz = 32 ∨ sz = 16 := by simp [rw_, tbl, szB] at hz; omega
    have hf : fitB 1 ⟨21, d, s, sz, imm⟩ = true := hf
    simp only [fitB, Bool.and_eq_true, decide_eq_true_eq] at hf
    obtain ⟨h1, rfl, rfl⟩ := hf
    rcases hz with rfl | rfl
    · exact gue_21_32 rest _ (isR_of h1)
    · exact gue_21_16 rest _ (isR_of h1)
  · have hz : sz = 32 ∨ sz = 16 := by simp [rw_, tbl, szB] at hz; omega
    have hf : fitB 1 ⟨22, d, s, sz, imm⟩ = true := hf
    simp only [fitB, Bool.and_eq_true, decide_eq_true_eq] at hf
    obtain ⟨h1, rfl, rfl⟩ := hf
    rcases hz with rfl | rfl
    · exact gue_22_32 rest _ (isR_of h1)
    · exact gue_22_16 rest _ (isR_of h1)
  · have hz : sz = 32 ∨ sz = 16 := by simp [rw_, tbl, szB] at hz; omega
    have hf : fitB 1 ⟨23, d, s, sz, imm⟩ = true := hf
    simp only [fitB, Bool.and_eq_true, decide_eq_true_eq] at hf
    obtain ⟨h1, rfl, rfl⟩ := hf
    rcases hz with rfl | rfl
    · exact gue_23_32 rest _ (isR_of h1)
    · exact gue_23_16 rest _ (isR_of h1)
  · have hz : sz = 32 ∨ sz = 16 := by simp [rw_, tbl, szB] at hz; omega
    have hf : fitB 1 ⟨24, d, s, sz, imm⟩ = true := hf
    simp only [fitB, Bool.and_eq_true, decide_eq_true_eq] at hf
    obtain ⟨h1, rfl, rfl⟩ := hf
    rcases hz with rfl | rfl
    · exact gue_24_32 rest _ (isR_of h1)
    · exact gue_24_16 rest _ (isR_of h1)
  · have hz : sz = 32 ∨ sz = 16 := by simp [rw_, tbl, szB] at hz; omega
    have hf : fitB 1 ⟨25, d, s, sz, imm⟩ = true := hf
    simp only [fitB, Bool.and_eq_true, decide_eq_true_eq] at hf
    obtain ⟨h1, rfl, rfl⟩ := hf
    rcases hz with rfl | rfl
    · exact gue_25_32 rest _ (isR_of h1)
    · exact gue_25_16 rest _ (isR_of h1)
  · have hz : sz = 32 := by simp [rw_, tbl, szB] at hz; omega
    have hf : fitB 1 ⟨26, d, s, sz, imm⟩ = true := hf
    simp only [fitB, Bool.and_eq_true, decide_eq_true_eq] at hf
    obtain ⟨h1, rfl, rfl⟩ := hf
    subst hz
    exact gue_26_32 rest _ (isR_of h1)
  · have hz : sz = 32 := by simp [rw_, tbl, szB] at hz; omega
    have hf : fitB 1 ⟨27, d, s, sz, imm⟩ = true := hf
    simp only [fitB, Bool.and_eq_true, decide_eq_true_eq] at hf
    obtain ⟨h1, rfl, rfl⟩ := hf
    subst hz
    exact gue_27_32 rest _ (isR_of h1)
  · have hz : sz = 32 := by simp [rw_, tbl, szB] at hz; omega
    have hf : fitB 0 ⟨28, d, s, sz, imm⟩ = true := hf
    simp only [fitB, Bool.and_eq_true, decide_eq_true_eq] at hf
    obtain ⟨rfl, rfl, rfl⟩ := hf
    subst hz
    exact gue_28_32 rest 
  · have hz : sz = 32 := by simp [rw_, tbl, szB] at hz; omega
    have hf : fitB 7 ⟨29, d, s, sz, imm⟩ = true := hf
    simp only [fitB, Bool.and_eq_true, decide_eq_true_eq] at hf
    obtain ⟨h1, h2, rfl⟩ := hf
    subst hz
    exact gue_29_32 rest _ _ (isL_of h1) (isC_of h2)
  · have hz : sz = 32 := by simp [rw_, tbl, szB] at hz; omega
    have hf : fitB 8 ⟨30, d, s, sz, imm⟩ = true := hf
    simp only [fitB, Bool.and_eq_true, decide_eq_true_eq] at hf
    obtain ⟨h1, h2, rfl⟩ := hf
    subst hz
    exact gue_30_32 rest _ _ (isR_of h1) (isL_of h2)
  · have hz : sz = 32 := by simp [rw_, tbl, szB] at hz; omega
    have hf : fitB 9 ⟨31, d, s, sz, imm⟩ = true := hf
    simp only [fitB, Bool.and_eq_true] at hf
    obtain ⟨h1, h2, h3⟩ := hf
    subst hz
    exact gue_31_32 rest _ _ _ (isR_of h1) (isR_of h2) (isC_of h3)
  · have hz : sz = 32 ∨ sz = 8 := by simp [rw_, tbl, szB] at hz; omega
    have hf : fitB 10 ⟨32, d, s, sz, imm⟩ = true := hf
    simp only [fitB, Bool.and_eq_true, decide_eq_true_eq] at hf
    obtain ⟨rfl, h2, h3⟩ := hf
    rcases hz with rfl | rfl
    · exact gue_32_32 rest _ _ (isC_of h2) (isS_of h3)
    · exact gue_32_8 rest _ _ (isC_of h2) (isS_of h3)
  · have hz : sz = 32 ∨ sz = 8 := by simp [rw_, tbl, szB] at hz; omega
    have hf : fitB 11 ⟨33, d, s, sz, imm⟩ = true := hf
    simp only [fitB, Bool.and_eq_true, decide_eq_true_eq] at hf
    obtain ⟨rfl, rfl, h3⟩ := hf
    rcases hz with rfl | rfl
    · exact gue_33_32 rest _ (isS_of h3)
    · exact gue_33_8 rest _ (isS_of h3)
  · have hz : sz = 32 := by simp [rw_, tbl, szB] at hz; omega
    have hf : fitB 0 ⟨34, d, s, sz, imm⟩ = true := hf
    simp only [fitB, Bool.and_eq_true, decide_eq_true_eq] at hf
    obtain ⟨rfl, rfl, rfl⟩ := hf
    subst hz
    exact gue_34_32 rest 
  · have hz : sz = 32 := by simp [rw_, tbl, szB] at hz; omega
    have hf : fitB 0 ⟨35, d, s, sz, imm⟩ = true := hf
    simp only [fitB, Bool.and_eq_true, decide_eq_true_eq] at hf
    obtain ⟨rfl, rfl, rfl⟩ := hf
    subst hz
    exact gue_35_32 rest 
  · have hz : sz = 32 := by simp [rw_, tbl, szB] at hz; omega
    have hf : fitB 0 ⟨36, d, s, sz, imm⟩ = true := hf
    simp only [fitB, Bool.and_eq_true, decide_eq_true_eq] at hf
    obtain ⟨rfl, rfl, rfl⟩ := hf
    subst hz
    exact gue_36_32 rest 
theorem pre_iff (a b : List Int) : pre a b = true ↔ ∃ t, a ++ t = b := by
  unfold pre
  rw [List.isPrefixOf_iff_prefix]
  exact Iff.rfl
theorem dec_eq (b : List Int) : rdecF b = decF b := by
  unfold rdecF decF
  by_cases h : (valB (canF b) && pre (encF (canF b)) b) = true
  · have h1 := (Bool.and_eq_true _ _).mp h
    obtain ⟨t, ht⟩ := (pre_iff _ _).1 h1.2
    have hg := gue_enc (canF b) t h1.1
    rw [ht] at hg
    rw [hg]
  · rw [if_neg h]
    by_cases h2 : (valB (gueT b) && pre (encF (gueT b)) b) = true
    · have h1 := (Bool.and_eq_true _ _).mp h2
      obtain ⟨t, ht⟩ := (pre_iff _ _).1 h1.2
      have hg := can_enc (gueT b) t h1.1
      rw [ht] at hg
      rw [hg] at h
      exact absurd h2 h
    · rw [if_neg h2]
theorem dec_enc (x : Ins) (t : List Int) (hv : valB x = true) : decF (encF x ++ t) = some x := by
  unfold decF
  rw [can_enc x t hv, if_pos]
  rw [Bool.and_eq_true]
  exact ⟨hv, (pre_iff _ _).2 ⟨t, rfl⟩⟩
theorem dec_some {b : List Int} {x : Ins} (h : decF b = some x) : valB x = true ∧ ∃ t, encF x ++ t = b := by
  unfold decF at h
  split at h
  · rename_i h1
    injection h with h
    rw [h] at h1
    have h1 := (Bool.and_eq_true _ _).mp h1
    exact ⟨h1.1, (pre_iff _ _).1 h1.2⟩
  · cases h
theorem wr_pos (w : Nat) (o n : Int) (x : Ins) : 0 < (wrB w o n x).length := by
  unfold wrB
  split <;> (try split) <;> simp
theorem enc_pos (x : Ins) : 0 < (encF x).length := by
  unfold encF
  rw [List.length_append]
  have := wr_pos (rw_ x.op).w (rw_ x.op).o (rw_ x.op).n x
  omega
theorem enc_short (x : Ins) (hv : valB x = true) : decF (encF x).dropLast = none := by
  cases h : decF (encF x).dropLast with
  | none => rfl
  | some y =>
    obtain ⟨hy, t, ht⟩ := dec_some h
    have hp := enc_pos x
    have hl : (encF x).dropLast ++ [(encF x).getLast (fun e => by rw [e] at hp; exact absurd hp (by decide))] = encF x := List.dropLast_concat_getLast _
    have h1 := can_enc x [] hv
    rw [List.append_nil, ← hl, ← ht, List.append_assoc, can_enc y _ hy] at h1
    subst h1
    have := congrArg List.length ht
    rw [List.length_append, List.length_dropLast] at this
    omega
end Go.Proofs.Ytpekegeohcnhcaa
