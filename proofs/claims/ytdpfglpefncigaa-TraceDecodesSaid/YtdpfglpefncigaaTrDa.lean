/-
  What the reference's Decode answers: the same as Decode of package trace.
-/
import Derived.Test.YtdpfglpefncigaaTrX
namespace Go.Proofs.Ytdpfglpefncigaa

/-- The numbers of bytes, without a look at how they are written. -/
def rfP : List Nat → List Nat → Nat → Nat → Option (List Nat × Nat × Nat)
  | [], nums, n, t => some (nums, n, t)
  | x :: l, nums, n, t => if 40 < t then none else if x < 128 then rfP l (nums ++ [n + x % 128 * 2 ^ t]) 0 0 else rfP l nums (n + x % 128 * 2 ^ t) (t + 7)
theorem rfP_grp : ∀ (f m : Nat) (rest nums : List Nat) (n t : Nat), 1 ≤ f → m < 128 ^ f → t + 7 * f ≤ 47 → rfP (grpF f m ++ rest) nums n t = rfP rest (nums ++ [n + m * 2 ^ t]) 0 0
  | 0, _, _, _, _, _, h, _, _ => absurd h (by omega)
  | f + 1, m, rest, nums, n, t, _, hm, ht => by
    by_cases h : m < 128
    · have e : grpF (f + 1) m = [m] := by unfold grpF; rw [if_pos h]
      rw [e]
      show rfP (m :: rest) nums n t = _
      conv => lhs; unfold rfP
      rw [if_neg (by omega), if_pos h, Nat.mod_eq_of_lt h]
    · have e : grpF (f + 1) m = (m % 128 + 128) :: grpF f (m / 128) := by
        show (if m < 128 then [m] else (m % 128 + 128) :: grpF f (m / 128)) = _
        rw [if_neg h]
      have hf1 : 1 ≤ f := by
        apply Classical.byContradiction
        intro h0
        have : f = 0 := by omega
        subst this
        exact h (by simpa using hm)
      have hd : m / 128 < 128 ^ f := by
        rw [Nat.div_lt_iff_lt_mul (by omega)]
        rw [Nat.pow_succ] at hm
        exact hm
      rw [e]
      show rfP ((m % 128 + 128) :: (grpF f (m / 128) ++ rest)) nums n t = _
      conv => lhs; unfold rfP
      rw [if_neg (by omega), if_neg (by omega), rfP_grp f (m / 128) rest nums _ (t + 7) hf1 hd (by omega)]
      have e1 : (m % 128 + 128) % 128 = m % 128 := by omega
      have e2 : n + m % 128 * 2 ^ t + m / 128 * 2 ^ (t + 7) = n + m * 2 ^ t := by
        rw [Nat.pow_add, Nat.mul_comm (2 ^ t) (2 ^ 7), ← Nat.mul_assoc, Nat.add_assoc, ← Nat.add_mul]
        rw [show m % 128 + m / 128 * 2 ^ 7 = m by omega]
      rw [e1, e2]
theorem rfP_all : ∀ (ms rest nums : List Nat), (∀ m ∈ ms, m < 34359738368) → rfP (grpAll ms ++ rest) nums 0 0 = rfP rest (nums ++ ms) 0 0
  | [], rest, nums, _ => by simp [grpAll]
  | m :: ms, rest, nums, h => by
    have e : grpAll (m :: ms) ++ rest = grpF 5 m ++ (grpAll ms ++ rest) := by simp [grpAll, List.append_assoc]
    rw [e, rfP_grp 5 m _ _ _ _ (by omega) (by have := h m (by simp); omega) (by omega), rfP_all ms rest _ (fun x hx => h x (by simp [hx]))]
    simp
/-- The numbers of some rows. -/
def flatN (zs : List Plc) (i f : Nat) : List Nat := (List.range' i f).flatMap fun j => rowNums (lastA zs j) zs[j]!
theorem flatN_succ (zs : List Plc) (i f : Nat) : flatN zs i (f + 1) = rowNums (lastA zs i) zs[i]! ++ flatN zs (i + 1) f := by
  unfold flatN
  rw [List.range'_succ, List.flatMap_cons]
theorem rowNums_lt {zs : List Plc} (h : okAll zs = true) {j : Nat} (hj : j < zs.length) : ∀ m ∈ rowNums (lastA zs j) zs[j]!, m < 34359738368 := by
  obtain ⟨L, A, Z, V, K, N, hL, hp, hLA, hAZ, hZ, hV, hK, hN, hr⟩ := rowNums_small h hj
  rw [hr]
  intro m hm
  simp at hm
  omega
theorem rfP_tail {zs : List Plc} (h : okAll zs = true) : ∀ (f i : Nat) (nums : List Nat), i + f = zs.length → rfP (tailB zs i f) nums 0 0 = some (nums ++ flatN zs i f, 0, 0)
  | 0, i, nums, _ => by
    simp [tailB, flatN, rfP]
  | f + 1, i, nums, hf => by
    rw [tailB_succ, rfP_all _ _ _ (rowNums_lt h (by omega)), rfP_tail h f (i + 1) _ (by omega), flatN_succ, List.append_assoc]
theorem flatN_at (zs : List Plc) : ∀ (f i j k : Nat), j < f → k < 5 → (flatN zs i f)[5 * j + k]? = (rowNums (lastA zs (i + j)) zs[i + j]!)[k]?
  | 0, _, _, _, h, _ => absurd h (by omega)
  | f + 1, i, 0, k, _, hk => by
    rw [flatN_succ]
    have hl : (rowNums (lastA zs i) zs[i]!).length = 5 := rfl
    rw [List.getElem?_append_left (by omega), Nat.mul_zero, Nat.zero_add, Nat.add_zero]
  | f + 1, i, j + 1, k, hj, hk => by
    rw [flatN_succ]
    have hl : (rowNums (lastA zs i) zs[i]!).length = 5 := rfl
    rw [List.getElem?_append_right (by omega), hl, show 5 * (j + 1) + k - 5 = 5 * j + k by omega, flatN_at zs f (i + 1) j k (by omega) hk, show i + 1 + j = i + (j + 1) by omega]
theorem flatN_length (zs : List Plc) : ∀ (f i : Nat), (flatN zs i f).length = 5 * f
  | 0, i => by simp [flatN]
  | f + 1, i => by
    have hl : (rowNums (lastA zs i) zs[i]!).length = 5 := rfl
    rw [flatN_succ, List.length_append, hl, flatN_length zs f (i + 1)]
    omega
/-- Where rows begin, of numbers. -/
def lastN (nums : List Nat) : Nat → Nat
  | 0 => 0
  | j + 1 => lastN nums j + nums[1 + 5 * j]!
def tabRow (nums : List Nat) (j : Nat) : Plc := ⟨(lastN nums (j + 1) : Nat), (lastN nums (j + 1) + nums[1 + 5 * j + 1]! : Nat), (nums[1 + 5 * j + 2]! : Nat), (nums[1 + 5 * j + 3]! : Nat), (nums[1 + 5 * j + 4]! : Nat)⟩
def tabOf (nums : List Nat) (i : Nat) : List Plc := (List.range i).map (tabRow nums)
theorem tabOf_succ (nums : List Nat) (i : Nat) : tabOf nums (i + 1) = tabOf nums i ++ [tabRow nums i] := by
  unfold tabOf
  rw [List.range_succ, List.map_append]
  rfl
theorem tabOf_length (nums : List Nat) (i : Nat) : (tabOf nums i).length = i := by simp [tabOf]
/-- What the reference's Decode answers. -/
def refDecP (l : List Nat) : Option (List Plc) :=
  match rfP l [] 0 0 with
  | none => none
  | some (nums, _, t) => if 0 < t ∨ nums.length = 0 ∨ 64 < nums[0]! ∨ nums.length ≠ 1 + 5 * nums[0]! then none
    else if valF (tabOf nums nums[0]!) = 0 ∧ encF (tabOf nums nums[0]!) = l then some (tabOf nums nums[0]!) else none
theorem rows_of_nums {zs : List Plc} (h : okAll zs = true) (nums : List Nat) (hn : nums = zs.length :: flatN zs 0 zs.length) : ∀ i, i ≤ zs.length → (lastN nums i : Int) = lastA zs i ∧ ∀ j, j < i → tabRow nums j = zs[j]!
  | 0, _ => ⟨rfl, fun j hj => absurd hj (by omega)⟩
  | i + 1, hi => by
    obtain ⟨h1, h2⟩ := rows_of_nums h nums hn i (by omega)
    obtain ⟨L, A, Z, V, K, N, hL, hp, hLA, hAZ, hZ, hV, hK, hN, hr⟩ := rowNums_small h (j := i) (by omega)
    have hat : ∀ k, k < 5 → nums[1 + 5 * i + k]! = [A - L, Z - A, V, K, N][k]! := by
      intro k hk
      have h3 := flatN_at zs zs.length 0 i k (by omega) hk
      rw [Nat.zero_add, hr] at h3
      have h4 : nums[1 + 5 * i + k]? = (flatN zs 0 zs.length)[5 * i + k]? := by
        rw [hn, show 1 + 5 * i + k = (5 * i + k) + 1 by omega, List.getElem?_cons_succ]
      rw [List.getElem!_eq_getElem?_getD, h4, h3, List.getElem!_eq_getElem?_getD]
    have a0 := hat 0 (by omega)
    have a1 := hat 1 (by omega)
    have a2 := hat 2 (by omega)
    have a3 := hat 3 (by omega)
    have a4 := hat 4 (by omega)
    simp at a0 a1 a2 a3 a4
    have hlast : lastN nums (i + 1) = A := by
      show lastN nums i + nums[1 + 5 * i]! = A
      simp
      rw [a0]
      omega
    refine ⟨?_, fun j hj => ?_⟩
    · rw [hlast]
      unfold lastA
      rw [if_neg (by omega), show i + 1 - 1 = i by omega, hp]
    · by_cases hji : j = i
      · subst hji
        unfold tabRow
        rw [hlast, hp]
        simp [a1, a2, a3, a4]
        omega
      · exact h2 j (by omega)
theorem refDec_enc {zs : List Plc} (hv : valF zs = 0) : refDecP (encF zs) = some zs := by
  obtain ⟨h64, hok⟩ := valF_ok hv
  have e1 : rfP (encF zs) [] 0 0 = some (zs.length :: flatN zs 0 zs.length, 0, 0) := by
    rw [encF_tail, rfP_grp 5 zs.length _ _ _ _ (by omega) (by omega) (by omega), rfP_tail hok _ _ _ (by omega)]
    simp
  obtain ⟨nums, hn⟩ : ∃ nums, nums = zs.length :: flatN zs 0 zs.length := ⟨_, rfl⟩
  have hr := (rows_of_nums hok nums hn zs.length (Nat.le_refl _)).2
  have h0 : nums[0]! = zs.length := by rw [hn]; rfl
  have hl : nums.length = 1 + 5 * zs.length := by rw [hn, List.length_cons, flatN_length]; omega
  have ht : tabOf nums zs.length = zs := by
    apply List.ext_getElem
    · simp [tabOf]
    · intro j h1 h2
      have := hr j h2
      simp [tabOf]
      rw [this]
      simp [h2]
  unfold refDecP
  rw [e1, ← hn]
  simp only [h0, hl, ht, hv]
  rw [if_neg (by omega)]
  simp
theorem refDec_eq {l : List Nat} (hl : ∀ x ∈ l, x < 256) : refDecP l = decP l := by
  cases hd : decP l with
  | some ps =>
    obtain ⟨hv, rfl⟩ := enc_dec hd hl
    exact refDec_enc hv
  | none =>
    cases hr : refDecP l with
    | none => rfl
    | some ps =>
      exfalso
      have : valF ps = 0 ∧ encF ps = l := by
        unfold refDecP at hr
        split at hr
        · cases hr
        · split at hr
          · cases hr
          · split at hr
            · rename_i h
              injection hr with hr
              rw [← hr]
              exact h
            · cases hr
      obtain ⟨hv, rfl⟩ := this
      rw [dec_enc hv] at hd
      cases hd
end Go.Proofs.Ytdpfglpefncigaa
