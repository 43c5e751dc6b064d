/-
  Numbers read back out of their groups: what is read of a table's bytes is the table, and what a table is read of are its bytes.
-/
import Derived.Test.YtdpfglpefncigaaTrRb
namespace Go.Proofs.Ytdpfglpefncigaa

theorem rdF_grp : ∀ (f s t n m : Nat) (rest : List Nat), f ≤ s → 1 ≤ f → m < 128 ^ f → rdF s t n (grpF f m ++ rest) = (n + m * 2 ^ t, rest, decide (m = 0) && decide (0 < t))
  | 0, _, _, _, _, _, _, h, _ => absurd h (by omega)
  | f + 1, 0, _, _, _, _, h, _, _ => absurd h (by omega)
  | f + 1, s + 1, t, n, m, rest, hf, _, hm => by
    by_cases h : m < 128
    · have e : grpF (f + 1) m = [m] := by unfold grpF; rw [if_pos h]
      rw [e]
      show rdF (s + 1) t n (m :: rest) = _
      unfold rdF
      rw [if_pos h, Nat.mod_eq_of_lt h]
    · have e : grpF (f + 1) m = (m % 128 + 128) :: grpF f (m / 128) := by
        show (if m < 128 then [m] else (m % 128 + 128) :: grpF f (m / 128)) = _
        rw [if_neg h]
      have hf1 : 1 ≤ f := by
        apply Classical.byContradiction
        intro h0
        have : f = 0 := by omega
        subst this
        exact h (by simpa using hm)
      rw [e]
      show rdF (s + 1) t n ((m % 128 + 128) :: (grpF f (m / 128) ++ rest)) = _
      unfold rdF
      have hd : m / 128 < 128 ^ f := by
        rw [Nat.div_lt_iff_lt_mul (by omega)]
        rw [Nat.pow_succ] at hm
        exact hm
      rw [if_neg (by omega), rdF_grp f s (t + 7) _ (m / 128) rest (by omega) hf1 hd]
      have e1 : (m % 128 + 128) % 128 = m % 128 := by omega
      have e2 : n + m % 128 * 2 ^ t + m / 128 * 2 ^ (t + 7) = n + m * 2 ^ t := by
        rw [Nat.pow_add, Nat.mul_comm (2 ^ t) (2 ^ 7), ← Nat.mul_assoc, Nat.add_assoc, ← Nat.add_mul]
        rw [show m % 128 + m / 128 * 2 ^ 7 = m by omega]
      have e3 : decide (m / 128 = 0) = false := decide_eq_false (by omega)
      have e4 : decide (m = 0) = false := decide_eq_false (by omega)
      rw [e1, e2, e3, e4]
      rfl
theorem nxt_grp (m : Nat) (rest : List Nat) (bad : Bool) (hm : m < 34359738368) : nxt (grpF 5 m ++ rest, bad) = (rest, bad) := by
  unfold nxt
  rw [rdF_grp 5 6 0 0 m rest (by omega) (by omega) (by omega)]
  simp
theorem num_grp (m : Nat) (rest : List Nat) (bad : Bool) (hm : m < 34359738368) : num (grpF 5 m ++ rest, bad) = m := by
  unfold num
  rw [rdF_grp 5 6 0 0 m rest (by omega) (by omega) (by omega)]
  simp
/-- Five numbers of a row. -/
theorem row_grp (a b c d e : Nat) (rest : List Nat) (ha : a < 34359738368) (hb : b < 34359738368) (hc : c < 34359738368) (hd : d < 34359738368) (he : e < 34359738368) :
    stN 5 (grpAll [a, b, c, d, e] ++ rest, false) = (rest, false) ∧ num (grpAll [a, b, c, d, e] ++ rest, false) = a ∧ num (stN 1 (grpAll [a, b, c, d, e] ++ rest, false)) = b ∧ num (stN 2 (grpAll [a, b, c, d, e] ++ rest, false)) = c ∧ num (stN 3 (grpAll [a, b, c, d, e] ++ rest, false)) = d ∧ num (stN 4 (grpAll [a, b, c, d, e] ++ rest, false)) = e := by
  have e0 : grpAll [a, b, c, d, e] ++ rest = grpF 5 a ++ (grpF 5 b ++ (grpF 5 c ++ (grpF 5 d ++ (grpF 5 e ++ rest)))) := by
    simp [grpAll, List.append_assoc]
  rw [e0]
  have s1 : stN 1 (grpF 5 a ++ (grpF 5 b ++ (grpF 5 c ++ (grpF 5 d ++ (grpF 5 e ++ rest)))), false) = (grpF 5 b ++ (grpF 5 c ++ (grpF 5 d ++ (grpF 5 e ++ rest))), false) := by
    show nxt _ = _
    exact nxt_grp a _ _ ha
  have s2 : stN 2 (grpF 5 a ++ (grpF 5 b ++ (grpF 5 c ++ (grpF 5 d ++ (grpF 5 e ++ rest)))), false) = (grpF 5 c ++ (grpF 5 d ++ (grpF 5 e ++ rest)), false) := by
    show nxt (stN 1 _) = _
    rw [s1]
    exact nxt_grp b _ _ hb
  have s3 : stN 3 (grpF 5 a ++ (grpF 5 b ++ (grpF 5 c ++ (grpF 5 d ++ (grpF 5 e ++ rest)))), false) = (grpF 5 d ++ (grpF 5 e ++ rest), false) := by
    show nxt (stN 2 _) = _
    rw [s2]
    exact nxt_grp c _ _ hc
  have s4 : stN 4 (grpF 5 a ++ (grpF 5 b ++ (grpF 5 c ++ (grpF 5 d ++ (grpF 5 e ++ rest)))), false) = (grpF 5 e ++ rest, false) := by
    show nxt (stN 3 _) = _
    rw [s3]
    exact nxt_grp d _ _ hd
  have s5 : stN 5 (grpF 5 a ++ (grpF 5 b ++ (grpF 5 c ++ (grpF 5 d ++ (grpF 5 e ++ rest)))), false) = (rest, false) := by
    show nxt (stN 4 _) = _
    rw [s4]
    exact nxt_grp e _ _ he
  rw [s1, s2, s3, s4, s5]
  exact ⟨rfl, num_grp a _ _ ha, num_grp b _ _ hb, num_grp c _ _ hc, num_grp d _ _ hd, num_grp e _ _ he⟩
/-- The bytes of some rows from one on. -/
def tailB (zs : List Plc) (i f : Nat) : List Nat := (List.range' i f).flatMap fun j => grpAll (rowNums (lastA zs j) zs[j]!)
theorem tailB_succ (zs : List Plc) (i f : Nat) : tailB zs i (f + 1) = grpAll (rowNums (lastA zs i) zs[i]!) ++ tailB zs (i + 1) f := by
  unfold tailB
  rw [List.range'_succ, List.flatMap_cons]
theorem encF_tail (zs : List Plc) : encF zs = grpF 5 zs.length ++ tailB zs 0 zs.length := by
  unfold encF encUpto tailB
  rw [List.range_eq_range']
/-- A row's numbers are small. -/
theorem rowNums_small {zs : List Plc} (h : okAll zs = true) {j : Nat} (hj : j < zs.length) : ∃ L A Z V K N : Nat, lastA zs j = L ∧ zs[j]! = ⟨A, Z, V, K, N⟩ ∧ L ≤ A ∧ A < Z ∧ Z ≤ 32768 ∧ V ≤ 63 ∧ K ≤ 2 ∧ N ≤ 4294967295 ∧ rowNums (lastA zs j) zs[j]! = [A - L, Z - A, V, K, N] := by
  obtain ⟨L, hL, hLa⟩ := last_nums h hj
  obtain ⟨A, Z, V, K, N, hp, h1, h2, h3, h4, h5⟩ := place_nums (okAt_place (okAll_at h hj))
  rw [hp] at hLa
  simp only at hLa
  refine ⟨L, A, Z, V, K, N, hL, hp, by omega, h1, h2, h3, h4, h5, ?_⟩
  rw [hL, hp]
  unfold rowNums
  simp only
  rw [show ((A : Int) - (L : Int)).toNat = A - L by omega, show ((Z : Int) - (A : Int)).toNat = Z - A by omega]
  simp
theorem rows_back {zs : List Plc} (h : okAll zs = true) (s : RdS) (hs : s = (tailB zs 0 zs.length, false)) : ∀ i, i ≤ zs.length → rowS s i = (tailB zs i (zs.length - i), false) ∧ (fromS s i : Int) = lastA zs i ∧ ∀ j, j < i → rowOf s j = zs[j]!
  | 0, _ => by
    refine ⟨?_, rfl, fun j hj => absurd hj (by omega)⟩
    show s = _
    rw [hs]
    rfl
  | i + 1, hi => by
    obtain ⟨h1, h2, h3⟩ := rows_back h s hs i (by omega)
    obtain ⟨L, A, Z, V, K, N, hL, hp, hLA, hAZ, hZ, hV, hK, hN, hr⟩ := rowNums_small h (j := i) (by omega)
    have ht : tailB zs i (zs.length - i) = grpAll [A - L, Z - A, V, K, N] ++ tailB zs (i + 1) (zs.length - (i + 1)) := by
      rw [show zs.length - i = (zs.length - (i + 1)) + 1 by omega, tailB_succ, hr]
    obtain ⟨r1, r2, r3, r4, r5, r6⟩ := row_grp (A - L) (Z - A) V K N (tailB zs (i + 1) (zs.length - (i + 1))) (by omega) (by omega) (by omega) (by omega) (by omega)
    rw [ht] at h1
    rw [← h1] at r1 r2 r3 r4 r5 r6
    have hfrom : fromS s (i + 1) = A := by
      show fromS s i + num (rowS s i) = A
      rw [r2]
      omega
    refine ⟨?_, ?_, fun j hj => ?_⟩
    · show stN 5 (rowS s i) = _
      exact r1
    · rw [hfrom]
      unfold lastA
      rw [if_neg (by omega), show i + 1 - 1 = i by omega, hp]
    · by_cases hji : j = i
      · subst hji
        unfold rowOf
        rw [hfrom, r3, r4, r5, r6, hp]
        rw [show A + (Z - A) = Z by omega]
      · exact h3 j (by omega)
theorem range_rows (zs : List Plc) (s : RdS) (h : ∀ j, j < zs.length → rowOf s j = zs[j]!) : rowsS s zs.length = zs := by
  apply List.ext_getElem
  · simp [rowsS]
  · intro j h1 h2
    have := h j h2
    simp [rowsS]
    rw [this]
    simp [h2]
/-- What a right table's bytes are read as. -/
theorem dec_enc {zs : List Plc} (hv : valF zs = 0) : decP (encF zs) = some zs := by
  obtain ⟨h64, hok⟩ := valF_ok hv
  have hb := rows_back hok (tailB zs 0 zs.length, false) rfl zs.length (Nat.le_refl _)
  have hr := range_rows zs _ hb.2.2
  have e1 : nxt (encF zs, false) = (tailB zs 0 zs.length, false) := by rw [encF_tail]; exact nxt_grp _ _ _ (by omega)
  have e2 : num (encF zs, false) = zs.length := by rw [encF_tail]; exact num_grp _ _ _ (by omega)
  unfold decP
  simp only [e1, e2, hr, hb.1, hv]
  simp
  exact ⟨h64, rfl⟩
/-! ### Back: what a table is read of -/
theorem grpF_fuel : ∀ (f m : Nat), 1 ≤ f → m < 128 ^ f → grpF (f + 1) m = grpF f m
  | 0, _, h, _ => absurd h (by omega)
  | f + 1, m, _, hm => by
    show (if m < 128 then [m] else (m % 128 + 128) :: grpF (f + 1) (m / 128)) = if m < 128 then [m] else (m % 128 + 128) :: grpF f (m / 128)
    by_cases h : m < 128
    · rw [if_pos h, if_pos h]
    · rw [if_neg h, if_neg h]
      have hf1 : 1 ≤ f := by
        apply Classical.byContradiction
        intro h0
        have : f = 0 := by omega
        subst this
        exact h (by simpa using hm)
      rw [grpF_fuel f (m / 128) hf1 (by
        rw [Nat.div_lt_iff_lt_mul (by omega)]
        rw [Nat.pow_succ] at hm
        exact hm)]
theorem rdF_back : ∀ (s t n : Nat) (l : List Nat), (rdF s t n l).2.2 = false → (∀ x ∈ l, x < 256) → ∃ m, m < 128 ^ s ∧ (rdF s t n l).1 = n + m * 2 ^ t ∧ l = grpF s m ++ (rdF s t n l).2.1 ∧ (0 < t → m ≠ 0)
  | 0, _, _, _, h, _ => by simp [rdF] at h
  | s + 1, _, _, [], h, _ => by simp [rdF] at h
  | s + 1, t, n, x :: l, h, hl => by
    have hx : x < 256 := hl x (by simp)
    by_cases hx2 : x < 128
    · have e : rdF (s + 1) t n (x :: l) = (n + x % 128 * 2 ^ t, l, decide (x = 0) && decide (0 < t)) := by
        show (if x < 128 then _ else _) = _
        rw [if_pos hx2]
      rw [e] at h ⊢
      refine ⟨x, ?_, by rw [Nat.mod_eq_of_lt hx2], ?_, ?_⟩
      · rw [Nat.pow_succ]
        have := Nat.one_le_two_pow (n := 0)
        have h1 : 1 ≤ 128 ^ s := Nat.one_le_pow _ _ (by omega)
        omega
      · show x :: l = (if x < 128 then [x] else _) ++ l
        rw [if_pos hx2]
        rfl
      · intro ht h0
        simp [h0, ht] at h
    · have e : rdF (s + 1) t n (x :: l) = rdF s (t + 7) (n + x % 128 * 2 ^ t) l := by
        show (if x < 128 then _ else _) = _
        rw [if_neg hx2]
      rw [e] at h ⊢
      obtain ⟨m, h1, h2, h3, h4⟩ := rdF_back s (t + 7) (n + x % 128 * 2 ^ t) l h (fun y hy => hl y (by simp [hy]))
      have hm0 := h4 (by omega)
      refine ⟨x % 128 + 128 * m, ?_, ?_, ?_, fun _ => by omega⟩
      · rw [Nat.pow_succ]
        omega
      · rw [h2, Nat.pow_add, Nat.add_assoc, Nat.add_mul]
        rw [show m * (2 ^ t * 2 ^ 7) = 128 * m * 2 ^ t by rw [Nat.mul_comm (2 ^ t), ← Nat.mul_assoc, Nat.mul_comm m]]
      · show x :: l = (if x % 128 + 128 * m < 128 then _ else ((x % 128 + 128 * m) % 128 + 128) :: grpF s ((x % 128 + 128 * m) / 128)) ++ _
        rw [if_neg (by omega), show (x % 128 + 128 * m) % 128 + 128 = x by omega, show (x % 128 + 128 * m) / 128 = m by omega, List.cons_append, ← h3]
/-- A number that was read rightly: its bytes are its groups. -/
theorem nxt_back (s : RdS) (h : (nxt s).2 = false) (hl : ∀ x ∈ s.1, x < 256) : s.2 = false ∧ s.1 = grpF 6 (num s) ++ (nxt s).1 := by
  unfold nxt at h ⊢
  simp only [Bool.or_eq_false_iff] at h
  obtain ⟨m, h1, h2, h3, h4⟩ := rdF_back 6 0 0 s.1 h.2 hl
  refine ⟨h.1, ?_⟩
  have e : num s = m := by
    unfold num
    rw [h2]
    simp
  rw [e]
  exact h3
theorem nxt_sub (s : RdS) (hl : ∀ x ∈ s.1, x < 256) (h : (nxt s).2 = false) : ∀ x ∈ (nxt s).1, x < 256 := by
  intro x hx
  have := (nxt_back s h hl).2
  rw [this] at hl
  exact hl x (by simp [hx])
theorem stN_back : ∀ (k : Nat) (s : RdS), (stN k s).2 = false → (∀ x ∈ s.1, x < 256) → s.2 = false ∧ (∀ x ∈ (stN k s).1, x < 256) ∧ (∀ j, j ≤ k → (stN j s).2 = false) ∧ s.1 = ((List.range k).flatMap fun j => grpF 6 (num (stN j s))) ++ (stN k s).1
  | 0, s, h, hl => ⟨h, hl, (fun j hj => by rw [Nat.le_zero.1 hj]; exact h), rfl⟩
  | k + 1, s, h, hl => by
    have h0 : (nxt (stN k s)).2 = false := h
    have hk : (stN k s).2 = false := by
      unfold nxt at h0
      simp only [Bool.or_eq_false_iff] at h0
      exact h0.1
    obtain ⟨h1, h2, h3, h4⟩ := stN_back k s hk hl
    obtain ⟨_, h6⟩ := nxt_back (stN k s) h0 h2
    refine ⟨h1, nxt_sub _ h2 h0, fun j hj => ?_, ?_⟩
    · by_cases hj2 : j = k + 1
      · subst hj2; exact h
      · exact h3 j (by omega)
    · rw [List.range_succ, List.flatMap_append, List.append_assoc]
      show s.1 = _ ++ (_ ++ (nxt (stN k s)).1)
      rw [show (List.flatMap (fun j => grpF 6 (num (stN j s))) [k]) = grpF 6 (num (stN k s)) by simp, ← h6]
      exact h4
/-- The bytes of a row as it was read. -/
def rowB (s : RdS) : List Nat := (List.range 5).flatMap fun j => grpF 6 (num (stN j s))
theorem rowS_back : ∀ (i : Nat) (s : RdS), (rowS s i).2 = false → (∀ x ∈ s.1, x < 256) → s.2 = false ∧ (∀ x ∈ (rowS s i).1, x < 256) ∧ s.1 = ((List.range i).flatMap fun j => rowB (rowS s j)) ++ (rowS s i).1
  | 0, s, h, hl => ⟨h, hl, rfl⟩
  | i + 1, s, h, hl => by
    have h0 : (stN 5 (rowS s i)).2 = false := h
    have hi : (rowS s i).2 = false := by
      have e : ∀ (k : Nat) (q : RdS), (stN k q).2 = false → q.2 = false := by
        intro k
        induction k with
        | zero => exact fun q h => h
        | succ k ih =>
          intro q h
          have h : (nxt (stN k q)).2 = false := h
          unfold nxt at h
          simp only [Bool.or_eq_false_iff] at h
          exact ih q h.1
      exact e 5 _ h0
    obtain ⟨h1, h2, h3⟩ := rowS_back i s hi hl
    obtain ⟨_, h5, _, h6⟩ := stN_back 5 (rowS s i) h0 h2
    refine ⟨h1, h5, ?_⟩
    rw [List.range_succ, List.flatMap_append, List.append_assoc]
    show s.1 = _ ++ (_ ++ (stN 5 (rowS s i)).1)
    rw [show (List.flatMap (fun j => rowB (rowS s j)) [i]) = rowB (rowS s i) by simp]
    unfold rowB
    rw [← h6]
    exact h3
theorem rowsS_at (s : RdS) {c i : Nat} (h : i < c) : (rowsS s c)[i]! = rowOf s i := by simp [rowsS, h]
def zsAt (ps : List Plc) (i : Nat) : Plc := ps[i]!
theorem enc_dec {l : List Nat} {ps : List Plc} (h : decP l = some ps) (hl : ∀ x ∈ l, x < 256) : valF ps = 0 ∧ encF ps = l := by
  unfold decP at h
  simp only at h
  split at h
  · cases h
  rename_i ha
  split at h
  · cases h
  rename_i hb
  simp only [Bool.or_eq_true, decide_eq_true_eq, not_or] at ha hb
  injection h with h
  obtain ⟨⟨hb1, hb2⟩, hb3⟩ := hb
  have hv : valF ps = 0 := by
    rw [← h]
    exact Classical.not_not.1 hb3
  refine ⟨hv, ?_⟩
  have hn2 : (nxt (l, false)).2 = false := by simpa using ha.1
  obtain ⟨_, h1⟩ := nxt_back (l, false) hn2 hl
  have hsub := nxt_sub (l, false) hl hn2
  obtain ⟨c, hc⟩ : ∃ c, c = num (l, false) := ⟨_, rfl⟩
  obtain ⟨s, hs⟩ : ∃ s, s = nxt (l, false) := ⟨_, rfl⟩
  rw [← hc] at ha h1 hb1 hb2 h
  rw [← hs] at hb1 hb2 h hsub h1
  simp only at h1
  obtain ⟨_, _, h3⟩ := rowS_back c s (by simpa using hb1) hsub
  have he : (rowS s c).1 = [] := List.eq_nil_of_length_eq_zero (by omega)
  rw [he, List.append_nil] at h3
  have hlen : ps.length = c := by rw [← h, rowsS_length]
  obtain ⟨_, hok⟩ := valF_ok hv
  rw [h1, h3, encF_tail, hlen]
  have e0 : grpF 6 c = grpF 5 c := grpF_fuel 5 c (by omega) (by omega)
  rw [e0]
  congr 1
  unfold tailB
  rw [List.range_eq_range'] at *
  rw [List.flatMap_def, List.flatMap_def]
  congr 1
  apply List.map_congr_left
  intro i hi
  have hic : i < c := by simpa using hi
  obtain ⟨L, A, Z, V, K, N, hL, hp, hLA, hAZ, hZ, hV, hK, hN, hr⟩ := rowNums_small hok (j := i) (by omega)
  have hrow : zsAt ps i = rowOf s i := by
    unfold zsAt
    rw [← h]
    exact rowsS_at s hic
  unfold zsAt at hrow
  rw [hr]
  rw [hp] at hrow
  unfold rowOf at hrow
  injection hrow with q1 q2 q3 q4 q5
  have hfl : (fromS s i : Int) = lastA ps i := by
    unfold lastA
    by_cases hi0 : i = 0
    · rw [if_pos hi0, hi0]; rfl
    · rw [if_neg hi0, ← h, rowsS_at s (show i - 1 < c by omega)]
      unfold rowOf
      simp only
      rw [show i - 1 + 1 = i by omega]
  rw [hL] at hfl
  have hf1 : fromS s (i + 1) = fromS s i + num (rowS s i) := rfl
  have n0 : num (rowS s i) = A - L := by omega
  have n1 : num (stN 1 (rowS s i)) = Z - A := by omega
  have n2 : num (stN 2 (rowS s i)) = V := by omega
  have n3 : num (stN 3 (rowS s i)) = K := by omega
  have n4 : num (stN 4 (rowS s i)) = N := by omega
  have n00 : num (stN 0 (rowS s i)) = A - L := n0
  have er : List.range 5 = [0, 1, 2, 3, 4] := by decide
  unfold rowB grpAll
  rw [er]
  simp only [List.flatMap_cons, List.flatMap_nil, n00, n1, n2, n3, n4]
  rw [grpF_fuel 5 (A - L) (by omega) (by omega), grpF_fuel 5 (Z - A) (by omega) (by omega), grpF_fuel 5 V (by omega) (by omega), grpF_fuel 5 K (by omega) (by omega), grpF_fuel 5 N (by omega) (by omega)]
end Go.Proofs.Ytdpfglpefncigaa
