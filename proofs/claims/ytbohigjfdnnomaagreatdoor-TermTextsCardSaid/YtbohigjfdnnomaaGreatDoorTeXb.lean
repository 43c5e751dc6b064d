/-
  OWN TEXT. The text of a term as mathematics: what Text writes of each node; equal texts of valid terms are those of equal terms.
  OWN TEXT. strconv.Itoa and strings.Join, laid; FormatUint at base 10; the table of powers of ten.
-/
import Derived.Test.YtbohigjfdnnomaaGreatDoorTeM
import Derived.Lib.ItoaLen
import Derived.Lib.Join
import Derived.Test.YtbohigjfdnnomaaGreatDoorRows
import Derived.Shelf.LaysM
import Derived.Shelf.Strconv.Itoa3
import Derived.Shelf.Strings.OnBuilder
import Derived.Lib.AppendIntMem
import Derived.Lib.LaidTab
namespace Go.Proofs.YtbohigjfdnnomaaGreatDoor
section
open Go Go.RowKit

def immT (x : Nd) : List UInt8 := if x.op = 0 ∨ x.op = 33 ∨ x.op = 14 then 46 :: Lib.decDigits x.imm.toNat else []
def cmaT : List Int → List UInt8
  | [] => []
  | a :: l => 44 :: (Lib.itoa a ++ cmaT l)
def wordT (x : Nd) : List UInt8 := Lib.itoa x.op ++ (58 :: (Lib.itoa x.width ++ (immT x ++ cmaT x.args)))
def tailT : List Nd → List UInt8
  | [] => []
  | x :: l => 32 :: (wordT x ++ tailT l)
def textT (T : List Nd) : List UInt8 := Lib.join (T.map wordT) [32]

def dig (b : UInt8) : Prop := 48 ≤ b.toNat ∧ b.toNat ≤ 57
instance (b : UInt8) : Decidable (dig b) := inferInstanceAs (Decidable (_ ∧ _))
/-- A list of bytes that does not go on with a digit. -/
def Ends (s : List UInt8) : Prop := ∀ c r, s = c :: r → ¬ dig c

theorem cut_dig : ∀ (a b s t : List UInt8), (∀ x, x ∈ a → dig x) → (∀ x, x ∈ b → dig x) → Ends s → Ends t → a ++ s = b ++ t → a = b ∧ s = t
  | [], [], s, t, _, _, _, _, h => ⟨rfl, h⟩
  | [], y :: b, s, t, _, hb, hs, _, h => absurd (hb y (List.mem_cons_self ..)) (hs y (b ++ t) h)
  | x :: a, [], s, t, ha, _, _, ht, h => absurd (ha x (List.mem_cons_self ..)) (ht x (a ++ s) h.symm)
  | x :: a, y :: b, s, t, ha, hb, hs, ht, h => by
    rw [List.cons_append, List.cons_append] at h
    injection h with h1 h2
    obtain ⟨h3, h4⟩ := cut_dig a b s t (fun z hz => ha z (List.mem_cons_of_mem _ hz)) (fun z hz => hb z (List.mem_cons_of_mem _ hz)) hs ht h2
    exact ⟨by rw [h1, h3], h4⟩

theorem dig_of {u : Nat} (h : u < 10) : dig (UInt8.ofNat (48 + u)) := by
  unfold dig
  rw [UInt8.toNat_ofNat']
  omega
theorem digits_dig (u : Nat) : ∀ b, b ∈ Lib.decDigits u → dig b := by
  induction u using Nat.strongRecOn with
  | _ u ih =>
    intro b hb
    rw [Lib.decDigits] at hb
    split at hb
    · rename_i h
      rw [List.mem_singleton.1 hb]
      exact dig_of h
    · rcases List.mem_append.1 hb with h | h
      · exact ih _ (by omega) b h
      · rw [List.mem_singleton.1 h]
        exact dig_of (by omega)
theorem digits_ne (u : Nat) : Lib.decDigits u ≠ [] := by
  rw [Lib.decDigits]
  split <;> simp
theorem ofNat_inj {u v : Nat} (hu : u < 10) (hv : v < 10) (h : UInt8.ofNat (48 + u) = UInt8.ofNat (48 + v)) : u = v := by
  have h2 := congrArg UInt8.toNat h
  rw [UInt8.toNat_ofNat', UInt8.toNat_ofNat'] at h2
  omega
theorem dd_small {u : Nat} (h : u < 10) : Lib.decDigits u = [UInt8.ofNat (48 + u)] := by
  rw [Lib.decDigits, dif_pos h]
theorem dd_big {u : Nat} (h : ¬ u < 10) : Lib.decDigits u = Lib.decDigits (u / 10) ++ [UInt8.ofNat (48 + u % 10)] := by
  rw [Lib.decDigits, dif_neg h]
theorem digits_inj (u : Nat) : ∀ v, Lib.decDigits u = Lib.decDigits v → u = v := by
  induction u using Nat.strongRecOn with
  | _ u ih =>
    intro v h
    by_cases h1 : u < 10 <;> by_cases h2 : v < 10
    · rw [dd_small h1, dd_small h2] at h
      exact ofNat_inj h1 h2 (List.singleton_inj.1 h)
    · exfalso
      rw [dd_small h1, dd_big h2] at h
      have h3 := congrArg List.length h
      rw [List.length_append, List.length_singleton, List.length_singleton] at h3
      exact digits_ne (v / 10) (List.eq_nil_of_length_eq_zero (by omega))
    · exfalso
      rw [dd_big h1, dd_small h2] at h
      have h3 := congrArg List.length h
      rw [List.length_append, List.length_singleton, List.length_singleton] at h3
      exact digits_ne (u / 10) (List.eq_nil_of_length_eq_zero (by omega))
    · rw [dd_big h1, dd_big h2] at h
      obtain ⟨h3, h4⟩ := List.append_inj' h rfl
      have h5 := ih _ (by omega) _ h3
      have h6 := ofNat_inj (by omega) (by omega) (List.singleton_inj.1 h4)
      omega
theorem itoa_pos {n : Int} (h : 0 ≤ n) : Lib.itoa n = Lib.decDigits n.toNat := by
  unfold Lib.itoa
  rw [if_neg (by omega)]
theorem cut_itoa {m n : Int} {s t : List UInt8} (hm : 0 ≤ m) (hn : 0 ≤ n) (hs : Ends s) (ht : Ends t) (h : Lib.itoa m ++ s = Lib.itoa n ++ t) : m = n ∧ s = t := by
  rw [itoa_pos hm, itoa_pos hn] at h
  obtain ⟨h1, h2⟩ := cut_dig _ _ _ _ (digits_dig _) (digits_dig _) hs ht h
  have := digits_inj _ _ h1
  exact ⟨by omega, h2⟩

/-- What a text needs of a node. -/
structure WordOk (x : Nd) : Prop where
  op : 0 ≤ x.op
  width : 0 ≤ x.width
  flags : x.flags = 0
  imm : 0 ≤ x.imm
  none : ¬ (x.op = 0 ∨ x.op = 33 ∨ x.op = 14) → x.imm = 0
  args : ∀ a, a ∈ x.args → 0 ≤ a

/-- A list that is empty or goes on with a blank. -/
def Blank (s : List UInt8) : Prop := s = [] ∨ ∃ r, s = 32 :: r
theorem Blank.ends {s : List UInt8} (h : Blank s) : Ends s := by
  intro c r hc
  rcases h with rfl | ⟨r2, rfl⟩
  · exact absurd hc (by simp)
  · injection hc with h1 h2
    rw [← h1]
    decide
theorem ends_cons {c : UInt8} {r : List UInt8} (h : ¬ dig c) : Ends (c :: r) := by
  intro c2 r2 hc
  injection hc with h1 h2
  rw [← h1]
  exact h
theorem no44 : ¬ dig 44 := by decide
theorem no46 : ¬ dig 46 := by decide
theorem no58 : ¬ dig 58 := by decide

theorem args_ends (l : List Int) {s : List UInt8} (hs : Blank s) : Ends (cmaT l ++ s) := by
  cases l with
  | nil => exact hs.ends
  | cons a l => exact ends_cons no44
theorem cut_args : ∀ (l m : List Int) (s t : List UInt8), (∀ a, a ∈ l → 0 ≤ a) → (∀ a, a ∈ m → 0 ≤ a) → Blank s → Blank t → cmaT l ++ s = cmaT m ++ t → l = m ∧ s = t
  | [], [], s, t, _, _, _, _, h => ⟨rfl, h⟩
  | [], b :: m, s, t, _, _, hs, _, h => by
    exfalso
    rcases hs with rfl | ⟨r, rfl⟩
    · exact absurd h (by simp [cmaT])
    · simp only [cmaT, List.nil_append, List.cons_append] at h
      injection h with h1 h2
      exact absurd h1 (by decide)
  | a :: l, [], s, t, _, _, _, ht, h => by
    exfalso
    rcases ht with rfl | ⟨r, rfl⟩
    · exact absurd h (by simp [cmaT])
    · simp only [cmaT, List.nil_append, List.cons_append] at h
      injection h with h1 h2
      exact absurd h1 (by decide)
  | a :: l, b :: m, s, t, hl, hm, hs, ht, h => by
    simp only [cmaT, List.cons_append, List.append_assoc] at h
    injection h with h1 h2
    obtain ⟨h3, h4⟩ := cut_itoa (hl a (List.mem_cons_self ..)) (hm b (List.mem_cons_self ..)) (args_ends l hs) (args_ends m ht) h2
    obtain ⟨h5, h6⟩ := cut_args l m s t (fun z hz => hl z (List.mem_cons_of_mem _ hz)) (fun z hz => hm z (List.mem_cons_of_mem _ hz)) hs ht h4
    exact ⟨by rw [h3, h5], h6⟩
theorem imm_ends (x : Nd) {s : List UInt8} (hs : Blank s) : Ends (immT x ++ (cmaT x.args ++ s)) := by
  unfold immT
  split
  · exact ends_cons no46
  · exact args_ends x.args hs
theorem cut_word {x y : Nd} {s t : List UInt8} (hx : WordOk x) (hy : WordOk y) (hs : Blank s) (ht : Blank t) (h : wordT x ++ s = wordT y ++ t) : x = y ∧ s = t := by
  unfold wordT at h
  simp only [List.cons_append, List.append_assoc] at h
  obtain ⟨e1, h⟩ := cut_itoa hx.op hy.op (ends_cons no58) (ends_cons no58) h
  injection h with _ h
  obtain ⟨e2, h⟩ := cut_itoa hx.width hy.width (imm_ends x hs) (imm_ends y ht) h
  have e3 : x.imm = y.imm ∧ cmaT x.args ++ s = cmaT y.args ++ t := by
    unfold immT at h
    rw [← e1] at h
    by_cases hc : x.op = 0 ∨ x.op = 33 ∨ x.op = 14
    · rw [if_pos hc, if_pos hc, List.cons_append, List.cons_append] at h
      injection h with _ h
      obtain ⟨h1, h2⟩ := cut_dig _ _ _ _ (digits_dig _) (digits_dig _) (args_ends _ hs) (args_ends _ ht) h
      have := digits_inj _ _ h1
      have := hx.imm
      have := hy.imm
      exact ⟨by omega, h2⟩
    · rw [if_neg hc, if_neg hc] at h
      exact ⟨by rw [hx.none hc, hy.none (by rw [← e1]; exact hc)], h⟩
  obtain ⟨e4, e5⟩ := cut_args _ _ _ _ hx.args hy.args hs ht e3.2
  refine ⟨?_, e5⟩
  have e6 := hx.flags
  have e7 := hy.flags
  have e8 := e3.1
  cases x; cases y
  simp only at e1 e2 e4 e6 e7 e8
  subst e1 e2 e4 e6 e7 e8
  rfl
theorem tail_blank (T : List Nd) : Blank (tailT T) := by
  cases T with
  | nil => exact .inl rfl
  | cons x l => exact .inr ⟨_, rfl⟩
theorem cut_tail : ∀ (T U : List Nd), (∀ x, x ∈ T → WordOk x) → (∀ x, x ∈ U → WordOk x) → tailT T = tailT U → T = U
  | [], [], _, _, _ => rfl
  | [], y :: U, _, _, h => by simp [tailT] at h
  | x :: T, [], _, _, h => by simp [tailT] at h
  | x :: T, y :: U, hT, hU, h => by
    simp only [tailT] at h
    injection h with _ h
    obtain ⟨h1, h2⟩ := cut_word (hT x (List.mem_cons_self ..)) (hU y (List.mem_cons_self ..)) (tail_blank T) (tail_blank U) h
    rw [h1, cut_tail T U (fun z hz => hT z (List.mem_cons_of_mem _ hz)) (fun z hz => hU z (List.mem_cons_of_mem _ hz)) h2]
theorem tail_join (T : List Nd) : Lib.joinTail [32] (T.map wordT) = tailT T := by
  induction T with
  | nil => rfl
  | cons x l ih =>
    have h : Lib.joinTail [32] ((x :: l).map wordT) = ([32] ++ wordT x) ++ Lib.joinTail [32] (l.map wordT) := by simp [Lib.joinTail]
    rw [h, ih]
    simp [tailT]
theorem text_tail {T : List Nd} (h : T ≠ []) : 32 :: textT T = tailT T := by
  cases T with
  | nil => exact absurd rfl h
  | cons x l =>
    unfold textT
    rw [List.map_cons, Lib.join_cons, tail_join]
    rfl
theorem val_word {T : List Nd} (hv : valF T = 0) (hi : ∀ k, k < T.length → 0 ≤ T[k]!.imm) : T ≠ [] ∧ ∀ x, x ∈ T → WordOk x := by
  obtain ⟨h1, h2, _⟩ := val_zero.1 hv
  refine ⟨fun e => by rw [e] at h1; simp at h1, fun x hx => ?_⟩
  obtain ⟨k, hk, rfl⟩ := List.getElem_of_mem hx
  have h3 := nod_iff.1 (h2 k hk)
  have h4 := hi k hk
  rw [getElem!_pos T k hk] at h3 h4
  obtain ⟨ho, hf, hw, _, ha, hm⟩ := h3
  refine ⟨by omega, by omega, hf, h4, fun hn => ?_, fun a hA => ?_⟩
  · unfold immB at hm
    rw [if_neg (fun e => hn (.inl e)), if_neg (fun e => hn (.inr (.inl e))), if_neg (fun e => hn (.inr (.inr e)))] at hm
    exact of_decide_eq_true hm
  · obtain ⟨i, hi2, rfl⟩ := List.getElem_of_mem hA
    have := (ha i hi2).1
    rw [getElem!_pos _ i hi2] at this
    exact this
/-- Valid terms have equal texts exactly if they are equal. -/
theorem text_iff {T U : List Nd} (hT : valF T = 0) (hU : valF U = 0) (iT : ∀ k, k < T.length → 0 ≤ T[k]!.imm) (iU : ∀ k, k < U.length → 0 ≤ U[k]!.imm) : textT T = textT U ↔ T = U := by
  obtain ⟨h1, h2⟩ := val_word hT iT
  obtain ⟨h3, h4⟩ := val_word hU iU
  refine ⟨fun h => cut_tail T U h2 h4 ?_, fun h => by rw [h]⟩
  rw [← text_tail h1, ← text_tail h3, h]

/-! ### How long a text is -/
theorem cmaT_len : ∀ (l : List Int), (∀ a, a ∈ l → -9223372036854775808 ≤ a ∧ a ≤ 9223372036854775807) → (cmaT l).length ≤ 22 * l.length
  | [], _ => Nat.le_refl _
  | a :: l, h => by
    have h1 := h a (List.mem_cons_self ..)
    have h2 := Lib.itoa_length_le a h1.1 h1.2
    have h3 := cmaT_len l fun z hz => h z (List.mem_cons_of_mem _ hz)
    simp only [cmaT, List.length_cons, List.length_append]
    omega
end
section
open Go.RowKit Go.Shelf Go.Lib Go.Sort

def itoaLay_ren : Go.Shelf.Ren := ⟨fun | 171 => 20 | 243 => 35 | 246 => 54 | 283 => 55 | 284 => 56 | 285 => 57 | 286 => 58 | 129 => 80 | 317 => 79 | 318 => 81 | 319 => 82 | 320 => 83 | 337 => 101 | 338 => 102 | n => n, fun | 3 => 3 | 9 => 9 | 2 => 2 | 4 => 4 | 171 => 90 | 0 => 0 | 53 => 48 | 37 => 64 | 5 => 5 | 173 => 93 | 212 => 110 | 51 => 36 | 20 => 20 | 213 => 111 | 46 => 112 | 232 => 131 | 233 => 132 | n => n, fun | 17 => 0 | 18 => 3 | 19 => 4 | n => n⟩
theorem itoaLay : Go.Proofs.LaysM.n171 Tryz.prog itoaLay_ren := {
  mixed := by kernel_rfl
  f129 := Tryz.func80.trans (congrArg some (by kernel_rfl))
  f171 := Tryz.func20.trans (congrArg some (by kernel_rfl))
  f243 := Tryz.func35.trans (congrArg some (by kernel_rfl))
  f246 := Tryz.func54.trans (congrArg some (by kernel_rfl))
  f283 := Tryz.func55.trans (congrArg some (by kernel_rfl))
  f284 := Tryz.func56.trans (congrArg some (by kernel_rfl))
  f285 := Tryz.func57.trans (congrArg some (by kernel_rfl))
  f286 := Tryz.func58.trans (congrArg some (by kernel_rfl))
  f317 := Tryz.func79.trans (congrArg some (by kernel_rfl))
  f318 := Tryz.func81.trans (congrArg some (by kernel_rfl))
  f319 := Tryz.func82.trans (congrArg some (by kernel_rfl))
  f320 := Tryz.func83.trans (congrArg some (by kernel_rfl))
  f337 := Tryz.func101.trans (congrArg some (by kernel_rfl))
  f338 := Tryz.func102.trans (congrArg some (by kernel_rfl))
  t0 := Tryz.underlying0
  a0 := Tryz.isAgg0
  z0 := Tryz.sizeOf0
  v0 := Tryz.zeroValue0
  t2 := Tryz.underlying2
  a2 := Tryz.isAgg2
  z2 := Tryz.sizeOf2
  v2 := Tryz.zeroValue2
  t3 := Tryz.underlying3
  a3 := Tryz.isAgg3
  z3 := Tryz.sizeOf3
  v3 := Tryz.zeroValue3
  t4 := Tryz.underlying4
  a4 := Tryz.isAgg4
  z4 := Tryz.sizeOf4
  v4 := Tryz.zeroValue4
  t5 := Tryz.underlying5
  a5 := Tryz.isAgg5
  z5 := Tryz.sizeOf5
  v5 := Tryz.zeroValue5
  t9 := Tryz.underlying9
  a9 := Tryz.isAgg9
  z9 := Tryz.sizeOf9
  v9 := Tryz.zeroValue9
  t20 := Tryz.underlying20
  a20 := Tryz.isAgg20
  z20 := Tryz.sizeOf20
  v20 := Tryz.zeroValue20
  t37 := Tryz.underlying64
  a37 := Tryz.isAgg64
  z37 := Tryz.sizeOf64
  v37 := Tryz.zeroValue64
  t46 := Tryz.underlying112
  a46 := Tryz.isAgg112
  z46 := Tryz.sizeOf112
  v46 := Tryz.zeroValue112
  t51 := Tryz.underlying36
  a51 := Tryz.isAgg36
  z51 := Tryz.sizeOf36
  v51 := Tryz.zeroValue36
  t53 := Tryz.underlying48
  a53 := Tryz.isAgg48
  z53 := Tryz.sizeOf48
  v53 := Tryz.zeroValue48
  t171 := Tryz.underlying90
  a171 := Tryz.isAgg90
  z171 := Tryz.sizeOf90
  v171 := Tryz.zeroValue90
  t173 := Tryz.underlying93
  a173 := Tryz.isAgg93
  z173 := Tryz.sizeOf93
  v173 := Tryz.zeroValue93
  t212 := Tryz.underlying110
  a212 := Tryz.isAgg110
  z212 := Tryz.sizeOf110
  v212 := Tryz.zeroValue110
  t213 := Tryz.underlying111
  a213 := Tryz.isAgg111
  z213 := Tryz.sizeOf111
  t232 := Tryz.underlying131
  a232 := Tryz.isAgg131
  z232 := Tryz.sizeOf131
  v232 := Tryz.zeroValue131
  t233 := Tryz.underlying132
  a233 := Tryz.isAgg132
  z233 := Tryz.sizeOf132
  v233 := Tryz.zeroValue132
  g17 := by kernel_rfl
  g18 := by kernel_rfl
  g19 := by kernel_rfl
  i0 := by kernel_rfl
  i2 := by kernel_rfl
  i3 := by kernel_rfl
  i4 := by kernel_rfl
  i5 := by kernel_rfl
  i9 := by kernel_rfl
  i20 := by kernel_rfl
  i37 := by kernel_rfl
  i46 := by kernel_rfl
  i51 := by kernel_rfl
  i53 := by kernel_rfl
  i171 := by kernel_rfl
  i173 := by kernel_rfl
  i212 := by kernel_rfl
  i232 := by kernel_rfl
  i233 := by kernel_rfl
  m17 := by kernel_rfl
  m18 := by kernel_rfl
  m19 := by kernel_rfl }
def joinLay_ren : Go.Shelf.Ren := ⟨fun | 156 => 22 | 165 => 37 | 166 => 38 | 169 => 39 | 240 => 59 | 241 => 60 | 276 => 84 | 277 => 85 | n => n, fun | 31 => 45 | 9 => 9 | 3 => 3 | 4 => 4 | 0 => 0 | 20 => 20 | 72 => 66 | 76 => 70 | 70 => 63 | 37 => 64 | 75 => 69 | 127 => 95 | 164 => 114 | 5 => 5 | 80 => 72 | n => n, fun | n => n⟩
theorem joinLay : Go.Proofs.Lays.n156 Tryz.prog joinLay_ren := {
  mixed := by kernel_rfl
  f156 := Tryz.func22.trans (congrArg some (by kernel_rfl))
  f165 := Tryz.func37.trans (congrArg some (by kernel_rfl))
  f166 := Tryz.func38.trans (congrArg some (by kernel_rfl))
  f169 := Tryz.func39.trans (congrArg some (by kernel_rfl))
  f240 := Tryz.func59.trans (congrArg some (by kernel_rfl))
  f241 := Tryz.func60.trans (congrArg some (by kernel_rfl))
  f276 := Tryz.func84.trans (congrArg some (by kernel_rfl))
  f277 := Tryz.func85.trans (congrArg some (by kernel_rfl))
  t0 := Tryz.underlying0
  a0 := Tryz.isAgg0
  z0 := Tryz.sizeOf0
  v0 := Tryz.zeroValue0
  t3 := Tryz.underlying3
  a3 := Tryz.isAgg3
  z3 := Tryz.sizeOf3
  v3 := Tryz.zeroValue3
  t4 := Tryz.underlying4
  a4 := Tryz.isAgg4
  z4 := Tryz.sizeOf4
  v4 := Tryz.zeroValue4
  t9 := Tryz.underlying9
  a9 := Tryz.isAgg9
  z9 := Tryz.sizeOf9
  v9 := Tryz.zeroValue9
  t20 := Tryz.underlying20
  a20 := Tryz.isAgg20
  z20 := Tryz.sizeOf20
  v20 := Tryz.zeroValue20
  t31 := Tryz.underlying45
  a31 := Tryz.isAgg45
  z31 := Tryz.sizeOf45
  v31 := Tryz.zeroValue45
  t37 := Tryz.underlying64
  a37 := Tryz.isAgg64
  z37 := Tryz.sizeOf64
  v37 := Tryz.zeroValue64
  t70 := Tryz.underlying63
  a70 := Tryz.isAgg63
  z70 := Tryz.sizeOf63
  v70 := Tryz.zeroValue63
  t72 := Tryz.underlying66
  a72 := Tryz.isAgg66
  z72 := Tryz.sizeOf66
  v72 := Tryz.zeroValue66
  t75 := Tryz.underlying69
  a75 := Tryz.isAgg69
  z75 := Tryz.sizeOf69
  v75 := Tryz.zeroValue69
  t76 := Tryz.underlying70
  a76 := Tryz.isAgg70
  z76 := Tryz.sizeOf70
  v76 := Tryz.zeroValue70
  t127 := Tryz.underlying95
  a127 := Tryz.isAgg95
  z127 := Tryz.sizeOf95
  v127 := Tryz.zeroValue95
  t164 := Tryz.underlying114
  a164 := Tryz.isAgg114
  z164 := Tryz.sizeOf114
  v164 := Tryz.zeroValue114 }
theorem joinExtra : Builder.Extra Tryz.prog joinLay_ren := {
  sizeBuilder := by kernel_rfl
  liesBuilder := by kernel_rfl
  t5 := Tryz.underlying5
  a5 := Tryz.isAgg5
  z5 := Tryz.sizeOf5
  v5 := Tryz.zeroValue5
  infoByte := by kernel_rfl
  cellsByte := by kernel_rfl
  sizeByte := by kernel_rfl
  neB5 := by decide }

def p10A : Array Value := (Lib.pow10Tab.map fun z => Value.int .u64 z).toArray
/-- The table of powers of ten lies. -/
def P10 (w : World) : Prop := ∃ t fr, w.heap[0]? = some (.cells p10A t fr)
theorem P10.below {w w1 : World} (h : P10 w) (hb : Below w.heap.size w w1) : P10 w1 := by
  obtain ⟨t, fr, h⟩ := h
  exact ⟨t, fr, (hb.block _ (lt_of_block h)).trans h⟩
theorem P10.tab {w : World} (hL : P10 w) : Lib.TabIs Tryz.prog w "internal/strconv.uint64pow10" .u64 Lib.pow10Tab := by
  obtain ⟨t, fr, h⟩ := hL
  unfold Lib.TabIs World.var?
  rw [show Tryz.prog.globalNamed "internal/strconv.uint64pow10" = some 0 by kernel_rfl]
  simp only [Option.bind_some]
  rw [h]
  rfl
theorem itoa_any (n : Int) (h0 : -9223372036854775808 ≤ n) (h1 : n ≤ 9223372036854775807) (w : World) (hL : P10 w) : Calls Tryz.prog 20 #[.int .i64 n] w fun e w' => e = .returned (.string ⟨(Lib.itoa n).toArray⟩) ∧ Below w.heap.size w w' :=
  (Any.strconv_Itoa itoaLay n h0 h1 w hL.tab).mono fun e w' h => by
    obtain ⟨h1, k, os, h2⟩ := h
    exact ⟨h1, by rw [h2]; exact below_grow _ w (Nat.le_refl _) k os⟩
theorem join_any (bk o c : Nat) (xs : List (List UInt8)) (w : World) (hcells : ∀ (j : Nat), j < xs.length → w.cell? ⟨bk, o + j, none⟩ = some (.string ⟨xs[j]!.toArray⟩))
    (hbk : bk < w.heap.size) (hN : xs.length ≤ 140737488355328) (hcap : xs.length ≤ c) (hlen : (Lib.join xs [32]).length ≤ 140737488355328) :
    Calls Tryz.prog 22 #[.slice (some ⟨bk, o, none⟩) xs.length c, .string ⟨#[32]⟩] w fun e w' => e = .returned (.string ⟨(Lib.join xs [32]).toArray⟩) ∧ Below w.heap.size w w' := by
  have e : (xs.map fun l => (⟨l.toArray⟩ : ByteArray)).map (·.data.toList) = xs := by
    rw [List.map_map]
    exact (List.map_congr_left fun l _ => rfl).trans (List.map_id xs)
  have h := Any.strings_Join joinLay joinExtra bk o c (xs.map fun l => (⟨l.toArray⟩ : ByteArray)) ⟨#[32]⟩ w (fun j x hx => by
    rw [List.getElem?_map] at hx
    have hj : j < xs.length := by
      rcases Nat.lt_or_ge j xs.length with h | h
      · exact h
      · rw [List.getElem?_eq_none h] at hx
        cases hx
    rw [List.getElem?_eq_getElem hj, Option.map_some] at hx
    injection hx with hx
    rw [hcells j hj, getElem!_pos xs j hj, ← hx]) hbk (by rw [List.length_map]; exact hN) (by rw [List.length_map]; exact hcap) (by rw [e]; exact hlen)
  rw [e, List.length_map] at h
  exact h

set_option maxRecDepth 100000 in
set_option maxHeartbeats 12800000 in
/-- FormatUint at base 10. -/
theorem fmtUint_any (u : Nat) (hu : u < 4294967296) (w : World) (hL : P10 w) :
    Calls Tryz.prog 36 #[.int .u64 u, .int .i64 10] w fun e w' => e = .returned (.string ⟨(Lib.decDigits u).toArray⟩) ∧ Below w.heap.size w w' := by
  have L := itoaLay
  by_cases h100 : u < 100
  · have HS : ∀ w : World, Calls Tryz.prog 55 #[.int .i64 u] w fun e w' => e = .returned (.string ⟨(Lib.decDigits u).toArray⟩) ∧ w' = w := fun w => Any.internal_strconv_small (P := Tryz.prog) (ρ := itoaLay_ren) { L with } u h100 w
    have HS := Lib.hid HS
    clear L
    go_enter Tryz.func36, Tryz.ntmps36
    go_wp2_with fail
    refine (HS.out _).mono ?_
    rintro e w' ⟨rfl, rfl⟩
    go_wp2
    go_ret
    exact ⟨rfl, Below.refl _ _⟩
  · have hu1 : 1 ≤ u := by omega
    have hu64 : u < 18446744073709551616 := by omega
    have hnd20 : Lib.nDigits u ≤ 20 := Lib.nDigits_le20 u hu64
    have hH0 := Lib.holds_zero0 w 90 (Lib.nDigits u) (by omega)
    have hfmt : Calls Tryz.prog 57 #[.slice (some ⟨w.heap.size, 0, none⟩) (Lib.nDigits u) 24, .int .u64 u] (w.alloc (.cells Lib.zeros24 90)) fun e w' => e = .returned (.tuple #[]) ∧ ∃ (n v' : Nat) (dk : Array UInt8), w' = (putRow (fun (b : UInt8) => Value.int .u8 (b.toNat : Int)) (w.alloc (.cells Lib.zeros24 90)) w.heap.size 0 dk).drewN n ∧ FmtInv (Lib.nDigits u) u 0 v' dk := by
      have h := Any.internal_strconv_formatBase10 (P := Tryz.prog) (ρ := itoaLay_ren) { L with } w.heap.size 0 24 u (Array.replicate (Lib.nDigits u) 0) (w.alloc (.cells Lib.zeros24 90)) hH0 (by rw [Array.size_replicate]; exact Lib.lt_pow_nDigits u) hu64 (by rw [Array.size_replicate]; omega)
      rw [Array.size_replicate] at h
      exact h
    have HF := Lib.hid hfmt
    have HH0 := Lib.hid hH0
    clear hH0 hfmt
    have HD : ∀ w : World, P10 w → Calls Tryz.prog 56 #[.int .u64 u] w fun e w' => e = .returned (.int .i64 (Lib.nDigits u)) ∧ w' = w := fun w h => Any.internal_strconv_numDigits (P := Tryz.prog) (ρ := itoaLay_ren) { L with } u hu1 hu64 w h.tab
    have HD := Lib.hid (HD _ (hL.below ((Below.refl w.heap.size w).alloc (Nat.le_refl _) (.cells Lib.zeros24 90))))
    have hal : Tryz.prog.arrayLen 90 = 24 := by kernel_rfl
    have hsl : ∀ W, (Instr.sliceAt 90 (.pointer (some ⟨w.heap.size, 0, none⟩)) none (some (.int .i64 (Lib.nDigits u : Int))) none).run Tryz.prog W = .ok (.slice (some ⟨w.heap.size, 0, none⟩) (Lib.nDigits u) 24) W := fun W => by
      rw [run_sliceAt_array_h W 90 ⟨w.heap.size, 0, none⟩ (by simp [Program.arrayLen, Program.elem, Tryz.underlying90]) .i64 (Lib.nDigits u : Int) (by omega) (by rw [hal]; omega)]
      go_simp
    have L5 := L.t5
    have L9 := L.t9
    have L37 := L.t37
    clear L hL hal
    go_enter Tryz.func36, Tryz.ntmps36
    go_wp2_with fail
    refine HD.out.mono ?_
    rintro e w' ⟨rfl, rfl⟩
    go_wp2_with fail
    refine HF.out.mono ?_
    rintro e w' ⟨rfl, k, v', dk, rfl, hF⟩
    have hcv : (convert 64 9 (.slice (some ⟨w.heap.size, 0, none⟩) (Lib.nDigits u) 24)).run Tryz.prog ((putRow (fun (b : UInt8) => Value.int .u8 (b.toNat : Int)) (w.alloc (.cells Lib.zeros24 90)) w.heap.size 0 dk).drewN k) = .ok (.string ⟨(Lib.decDigits u).toArray⟩) ((putRow (fun (b : UInt8) => Value.int .u8 (b.toNat : Int)) (w.alloc (.cells Lib.zeros24 90)) w.heap.size 0 dk).drewN k) := by
      have h := run_convert_bytes_back (P := Tryz.prog) ((putRow (fun (b : UInt8) => Value.int .u8 (b.toNat : Int)) (w.alloc (.cells Lib.zeros24 90)) w.heap.size 0 dk).drewN k) 64 9 5 ⟨w.heap.size, 0, none⟩ 24 (Lib.decDigits u) L37 L5 L9 (fun j hj => by
        rw [Lib.row_is_numeral hF j hj, Lib.add_plain, World.cell?_drewN]
        exact cell?_putRow (fun (b : UInt8) => Value.int .u8 (b.toNat : Int)) _ w.heap.size 0 _ dk HH0.out (by rw [hF.size, Array.size_replicate]) j (by rw [hF.size]; rw [Lib.decDigits_length] at hj; exact hj))
      rw [Lib.decDigits_length] at h
      exact h
    go_wp2
    go_ret
    obtain ⟨os, eo⟩ := Lib.fin_at w (.cells Lib.zeros24 90) dk k 0
    refine ⟨rfl, ?_⟩
    rw [eo]
    exact below_grow _ w (Nat.le_refl _) k os
set_option maxRecDepth 100000 in
theorem formatUint_any (u : Nat) (hu : u < 4294967296) (w : World) (hL : P10 w) :
    Calls Tryz.prog 21 #[.int .u64 u, .int .i64 10] w fun e w' => e = .returned (.string ⟨(Lib.decDigits u).toArray⟩) ∧ Below w.heap.size w w' := by
  have HF := Lib.hid (fmtUint_any u hu w hL)
  clear hL
  go_enter Tryz.func21, Tryz.ntmps21
  go_wp2_with fail
  refine HF.out.mono ?_
  rintro e w' ⟨rfl, hb⟩
  go_wp2
  go_ret
  exact ⟨rfl, hb⟩
end
end Go.Proofs.YtbohigjfdnnomaaGreatDoor
