/-
  Own rows of instructions; apply, IsOrder, Apply of both packages.
-/
import Derived.Test.YtjlacdnkncgpaaaTmZ
namespace Go.Proofs.Ytjlacdnkncgpaaa
open Go.RowKit

def codesV (ps : List Cod) : List Value := ps.flatMap encC
theorem codesV_append (a b : List Cod) : codesV (a ++ b) = codesV a ++ codesV b := by simp [codesV]
theorem codesV_at : ∀ (ps : List Cod) (j i : Nat) (v : Value), j < ps.length → (encC ps[j]!)[i]? = some v → (codesV ps)[j * 6 + i]? = some v
  | [], j, _, _, h, _ => absurd h (by simp)
  | p :: ps, 0, i, v, _, h => by
    have hi : i < (encC p).length := (List.getElem?_eq_some_iff.1 h).1
    show (encC p ++ codesV ps)[0 * 6 + i]? = some v
    rw [List.getElem?_append_left (by omega), Nat.zero_mul, Nat.zero_add]
    exact h
  | p :: ps, j + 1, i, v, hj, h => by
    show (encC p ++ codesV ps)[(j + 1) * 6 + i]? = some v
    have hl : (encC p).length = 6 := rfl
    rw [List.getElem?_append_right (by omega), hl, show (j + 1) * 6 + i - 6 = j * 6 + i by omega]
    exact codesV_at ps j i v (by simpa using hj) (by simpa using h)
theorem lies_own {w : World} {base g cap : Nat} {ps : List Cod} (h : w.ownsRow base 47 6 (.slice (some ⟨g, 0, none⟩) ps.length cap) ps.length (codesV ps)) : Lies w g 0 ps := by
  refine ⟨(h.lt g rfl).2, fun j hj i v hv => ?_⟩
  have := h.cells (g := g) rfl (j * 6 + i) v (codesV_at ps j i v hj hv)
  have e : (⟨g, 0, none⟩ : Addr).add (j * 6 + i) = ⟨g, 0 + j * 6 + i, none⟩ := by
    unfold Addr.add
    split
    · rename_i h0
      simp at h0
      simp [h0]
    · simp
  rw [← e]
  exact this
/-- A row of the call's own is a stretch. -/
theorem tab_own {w : World} {base : Nat} {v : Value} {ps : List Cod} (h : w.ownsRow base 47 6 v ps.length (codesV ps)) : ∃ A c, v = .slice A ps.length c ∧ Tab w A ps.length c ps := by
  have h0 := h
  rcases h.2 with ⟨rfl, h1⟩ | ⟨g, cap, cur, rfl, _, _, h2, h3, _⟩
  · have hp : ps = [] := List.eq_nil_of_length_eq_zero h1
    subst hp
    exact ⟨none, 0, rfl, rfl, Nat.le_refl _, by omega, .inl rfl⟩
  · exact ⟨_, cap, rfl, rfl, h2, by unfold maxLen at h3; omega, .inr ⟨g, 0, rfl, lies_own h0⟩⟩
theorem tab_none (w : World) : Tab w none 0 0 [] := ⟨rfl, Nat.le_refl _, by omega, .inl rfl⟩
theorem infoCd : (Try.prog.info? 47).map (fun i => (i.zero, i.size, i.bytes)) = some (some (.agg #[.int .i64 0, .int .i64 0, .int .i64 0, .int .i64 0, .int .u32 0, .int .i64 0]), 6, 48) := by kernel_rfl
theorem news6 {W : World} {B : Nat} {a b c d e f : Value} {t : TypeId} {fr : Nat × Nat} (h : W.heap[B]? = some (.cells #[a, b, c, d, e, f] t fr)) : ∀ j u, [a, b, c, d, e, f][j]? = some u → W.cell? ((⟨B, 0, none⟩ : Addr).add j) = some u := by
  obtain ⟨h0, h1, h2, h3, h4, h5⟩ := cells6 h
  intro j u hj
  match j, hj with
  | 0, hj => simp at hj; subst hj; exact h0
  | 1, hj => simp at hj; subst hj; exact h1
  | 2, hj => simp at hj; subst hj; exact h2
  | 3, hj => simp at hj; subst hj; exact h3
  | 4, hj => simp at hj; subst hj; exact h4
  | 5, hj => simp at hj; subst hj; exact h5
  | n + 6, hj => simp at hj
/-- The instructions in an order. -/
def appL (zs : List Cod) (os : List Int) (k : Nat) : List Cod := (os.take k).map fun i => zs[i.toNat]!
theorem appL_succ {zs : List Cod} {os : List Int} {k : Nat} (h : k < os.length) : appL zs os (k + 1) = appL zs os k ++ [zs[os[k]!.toNat]!] := by
  unfold appL
  rw [List.take_succ_eq_append_getElem h, List.map_append, show os[k]! = os[k] by simp [h]]
  rfl
theorem appL_len {zs : List Cod} {os : List Int} {k : Nat} (h : k ≤ os.length) : (appL zs os k).length = k := by
  unfold appL
  rw [List.length_map, List.length_take]
  omega
theorem err_cases (zs : List Cod) (os : List Int) : errF zs os = 0 ∧ valF zs = 0 ∧ permB zs.length os = true ∨ errF zs os = 1 ∨ errF zs os = 3 := by
  unfold errF
  rcases val_cases zs with h | h | h
  · rw [h]
    by_cases hp : permB zs.length os = true
    · rw [if_pos rfl, if_pos hp]; exact .inl ⟨rfl, rfl, hp⟩
    · rw [if_pos rfl, if_neg hp]; exact .inr (.inl rfl)
  · rw [h, if_neg (by omega)]; exact .inr (.inl rfl)
  · rw [h, if_neg (by omega)]; exact .inr (.inr rfl)
/-- What IsOrder answers. -/
def isF (zs : List Cod) (os : List Int) : Bool := decide (errF zs os = 0) && ordB zs os
def aerF (zs : List Cod) (os : List Int) : Int := if errF zs os = 0 then (if ordB zs os then 0 else 7) else errF zs os
def resA (zs : List Cod) (os : List Int) : List Cod := if errF zs os = 0 ∧ ordB zs os = true then appL zs os os.length else []
section
variable {w : World} {A A2 : Option Addr} {n c c2 : Nat} {zs : List Cod} {os : List Int}
set_option maxRecDepth 100000 in
set_option maxHeartbeats 4000000 in
theorem apply_low (h : Tab w A n c zs) (ho : Ints w A2 n c2 os) (n40 : n ≤ 40) (hp : permB n os = true) :
    Calls Try.prog 43 #[.slice A n c, .slice A2 n c2] w fun e w' => ∃ v, e = .returned v ∧ w'.ownsRow w.heap.size 47 6 v n (codesV (appL zs os n)) ∧ Below w.heap.size w w' := by
  obtain ⟨i0, hi, hz0, hz1, hz2⟩ := info_parts infoCd
  have HT := Lib.hid h
  have HO := Lib.hid ho
  have HN2 := Lib.hid ho.1
  have hcap := h.2.1
  have hcap2 := ho.2.1
  have HP := Lib.hid (fun (i : Nat) (hi : i < n) => perm_at hp hi)
  clear h ho hp
  go_enter Try.func43, Try.ntmps43
  go_wp2
  go_loopw [5, 10] (fun vl zi wr => ∃ i : Nat, i ≤ n ∧ zi = .int .i64 (i : Int) ∧ wr.ownsRow w.heap.size 47 6 vl i (codesV (appL zs os i)) ∧ Below w.heap.size w wr) (fun _ zi _ => n - (intOf zi).toNat)
  case atStart => exact ⟨0, by omega, rfl, World.ownsRow_nil _ _ _ _, Below.refl _ _⟩
  case round =>
    obtain ⟨i, hin, rfl, hown, hb⟩ := hrel
    by_cases hlt : i < n
    · obtain ⟨b2, off2, rfl, hg2, hc2⟩ := (HO.out.below hb).at_ hlt
      have hpk := HP.out i hlt
      have HS := Lib.hid (appL_succ (zs := zs) (os := os) (k := i) (by rw [← HN2.out]; exact hlt))
      generalize os[i]! = p at hc2 hpk HS
      obtain ⟨I, rfl⟩ : ∃ I : Nat, p = (I : Int) := ⟨p.toNat, by omega⟩
      have hI : I < n := by omega
      rw [show ((I : Int)).toNat = I from rfl] at HS
      obtain ⟨b0, off, rfl, hbs, ht⟩ := (HT.out.below hb).at_ hI
      generalize zs[I]! = x at ht HS
      obtain ⟨op, d, a, b, imm, to⟩ := x
      obtain ⟨c0, c1, c2', c3, c4, c5⟩ := ht
      simp only at c0 c1 c2' c3 c4 c5
      clear hpk
      go_wp2_with (at_builtin; refine wpList_append_own _ rfl _ _ 22 rfl w.heap.size 47 i0 (.agg #[.int .i64 0, .int .i64 0, .int .i64 0, .int .i64 0, .int .u32 0, .int .i64 0]) 6 48 Try.underlying22 hi hz0 hz1 hz2 rfl (by decide) _ i _ rfl (hown.alloc _) ⟨wr.heap.size, 0, none⟩ 1 1 [.int .i64 op, .int .i64 d, .int .i64 a, .int .i64 b, .int .u32 imm, .int .i64 to] rfl rfl ?k1 ?k2 ?k3 ?k4 ?k5 ?_)
      case k1 => exact news6 (heap_alloc_new wr _)
      case k2 => intro u hu; simp at hu; rcases hu with rfl | rfl | rfl | rfl | rfl | rfl <;> rfl
      case k3 => unfold maxLen; omega
      case k4 => omega
      case k5 => have := hb.size; simp; omega
      intro v2 w7 hown7 hgrow _
      have hb5 : Below w.heap.size w w7 := (hb.alloc hb.size _).grown hgrow (by have := hb.size; simp; omega) (own_base (hown.alloc (.cells #[.int .i64 op, .int .i64 d, .int .i64 a, .int .i64 b, .int .u32 imm, .int .i64 to] 47)))
      have HO8 := Lib.hid (show w7.ownsRow w.heap.size 47 6 v2 (i + 1) (codesV (appL zs os (i + 1))) by
        rw [HS.out, codesV_append]
        exact hown7)
      clear hown hown7 hgrow hb c0 c1 c2' c3 c4 c5 hc2
      go_wp2
      go_roundw
      case rel => exact ⟨i + 1, by omega, by go_num, HO8.out, hb5⟩
      case measure => simp [intOf]; omega
    · obtain rfl : i = n := by omega
      go_wp2
      go_ret
      exact ⟨_, rfl, hown, hb⟩
set_option maxRecDepth 100000 in
set_option maxHeartbeats 4000000 in
theorem refApply_low (h : Tab w A n c zs) (ho : Ints w A2 n c2 os) (n40 : n ≤ 40) (hp : permB n os = true) :
    Calls Try.prog 44 #[.slice A n c, .slice A2 n c2] w fun e w' => ∃ v, e = .returned v ∧ w'.ownsRow w.heap.size 47 6 v n (codesV (appL zs os n)) ∧ Below w.heap.size w w' := by
  obtain ⟨i0, hi, hz0, hz1, hz2⟩ := info_parts infoCd
  have HT := Lib.hid h
  have HO := Lib.hid ho
  have HN2 := Lib.hid ho.1
  have hcap := h.2.1
  have hcap2 := ho.2.1
  have HP := Lib.hid (fun (i : Nat) (hi : i < n) => perm_at hp hi)
  clear h ho hp
  go_enter Try.func44, Try.ntmps44
  go_wp2
  go_loopw [5, 6] (fun vl zi wr => ∃ i : Nat, i ≤ n ∧ zi = .int .i64 (i : Int) ∧ wr.ownsRow w.heap.size 47 6 vl i (codesV (appL zs os i)) ∧ Below w.heap.size w wr) (fun _ zi _ => n - (intOf zi).toNat)
  case atStart => exact ⟨0, by omega, rfl, World.ownsRow_nil _ _ _ _, Below.refl _ _⟩
  case round =>
    obtain ⟨i, hin, rfl, hown, hb⟩ := hrel
    by_cases hlt : i < n
    · obtain ⟨b2, off2, rfl, hg2, hc2⟩ := (HO.out.below hb).at_ hlt
      have hpk := HP.out i hlt
      have HS := Lib.hid (appL_succ (zs := zs) (os := os) (k := i) (by rw [← HN2.out]; exact hlt))
      generalize os[i]! = p at hc2 hpk HS
      obtain ⟨I, rfl⟩ : ∃ I : Nat, p = (I : Int) := ⟨p.toNat, by omega⟩
      have hI : I < n := by omega
      rw [show ((I : Int)).toNat = I from rfl] at HS
      obtain ⟨b0, off, rfl, hbs, ht⟩ := (HT.out.below hb).at_ hI
      generalize zs[I]! = x at ht HS
      obtain ⟨op, d, a, b, imm, to⟩ := x
      obtain ⟨c0, c1, c2', c3, c4, c5⟩ := ht
      simp only at c0 c1 c2' c3 c4 c5
      clear hpk
      go_wp2_with (at_builtin; refine wpList_append_own _ rfl _ _ 22 rfl w.heap.size 47 i0 (.agg #[.int .i64 0, .int .i64 0, .int .i64 0, .int .i64 0, .int .u32 0, .int .i64 0]) 6 48 Try.underlying22 hi hz0 hz1 hz2 rfl (by decide) _ i _ rfl (hown.alloc _) ⟨wr.heap.size, 0, none⟩ 1 1 [.int .i64 op, .int .i64 d, .int .i64 a, .int .i64 b, .int .u32 imm, .int .i64 to] rfl rfl ?k1 ?k2 ?k3 ?k4 ?k5 ?_)
      case k1 => exact news6 (heap_alloc_new wr _)
      case k2 => intro u hu; simp at hu; rcases hu with rfl | rfl | rfl | rfl | rfl | rfl <;> rfl
      case k3 => unfold maxLen; omega
      case k4 => omega
      case k5 => have := hb.size; simp; omega
      intro v2 w7 hown7 hgrow _
      have hb5 : Below w.heap.size w w7 := (hb.alloc hb.size _).grown hgrow (by have := hb.size; simp; omega) (own_base (hown.alloc (.cells #[.int .i64 op, .int .i64 d, .int .i64 a, .int .i64 b, .int .u32 imm, .int .i64 to] 47)))
      have HO8 := Lib.hid (show w7.ownsRow w.heap.size 47 6 v2 (i + 1) (codesV (appL zs os (i + 1))) by
        rw [HS.out, codesV_append]
        exact hown7)
      clear hown hown7 hgrow hb c0 c1 c2' c3 c4 c5 hc2
      go_wp2
      go_roundw
      case rel => exact ⟨i + 1, by omega, by go_num, HO8.out, hb5⟩
      case measure => simp [intOf]; omega
    · obtain rfl : i = n := by omega
      go_wp2
      go_ret
      exact ⟨_, rfl, hown, hb⟩
set_option maxRecDepth 100000 in
theorem IsOrder_tab {n2 : Nat} (h : Tab w A n c zs) (ho : Ints w A2 n2 c2 os) :
    Calls Try.prog 21 #[.slice A n c, .slice A2 n2 c2] w fun e w' => e = .returned (.tuple #[.bool (isF zs os), .int .i64 (errF zs os)]) ∧ Below w.heap.size w w' := by
  have HC := Lib.hid (checkOrder_tab h ho)
  rcases err_cases zs os with ⟨he, hv, hp⟩ | he | he
  · have hl := perm_len hp
    obtain rfl : n2 = n := by rw [ho.1, h.shape, hl]
    have HI := Lib.hid (fun w1 (hb : Below w.heap.size w w1) => isOrder_tab (h.below hb) (ho.below hb) hv (by rw [h.shape]; exact hp))
    rw [he] at HC
    rw [show isF zs os = ordB zs os by unfold isF; rw [he]; simp, he]
    generalize ordB zs os = R at HI ⊢
    clear h ho hv hp he hl
    go_enter Try.func21, Try.ntmps21
    go_wp2_with fail
    refine HC.out.mono ?_
    rintro e w1 ⟨rfl, hb⟩
    go_wp2_with fail
    refine (HI.out _ hb).mono ?_
    rintro e w2 ⟨rfl, hb2⟩
    replace hb := hb.trans (hb2.mono hb.size)
    go_wp2
    exact bodyPost_ret (v := .tuple #[.bool R, .int .i64 0]) (by simp [results, Try.results21, go_sem]) rfl ⟨rfl, hb⟩
  · rw [he] at HC
    rw [show isF zs os = false by unfold isF; rw [he]; rfl, he]
    clear h ho he
    go_enter Try.func21, Try.ntmps21
    go_wp2_with fail
    refine HC.out.mono ?_
    rintro e w1 ⟨rfl, hb⟩
    go_wp2
    exact bodyPost_ret (v := .tuple #[.bool false, .int .i64 1]) (by simp [results, Try.results21, go_sem]) rfl ⟨rfl, hb⟩
  · rw [he] at HC
    rw [show isF zs os = false by unfold isF; rw [he]; rfl, he]
    clear h ho he
    go_enter Try.func21, Try.ntmps21
    go_wp2_with fail
    refine HC.out.mono ?_
    rintro e w1 ⟨rfl, hb⟩
    go_wp2
    exact bodyPost_ret (v := .tuple #[.bool false, .int .i64 3]) (by simp [results, Try.results21, go_sem]) rfl ⟨rfl, hb⟩
set_option maxRecDepth 100000 in
theorem refIsOrderTop_tab {n2 : Nat} (h : Tab w A n c zs) (ho : Ints w A2 n2 c2 os) :
    Calls Try.prog 22 #[.slice A n c, .slice A2 n2 c2] w fun e w' => e = .returned (.tuple #[.bool (isF zs os), .int .i64 (errF zs os)]) ∧ Below w.heap.size w w' := by
  have HC := Lib.hid (refValidate_tab h)
  have hcap := h.2.1
  have hmax := h.2.2.1
  rcases val_cases zs with hv | hv | hv
  · have HO := Lib.hid (fun w1 (hb : Below w.heap.size w w1) B hB => once_at n B (ho.below hb) hB)
    rw [hv] at HC
    have he : errF zs os = if permB n os then 0 else 1 := by rw [val_errF hv, ← h.shape]
    cases hp : permB n os
    · have HO2 := Lib.hid (fun w1 hb => HO.out w1 hb _ hp)
      have he1 : errF zs os = 1 := by rw [he, hp]; rfl
      rw [show isF zs os = false by unfold isF; rw [he1]; rfl, he1]
      clear h ho hv hp he he1 HO
      go_enter Try.func22, Try.ntmps22
      go_wp2_with fail
      refine HC.out.mono ?_
      rintro e w1 ⟨rfl, hb⟩
      go_wp2_with fail
      refine (HO2.out _ hb).mono ?_
      rintro e w2 ⟨rfl, hb2⟩
      replace hb := hb.trans (hb2.mono hb.size)
      go_wp2
      exact bodyPost_ret (v := .tuple #[.bool false, .int .i64 1]) (by simp [results, Try.results22, go_sem]) rfl ⟨rfl, hb⟩
    · have HO2 := Lib.hid (fun w1 hb => HO.out w1 hb _ hp)
      have he1 : errF zs os = 0 := by rw [he, hp]; rfl
      have hl := perm_len hp
      obtain rfl : n2 = n := by rw [ho.1, hl]
      have HI := Lib.hid (fun w1 (hb : Below w.heap.size w w1) => refIsOrder_tab (h.below hb) (ho.below hb) hv hp)
      rw [show isF zs os = ordB zs os by unfold isF; rw [he1]; simp, he1]
      generalize ordB zs os = R at HI ⊢
      clear h ho hv hp he he1 hl HO
      go_enter Try.func22, Try.ntmps22
      go_wp2_with fail
      refine HC.out.mono ?_
      rintro e w1 ⟨rfl, hb⟩
      go_wp2_with fail
      refine (HO2.out _ hb).mono ?_
      rintro e w2 ⟨rfl, hb2⟩
      replace hb := hb.trans (hb2.mono hb.size)
      clear hb2
      go_wp2_with fail
      refine (HI.out _ hb).mono ?_
      rintro e w2 ⟨rfl, hb2⟩
      replace hb := hb.trans (hb2.mono hb.size)
      go_wp2
      exact bodyPost_ret (v := .tuple #[.bool R, .int .i64 0]) (by simp [results, Try.results22, go_sem]) rfl ⟨rfl, hb⟩
  · rw [hv] at HC
    have he : errF zs os = 1 := by unfold errF; rw [hv]; rfl
    rw [show isF zs os = false by unfold isF; rw [he]; rfl, he]
    clear h ho he hv
    go_enter Try.func22, Try.ntmps22
    go_wp2_with fail
    refine HC.out.mono ?_
    rintro e w1 ⟨rfl, hb⟩
    go_wp2
    exact bodyPost_ret (v := .tuple #[.bool false, .int .i64 1]) (by simp [results, Try.results22, go_sem]) rfl ⟨rfl, hb⟩
  · rw [hv] at HC
    have he : errF zs os = 3 := by unfold errF; rw [hv]; rfl
    rw [show isF zs os = false by unfold isF; rw [he]; rfl, he]
    clear h ho he hv
    go_enter Try.func22, Try.ntmps22
    go_wp2_with fail
    refine HC.out.mono ?_
    rintro e w1 ⟨rfl, hb⟩
    go_wp2
    exact bodyPost_ret (v := .tuple #[.bool false, .int .i64 3]) (by simp [results, Try.results22, go_sem]) rfl ⟨rfl, hb⟩
theorem own_lower {w' : World} {b1 b2 e size k : Nat} {v : Value} {xs : List Value} (h : w'.ownsRow b1 e size v k xs) (hb : b2 ≤ b1) : w'.ownsRow b2 e size v k xs := by
  refine ⟨h.1, ?_⟩
  rcases h.2 with h2 | ⟨g, cap, cur, h1, h2, h3⟩
  · exact .inl h2
  · exact .inr ⟨g, cap, cur, h1, by omega, h3⟩
set_option maxRecDepth 100000 in
theorem Apply_tab {n2 : Nat} (h : Tab w A n c zs) (ho : Ints w A2 n2 c2 os) :
    Calls Try.prog 23 #[.slice A n c, .slice A2 n2 c2] w fun e w' => ∃ V, e = .returned (.tuple #[V, .int .i64 (aerF zs os)]) ∧ w'.ownsRow w.heap.size 47 6 V (resA zs os).length (codesV (resA zs os)) ∧ Below w.heap.size w w' := by
  have HC := Lib.hid (checkOrder_tab h ho)
  rcases err_cases zs os with ⟨he, hv, hp⟩ | he | he
  · have hl := perm_len hp
    obtain rfl : n2 = n := by rw [ho.1, h.shape, hl]
    have hpn : permB n2 os = true := by rw [h.shape]; exact hp
    have HI := Lib.hid (fun w1 (hb : Below w.heap.size w w1) => isOrder_tab (h.below hb) (ho.below hb) hv hpn)
    have HA := Lib.hid (fun w1 (hb : Below w.heap.size w w1) => apply_low (h.below hb) (ho.below hb) (by rw [h.shape]; exact (val_all hv).1) hpn)
    have HAE := Lib.hid (show aerF zs os = if ordB zs os then 0 else 7 from if_pos he)
    have HRA := Lib.hid (show resA zs os = if ordB zs os = true then appL zs os n2 else [] by unfold resA; rw [he, hl, ← h.shape]; simp)
    have HLN := Lib.hid (appL_len (zs := zs) (os := os) (k := n2) (by rw [hl, h.shape]; exact Nat.le_refl _))
    rw [he] at HC
    generalize aerF zs os = AE at HAE ⊢
    generalize resA zs os = RA at HRA ⊢
    generalize ordB zs os = R at HI HAE HRA
    clear h ho hv hp he hl hpn
    cases R
    · obtain rfl : AE = 7 := HAE.out
      obtain rfl : RA = [] := HRA.out
      go_enter Try.func23, Try.ntmps23
      go_wp2_with fail
      refine HC.out.mono ?_
      rintro e w1 ⟨rfl, hb⟩
      go_wp2_with fail
      refine (HI.out _ hb).mono ?_
      rintro e w2 ⟨rfl, hb2⟩
      replace hb := hb.trans (hb2.mono hb.size)
      clear hb2
      go_wp2
      exact bodyPost_ret (v := .tuple #[.slice none 0 0, .int .i64 7]) (by simp [results, Try.results23, go_sem]) rfl ⟨_, rfl, World.ownsRow_nil _ _ _ _, hb⟩
    · obtain rfl : AE = 0 := HAE.out
      have HRA2 := Lib.hid (show RA = appL zs os n2 from HRA.out)
      clear HRA HAE
      go_enter Try.func23, Try.ntmps23
      go_wp2_with fail
      refine HC.out.mono ?_
      rintro e w1 ⟨rfl, hb⟩
      go_wp2_with fail
      refine (HI.out _ hb).mono ?_
      rintro e w2 ⟨rfl, hb2⟩
      replace hb := hb.trans (hb2.mono hb.size)
      clear hb2
      go_wp2_with fail
      refine (HA.out _ hb).mono ?_
      rintro e w2 ⟨v, rfl, hown, hb2⟩
      have hown2 := own_lower hown hb.size
      replace hb := hb.trans (hb2.mono hb.size)
      clear hb2 hown
      go_wp2
      exact bodyPost_ret (v := .tuple #[v, .int .i64 0]) (by simp [results, Try.results23, go_sem]) rfl ⟨_, rfl, by rw [HRA2.out, HLN.out]; exact hown2, hb⟩
  · have HIS := Lib.hid (show isF zs os = false by unfold isF; rw [he]; rfl)
    rw [he] at HC
    rw [show resA zs os = [] by unfold resA; rw [he]; rfl, show aerF zs os = 1 by unfold aerF; rw [he]; rfl]
    clear h ho he HIS
    go_enter Try.func23, Try.ntmps23
    go_wp2_with fail
    refine HC.out.mono ?_
    rintro e w1 ⟨rfl, hb⟩
    go_wp2
    exact bodyPost_ret (v := .tuple #[.slice none 0 0, .int .i64 1]) (by simp [results, Try.results23, go_sem]) rfl ⟨_, rfl, World.ownsRow_nil _ _ _ _, hb⟩
  · have HIS := Lib.hid (show isF zs os = false by unfold isF; rw [he]; rfl)
    rw [he] at HC
    rw [show resA zs os = [] by unfold resA; rw [he]; rfl, show aerF zs os = 3 by unfold aerF; rw [he]; rfl]
    clear h ho he HIS
    go_enter Try.func23, Try.ntmps23
    go_wp2_with fail
    refine HC.out.mono ?_
    rintro e w1 ⟨rfl, hb⟩
    go_wp2
    exact bodyPost_ret (v := .tuple #[.slice none 0 0, .int .i64 3]) (by simp [results, Try.results23, go_sem]) rfl ⟨_, rfl, World.ownsRow_nil _ _ _ _, hb⟩
set_option maxRecDepth 100000 in
theorem refApplyTop_tab {n2 : Nat} (h : Tab w A n c zs) (ho : Ints w A2 n2 c2 os) :
    Calls Try.prog 24 #[.slice A n c, .slice A2 n2 c2] w fun e w' => ∃ V, e = .returned (.tuple #[V, .int .i64 (aerF zs os)]) ∧ w'.ownsRow w.heap.size 47 6 V (resA zs os).length (codesV (resA zs os)) ∧ Below w.heap.size w w' := by
  have HC := Lib.hid (refIsOrderTop_tab h ho)
  rcases err_cases zs os with ⟨he, hv, hp⟩ | he | he
  · have hl := perm_len hp
    obtain rfl : n2 = n := by rw [ho.1, h.shape, hl]
    have hpn : permB n2 os = true := by rw [h.shape]; exact hp
    have HA := Lib.hid (fun w1 (hb : Below w.heap.size w w1) => refApply_low (h.below hb) (ho.below hb) (by rw [h.shape]; exact (val_all hv).1) hpn)
    have HAE := Lib.hid (show aerF zs os = if ordB zs os then 0 else 7 from if_pos he)
    have HRA := Lib.hid (show resA zs os = if ordB zs os = true then appL zs os n2 else [] by unfold resA; rw [he, hl, ← h.shape]; simp)
    have HLN := Lib.hid (appL_len (zs := zs) (os := os) (k := n2) (by rw [hl, h.shape]; exact Nat.le_refl _))
    have HIS := Lib.hid (show isF zs os = ordB zs os by unfold isF; rw [he]; simp)
    rw [HIS.out] at HC
    rw [he] at HC
    generalize aerF zs os = AE at HAE ⊢
    generalize resA zs os = RA at HRA ⊢
    generalize ordB zs os = R at HC HAE HRA
    clear h ho hv hp he hl hpn
    cases R
    · obtain rfl : AE = 7 := HAE.out
      obtain rfl : RA = [] := HRA.out
      go_enter Try.func24, Try.ntmps24
      go_wp2_with fail
      refine HC.out.mono ?_
      rintro e w1 ⟨rfl, hb⟩
      go_wp2
      exact bodyPost_ret (v := .tuple #[.slice none 0 0, .int .i64 7]) (by simp [results, Try.results24, go_sem]) rfl ⟨_, rfl, World.ownsRow_nil _ _ _ _, hb⟩
    · obtain rfl : AE = 0 := HAE.out
      have HRA2 := Lib.hid (show RA = appL zs os n2 from HRA.out)
      clear HRA HAE
      go_enter Try.func24, Try.ntmps24
      go_wp2_with fail
      refine HC.out.mono ?_
      rintro e w1 ⟨rfl, hb⟩
      go_wp2_with fail
      refine (HA.out _ hb).mono ?_
      rintro e w2 ⟨v, rfl, hown, hb2⟩
      have hown2 := own_lower hown hb.size
      replace hb := hb.trans (hb2.mono hb.size)
      clear hb2 hown
      go_wp2
      exact bodyPost_ret (v := .tuple #[v, .int .i64 0]) (by simp [results, Try.results24, go_sem]) rfl ⟨_, rfl, by rw [HRA2.out, HLN.out]; exact hown2, hb⟩
  · have HIS := Lib.hid (show isF zs os = false by unfold isF; rw [he]; rfl)
    rw [HIS.out] at HC
    rw [he] at HC
    rw [show resA zs os = [] by unfold resA; rw [he]; rfl, show aerF zs os = 1 by unfold aerF; rw [he]; rfl]
    clear h ho he HIS
    go_enter Try.func24, Try.ntmps24
    go_wp2_with fail
    refine HC.out.mono ?_
    rintro e w1 ⟨rfl, hb⟩
    go_wp2
    exact bodyPost_ret (v := .tuple #[.slice none 0 0, .int .i64 1]) (by simp [results, Try.results24, go_sem]) rfl ⟨_, rfl, World.ownsRow_nil _ _ _ _, hb⟩
  · have HIS := Lib.hid (show isF zs os = false by unfold isF; rw [he]; rfl)
    rw [HIS.out] at HC
    rw [he] at HC
    rw [show resA zs os = [] by unfold resA; rw [he]; rfl, show aerF zs os = 3 by unfold aerF; rw [he]; rfl]
    clear h ho he HIS
    go_enter Try.func24, Try.ntmps24
    go_wp2_with fail
    refine HC.out.mono ?_
    rintro e w1 ⟨rfl, hb⟩
    go_wp2
    exact bodyPost_ret (v := .tuple #[.slice none 0 0, .int .i64 3]) (by simp [results, Try.results24, go_sem]) rfl ⟨_, rfl, World.ownsRow_nil _ _ _ _, hb⟩
end
end Go.Proofs.Ytjlacdnkncgpaaa
