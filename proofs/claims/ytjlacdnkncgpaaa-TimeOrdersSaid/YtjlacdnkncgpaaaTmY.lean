/-
  Lists that have each number once; checkOrder and once.
-/
import Derived.Test.YtjlacdnkncgpaaaTmX
namespace Go.Proofs.Ytjlacdnkncgpaaa
open Go.RowKit

theorem nd_le : ∀ (n : Nat) (os : List Int), os.Nodup → (∀ x ∈ os, 0 ≤ x ∧ x < n) → os.length ≤ n
  | 0, os, _, h => by
    cases os with
    | nil => exact Nat.le_refl _
    | cons a os => have := h a (List.mem_cons_self ..); omega
  | n + 1, os, hd, h => by
    by_cases hm : (n : Int) ∈ os
    · have hp := List.perm_cons_erase hm
      have hl := hp.length_eq
      have hd2 := hp.nodup_iff.1 hd
      rw [List.nodup_cons] at hd2
      have := nd_le n (os.erase n) hd2.2 (fun x hx => by
        have h1 := h x (List.mem_of_mem_erase hx)
        have h2 : x ≠ n := fun e => hd2.1 (e ▸ hx)
        omega)
      rw [List.length_cons] at hl
      omega
    · have := nd_le n os hd (fun x hx => by
        have h1 := h x hx
        have h2 : x ≠ n := fun e => hm (e ▸ hx)
        omega)
      omega
theorem nd_of_cover : ∀ (n : Nat) (os : List Int), os.length = n → (∀ i : Nat, i < n → (i : Int) ∈ os) → os.Nodup ∧ ∀ x ∈ os, 0 ≤ x ∧ x < n
  | 0, os, hl, _ => by
    have : os = [] := List.eq_nil_of_length_eq_zero hl
    subst this
    exact ⟨List.nodup_nil, fun x hx => by cases hx⟩
  | n + 1, os, hl, h => by
    have hm := h n (by omega)
    have hp := List.perm_cons_erase hm
    have hle := hp.length_eq
    rw [List.length_cons] at hle
    obtain ⟨i1, i2⟩ := nd_of_cover n (os.erase n) (by omega) (fun i hi => (List.mem_erase_of_ne (by omega)).2 (h i (by omega)))
    refine ⟨hp.nodup_iff.2 (List.nodup_cons.2 ⟨fun hx => by have := i2 _ hx; omega, i1⟩), fun x hx => ?_⟩
    rcases List.mem_cons.1 (hp.mem_iff.1 hx) with e | e
    · omega
    · have := i2 _ e; omega
/-- Whether a list has each number below another one once. -/
def permB (n : Nat) (os : List Int) : Bool := decide (os.length = n ∧ ∀ i : Nat, i < n → (i : Int) ∈ os)
theorem perm_iff {n : Nat} {os : List Int} (hl : os.length = n) : permB n os = true ↔ ∀ i, i < n → 0 ≤ os[i]! ∧ os[i]! < n ∧ memB (os.take i) os[i]! = false := by
  unfold permB
  rw [decide_eq_true_iff]
  constructor
  · rintro ⟨-, h⟩ i hi
    obtain ⟨h1, h2⟩ := nd_of_cover n os hl h
    have e : os[i]! = os[i]'(by omega) := by simp [hl, hi]
    rw [e]
    have := h2 _ (List.getElem_mem (show i < os.length by omega))
    refine ⟨this.1, this.2, decide_eq_false fun hm => ?_⟩
    obtain ⟨j, hj, e2⟩ := List.mem_iff_getElem.1 hm
    rw [List.length_take] at hj
    rw [List.getElem_take] at e2
    exact (List.pairwise_iff_getElem.1 h1) j i (by omega) (by omega) (by omega) e2
  · intro h
    refine ⟨hl, ?_⟩
    have hr : ∀ x ∈ os, 0 ≤ x ∧ x < n := fun x hx => by
      obtain ⟨i, hi, e⟩ := List.mem_iff_getElem.1 hx
      obtain ⟨h1, h2, -⟩ := h i (by omega)
      rw [show os[i]! = os[i] by simp [hi], e] at h1 h2
      exact ⟨h1, h2⟩
    have hd : os.Nodup := List.pairwise_iff_getElem.2 fun j i hj hi hji he => by
      obtain ⟨-, -, h3⟩ := h i (by omega)
      refine absurd h3 ?_
      rw [Bool.not_eq_false]
      refine decide_eq_true ?_
      rw [show os[i]! = os[i] by simp [hi], ← he]
      exact List.mem_iff_getElem.2 ⟨j, by rw [List.length_take]; omega, List.getElem_take⟩
    intro i hi
    apply Classical.byContradiction
    intro hm
    have := nd_le n ((i : Int) :: os) (List.nodup_cons.2 ⟨hm, hd⟩) (fun x hx => by
      rcases List.mem_cons.1 hx with e | e
      · omega
      · exact hr x e)
    rw [List.length_cons] at this
    omega
theorem perm_len {n : Nat} {os : List Int} (h : permB n os = true) : os.length = n := (of_decide_eq_true h).1
theorem perm_at {n : Nat} {os : List Int} (h : permB n os = true) {i : Nat} (hi : i < n) : 0 ≤ os[i]! ∧ os[i]! < n := by
  have := (perm_iff (perm_len h)).1 h i hi
  exact ⟨this.1, this.2.1⟩
theorem perm_not_len {n : Nat} {os : List Int} (h : os.length ≠ n) : permB n os = false := decide_eq_false fun hh => h hh.1
theorem perm_not_mem {n : Nat} {os : List Int} {i : Nat} (hi : i < n) (h : memB os i = false) : permB n os = false := decide_eq_false fun hh => (of_decide_eq_false h) (hh.2 i hi)
theorem perm_all {n : Nat} {os : List Int} (hl : os.length = n) (h : ∀ i : Nat, i < n → memB os i = true) : permB n os = true := decide_eq_true ⟨hl, fun i hi => of_decide_eq_true (h i hi)⟩
theorem perm_bad {n : Nat} {os : List Int} (hl : os.length = n) {i : Nat} (hi : i < n) (h : ¬ (0 ≤ os[i]! ∧ os[i]! < n ∧ memB (os.take i) os[i]! = false)) : permB n os = false := by
  rw [← Bool.not_eq_true]
  exact fun hh => h ((perm_iff hl).1 hh i hi)
/-- The error of a stretch and a list. -/
def errF (zs : List Cod) (os : List Int) : Int := if valF zs = 0 then (if permB zs.length os then 0 else 1) else valF zs
section
variable {w : World} {A : Option Addr} {n c : Nat} {os : List Int}
set_option maxRecDepth 100000 in
set_option maxHeartbeats 4000000 in
theorem once_at (m : Nat) (B : Bool) (h : Ints w A n c os) (hB : permB m os = B) :
    Calls Try.prog 41 #[.slice A n c, .int .i64 (m : Int)] w fun e w' => e = .returned (.bool B) ∧ Below w.heap.size w w' := by
  by_cases hnm : n = m
  · subst hnm
    have H := Lib.hid h
    have HN := Lib.hid h.1
    have hcap := h.2.1
    have hmax := h.2.2.1
    have HB := Lib.hid hB
    clear h hB
    go_enter Try.func41, Try.ntmps41
    go_wp2
    go_loopw [5] (fun zi wr => ∃ i : Nat, i ≤ n ∧ zi = .int .i64 (i : Int) ∧ Below w.heap.size w wr ∧ Hid (∀ j, j < i → 0 ≤ os[j]! ∧ os[j]! < n ∧ memB (os.take j) os[j]! = false)) (fun zi _ => n - (intOf zi).toNat)
    case atStart => exact ⟨0, by omega, rfl, Below.refl _ _, Lib.hid fun j hj => absurd hj (by omega)⟩
    case round =>
      obtain ⟨i, hi, rfl, hb, HJ⟩ := hrel
      by_cases hlt : i < n
      · obtain ⟨b, off, rfl, hg, hc⟩ := (H.out.below hb).at_ hlt
        have HT := Lib.hid (fun w1 (hb1 : Below w.heap.size w w1) => has_ints os[i]! ((H.out.below hb1).take (k := i) hi))
        have HBAD := Lib.hid (fun hh => perm_bad (os := os) HN.out.symm hlt hh)
        have HJ2 := Lib.hid (show (0 ≤ os[i]! ∧ os[i]! < n ∧ memB (os.take i) os[i]! = false) → ∀ j, j < i + 1 → 0 ≤ os[j]! ∧ os[j]! < n ∧ memB (os.take j) os[j]! = false from fun hh j hj => by
          by_cases hji : j = i
          · rw [hji]; exact hh
          · exact HJ.out j (by omega))
        generalize os[i]! = p at hc HT HBAD HJ2
        generalize memB (os.take i) p = M at HT HBAD HJ2
        have TC := cell_regrown hc
        have Q1 := Lib.hid (show ∀ (dr : Nat) (oz : Array Obj), Calls Try.prog 55 #[.slice (some ⟨b, off, none⟩) i c, .int .i64 p] (Sort.grow (redrawn wr dr) oz) fun e w'' => e = .returned (.bool M) ∧ ∃ q : Regrown, w'' = Sort.grow (redrawn wr q.d) q.os from fun dr oz => Calls.regrown_of ((HT.out _ (hb.trans ((below_regrown wr dr oz).mono hb.size))).mono fun e w' ⟨h1, h2⟩ => ⟨h1, h2 ▸ Below.refl _ _⟩))
        clear HT hc
        by_cases h0 : p < 0
        · have HE := Lib.hid (HBAD.out (fun hh => by omega))
          clear HBAD HJ2
          go_wp2
          refine wp_region_quiet_below (by kernel_rfl) (by kernel_rfl) ?_
          iterate 23 (go_big_quiet_step ((go_at_call 55; with_reducible exact Q1.out _ _)))
          refine wpQuiet_nil ?_
          intro _ hw'
          obtain ⟨⟨dq, osq⟩, hw''⟩ := hw'
          subst hw''
          replace hb := hb.trans ((below_regrown wr dq osq).mono hb.size)
          generalize Sort.grow (redrawn wr dq) osq = W5 at hb ⊢
          clear TC Q1
          go_wp2
          go_ret
          exact ⟨ret_b (by rw [← HB.out, HE.out]), hb⟩
        · by_cases h1 : (n : Int) ≤ p
          · have HE := Lib.hid (HBAD.out (fun hh => by omega))
            have d0 : decide (p < 0) = false := decide_eq_false h0
            clear HBAD HJ2
            go_wp2
            refine wp_region_quiet_below (by kernel_rfl) (by kernel_rfl) ?_
            iterate 23 (go_big_quiet_step ((go_at_call 55; with_reducible exact Q1.out _ _)))
            refine wpQuiet_nil ?_
            intro _ hw'
            obtain ⟨⟨dq, osq⟩, hw''⟩ := hw'
            subst hw''
            replace hb := hb.trans ((below_regrown wr dq osq).mono hb.size)
            generalize Sort.grow (redrawn wr dq) osq = W5 at hb ⊢
            clear TC Q1
            go_wp2
            go_ret
            exact ⟨ret_b (by rw [← HB.out, HE.out]), hb⟩
          · have d0 : decide (p < 0) = false := decide_eq_false h0
            have d1 : decide ((n : Int) ≤ p) = false := decide_eq_false h1
            have HE := Lib.hid (show M = true → permB n os = false from fun hM => HBAD.out (fun hh => by rw [hM] at hh; cases hh.2.2))
            replace HJ2 := Lib.hid (show M = false → _ from fun hM => HJ2.out ⟨by omega, by omega, hM⟩)
            clear HBAD
            go_wp2
            refine wp_region_quiet_below (by kernel_rfl) (by kernel_rfl) ?_
            iterate 23 (go_big_quiet_step ((go_at_call 55; with_reducible exact Q1.out _ _)))
            refine wpQuiet_nil ?_
            intro _ hw'
            obtain ⟨⟨dq, osq⟩, hw''⟩ := hw'
            subst hw''
            replace hb := hb.trans ((below_regrown wr dq osq).mono hb.size)
            generalize Sort.grow (redrawn wr dq) osq = W5 at hb ⊢
            clear TC Q1
            cases M
            · have HJ3 := Lib.hid (HJ2.out rfl)
              clear HJ2 HE
              go_wp2
              go_roundw
              case rel => exact ⟨i + 1, by omega, by go_num, hb, HJ3⟩
              case measure => simp [intOf]; omega
            · have HE2 := Lib.hid (HE.out rfl)
              clear HJ2 HE
              go_wp2
              go_ret
              exact ⟨ret_b (by rw [← HB.out, HE2.out]), hb⟩
      · obtain rfl : i = n := by omega
        have HE := Lib.hid ((perm_iff HN.out.symm).2 HJ.out)
        go_wp2
        go_ret
        exact ⟨ret_b (by rw [← HB.out, HE.out]), hb⟩
  · have HB := Lib.hid (show B = false by rw [← hB]; exact perm_not_len (by rw [← h.1]; exact hnm))
    have hcap := h.2.1
    have hmax := h.2.2.1
    have d0 : ((n : Int) == (m : Int)) = false := beq_false_of_ne (by omega)
    clear h hB
    go_enter Try.func41, Try.ntmps41
    go_wp2
    go_ret
    exact ⟨ret_b HB.out.symm, Below.refl _ _⟩
end
end Go.Proofs.Ytjlacdnkncgpaaa
