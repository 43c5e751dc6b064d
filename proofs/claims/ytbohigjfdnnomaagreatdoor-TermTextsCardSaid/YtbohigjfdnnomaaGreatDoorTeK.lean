/-
  Rows of words; Total, Extend and Compare at whatever widths; Long and SameWords.
-/
import Derived.Test.YtbohigjfdnnomaaGreatDoorTeJ
namespace Go.Proofs.YtbohigjfdnnomaaGreatDoor
open Go.RowKit

/-- A slice of words. -/
def Ws (w : World) (A : Option Addr) (n c : Nat) (l : List Nat) : Prop := n = l.length ∧ n ≤ c ∧ c ≤ 9223372036854775807 ∧ (n = 0 ∨ ∃ b off, A = some ⟨b, off, none⟩ ∧ b < w.heap.size ∧ ∀ j, j < n → w.cell? ⟨b, off + j, none⟩ = some (.int .u32 ((l[j]! : Nat) : Int)))
theorem Ws.below {w w' : World} {A : Option Addr} {n c : Nat} {l : List Nat} (h : Ws w A n c l) (hb : Below w.heap.size w w') : Ws w' A n c l := by
  obtain ⟨h1, h2, h3, h4 | ⟨b, off, h4, h5, h6⟩⟩ := h
  · exact ⟨h1, h2, h3, .inl h4⟩
  · exact ⟨h1, h2, h3, .inr ⟨b, off, h4, Nat.lt_of_lt_of_le h5 hb.size, fun j hj => (hb.cell (p := ⟨b, off + j, none⟩) h5).trans (h6 j hj)⟩⟩
theorem Ws.at_ {w : World} {A : Option Addr} {n c : Nat} {l : List Nat} (h : Ws w A n c l) {j : Nat} (hj : j < n) : ∃ b off, A = some ⟨b, off, none⟩ ∧ b < w.heap.size ∧ w.cell? ⟨b, off + j, none⟩ = some (.int .u32 ((l[j]! : Nat) : Int)) := by
  obtain ⟨h1, h2, h3, h4 | ⟨b, off, h4, h5, h6⟩⟩ := h
  · omega
  · exact ⟨b, off, h4, h5, h6 j hj⟩
def uV (l : List Nat) : List Value := l.map fun (x : Nat) => Value.int .u32 (x : Int)
theorem uV_app (a b : List Nat) : uV (a ++ b) = uV a ++ uV b := by simp [uV]
/-- An own row of words is a slice of them. -/
theorem own_words {w : World} {base n : Nat} {v : Value} {l : List Nat} (h : w.ownsRow base 36 1 v n (uV l)) : ∃ A c, v = .slice A n c ∧ Ws w A n c l := by
  have hl : n = l.length := by have := h.1; simp [uV] at this; omega
  have h0 := h
  rcases h.2 with ⟨rfl, h1⟩ | ⟨g, cap, cur, rfl, hg, hh, h2, h3, _⟩
  · subst h1
    exact ⟨none, 0, rfl, hl, Nat.le_refl _, by omega, .inl rfl⟩
  · refine ⟨_, cap, rfl, hl, h2, by unfold maxLen at h3; omega, .inr ⟨g, 0, rfl, lt_of_block hh, fun j hj => ?_⟩⟩
    rw [Nat.zero_add]
    exact (own_cell h0 (x := .int .u32 ((l[j]! : Nat) : Int)) (by simp [uV, show j < l.length by omega])).1
theorem ws_nil {w : World} {l : List Nat} (h : l = []) : Ws w none 0 0 l := by
  rw [h]
  exact ⟨rfl, Nat.le_refl _, by omega, .inl rfl⟩
theorem ret_w {a b : Nat} (h : b = a) : Ending.returned (.tuple #[.int .u32 (a : Int), .int .i64 0]) = .returned (.tuple #[.int .u32 (b : Int), .int .i64 0]) := by rw [h]
section
variable (op n : Int) (a b : Nat) (w : World) (h1 : 1 ≤ n) (h2 : n ≤ 32) (ha : a < pw n.toNat) (hb : b < pw n.toNat)
include h1 h2 ha hb
theorem bTotal_any (hM : Masks w) (o1 : 1 ≤ op) (o2 : op ≤ 13) : Calls Tryz.prog 75 #[.int .i64 op, .int .i64 n, .int .u32 a, .int .u32 b] w fun e w' => e = .returned (.tuple #[.int .u32 (totF op.toNat n.toNat a b : Nat), .int .i64 0]) ∧ Below w.heap.size w w' := by
  obtain ⟨o, rfl⟩ : ∃ o : Nat, op = o := ⟨op.toNat, by omega⟩
  obtain ⟨m, rfl⟩ : ∃ m : Nat, n = m := ⟨n.toNat, by omega⟩
  rw [Int.toNat_natCast] at ha hb
  rw [Int.toNat_natCast, Int.toNat_natCast]
  cases hh : hasF o m a b
  · exact (bitsTotal_none m a b w hM (by omega) (by omega) ha hb o (by omega) (by omega) hh).mono fun e w' ⟨h3, h4⟩ => ⟨h3.trans (ret_w (by unfold totF; rw [hh]; rfl)), h4⟩
  · exact (bitsTotal_some m a b w hM (by omega) (by omega) ha hb o (by omega) (by omega) hh).mono fun e w' ⟨h3, h4⟩ => ⟨h3.trans (ret_w (by unfold totF; rw [hh]; rfl)), h4⟩
theorem rTotal_any (o1 : 1 ≤ op) (o2 : op ≤ 13) : Calls Tryz.prog 71 #[.int .i64 op, .int .i64 n, .int .u32 a, .int .u32 b] w fun e w' => e = .returned (.tuple #[.int .u32 (totF op.toNat n.toNat a b : Nat), .int .i64 0]) ∧ Below w.heap.size w w' := by
  obtain ⟨o, rfl⟩ : ∃ o : Nat, op = o := ⟨op.toNat, by omega⟩
  obtain ⟨m, rfl⟩ : ∃ m : Nat, n = m := ⟨n.toNat, by omega⟩
  rw [Int.toNat_natCast] at ha hb
  rw [Int.toNat_natCast, Int.toNat_natCast]
  cases hh : hasF o m a b
  · exact (refTotal_none m a b w (by omega) (by omega) ha hb o (by omega) (by omega) hh).mono fun e w' ⟨h3, h4⟩ => ⟨h3.trans (ret_w (by unfold totF; rw [hh]; rfl)), h4⟩
  · exact (refTotal_some m a b w (by omega) (by omega) ha hb o (by omega) (by omega) hh).mono fun e w' ⟨h3, h4⟩ => ⟨h3.trans (ret_w (by unfold totF; rw [hh]; rfl)), h4⟩
theorem bCmp_any (hM : Masks w) (p : Int) (p1 : 0 ≤ p) (p2 : p ≤ 9) : Calls Tryz.prog 73 #[.int .i64 p, .int .i64 n, .int .u32 a, .int .u32 b] w fun e w' => e = .returned (.tuple #[.bool (cmpF p.toNat n.toNat a b), .int .i64 0]) ∧ w = w' := by
  obtain ⟨o, rfl⟩ : ∃ o : Nat, p = o := ⟨p.toNat, by omega⟩
  obtain ⟨m, rfl⟩ : ∃ m : Nat, n = m := ⟨n.toNat, by omega⟩
  rw [Int.toNat_natCast] at ha hb
  rw [Int.toNat_natCast, Int.toNat_natCast]
  exact cmp_ok o m a b w hM (by omega) (by omega) (by omega) ha hb
theorem rCmp_any (p : Int) (p1 : 0 ≤ p) (p2 : p ≤ 9) : Calls Tryz.prog 69 #[.int .i64 p, .int .i64 n, .int .u32 a, .int .u32 b] w fun e w' => e = .returned (.tuple #[.bool (cmpF p.toNat n.toNat a b), .int .i64 0]) ∧ w = w' := by
  obtain ⟨o, rfl⟩ : ∃ o : Nat, p = o := ⟨p.toNat, by omega⟩
  obtain ⟨m, rfl⟩ : ∃ m : Nat, n = m := ⟨n.toNat, by omega⟩
  rw [Int.toNat_natCast] at ha hb
  rw [Int.toNat_natCast, Int.toNat_natCast]
  exact refCmp_ok o m a b w (by omega) (by omega) (by omega) ha hb
end
section
variable (op f t : Int) (x : Nat) (w : World) (f1 : 1 ≤ f) (f2 : f ≤ 32) (t1 : 1 ≤ t) (t2 : t ≤ 32) (hx : x < pw f.toNat) (ho : op = 16 ∧ f < t ∨ op = 17 ∧ f < t ∨ op = 18 ∧ t < f)
include f1 f2 t1 t2 hx ho
theorem bExt_any (hM : Masks w) : Calls Tryz.prog 74 #[.int .i64 op, .int .i64 f, .int .i64 t, .int .u32 x] w fun e w' => e = .returned (.tuple #[.int .u32 (extF op.toNat f.toNat t.toNat x : Nat), .int .i64 0]) ∧ w = w' := by
  obtain ⟨m, rfl⟩ : ∃ m : Nat, f = m := ⟨f.toNat, by omega⟩
  obtain ⟨k, rfl⟩ : ∃ k : Nat, t = k := ⟨t.toNat, by omega⟩
  rw [Int.toNat_natCast] at hx
  rw [Int.toNat_natCast, Int.toNat_natCast]
  rcases ho with ⟨rfl, h⟩ | ⟨rfl, h⟩ | ⟨rfl, h⟩
  · exact ext_z m k x w hM (by omega) (by omega) (by omega) hx
  · exact ext_s m k x w hM (by omega) (by omega) (by omega) hx
  · exact ext_t m k x w hM (by omega) (by omega) (by omega) hx
theorem rExt_any : Calls Tryz.prog 70 #[.int .i64 op, .int .i64 f, .int .i64 t, .int .u32 x] w fun e w' => e = .returned (.tuple #[.int .u32 (extF op.toNat f.toNat t.toNat x : Nat), .int .i64 0]) ∧ w = w' := by
  obtain ⟨m, rfl⟩ : ∃ m : Nat, f = m := ⟨f.toNat, by omega⟩
  obtain ⟨k, rfl⟩ : ∃ k : Nat, t = k := ⟨t.toNat, by omega⟩
  rw [Int.toNat_natCast] at hx
  rw [Int.toNat_natCast, Int.toNat_natCast]
  rcases ho with ⟨rfl, h⟩ | ⟨rfl, h⟩ | ⟨rfl, h⟩
  · refine (refExt_plain 16 m k x w (.inl rfl) (by omega) (by omega) (by omega) (by omega) (fun _ => by omega) (fun h => by omega) hx).mono fun e w' ⟨h3, h4⟩ => ⟨h3.trans (ret_w ?_), h4⟩
    have := pw_mono (show m ≤ k by omega)
    exact (wr_of_lt (show x < pw k by omega)).symm
  · exact refExt_s m k x w (by omega) (by omega) (by omega) hx
  · exact refExt_plain 18 m k x w (.inr rfl) (by omega) (by omega) (by omega) (by omega) (fun h => by omega) (fun _ => by omega) hx
end
/-- What Long answers. -/
def longB (T : List Nd) : Bool := decide (400 < T.length) || (List.range T.length).any fun k => decide (20 < T[k]!.args.length)
theorem long_yes {T : List Nd} (h : ¬ 400 < T.length) {k : Nat} (hk : k < T.length) (hl : 20 < T[k]!.args.length) : longB T = true := by
  unfold longB
  rw [decide_eq_false h, Bool.false_or, List.any_eq_true]
  exact ⟨k, List.mem_range.2 hk, decide_eq_true hl⟩
theorem long_no {T : List Nd} (h : ¬ 400 < T.length) (hl : ∀ k, k < T.length → ¬ 20 < T[k]!.args.length) : longB T = false := by
  unfold longB
  rw [decide_eq_false h, Bool.false_or, List.any_eq_false]
  exact fun k hk => by
    rw [decide_eq_true_iff]
    exact hl k (List.mem_range.1 hk)
set_option maxRecDepth 100000 in
set_option maxHeartbeats 4000000 in
theorem long_any {w : World} {A : Option Addr} {n c : Nat} {T : List Nd} (h : Term w A n c T) : Calls Tryz.prog 5 #[.slice A n c] w fun e w' => e = .returned (.bool (longB T)) ∧ Below w.heap.size w w' := by
  have hcap := h.2.1
  have hmax := h.2.2.1
  by_cases hl : 400 < T.length
  · have HE := Lib.hid (show longB T = true by unfold longB; rw [decide_eq_true hl]; rfl)
    rw [← h.1] at hl
    clear h
    generalize longB T = B at HE ⊢
    go_enter Tryz.func5, Tryz.ntmps5
    go_wp2
    go_ret
    exact ⟨ret_b HE.out.symm, Below.refl _ _⟩
  · have HY := Lib.hid (fun k (hk : k < n) => long_yes hl (k := k) (by rw [← h.1]; exact hk))
    have HN := Lib.hid (fun (hh : ∀ k, k < n → ¬ 20 < T[k]!.args.length) => long_no hl (by rw [← h.1]; exact hh))
    rw [← h.1] at hl
    have H := Lib.hid h
    clear h
    generalize longB T = B at HY HN ⊢
    go_enter Tryz.func5, Tryz.ntmps5
    go_wp2
    go_loopw [3] (fun zi wr => ∃ i : Nat, i ≤ n ∧ zi = .int .i64 (i : Int) ∧ Below w.heap.size w wr ∧ Hid (∀ k, k < i → ¬ 20 < T[k]!.args.length)) (fun zi _ => n - (intOf zi).toNat)
    case atStart => exact ⟨0, by omega, rfl, Below.refl _ _, Lib.hid fun j hj => absurd hj (by omega)⟩
    case round =>
      obtain ⟨i, hi, rfl, hb, HJ⟩ := hrel
      by_cases hlt : i < n
      · obtain ⟨b, off, A', n', c', rfl, hbs, ⟨-, -, -, a3, -⟩, hI, -⟩ := (H.out.below hb).at_ hlt
        have HY1 := Lib.hid (HY.out i hlt)
        have HJ2 := Lib.hid (show ¬ 20 < T[i]!.args.length → ∀ k, k < i + 1 → ¬ 20 < T[k]!.args.length from fun e k hk => by
          by_cases ek : k = i
          · rw [ek]; exact e
          · exact HJ.out k (by omega))
        rw [← hI.1] at HY1 HJ2
        clear hI
        by_cases h20 : 20 < n'
        · have HE := Lib.hid (HY1.out h20)
          clear HY1 HJ2
          go_wp2
          exact bodyPost_ret (results_tmp rfl _ _ _) rfl ⟨by exact ret_b HE.out.symm, hb⟩
        · have HJ3 := Lib.hid (HJ2.out h20)
          clear HY1 HJ2
          go_wp2
          go_roundw
          case rel => exact ⟨i + 1, by omega, by go_num, hb, HJ3⟩
          case measure => simp [intOf]; omega
      · obtain rfl : i = n := by omega
        have HE := Lib.hid (HN.out HJ.out)
        go_wp2
        go_ret
        exact ⟨ret_b HE.out.symm, hb⟩
end Go.Proofs.YtbohigjfdnnomaaGreatDoor
