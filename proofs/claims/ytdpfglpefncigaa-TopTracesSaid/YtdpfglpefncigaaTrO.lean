/-
  The specification's encoder, at every table.
-/
import Derived.Test.YtdpfglpefncigaaTrN
namespace Go.Proofs.Ytdpfglpefncigaa
open Go.RowKit

theorem own_below {w w' : World} {base e s k : Nat} {v : Value} {xs : List Value} (h : w.ownsRow base e s v k xs) (hb : Below w.heap.size w w') : w'.ownsRow base e s v k xs := by
  refine ⟨h.1, ?_⟩
  rcases h.2 with ⟨rfl, h0⟩ | ⟨g, cap, cur, rfl, hg, hh, r⟩
  · exact .inl ⟨rfl, h0⟩
  · exact .inr ⟨g, cap, cur, rfl, hg, (hb.block g (lt_of_block hh)).trans hh, r⟩
theorem bytesV_one (l : List Nat) : ∀ u ∈ bytesV l, u.oneCell' = true := by
  intro u hu
  obtain ⟨x, _, rfl⟩ := List.mem_map.1 hu
  rfl
theorem cells5 {W : World} {P : Nat} {a b c d e : Value} {t : TypeId} {fr : Nat × Nat} (h : W.heap[P]? = some (.cells #[a, b, c, d, e] t fr)) :
    W.cell? ⟨P, 0, none⟩ = some a ∧ W.cell? ⟨P, 1, none⟩ = some b ∧ W.cell? ⟨P, 2, none⟩ = some c ∧ W.cell? ⟨P, 3, none⟩ = some d ∧ W.cell? ⟨P, 4, none⟩ = some e := by
  refine ⟨?_, ?_, ?_, ?_, ?_⟩ <;> simp [World.cell?, h]
theorem grpF_pos (f n : Nat) : 0 < (grpF (f + 1) n).length := by
  unfold grpF
  split <;> simp
theorem group5 (n : Nat) (hn : n < 34359738368) (w : World) :
    Calls Try.prog 51 #[.int .i64 n] w fun e w' => ∃ g cap, e = .returned (.slice (some ⟨g, 0, none⟩) (grpF 5 n).length cap) ∧ w'.ownsRow w.heap.size 5 1 (.slice (some ⟨g, 0, none⟩) (grpF 5 n).length cap) (grpF 5 n).length (bytesV (grpF 5 n)) ∧ Below w.heap.size w w' := by
  refine (group_any 5 n (by omega) (by omega) (by omega) (by omega) w).mono ?_
  rintro e w' ⟨v, rfl, h, hb⟩
  obtain ⟨m, hm⟩ : ∃ m, (grpF 5 n).length = m + 1 := ⟨(grpF 5 n).length - 1, by have : 0 < (grpF 5 n).length := grpF_pos 4 n; omega⟩
  rw [hm] at h ⊢
  obtain ⟨g, cap, rfl⟩ := own_shape h
  exact ⟨g, cap, rfl, h, hb⟩
def partB (zs : List Plc) (i : Nat) (l : List Nat) (k : Nat) : List Nat := encUpto zs i ++ grpAll (l.take k)
theorem partB_length (zs : List Plc) (i : Nat) (l : List Nat) (k : Nat) (hk : k ≤ 5) : (partB zs i l k).length ≤ 5 + 25 * i + 25 := by
  have h1 := encUpto_length zs i
  have h2 := grpAll_length (l.take k)
  have h3 := List.length_take (i := k) (l := l)
  unfold partB
  rw [List.length_append]
  omega
theorem refEncode_bad (V : Value) (zs : List Plc) (w : World) (hv : valF zs ≠ 0) (hV : ∀ w', Below w.heap.size w w' → Calls Try.prog 19 #[V] w' fun e w2 => e = .returned (.int .i64 (valF zs)) ∧ Below w'.heap.size w' w2) :
    Calls Try.prog 26 #[V] w fun e w' => e = .returned (.tuple #[.slice none 0 0, .int .i64 (valF zs)]) ∧ Below w.heap.size w w' := by
  have HV := Lib.hid hV
  clear hV
  obtain ⟨X, hX⟩ : ∃ X, X = valF zs := ⟨_, rfl⟩
  rw [← hX] at hv HV ⊢
  clear hX
  go_enter Try.func26, Try.ntmps26
  go_wp2_with fail
  refine (HV.out w (Below.refl _ _)).mono ?_
  rintro e w1 ⟨rfl, hb1⟩
  go_wp2
  refine bodyPost_ret (results_tmp2 rfl _ _ _) rfl ?_
  exact ⟨rfl, hb1⟩
set_option maxRecDepth 100000 in
set_option maxHeartbeats 8000000 in
theorem refEncode_good (b off n c : Nat) (zs : List Plc) (w : World) (hL : Lies w b off zs) (hn : n = zs.length) (hv : valF zs = 0) :
    Calls Try.prog 26 #[.slice (some ⟨b, off, none⟩) n c] w fun e w' => ∃ v, e = .returned (.tuple #[v, .int .i64 0]) ∧ Below w.heap.size w w' ∧ w'.ownsRow w.heap.size 5 1 v (encF zs).length (bytesV (encF zs)) := by
  obtain ⟨i0, hi, hz0, hz1, hz2⟩ := info_parts infoU8
  obtain ⟨h64, hok⟩ := valF_ok hv
  have HL := Lib.hid hL
  have HN := Lib.hid hn
  have HOK := Lib.hid hok
  have n64 : n ≤ 64 := by omega
  have HV := Lib.hid (hv ▸ refValidate_any b off n c zs w hL hn)
  clear hL hn hok hv h64
  go_enter Try.func26, Try.ntmps26
  go_wp2_with fail
  refine (HV.out).mono ?_
  rintro e w1 ⟨rfl, hb1⟩
  go_wp2_with fail
  refine (group5 n (by omega) _).mono ?_
  rintro e w2 ⟨g0, cap0, rfl, hG, hb2⟩
  have hb4 := hb1.trans (hb2.mono hb1.size)
  have hown : w2.ownsRow w.heap.size 5 1 (.slice (some ⟨g0, 0, none⟩) (grpF 5 n).length cap0) (encUpto zs 0).length (bytesV (encUpto zs 0)) := by
    have e0 : grpF 5 n = encUpto zs 0 := by
      have := HN.out
      subst this
      unfold encUpto
      simp
    rw [← e0]
    obtain ⟨h1, h2⟩ := hG
    refine ⟨h1, ?_⟩
    rcases h2 with ⟨h, _⟩ | ⟨g, cap, cur, h, hg, r⟩
    · exact absurd h (by simp)
    · exact .inr ⟨g, cap, cur, h, Nat.le_trans hb1.size hg, r⟩
  generalize hv0 : Value.slice (some ⟨g0, 0, none⟩) (grpF 5 n).length cap0 = v0 at hown
  clear hv0 hG hb1 hb2
  go_wp2
  go_loopw [5, 6, 7] (fun v z zi wr => ∃ i : Nat, i ≤ n ∧ zi = .int .i64 (i : Int) ∧ z = .int .i64 (lastA zs i) ∧ Below w.heap.size w wr ∧ wr.ownsRow w.heap.size 5 1 v (encUpto zs i).length (bytesV (encUpto zs i))) (fun _ _ zi _ => n - (intOf zi).toNat)
  case atStart => exact ⟨0, by omega, rfl, rfl, hb4, hown⟩
  case round =>
    clear hown hb4
    obtain ⟨i, hi', rfl, rfl, hb, hown⟩ := hrel
    by_cases hlt : i < n
    · have ht := (HL.out.below hb).at_ (j := i) (by have := HN.out; omega)
      obtain ⟨p, hp⟩ : ∃ p, p = zs[i]! := ⟨_, rfl⟩
      obtain ⟨A, Z, V, K, N, rfl, hAZ, hZ, hV, hK, hN⟩ := place_nums (p := p) (hp ▸ okAt_place (okAll_at HOK.out (by have := HN.out; omega)))
      obtain ⟨L, hl, hLA⟩ := last_nums HOK.out (j := i) (by have := HN.out; omega)
      rw [← hp] at ht hLA
      have HR := Lib.hid (show rowNums (lastA zs i) zs[i]! = [A - L, Z - A, V, K, N] by rw [← hp, hl]; simp [rowNums])
      rw [hl]
      have HP := Lib.hid hp
      clear hp hl
      obtain ⟨c0, c1, c2, c3, c4⟩ := ht
      simp only at c0 c1 c2 c3 c4 hLA
      obtain ⟨x0, hx0⟩ : ∃ x : Nat, x = A - L := ⟨_, rfl⟩
      obtain ⟨x1, hx1⟩ : ∃ x : Nat, x = Z - A := ⟨_, rfl⟩
      have E0 := Lib.hid (show (A : Int) - (L : Int) = (x0 : Int) by omega)
      have E1 := Lib.hid (show (Z : Int) - (A : Int) = (x1 : Int) by omega)
      rw [← hx0, ← hx1] at HR
      have b0 : x0 < 34359738368 := by omega
      have b1 : x1 < 34359738368 := by omega
      have hlen := encUpto_length zs i
      clear hx0 hx1
      go_wp2_with fail
      have hPc : (wr.alloc (.cells #[.int .i64 A, .int .i64 Z, .int .i64 V, .int .i64 K, .int .i64 N] 33)).heap[wr.heap.size]? = some (.cells #[.int .i64 A, .int .i64 Z, .int .i64 V, .int .i64 K, .int .i64 N] 33 (0, 0)) := heap_alloc_new wr _
      obtain ⟨P, hP⟩ : ∃ P, P = wr.heap.size := ⟨_, rfl⟩
      have hb1 : Below w.heap.size w (wr.alloc (.cells #[.int .i64 A, .int .i64 Z, .int .i64 V, .int .i64 K, .int .i64 N] 33)) := hb.alloc hb.size _
      have hown1 := hown.alloc (.cells #[.int .i64 A, .int .i64 Z, .int .i64 V, .int .i64 K, .int .i64 N] 33)
      rw [← hP] at hPc ⊢
      generalize World.alloc wr _ = W0 at hPc hb1 hown1 ⊢
      clear c0 c1 c2 c3 c4 hown hb hP
      rw [show encUpto zs i = partB zs i [x0, x1, V, K, N] 0 by simp [partB, grpAll]] at hown1
      rw [E0.out]
      refine (group5 x0 (by omega) _).mono ?_
      rintro e G0 ⟨g, cap, rfl, hG, hb6⟩
      have hPc6 := (hb6.block P (lt_of_block hPc)).trans hPc
      have hown6 := own_below hown1 hb6
      have hbb := hb1.trans (hb6.mono hb1.size)
      clear hPc hown1 hb1 hb6
      have hln := partB_length zs i [x0, x1, V, K, N] 0 (by omega)
      have hgl := grpF_length 5 x0
      go_wp2_with (at_builtin; refine wpList_append_own _ rfl _ _ 39 rfl w.heap.size 5 i0 (.int .u8 0) 1 1 Try.underlying39 hi hz0 hz1 hz2 rfl (by decide) _ _ _ rfl hown6 ⟨g, 0, none⟩ _ cap (bytesV (grpF 5 x0)) rfl ?c0 ?c1 ?c2 ?c3 ?c4 ?c5 ?_)
      case c0 => rw [bytesV_length, Nat.mul_one]
      case c1 => exact hG.cells rfl
      case c2 => exact bytesV_one _
      case c3 => unfold maxLen; omega
      case c4 => omega
      case c5 => exact hbb.size
      intro v1 W1 hown1 hgrow _
      have hPc := grown_block hgrow hPc6 (own_ne hown6 hPc6 (by decide))
      have hb1 := hbb.grown hgrow hbb.size (own_base hown6)
      rw [← bytesV_append, ← List.length_append, show partB zs i [x0, x1, V, K, N] 0 ++ grpF 5 x0 = partB zs i [x0, x1, V, K, N] 1 by simp [partB, grpAll]] at hown1
      clear hgrow hPc6 hown6 hbb hG hln hgl
      obtain ⟨d0, d1, d2, d3, d4⟩ := cells5 hPc
      go_wp2_with fail
      clear d0 d1 d2 d3 d4
      rw [E1.out]
      refine (group5 x1 (by omega) _).mono ?_
      rintro e G1 ⟨g, cap, rfl, hG, hb6⟩
      have hPc6 := (hb6.block P (lt_of_block hPc)).trans hPc
      have hown6 := own_below hown1 hb6
      have hbb := hb1.trans (hb6.mono hb1.size)
      clear hPc hown1 hb1 hb6
      have hln := partB_length zs i [x0, x1, V, K, N] 1 (by omega)
      have hgl := grpF_length 5 x1
      go_wp2_with (at_builtin; refine wpList_append_own _ rfl _ _ 39 rfl w.heap.size 5 i0 (.int .u8 0) 1 1 Try.underlying39 hi hz0 hz1 hz2 rfl (by decide) _ _ _ rfl hown6 ⟨g, 0, none⟩ _ cap (bytesV (grpF 5 x1)) rfl ?c0 ?c1 ?c2 ?c3 ?c4 ?c5 ?_)
      case c0 => rw [bytesV_length, Nat.mul_one]
      case c1 => exact hG.cells rfl
      case c2 => exact bytesV_one _
      case c3 => unfold maxLen; omega
      case c4 => omega
      case c5 => exact hbb.size
      intro v2 W2 hown1 hgrow _
      have hPc := grown_block hgrow hPc6 (own_ne hown6 hPc6 (by decide))
      have hb1 := hbb.grown hgrow hbb.size (own_base hown6)
      rw [← bytesV_append, ← List.length_append, show partB zs i [x0, x1, V, K, N] 1 ++ grpF 5 x1 = partB zs i [x0, x1, V, K, N] 2 by simp [partB, grpAll]] at hown1
      clear hgrow hPc6 hown6 hbb hG hln hgl
      obtain ⟨d0, d1, d2, d3, d4⟩ := cells5 hPc
      go_wp2_with fail
      clear d0 d1 d2 d3 d4
      refine (group5 V (by omega) _).mono ?_
      rintro e G2 ⟨g, cap, rfl, hG, hb6⟩
      have hPc6 := (hb6.block P (lt_of_block hPc)).trans hPc
      have hown6 := own_below hown1 hb6
      have hbb := hb1.trans (hb6.mono hb1.size)
      clear hPc hown1 hb1 hb6
      have hln := partB_length zs i [x0, x1, V, K, N] 2 (by omega)
      have hgl := grpF_length 5 V
      go_wp2_with (at_builtin; refine wpList_append_own _ rfl _ _ 39 rfl w.heap.size 5 i0 (.int .u8 0) 1 1 Try.underlying39 hi hz0 hz1 hz2 rfl (by decide) _ _ _ rfl hown6 ⟨g, 0, none⟩ _ cap (bytesV (grpF 5 V)) rfl ?c0 ?c1 ?c2 ?c3 ?c4 ?c5 ?_)
      case c0 => rw [bytesV_length, Nat.mul_one]
      case c1 => exact hG.cells rfl
      case c2 => exact bytesV_one _
      case c3 => unfold maxLen; omega
      case c4 => omega
      case c5 => exact hbb.size
      intro v3 W3 hown1 hgrow _
      have hPc := grown_block hgrow hPc6 (own_ne hown6 hPc6 (by decide))
      have hb1 := hbb.grown hgrow hbb.size (own_base hown6)
      rw [← bytesV_append, ← List.length_append, show partB zs i [x0, x1, V, K, N] 2 ++ grpF 5 V = partB zs i [x0, x1, V, K, N] 3 by simp [partB, grpAll]] at hown1
      clear hgrow hPc6 hown6 hbb hG hln hgl
      obtain ⟨d0, d1, d2, d3, d4⟩ := cells5 hPc
      go_wp2_with fail
      clear d0 d1 d2 d3 d4
      refine (group5 K (by omega) _).mono ?_
      rintro e G3 ⟨g, cap, rfl, hG, hb6⟩
      have hPc6 := (hb6.block P (lt_of_block hPc)).trans hPc
      have hown6 := own_below hown1 hb6
      have hbb := hb1.trans (hb6.mono hb1.size)
      clear hPc hown1 hb1 hb6
      have hln := partB_length zs i [x0, x1, V, K, N] 3 (by omega)
      have hgl := grpF_length 5 K
      go_wp2_with (at_builtin; refine wpList_append_own _ rfl _ _ 39 rfl w.heap.size 5 i0 (.int .u8 0) 1 1 Try.underlying39 hi hz0 hz1 hz2 rfl (by decide) _ _ _ rfl hown6 ⟨g, 0, none⟩ _ cap (bytesV (grpF 5 K)) rfl ?c0 ?c1 ?c2 ?c3 ?c4 ?c5 ?_)
      case c0 => rw [bytesV_length, Nat.mul_one]
      case c1 => exact hG.cells rfl
      case c2 => exact bytesV_one _
      case c3 => unfold maxLen; omega
      case c4 => omega
      case c5 => exact hbb.size
      intro v4 W4 hown1 hgrow _
      have hPc := grown_block hgrow hPc6 (own_ne hown6 hPc6 (by decide))
      have hb1 := hbb.grown hgrow hbb.size (own_base hown6)
      rw [← bytesV_append, ← List.length_append, show partB zs i [x0, x1, V, K, N] 3 ++ grpF 5 K = partB zs i [x0, x1, V, K, N] 4 by simp [partB, grpAll]] at hown1
      clear hgrow hPc6 hown6 hbb hG hln hgl
      obtain ⟨d0, d1, d2, d3, d4⟩ := cells5 hPc
      go_wp2_with fail
      clear d0 d1 d2 d3 d4
      refine (group5 N (by omega) _).mono ?_
      rintro e G4 ⟨g, cap, rfl, hG, hb6⟩
      have hPc6 := (hb6.block P (lt_of_block hPc)).trans hPc
      have hown6 := own_below hown1 hb6
      have hbb := hb1.trans (hb6.mono hb1.size)
      clear hPc hown1 hb1 hb6
      have hln := partB_length zs i [x0, x1, V, K, N] 4 (by omega)
      have hgl := grpF_length 5 N
      go_wp2_with (at_builtin; refine wpList_append_own _ rfl _ _ 39 rfl w.heap.size 5 i0 (.int .u8 0) 1 1 Try.underlying39 hi hz0 hz1 hz2 rfl (by decide) _ _ _ rfl hown6 ⟨g, 0, none⟩ _ cap (bytesV (grpF 5 N)) rfl ?c0 ?c1 ?c2 ?c3 ?c4 ?c5 ?_)
      case c0 => rw [bytesV_length, Nat.mul_one]
      case c1 => exact hG.cells rfl
      case c2 => exact bytesV_one _
      case c3 => unfold maxLen; omega
      case c4 => omega
      case c5 => exact hbb.size
      intro v5 W5 hown1 hgrow _
      have hPc := grown_block hgrow hPc6 (own_ne hown6 hPc6 (by decide))
      have hb1 := hbb.grown hgrow hbb.size (own_base hown6)
      rw [← bytesV_append, ← List.length_append, show partB zs i [x0, x1, V, K, N] 4 ++ grpF 5 N = partB zs i [x0, x1, V, K, N] 5 by simp [partB, grpAll]] at hown1
      clear hgrow hPc6 hown6 hbb hG hln hgl
      obtain ⟨d0, d1, d2, d3, d4⟩ := cells5 hPc
      have e1 : partB zs i [x0, x1, V, K, N] 5 = encUpto zs (i + 1) := by rw [encUpto_succ, HR.out]; rfl
      rw [e1] at hown1
      have e2 : lastA zs (i + 1) = A := by unfold lastA; rw [if_neg (by omega), Nat.add_sub_cancel, ← HP.out]
      have H2 := Lib.hid e2
      clear hPc e1 e2
      go_wp2
      go_roundw
      case rel => exact ⟨i + 1, by omega, by go_num, by rw [H2.out], hb1, hown1⟩
      case measure => simp [intOf]; omega
    · obtain rfl : i = n := by omega
      have HW := Lib.hid hown
      clear hown
      go_wp2
      refine bodyPost_ret (results_tmp2 rfl _ _ _) rfl ?_
      have h := HW.out
      rw [HN.out] at h
      exact ⟨_, rfl, hb, h⟩
end Go.Proofs.Ytdpfglpefncigaa
