/-
  Bytes of numbers: little, registers, memory.
-/
import Derived.Test.YtpekegeohcnhcaaIaB
namespace Go.Proofs.Ytpekegeohcnhcaa
open Go.RowKit

def byV (l : List Int) : List Value := l.map (Value.int .u8)
theorem byV_append (a b : List Int) : byV (a ++ b) = byV a ++ byV b := by simp [byV]
theorem byV_length (l : List Int) : (byV l).length = l.length := by simp [byV]
theorem byV_one (l : List Int) : ∀ u ∈ byV l, u.oneCell' = true := by
  intro u hu
  obtain ⟨x, -, rfl⟩ := List.mem_map.1 hu
  rfl
theorem infoBy : (Try.prog.info? 5).map (fun i => (i.zero, i.size, i.bytes)) = some (some (.int .u8 0), 1, 1) := by kernel_rfl
theorem i64_mask (n : Int) (k : Nat) (hk : k ≤ 62) : bits .and .i64 n ((2 ^ k - 1 : Nat) : Int) = n % ((2 ^ k : Nat) : Int) := by
  have hp : 2 ^ k ≤ 2 ^ 62 := Nat.pow_le_pow_right (by omega) hk
  have hp0 : 0 < 2 ^ k := Nat.pow_pos (by omega)
  have hm : (BitVec.ofInt 64 ((2 ^ k - 1 : Nat) : Int)).toNat = 2 ^ k - 1 := by
    rw [BitVec.toNat_ofInt]
    omega
  have key : (BitVec.ofInt 64 n &&& BitVec.ofInt 64 ((2 ^ k - 1 : Nat) : Int)).toNat = (n % ((2 ^ 64 : Nat) : Int)).toNat % 2 ^ k := by
    rw [BitVec.toNat_and, BitVec.toNat_ofInt, hm, Nat.and_two_pow_sub_one_eq_mod]
  show IntKind.i64.wrap ((BitVec.ofInt 64 n &&& BitVec.ofInt 64 ((2 ^ k - 1 : Nat) : Int)).toNat : Nat) = _
  rw [key, IntKind.wrap_i64]
  have h2 : ((n % ((2 ^ 64 : Nat) : Int)).toNat % 2 ^ k : Nat) < 2 ^ k := Nat.mod_lt _ hp0
  have h3 : (((n % ((2 ^ 64 : Nat) : Int)).toNat % 2 ^ k : Nat) : Int) = n % ((2 ^ k : Nat) : Int) := by
    rw [Int.natCast_emod, Int.toNat_of_nonneg (Int.emod_nonneg _ (by decide)), Int.emod_emod_of_dvd]
    exact Int.natCast_dvd_natCast.2 (Nat.pow_dvd_pow 2 (by omega))
  rw [← h3]
  omega
theorem and255 (n : Int) : bits .and .i64 n 255 = n % 256 := i64_mask n 8 (by omega)
theorem own_lit {W : World} {X base : Nat} {l : List Int} (hb : base ≤ X) (h : W.heap[X]? = some (.cells (byV l).toArray 5 (0, 0))) (hn : l.length ≤ 1000) :
    W.ownsRow base 5 1 (.slice (some ⟨X, 0, none⟩) l.length l.length) l.length (byV l) :=
  ⟨by simp [byV], .inr ⟨X, l.length, _, rfl, hb, h, Nat.le_refl _, by unfold maxLen; omega, by simp [byV], by rw [Nat.mul_one]; exact List.take_of_length_le (by simp [byV])⟩⟩
theorem one_new (w : World) (v : Value) (t : TypeId) : ∀ j u, [v][j]? = some u → (w.alloc (.cells #[v] t)).cell? ((⟨w.heap.size, 0, none⟩ : Addr).add j) = some u := by
  intro j u hj
  have hj0 : j = 0 := by
    have := (List.getElem?_eq_some_iff.1 hj).1
    simpa using this
  subst hj0
  have e : (⟨w.heap.size, 0, none⟩ : Addr).add 0 = ⟨w.heap.size, 0, none⟩ := by simp [Addr.add]
  rw [e, cell_of_row _ _ 0 _ _ _ (heap_alloc_new w (.cells #[v] t))]
  simpa using hj
theorem own_base {w : World} {base e size k : Nat} {v : Value} {xs : List Value} (h : w.ownsRow base e size v k xs) : ∀ g, v.ownBlock = some g → base ≤ g := by
  intro g hg
  rcases h.2 with ⟨rfl, _⟩ | ⟨g', cap, cur, rfl, hb, _⟩
  · simp [Value.ownBlock] at hg
  · have : g' = g := by simpa [Value.ownBlock] using hg
    omega
theorem own_below {w w' : World} {base e size k : Nat} {v : Value} {xs : List Value} (h : w.ownsRow base e size v k xs) (hb : Below w.heap.size w w') : w'.ownsRow base e size v k xs := by
  refine ⟨h.1, ?_⟩
  rcases h.2 with h2 | ⟨g, cap, cur, h1, h2, h3, h4⟩
  · exact .inl h2
  · exact .inr ⟨g, cap, cur, h1, h2, (hb.block _ (lt_of_block h3)).trans h3, h4⟩
theorem own_lower {w' : World} {b1 b2 e size k : Nat} {v : Value} {xs : List Value} (h : w'.ownsRow b1 e size v k xs) (hb : b2 ≤ b1) : w'.ownsRow b2 e size v k xs := by
  refine ⟨h.1, ?_⟩
  rcases h.2 with h2 | ⟨g, cap, cur, h1, h2, h3⟩
  · exact .inl h2
  · exact .inr ⟨g, cap, cur, h1, by omega, h3⟩
theorem own_form {w : World} {base e size k : Nat} {v : Value} {xs : List Value} (h : w.ownsRow base e size v k xs) (hk : 0 < k) : ∃ g cap, v = .slice (some ⟨g, 0, none⟩) k cap := by
  rcases h.2 with ⟨_, h0⟩ | ⟨g, cap, cur, h0, _⟩
  · omega
  · exact ⟨g, cap, h0⟩
set_option maxRecDepth 100000 in
set_option maxHeartbeats 4000000 in
theorem little32_any (n : Int) (w : World) (_ : -9223372036854775808 ≤ n) (_ : n ≤ 9223372036854775807) :
    Calls Try.prog 90 #[.int .i64 n, .int .i64 32] w fun e w' => ∃ g cap, e = .returned (.slice (some ⟨g, 0, none⟩) 4 cap) ∧ w'.ownsRow w.heap.size 5 1 (.slice (some ⟨g, 0, none⟩) 4 cap) 4 (byV (le4 n)) ∧ Below w.heap.size w w' := by
  obtain ⟨i0, hi, hz0, hz1, hz2⟩ := info_parts infoBy
  go_enter Try.func90, Try.ntmps90
  go_wp2
  go_loopw [5, 6] (fun vl zi wr => ∃ k : Nat, k ≤ 4 ∧ zi = .int .i64 (8 * k : Nat) ∧ wr.ownsRow w.heap.size 5 1 vl k (byV ((le4 n).take k)) ∧ Below w.heap.size w wr) (fun _ zi _ => 40 - (intOf zi).toNat)
  case atStart => exact ⟨0, by omega, rfl, World.ownsRow_nil _ _ _ _, Below.refl _ _⟩
  case round =>
    obtain ⟨k, hk, rfl, hown, hb⟩ := hrel
    have hk' : k = 0 ∨ k = 1 ∨ k = 2 ∨ k = 3 ∨ k = 4 := by omega
    clear hk
    rcases hk' with rfl | rfl | rfl | rfl | rfl
    · rw [show ((8 * 0 : Nat) : Int) = 0 from rfl]
      go_wp2_with (at_builtin; refine wpList_append_own _ rfl _ _ 24 rfl w.heap.size 5 i0 (.int .u8 0) 1 1 Try.underlying24 hi hz0 hz1 hz2 rfl (by decide) _ 0 _ rfl (hown.alloc _) ⟨wr.heap.size, 0, none⟩ 1 1 [.int .u8 (n % 256)] rfl rfl ?a0 ?b0 ?c0 ?d0 ?e0 ?_)
      case a0 => exact one_new wr _ _
      case b0 => simp [Value.oneCell']
      case c0 => unfold maxLen; omega
      case d0 => omega
      case e0 => have := hb.size; simp; omega
      intro v7 w7 hown7 hgrow _
      have hb7 : Below w.heap.size w w7 := (hb.alloc hb.size _).grown hgrow (by have := hb.size; simp; omega) (fun g hg => own_base (hown.alloc (.cells #[.int .u8 (n % 256)] 5)) g hg)
      have HO7 := Lib.hid (show w7.ownsRow w.heap.size 5 1 v7 1 (byV ((le4 n).take 1)) from hown7)
      clear hown hown7 hgrow hb
      go_wp2
      go_roundw
      case rel => exact ⟨1, by omega, rfl, HO7.out, hb7⟩
      case measure => simp [intOf]
    · rw [show ((8 * 1 : Nat) : Int) = 8 from rfl]
      go_wp2_with (at_builtin; refine wpList_append_own _ rfl _ _ 24 rfl w.heap.size 5 i0 (.int .u8 0) 1 1 Try.underlying24 hi hz0 hz1 hz2 rfl (by decide) _ 1 _ rfl (hown.alloc _) ⟨wr.heap.size, 0, none⟩ 1 1 [.int .u8 (n / 256 % 256)] rfl rfl ?a1 ?b1 ?c1 ?d1 ?e1 ?_)
      case a1 => exact one_new wr _ _
      case b1 => simp [Value.oneCell']
      case c1 => unfold maxLen; omega
      case d1 => omega
      case e1 => have := hb.size; simp; omega
      intro v7 w7 hown7 hgrow _
      have hb7 : Below w.heap.size w w7 := (hb.alloc hb.size _).grown hgrow (by have := hb.size; simp; omega) (fun g hg => own_base (hown.alloc (.cells #[.int .u8 (n / 256 % 256)] 5)) g hg)
      have HO7 := Lib.hid (show w7.ownsRow w.heap.size 5 1 v7 2 (byV ((le4 n).take 2)) from hown7)
      clear hown hown7 hgrow hb
      go_wp2
      go_roundw
      case rel => exact ⟨2, by omega, rfl, HO7.out, hb7⟩
      case measure => simp [intOf]
    · rw [show ((8 * 2 : Nat) : Int) = 16 from rfl]
      go_wp2_with (at_builtin; refine wpList_append_own _ rfl _ _ 24 rfl w.heap.size 5 i0 (.int .u8 0) 1 1 Try.underlying24 hi hz0 hz1 hz2 rfl (by decide) _ 2 _ rfl (hown.alloc _) ⟨wr.heap.size, 0, none⟩ 1 1 [.int .u8 (n / 65536 % 256)] rfl rfl ?a2 ?b2 ?c2 ?d2 ?e2 ?_)
      case a2 => exact one_new wr _ _
      case b2 => simp [Value.oneCell']
      case c2 => unfold maxLen; omega
      case d2 => omega
      case e2 => have := hb.size; simp; omega
      intro v7 w7 hown7 hgrow _
      have hb7 : Below w.heap.size w w7 := (hb.alloc hb.size _).grown hgrow (by have := hb.size; simp; omega) (fun g hg => own_base (hown.alloc (.cells #[.int .u8 (n / 65536 % 256)] 5)) g hg)
      have HO7 := Lib.hid (show w7.ownsRow w.heap.size 5 1 v7 3 (byV ((le4 n).take 3)) from hown7)
      clear hown hown7 hgrow hb
      go_wp2
      go_roundw
      case rel => exact ⟨3, by omega, rfl, HO7.out, hb7⟩
      case measure => simp [intOf]
    · rw [show ((8 * 3 : Nat) : Int) = 24 from rfl]
      go_wp2_with (at_builtin; refine wpList_append_own _ rfl _ _ 24 rfl w.heap.size 5 i0 (.int .u8 0) 1 1 Try.underlying24 hi hz0 hz1 hz2 rfl (by decide) _ 3 _ rfl (hown.alloc _) ⟨wr.heap.size, 0, none⟩ 1 1 [.int .u8 (n / 16777216 % 256)] rfl rfl ?a3 ?b3 ?c3 ?d3 ?e3 ?_)
      case a3 => exact one_new wr _ _
      case b3 => simp [Value.oneCell']
      case c3 => unfold maxLen; omega
      case d3 => omega
      case e3 => have := hb.size; simp; omega
      intro v7 w7 hown7 hgrow _
      have hb7 : Below w.heap.size w w7 := (hb.alloc hb.size _).grown hgrow (by have := hb.size; simp; omega) (fun g hg => own_base (hown.alloc (.cells #[.int .u8 (n / 16777216 % 256)] 5)) g hg)
      have HO7 := Lib.hid (show w7.ownsRow w.heap.size 5 1 v7 4 (byV ((le4 n).take 4)) from hown7)
      clear hown hown7 hgrow hb
      go_wp2
      go_roundw
      case rel => exact ⟨4, by omega, rfl, HO7.out, hb7⟩
      case measure => simp [intOf]
    · rw [show ((8 * 4 : Nat) : Int) = 32 from rfl]
      obtain ⟨g, cap, hv⟩ := own_form hown (by omega)
      subst hv
      go_wp2
      go_ret
      exact ⟨g, cap, rfl, hown, hb⟩
set_option maxRecDepth 100000 in
set_option maxHeartbeats 4000000 in
theorem little16_any (n : Int) (w : World) (_ : -9223372036854775808 ≤ n) (_ : n ≤ 9223372036854775807) :
    Calls Try.prog 90 #[.int .i64 n, .int .i64 16] w fun e w' => ∃ g cap, e = .returned (.slice (some ⟨g, 0, none⟩) 2 cap) ∧ w'.ownsRow w.heap.size 5 1 (.slice (some ⟨g, 0, none⟩) 2 cap) 2 (byV (le2 n)) ∧ Below w.heap.size w w' := by
  obtain ⟨i0, hi, hz0, hz1, hz2⟩ := info_parts infoBy
  go_enter Try.func90, Try.ntmps90
  go_wp2
  go_loopw [5, 6] (fun vl zi wr => ∃ k : Nat, k ≤ 2 ∧ zi = .int .i64 (8 * k : Nat) ∧ wr.ownsRow w.heap.size 5 1 vl k (byV ((le2 n).take k)) ∧ Below w.heap.size w wr) (fun _ zi _ => 40 - (intOf zi).toNat)
  case atStart => exact ⟨0, by omega, rfl, World.ownsRow_nil _ _ _ _, Below.refl _ _⟩
  case round =>
    obtain ⟨k, hk, rfl, hown, hb⟩ := hrel
    have hk' : k = 0 ∨ k = 1 ∨ k = 2 := by omega
    clear hk
    rcases hk' with rfl | rfl | rfl
    · rw [show ((8 * 0 : Nat) : Int) = 0 from rfl]
      go_wp2_with (at_builtin; refine wpList_append_own _ rfl _ _ 24 rfl w.heap.size 5 i0 (.int .u8 0) 1 1 Try.underlying24 hi hz0 hz1 hz2 rfl (by decide) _ 0 _ rfl (hown.alloc _) ⟨wr.heap.size, 0, none⟩ 1 1 [.int .u8 (n % 256)] rfl rfl ?a0 ?b0 ?c0 ?d0 ?e0 ?_)
      case a0 => exact one_new wr _ _
      case b0 => simp [Value.oneCell']
      case c0 => unfold maxLen; omega
      case d0 => omega
      case e0 => have := hb.size; simp; omega
      intro v7 w7 hown7 hgrow _
      have hb7 : Below w.heap.size w w7 := (hb.alloc hb.size _).grown hgrow (by have := hb.size; simp; omega) (fun g hg => own_base (hown.alloc (.cells #[.int .u8 (n % 256)] 5)) g hg)
      have HO7 := Lib.hid (show w7.ownsRow w.heap.size 5 1 v7 1 (byV ((le2 n).take 1)) from hown7)
      clear hown hown7 hgrow hb
      go_wp2
      go_roundw
      case rel => exact ⟨1, by omega, rfl, HO7.out, hb7⟩
      case measure => simp [intOf]
    · rw [show ((8 * 1 : Nat) : Int) = 8 from rfl]
      go_wp2_with (at_builtin; refine wpList_append_own _ rfl _ _ 24 rfl w.heap.size 5 i0 (.int .u8 0) 1 1 Try.underlying24 hi hz0 hz1 hz2 rfl (by decide) _ 1 _ rfl (hown.alloc _) ⟨wr.heap.size, 0, none⟩ 1 1 [.int .u8 (n / 256 % 256)] rfl rfl ?a1 ?b1 ?c1 ?d1 ?e1 ?_)
      case a1 => exact one_new wr _ _
      case b1 => simp [Value.oneCell']
      case c1 => unfold maxLen; omega
      case d1 => omega
      case e1 => have := hb.size; simp; omega
      intro v7 w7 hown7 hgrow _
      have hb7 : Below w.heap.size w w7 := (hb.alloc hb.size _).grown hgrow (by have := hb.size; simp; omega) (fun g hg => own_base (hown.alloc (.cells #[.int .u8 (n / 256 % 256)] 5)) g hg)
      have HO7 := Lib.hid (show w7.ownsRow w.heap.size 5 1 v7 2 (byV ((le2 n).take 2)) from hown7)
      clear hown hown7 hgrow hb
      go_wp2
      go_roundw
      case rel => exact ⟨2, by omega, rfl, HO7.out, hb7⟩
      case measure => simp [intOf]
    · rw [show ((8 * 2 : Nat) : Int) = 16 from rfl]
      obtain ⟨g, cap, hv⟩ := own_form hown (by omega)
      subst hv
      go_wp2
      go_ret
      exact ⟨g, cap, rfl, hown, hb⟩
set_option maxRecDepth 100000 in
set_option maxHeartbeats 4000000 in
theorem rLittle4_any (n : Int) (w : World) (h1 : -9223372036854775808 ≤ n) (h2 : n ≤ 9223372036854775807) :
    Calls Try.prog 81 #[.int .i64 n, .int .i64 4] w fun e w' => ∃ g cap, e = .returned (.slice (some ⟨g, 0, none⟩) 4 cap) ∧ w'.ownsRow w.heap.size 5 1 (.slice (some ⟨g, 0, none⟩) 4 cap) 4 (byV (le4 n)) ∧ Below w.heap.size w w' := by
  obtain ⟨i0, hi, hz0, hz1, hz2⟩ := info_parts infoBy
  go_enter Try.func81, Try.ntmps81
  go_wp2
  go_loopw [0, 5, 6] (fun z0 vl zi wr => ∃ (k : Nat) (m : Int), k ≤ 4 ∧ z0 = .int .i64 m ∧ Hid (m = [n, n / 256, n / 256 / 256, n / 256 / 256 / 256, n / 256 / 256 / 256 / 256].getD k 0) ∧ zi = .int .i64 (k : Int) ∧ wr.ownsRow w.heap.size 5 1 vl k (byV ((le4 n).take k)) ∧ Below w.heap.size w wr) (fun _ _ zi _ => 10 - (intOf zi).toNat)
  case atStart => exact ⟨0, n, by omega, rfl, Lib.hid rfl, rfl, World.ownsRow_nil _ _ _ _, Below.refl _ _⟩
  case round =>
    obtain ⟨k, m, hk, rfl, HM, rfl, hown, hb⟩ := hrel
    have hk' : k = 0 ∨ k = 1 ∨ k = 2 ∨ k = 3 ∨ k = 4 := by omega
    clear hk
    have ha := and255 m
    rcases hk' with rfl | rfl | rfl | rfl | rfl
    · have hm1 : -9223372036854775808 ≤ m ∧ m ≤ 9223372036854775807 := by
        have : m = n := HM.out
        omega
      obtain ⟨hm2, hm3⟩ := hm1
      rw [show ((0 : Nat) : Int) = 0 from rfl]
      go_wp2_with (at_builtin; refine wpList_append_own _ rfl _ _ 24 rfl w.heap.size 5 i0 (.int .u8 0) 1 1 Try.underlying24 hi hz0 hz1 hz2 rfl (by decide) _ 0 _ rfl (hown.alloc _) ⟨wr.heap.size, 0, none⟩ 1 1 [.int .u8 (m % 256)] rfl rfl ?a0 ?b0 ?c0 ?d0 ?e0 ?_)
      case a0 => exact one_new wr _ _
      case b0 => simp [Value.oneCell']
      case c0 => unfold maxLen; omega
      case d0 => omega
      case e0 => have := hb.size; simp; omega
      intro v7 w7 hown7 hgrow _
      have hb7 : Below w.heap.size w w7 := (hb.alloc hb.size _).grown hgrow (by have := hb.size; simp; omega) (fun g hg => own_base (hown.alloc (.cells #[.int .u8 (m % 256)] 5)) g hg)
      have HO7 := Lib.hid (show w7.ownsRow w.heap.size 5 1 v7 1 (byV ((le4 n).take 1)) by
        have e : (le4 n).take 1 = (le4 n).take 0 ++ [m % 256] := by
          have : m = n := HM.out
          subst this
          simp only [le4, List.take, List.nil_append]
          try omega
        rw [e, byV_append]
        exact hown7)
      have HM2 := Lib.hid (show m / 256 = [n, n / 256, n / 256 / 256, n / 256 / 256 / 256, n / 256 / 256 / 256 / 256].getD 1 0 by
        have : m = n := HM.out
        rw [this]
        rfl)
      clear hown hown7 hgrow hb HM
      go_wp2
      go_roundw
      case rel => exact ⟨1, _, by omega, rfl, HM2, rfl, HO7.out, hb7⟩
      case measure => simp [intOf]
    · have hm1 : -9223372036854775808 ≤ m ∧ m ≤ 9223372036854775807 := by
        have : m = n / 256 := HM.out
        omega
      obtain ⟨hm2, hm3⟩ := hm1
      rw [show ((1 : Nat) : Int) = 1 from rfl]
      go_wp2_with (at_builtin; refine wpList_append_own _ rfl _ _ 24 rfl w.heap.size 5 i0 (.int .u8 0) 1 1 Try.underlying24 hi hz0 hz1 hz2 rfl (by decide) _ 1 _ rfl (hown.alloc _) ⟨wr.heap.size, 0, none⟩ 1 1 [.int .u8 (m % 256)] rfl rfl ?a1 ?b1 ?c1 ?d1 ?e1 ?_)
      case a1 => exact one_new wr _ _
      case b1 => simp [Value.oneCell']
      case c1 => unfold maxLen; omega
      case d1 => omega
      case e1 => have := hb.size; simp; omega
      intro v7 w7 hown7 hgrow _
      have hb7 : Below w.heap.size w w7 := (hb.alloc hb.size _).grown hgrow (by have := hb.size; simp; omega) (fun g hg => own_base (hown.alloc (.cells #[.int .u8 (m % 256)] 5)) g hg)
      have HO7 := Lib.hid (show w7.ownsRow w.heap.size 5 1 v7 2 (byV ((le4 n).take 2)) by
        have e : (le4 n).take 2 = (le4 n).take 1 ++ [m % 256] := by
          have : m = n / 256 := HM.out
          subst this
          simp only [le4, List.take, List.nil_append, List.cons_append]
          try omega
        rw [e, byV_append]
        exact hown7)
      have HM2 := Lib.hid (show m / 256 = [n, n / 256, n / 256 / 256, n / 256 / 256 / 256, n / 256 / 256 / 256 / 256].getD 2 0 by
        have : m = n / 256 := HM.out
        rw [this]
        rfl)
      clear hown hown7 hgrow hb HM
      go_wp2
      go_roundw
      case rel => exact ⟨2, _, by omega, rfl, HM2, rfl, HO7.out, hb7⟩
      case measure => simp [intOf]
    · have hm1 : -9223372036854775808 ≤ m ∧ m ≤ 9223372036854775807 := by
        have : m = n / 256 / 256 := HM.out
        omega
      obtain ⟨hm2, hm3⟩ := hm1
      rw [show ((2 : Nat) : Int) = 2 from rfl]
      go_wp2_with (at_builtin; refine wpList_append_own _ rfl _ _ 24 rfl w.heap.size 5 i0 (.int .u8 0) 1 1 Try.underlying24 hi hz0 hz1 hz2 rfl (by decide) _ 2 _ rfl (hown.alloc _) ⟨wr.heap.size, 0, none⟩ 1 1 [.int .u8 (m % 256)] rfl rfl ?a2 ?b2 ?c2 ?d2 ?e2 ?_)
      case a2 => exact one_new wr _ _
      case b2 => simp [Value.oneCell']
      case c2 => unfold maxLen; omega
      case d2 => omega
      case e2 => have := hb.size; simp; omega
      intro v7 w7 hown7 hgrow _
      have hb7 : Below w.heap.size w w7 := (hb.alloc hb.size _).grown hgrow (by have := hb.size; simp; omega) (fun g hg => own_base (hown.alloc (.cells #[.int .u8 (m % 256)] 5)) g hg)
      have HO7 := Lib.hid (show w7.ownsRow w.heap.size 5 1 v7 3 (byV ((le4 n).take 3)) by
        have e : (le4 n).take 3 = (le4 n).take 2 ++ [m % 256] := by
          have : m = n / 256 / 256 := HM.out
          subst this
          simp only [le4, List.take, List.nil_append, List.cons_append, List.cons.injEq, and_true, true_and]
          try omega
        rw [e, byV_append]
        exact hown7)
      have HM2 := Lib.hid (show m / 256 = [n, n / 256, n / 256 / 256, n / 256 / 256 / 256, n / 256 / 256 / 256 / 256].getD 3 0 by
        have : m = n / 256 / 256 := HM.out
        rw [this]
        rfl)
      clear hown hown7 hgrow hb HM
      go_wp2
      go_roundw
      case rel => exact ⟨3, _, by omega, rfl, HM2, rfl, HO7.out, hb7⟩
      case measure => simp [intOf]
    · have hm1 : -9223372036854775808 ≤ m ∧ m ≤ 9223372036854775807 := by
        have : m = n / 256 / 256 / 256 := HM.out
        omega
      obtain ⟨hm2, hm3⟩ := hm1
      rw [show ((3 : Nat) : Int) = 3 from rfl]
      go_wp2_with (at_builtin; refine wpList_append_own _ rfl _ _ 24 rfl w.heap.size 5 i0 (.int .u8 0) 1 1 Try.underlying24 hi hz0 hz1 hz2 rfl (by decide) _ 3 _ rfl (hown.alloc _) ⟨wr.heap.size, 0, none⟩ 1 1 [.int .u8 (m % 256)] rfl rfl ?a3 ?b3 ?c3 ?d3 ?e3 ?_)
      case a3 => exact one_new wr _ _
      case b3 => simp [Value.oneCell']
      case c3 => unfold maxLen; omega
      case d3 => omega
      case e3 => have := hb.size; simp; omega
      intro v7 w7 hown7 hgrow _
      have hb7 : Below w.heap.size w w7 := (hb.alloc hb.size _).grown hgrow (by have := hb.size; simp; omega) (fun g hg => own_base (hown.alloc (.cells #[.int .u8 (m % 256)] 5)) g hg)
      have HO7 := Lib.hid (show w7.ownsRow w.heap.size 5 1 v7 4 (byV ((le4 n).take 4)) by
        have e : (le4 n).take 4 = (le4 n).take 3 ++ [m % 256] := by
          have : m = n / 256 / 256 / 256 := HM.out
          subst this
          simp only [le4, List.take, List.nil_append, List.cons_append, List.cons.injEq, and_true, true_and]
          try omega
        rw [e, byV_append]
        exact hown7)
      have HM2 := Lib.hid (show m / 256 = [n, n / 256, n / 256 / 256, n / 256 / 256 / 256, n / 256 / 256 / 256 / 256].getD 4 0 by
        have : m = n / 256 / 256 / 256 := HM.out
        rw [this]
        rfl)
      clear hown hown7 hgrow hb HM
      go_wp2
      go_roundw
      case rel => exact ⟨4, _, by omega, rfl, HM2, rfl, HO7.out, hb7⟩
      case measure => simp [intOf]
    · rw [show ((4 : Nat) : Int) = 4 from rfl]
      obtain ⟨g, cap, hv⟩ := own_form hown (by omega)
      subst hv
      go_wp2
      go_ret
      exact ⟨g, cap, rfl, hown, hb⟩
set_option maxRecDepth 100000 in
set_option maxHeartbeats 4000000 in
theorem rLittle2_any (n : Int) (w : World) (h1 : -9223372036854775808 ≤ n) (h2 : n ≤ 9223372036854775807) :
    Calls Try.prog 81 #[.int .i64 n, .int .i64 2] w fun e w' => ∃ g cap, e = .returned (.slice (some ⟨g, 0, none⟩) 2 cap) ∧ w'.ownsRow w.heap.size 5 1 (.slice (some ⟨g, 0, none⟩) 2 cap) 2 (byV (le2 n)) ∧ Below w.heap.size w w' := by
  obtain ⟨i0, hi, hz0, hz1, hz2⟩ := info_parts infoBy
  go_enter Try.func81, Try.ntmps81
  go_wp2
  go_loopw [0, 5, 6] (fun z0 vl zi wr => ∃ (k : Nat) (m : Int), k ≤ 2 ∧ z0 = .int .i64 m ∧ Hid (m = [n, n / 256, n / 256 / 256].getD k 0) ∧ zi = .int .i64 (k : Int) ∧ wr.ownsRow w.heap.size 5 1 vl k (byV ((le2 n).take k)) ∧ Below w.heap.size w wr) (fun _ _ zi _ => 10 - (intOf zi).toNat)
  case atStart => exact ⟨0, n, by omega, rfl, Lib.hid rfl, rfl, World.ownsRow_nil _ _ _ _, Below.refl _ _⟩
  case round =>
    obtain ⟨k, m, hk, rfl, HM, rfl, hown, hb⟩ := hrel
    have hk' : k = 0 ∨ k = 1 ∨ k = 2 := by omega
    clear hk
    have ha := and255 m
    rcases hk' with rfl | rfl | rfl
    · have hm1 : -9223372036854775808 ≤ m ∧ m ≤ 9223372036854775807 := by
        have : m = n := HM.out
        omega
      obtain ⟨hm2, hm3⟩ := hm1
      rw [show ((0 : Nat) : Int) = 0 from rfl]
      go_wp2_with (at_builtin; refine wpList_append_own _ rfl _ _ 24 rfl w.heap.size 5 i0 (.int .u8 0) 1 1 Try.underlying24 hi hz0 hz1 hz2 rfl (by decide) _ 0 _ rfl (hown.alloc _) ⟨wr.heap.size, 0, none⟩ 1 1 [.int .u8 (m % 256)] rfl rfl ?a0 ?b0 ?c0 ?d0 ?e0 ?_)
      case a0 => exact one_new wr _ _
      case b0 => simp [Value.oneCell']
      case c0 => unfold maxLen; omega
      case d0 => omega
      case e0 => have := hb.size; simp; omega
      intro v7 w7 hown7 hgrow _
      have hb7 : Below w.heap.size w w7 := (hb.alloc hb.size _).grown hgrow (by have := hb.size; simp; omega) (fun g hg => own_base (hown.alloc (.cells #[.int .u8 (m % 256)] 5)) g hg)
      have HO7 := Lib.hid (show w7.ownsRow w.heap.size 5 1 v7 1 (byV ((le2 n).take 1)) by
        have e : (le2 n).take 1 = (le2 n).take 0 ++ [m % 256] := by
          have : m = n := HM.out
          subst this
          simp only [le2, List.take, List.nil_append]
          try omega
        rw [e, byV_append]
        exact hown7)
      have HM2 := Lib.hid (show m / 256 = [n, n / 256, n / 256 / 256].getD 1 0 by
        have : m = n := HM.out
        rw [this]
        rfl)
      clear hown hown7 hgrow hb HM
      go_wp2
      go_roundw
      case rel => exact ⟨1, _, by omega, rfl, HM2, rfl, HO7.out, hb7⟩
      case measure => simp [intOf]
    · have hm1 : -9223372036854775808 ≤ m ∧ m ≤ 9223372036854775807 := by
        have : m = n / 256 := HM.out
        omega
      obtain ⟨hm2, hm3⟩ := hm1
      rw [show ((1 : Nat) : Int) = 1 from rfl]
      go_wp2_with (at_builtin; refine wpList_append_own _ rfl _ _ 24 rfl w.heap.size 5 i0 (.int .u8 0) 1 1 Try.underlying24 hi hz0 hz1 hz2 rfl (by decide) _ 1 _ rfl (hown.alloc _) ⟨wr.heap.size, 0, none⟩ 1 1 [.int .u8 (m % 256)] rfl rfl ?a1 ?b1 ?c1 ?d1 ?e1 ?_)
      case a1 => exact one_new wr _ _
      case b1 => simp [Value.oneCell']
      case c1 => unfold maxLen; omega
      case d1 => omega
      case e1 => have := hb.size; simp; omega
      intro v7 w7 hown7 hgrow _
      have hb7 : Below w.heap.size w w7 := (hb.alloc hb.size _).grown hgrow (by have := hb.size; simp; omega) (fun g hg => own_base (hown.alloc (.cells #[.int .u8 (m % 256)] 5)) g hg)
      have HO7 := Lib.hid (show w7.ownsRow w.heap.size 5 1 v7 2 (byV ((le2 n).take 2)) by
        have e : (le2 n).take 2 = (le2 n).take 1 ++ [m % 256] := by
          have : m = n / 256 := HM.out
          subst this
          simp only [le2, List.take, List.nil_append, List.cons_append]
          try omega
        rw [e, byV_append]
        exact hown7)
      have HM2 := Lib.hid (show m / 256 = [n, n / 256, n / 256 / 256].getD 2 0 by
        have : m = n / 256 := HM.out
        rw [this]
        rfl)
      clear hown hown7 hgrow hb HM
      go_wp2
      go_roundw
      case rel => exact ⟨2, _, by omega, rfl, HM2, rfl, HO7.out, hb7⟩
      case measure => simp [intOf]
    · rw [show ((2 : Nat) : Int) = 2 from rfl]
      obtain ⟨g, cap, hv⟩ := own_form hown (by omega)
      subst hv
      go_wp2
      go_ret
      exact ⟨g, cap, rfl, hown, hb⟩
set_option maxRecDepth 100000 in
set_option maxHeartbeats 4000000 in
theorem rLittle1_any (n : Int) (w : World) (h1 : -9223372036854775808 ≤ n) (h2 : n ≤ 9223372036854775807) :
    Calls Try.prog 81 #[.int .i64 n, .int .i64 1] w fun e w' => ∃ g cap, e = .returned (.slice (some ⟨g, 0, none⟩) 1 cap) ∧ w'.ownsRow w.heap.size 5 1 (.slice (some ⟨g, 0, none⟩) 1 cap) 1 (byV ([n % 256])) ∧ Below w.heap.size w w' := by
  obtain ⟨i0, hi, hz0, hz1, hz2⟩ := info_parts infoBy
  go_enter Try.func81, Try.ntmps81
  go_wp2
  go_loopw [0, 5, 6] (fun z0 vl zi wr => ∃ (k : Nat) (m : Int), k ≤ 1 ∧ z0 = .int .i64 m ∧ Hid (m = [n, n / 256].getD k 0) ∧ zi = .int .i64 (k : Int) ∧ wr.ownsRow w.heap.size 5 1 vl k (byV (([n % 256]).take k)) ∧ Below w.heap.size w wr) (fun _ _ zi _ => 10 - (intOf zi).toNat)
  case atStart => exact ⟨0, n, by omega, rfl, Lib.hid rfl, rfl, World.ownsRow_nil _ _ _ _, Below.refl _ _⟩
  case round =>
    obtain ⟨k, m, hk, rfl, HM, rfl, hown, hb⟩ := hrel
    have hk' : k = 0 ∨ k = 1 := by omega
    clear hk
    have ha := and255 m
    rcases hk' with rfl | rfl
    · have hm1 : -9223372036854775808 ≤ m ∧ m ≤ 9223372036854775807 := by
        have : m = n := HM.out
        omega
      obtain ⟨hm2, hm3⟩ := hm1
      rw [show ((0 : Nat) : Int) = 0 from rfl]
      go_wp2_with (at_builtin; refine wpList_append_own _ rfl _ _ 24 rfl w.heap.size 5 i0 (.int .u8 0) 1 1 Try.underlying24 hi hz0 hz1 hz2 rfl (by decide) _ 0 _ rfl (hown.alloc _) ⟨wr.heap.size, 0, none⟩ 1 1 [.int .u8 (m % 256)] rfl rfl ?a0 ?b0 ?c0 ?d0 ?e0 ?_)
      case a0 => exact one_new wr _ _
      case b0 => simp [Value.oneCell']
      case c0 => unfold maxLen; omega
      case d0 => omega
      case e0 => have := hb.size; simp; omega
      intro v7 w7 hown7 hgrow _
      have hb7 : Below w.heap.size w w7 := (hb.alloc hb.size _).grown hgrow (by have := hb.size; simp; omega) (fun g hg => own_base (hown.alloc (.cells #[.int .u8 (m % 256)] 5)) g hg)
      have HO7 := Lib.hid (show w7.ownsRow w.heap.size 5 1 v7 1 (byV (([n % 256]).take 1)) by
        have e : ([n % 256]).take 1 = ([n % 256]).take 0 ++ [m % 256] := by
          have : m = n := HM.out
          subst this
          simp only [List.take, List.nil_append]
          try omega
        rw [e, byV_append]
        exact hown7)
      have HM2 := Lib.hid (show m / 256 = [n, n / 256].getD 1 0 by
        have : m = n := HM.out
        rw [this]
        rfl)
      clear hown hown7 hgrow hb HM
      go_wp2
      go_roundw
      case rel => exact ⟨1, _, by omega, rfl, HM2, rfl, HO7.out, hb7⟩
      case measure => simp [intOf]
    · rw [show ((1 : Nat) : Int) = 1 from rfl]
      obtain ⟨g, cap, hv⟩ := own_form hown (by omega)
      subst hv
      go_wp2
      go_ret
      exact ⟨g, cap, rfl, hown, hb⟩
theorem registers_at (r m : Int) (w : World) (hr : 0 ≤ r ∧ r < 8) (hm : 0 ≤ m ∧ m < 8) : Calls Try.prog 89 #[.int .i64 r, .int .i64 m] w fun e w' => e = .returned (.int .u8 (192 + 8 * r + m)) ∧ w = w' := by
  obtain ⟨h1, h2⟩ := hr
  obtain ⟨h3, h4⟩ := hm
  go_enter Try.func89, Try.ntmps89
  go_wp2
  go_ret
  exact ⟨by first | rfl | (refine ret_i ?_; omega), rfl⟩
theorem rMr_at (r m : Int) (w : World) (hr : 0 ≤ r ∧ r < 8) (hm : 0 ≤ m ∧ m < 8) : Calls Try.prog 80 #[.int .i64 r, .int .i64 m] w fun e w' => e = .returned (.int .u8 (192 + 8 * r + m)) ∧ w = w' := by
  obtain ⟨h1, h2⟩ := hr
  obtain ⟨h3, h4⟩ := hm
  go_enter Try.func80, Try.ntmps80
  go_wp2
  go_ret
  exact ⟨by first | rfl | (refine ret_i ?_; omega), rfl⟩
theorem rMr_any (r m : Int) (w : World) : Calls Try.prog 80 #[.int .i64 r, .int .i64 m] w fun e w' => ∃ v, e = .returned (.int .u8 v) ∧ w = w' := by
  go_enter Try.func80, Try.ntmps80
  go_wp2
  go_ret
  exact ⟨_, rfl, rfl⟩
set_option maxRecDepth 100000 in
set_option maxHeartbeats 4000000 in
theorem memory_at (r m n : Int) (w : World) (hr : 0 ≤ r ∧ r < 8) (hm : 0 ≤ m ∧ m < 8) (h1 : -9223372036854775808 ≤ n) (h2 : n ≤ 9223372036854775807) :
    Calls Try.prog 92 #[.int .i64 r, .int .i64 m, .int .i64 n] w fun e w' => ∃ g cap, e = .returned (.slice (some ⟨g, 0, none⟩) 5 cap) ∧ w'.ownsRow w.heap.size 5 1 (.slice (some ⟨g, 0, none⟩) 5 cap) 5 (byV ((128 + 8 * r + m) :: le4 n)) ∧ Below w.heap.size w w' := by
  obtain ⟨i0, hi, hz0, hz1, hz2⟩ := info_parts infoBy
  obtain ⟨h3, h4⟩ := hr
  obtain ⟨h5, h6⟩ := hm
  go_enter Try.func92, Try.ntmps92
  go_wp2_with fail
  have hx : (w.alloc (.cells #[.int .u8 (128 + 8 * r + m)] 5)).heap[w.heap.size]? = some (.cells (byV [128 + 8 * r + m]).toArray 5 (0, 0)) := heap_alloc_new w _
  have hb : Below w.heap.size w (w.alloc (.cells #[.int .u8 (128 + 8 * r + m)] 5)) := (Below.refl _ _).alloc (Nat.le_refl _) _
  generalize World.alloc w _ = W0 at hx hb ⊢
  obtain ⟨q, hq⟩ : ∃ q, 128 + 8 * r + m = q := ⟨_, rfl⟩
  rw [hq] at hx
  refine (little32_any n W0 h1 h2).mono ?_
  rintro e w2 ⟨g, cap, rfl, hG, hb2⟩
  have hown := own_lit (base := w.heap.size) (Nat.le_refl _) ((hb2.block _ (lt_of_block hx)).trans hx) (by simp)
  replace hb := hb.trans (hb2.mono hb.size)
  clear hx hb2
  go_wp2_with (at_builtin; refine wpList_append_own _ rfl _ _ 24 rfl w.heap.size 5 i0 (.int .u8 0) 1 1 Try.underlying24 hi hz0 hz1 hz2 rfl (by decide) _ _ _ rfl hown ⟨g, 0, none⟩ 4 cap (byV (le4 n)) rfl ?c0 ?c1 ?c2 ?c3 ?c4 ?c5 ?_)
  case c0 => rfl
  case c1 => exact hG.cells rfl
  case c2 => exact byV_one _
  case c3 => unfold maxLen; simp
  case c4 => simp
  case c5 => exact hb.size
  intro v1 W1 hown1 hgrow _
  have hb1 := hb.grown hgrow hb.size (own_base hown)
  rw [← byV_append] at hown1
  clear hgrow hown hb hG
  obtain ⟨g1, c1, hv1⟩ := own_form hown1 (by simp)
  subst hv1
  go_wp2
  go_ret
  exact ⟨g1, c1, rfl, by rw [hq]; exact hown1, hb1⟩
set_option maxRecDepth 100000 in
set_option maxHeartbeats 4000000 in
theorem rMm_at (r m n : Int) (w : World) (hr : 0 ≤ r ∧ r < 8) (hm : 0 ≤ m ∧ m < 8) (h1 : -9223372036854775808 ≤ n) (h2 : n ≤ 9223372036854775807) :
    Calls Try.prog 83 #[.int .i64 r, .int .i64 m, .int .i64 n] w fun e w' => ∃ g cap, e = .returned (.slice (some ⟨g, 0, none⟩) 5 cap) ∧ w'.ownsRow w.heap.size 5 1 (.slice (some ⟨g, 0, none⟩) 5 cap) 5 (byV ((128 + 8 * r + m) :: le4 n)) ∧ Below w.heap.size w w' := by
  obtain ⟨i0, hi, hz0, hz1, hz2⟩ := info_parts infoBy
  obtain ⟨h3, h4⟩ := hr
  obtain ⟨h5, h6⟩ := hm
  go_enter Try.func83, Try.ntmps83
  go_wp2_with fail
  have hx : (w.alloc (.cells #[.int .u8 (128 + 8 * r + m)] 5)).heap[w.heap.size]? = some (.cells (byV [128 + 8 * r + m]).toArray 5 (0, 0)) := heap_alloc_new w _
  have hb : Below w.heap.size w (w.alloc (.cells #[.int .u8 (128 + 8 * r + m)] 5)) := (Below.refl _ _).alloc (Nat.le_refl _) _
  generalize World.alloc w _ = W0 at hx hb ⊢
  obtain ⟨q, hq⟩ : ∃ q, 128 + 8 * r + m = q := ⟨_, rfl⟩
  rw [hq] at hx
  refine (rLittle4_any n W0 h1 h2).mono ?_
  rintro e w2 ⟨g, cap, rfl, hG, hb2⟩
  have hown := own_lit (base := w.heap.size) (Nat.le_refl _) ((hb2.block _ (lt_of_block hx)).trans hx) (by simp)
  replace hb := hb.trans (hb2.mono hb.size)
  clear hx hb2
  go_wp2_with (at_builtin; refine wpList_append_own _ rfl _ _ 24 rfl w.heap.size 5 i0 (.int .u8 0) 1 1 Try.underlying24 hi hz0 hz1 hz2 rfl (by decide) _ _ _ rfl hown ⟨g, 0, none⟩ 4 cap (byV (le4 n)) rfl ?c0 ?c1 ?c2 ?c3 ?c4 ?c5 ?_)
  case c0 => rfl
  case c1 => exact hG.cells rfl
  case c2 => exact byV_one _
  case c3 => unfold maxLen; simp
  case c4 => simp
  case c5 => exact hb.size
  intro v1 W1 hown1 hgrow _
  have hb1 := hb.grown hgrow hb.size (own_base hown)
  rw [← byV_append] at hown1
  clear hgrow hown hb hG
  obtain ⟨g1, c1, hv1⟩ := own_form hown1 (by simp)
  subst hv1
  go_wp2
  go_ret
  exact ⟨g1, c1, rfl, by rw [hq]; exact hown1, hb1⟩
set_option maxRecDepth 100000 in
set_option maxHeartbeats 4000000 in
theorem rMm_any (r m n : Int) (w : World) (h1 : -9223372036854775808 ≤ n) (h2 : n ≤ 9223372036854775807) :
    Calls Try.prog 83 #[.int .i64 r, .int .i64 m, .int .i64 n] w fun e w' => ∃ v g cap, e = .returned (.slice (some ⟨g, 0, none⟩) 5 cap) ∧ w'.ownsRow w.heap.size 5 1 (.slice (some ⟨g, 0, none⟩) 5 cap) 5 (byV (v :: le4 n)) ∧ Below w.heap.size w w' := by
  obtain ⟨i0, hi, hz0, hz1, hz2⟩ := info_parts infoBy
  go_enter Try.func83, Try.ntmps83
  go_wp2_with fail
  generalize hv : World.alloc w _ = W0
  obtain ⟨q, hx, hb⟩ : ∃ q, W0.heap[w.heap.size]? = some (.cells (byV [q]).toArray 5 (0, 0)) ∧ Below w.heap.size w W0 := by
    subst hv
    exact ⟨_, heap_alloc_new w _, (Below.refl _ _).alloc (Nat.le_refl _) _⟩
  clear hv
  refine (rLittle4_any n W0 h1 h2).mono ?_
  rintro e w2 ⟨g, cap, rfl, hG, hb2⟩
  have hown := own_lit (base := w.heap.size) (Nat.le_refl _) ((hb2.block _ (lt_of_block hx)).trans hx) (by simp)
  replace hb := hb.trans (hb2.mono hb.size)
  clear hx hb2
  go_wp2_with (at_builtin; refine wpList_append_own _ rfl _ _ 24 rfl w.heap.size 5 i0 (.int .u8 0) 1 1 Try.underlying24 hi hz0 hz1 hz2 rfl (by decide) _ _ _ rfl hown ⟨g, 0, none⟩ 4 cap (byV (le4 n)) rfl ?c0 ?c1 ?c2 ?c3 ?c4 ?c5 ?_)
  case c0 => rfl
  case c1 => exact hG.cells rfl
  case c2 => exact byV_one _
  case c3 => unfold maxLen; simp
  case c4 => simp
  case c5 => exact hb.size
  intro v1 W1 hown1 hgrow _
  have hb1 := hb.grown hgrow hb.size (own_base hown)
  rw [← byV_append] at hown1
  clear hgrow hown hb hG
  obtain ⟨g1, c1, hv1⟩ := own_form hown1 (by simp)
  subst hv1
  go_wp2
  go_ret
  exact ⟨q, g1, c1, rfl, by exact hown1, hb1⟩
end Go.Proofs.Ytpekegeohcnhcaa
