/-
  known of the laws of package ia.
-/
import Derived.Test.YtpekegeohcnhcaaIaR
namespace Go.Proofs.Ytpekegeohcnhcaa
open Go.RowKit

theorem byt_block {w : World} {g n : Nat} {l : List Int} (h : w.heap[g]? = some (.cells (byV l).toArray 5 (0, 0))) (hn : n = l.length) (hl : isBy l) (hm : n ≤ 9223372036854775807) : Byt w (some ⟨g, 0, none⟩) n n l := by
  refine ⟨hn, Nat.le_refl _, hm, fun j hj => ?_, .inr ⟨g, 0, rfl, lt_of_block h, fun j hj => ?_⟩⟩
  · have := hl l[j] (List.getElem_mem (by omega))
    have hj2 : j < l.length := by omega
    simpa [hj2] using this
  · have hj2 : j < l.length := by omega
    have e : (⟨g, 0 + j, none⟩ : Addr) = ⟨g, j, none⟩ := by simp
    rw [e]
    simp [World.cell?, h, byV, hj2]
theorem kn_b1 : bytI ⟨14, 0, 0, 32, 4294967295⟩ = [131, 192, 255] ∧ errI ⟨14, 0, 0, 32, 4294967295⟩ = 0 := by decide
theorem kn_b2 : bytI ⟨14, 0, 0, 16, 65535⟩ = [102, 131, 192, 255] ∧ errI ⟨14, 0, 0, 16, 65535⟩ = 0 := by decide
theorem kn_d : decI [139, 131, 16, 0, 0, 0] = ⟨2, 0, 3, 32, 16⟩ ∧ decN [139, 131, 16, 0, 0, 0] = 6 ∧ decB [139, 131, 16, 0, 0, 0] = true := by decide
theorem kn_s1 : strI [131, 192, 255] = ⟨#[131, 192, 255]⟩ := by decide
theorem kn_s2 : strI [102, 131, 192, 255] = ⟨#[102, 131, 192, 255]⟩ := by decide
set_option maxRecDepth 100000 in
set_option maxHeartbeats 4000000 in
theorem known_any (w : World) : Calls Try.prog 8 #[] w fun e w' => e = .returned (.bool true) ∧ Below w.heap.size w w' := by
  have HE1 := Lib.hid (fun w1 => Encode_any ⟨14, 0, 0, 32, 4294967295⟩ w1)
  have HE2 := Lib.hid (fun w1 => Encode_any ⟨14, 0, 0, 16, 65535⟩ w1)
  rw [kn_b1.1, kn_b1.2] at HE1
  rw [kn_b2.1, kn_b2.2] at HE2
  go_enter Try.func8, Try.ntmps8
  go_wp2_with fail
  refine (HE1.out _).mono ?_
  rintro e w1 ⟨V1, rfl, hG1, hb1⟩
  obtain ⟨A1, c1, rfl, hB1⟩ := byt_own hG1 (by intro x hx; simp at hx; omega)
  clear hG1
  go_wp2_with fail
  refine (HE2.out _).mono ?_
  rintro e w2 ⟨V2, rfl, hG2, hb2⟩
  obtain ⟨A2, c2, rfl, hB2⟩ := byt_own hG2 (by intro x hx; simp at hx; omega)
  clear hG2
  have HB1 := Lib.hid (hB1.below hb2)
  replace hb2 := hb1.trans (hb2.mono hb1.size)
  clear hb1 hB1
  go_wp2_with fail
  have hA := heap_alloc_new w2 (.cells #[.int .u8 139, .int .u8 131, .int .u8 16, .int .u8 0, .int .u8 0, .int .u8 0] 5)
  have hb0 : Below w2.heap.size w2 (w2.alloc (.cells #[.int .u8 139, .int .u8 131, .int .u8 16, .int .u8 0, .int .u8 0, .int .u8 0] 5)) := (Below.refl _ _).alloc (Nat.le_refl _) _
  have hL : Byt _ _ _ _ _ := byt_block (n := 6) (l := [139, 131, 16, 0, 0, 0]) hA rfl (by intro x hx; simp at hx; omega) (by omega)
  generalize World.alloc w2 _ = W at hA hL hb0 ⊢
  have hD := decode_any hL
  rw [kn_d.1, kn_d.2.1, kn_d.2.2] at hD
  refine hD.mono ?_
  rintro e w3 ⟨rfl, hb3⟩
  have hb4 := hb2.trans ((hb0.trans (hb3.mono hb0.size)).mono hb2.size)
  have hb5 : Below w2.heap.size w2 (w3.alloc (.cells #[.int .i64 2, .int .i64 0, .int .i64 3, .int .i64 32, .int .i64 16] 23)) := (hb0.trans (hb3.mono hb0.size)).alloc (hb0.trans (hb3.mono hb0.size)).size _
  have e1 := str_conv (HB1.out.below hb5)
  have e2 := str_conv (hB2.below hb5)
  simp only [List.length_cons, List.length_nil, Nat.zero_add, Nat.reduceAdd] at e1 e2
  rw [kn_s1] at e1
  rw [kn_s2] at e2
  have HF := Lib.hid (hb4.alloc hb4.size (.cells #[.int .i64 2, .int .i64 0, .int .i64 3, .int .i64 32, .int .i64 16] 23))
  clear hb2 hb0 hb3 hb4 hb5 hB2 HB1 hA hL hD HE1 HE2
  go_wp2
  go_ret
  exact ⟨rfl, HF.out⟩
end Go.Proofs.Ytpekegeohcnhcaa
