/-
  encode and Encode of the program, of valid instructions of any kind.
-/
import Derived.Test.YthkaclmnbahieaaDoorRvC
namespace Go.Proofs.YthkaclmnbahieaaDoor
open Go.RowKit

theorem reg_nat {h : Bool} {d : Int} (hr : regF h d) : ∃ D : Nat, d = (D : Int) ∧ D < 32 := by
  unfold regF at hr
  exact ⟨d.toNat, by omega, by omega⟩
theorem u32_eq (imm : Int) : imm % 4294967296 = ((u32 imm : Nat) : Int) := by
  unfold u32
  omega
theorem u32_lt (imm : Int) : u32 imm < 4294967296 := by
  unfold u32
  omega
theorem encode_any (i : Nat) (hi : i < 41) (d a b imm : Int) (hv : ValK (kT i) d a b imm) (w : World) (hL : Laid w) :
    Calls Tryd.prog 35 #[rvA i d a b imm] w fun e w' => e = .returned (.int .u32 (encF ⟨i, d, a, b, imm⟩ : Nat)) ∧ Below w.heap.size w w' := by
  obtain ⟨hd, ha, hb, hl, hh, he⟩ := hv
  obtain ⟨D, rfl, hD⟩ := reg_nat hd
  obtain ⟨A, rfl, hA⟩ := reg_nat ha
  obtain ⟨B, rfl, hB⟩ := reg_nat hb
  have e : encF ⟨i, D, A, B, imm⟩ = encK (kT i) (oT i) (f3T i) (f7T i) D A B (u32 imm) := by
    unfold encF
    simp only [Int.toNat_natCast]
  rw [e]
  have ho := oT_lt hi
  have h3 := f3T_lt hi
  have h7 := f7T_lt hi
  have hk := kT_le hi
  have hn := u32_eq imm
  have hn2 := u32_lt imm
  obtain hk | hk | hk | hk | hk | hk | hk | hk : kT i = 0 ∨ kT i = 1 ∨ kT i = 2 ∨ kT i = 3 ∨ kT i = 4 ∨ kT i = 5 ∨ kT i = 6 ∨ kT i = 7 := by omega
  · have := h7.2 (.inl hk)
    rw [hk]
    exact encode_k0 i D A B (u32 imm) _ _ _ imm w hL hi hD hA hB hn rfl rfl rfl ho h3 this hn2 hk
  · rw [hk]
    exact encode_k1 i D A B (u32 imm) _ _ _ imm w hL hi hD hA hB hn rfl rfl rfl ho h3 hn2 hk
  · have := h7.2 (.inr hk)
    rw [hk] at hl hh ⊢
    simp [lowT, highT] at hl hh
    exact encode_k2 i D A B (u32 imm) _ _ _ imm w hL hi hD hA hB hn rfl rfl rfl ho h3 this (by unfold u32; omega) hk
  · rw [hk] at hl hh ⊢
    simp [lowT, highT] at hl hh
    exact encode_k3 i D A B (u32 imm) _ _ _ imm w hL hi hD hA hB hn rfl rfl rfl ho h3 (by unfold u32; omega) hk
  · rw [hk]
    exact encode_k4 i D A B (u32 imm) _ _ _ imm w hL hi hD hA hB hn rfl rfl rfl ho h3 hn2 hk
  · rw [hk]
    exact encode_k5 i D A B (u32 imm) _ _ _ imm w hL hi hD hA hB hn rfl rfl rfl ho h3 hn2 hk
  · rw [hk]
    exact encode_k6 i D A B (u32 imm) _ _ _ imm w hL hi hD hA hB hn rfl rfl rfl ho h3 hn2 hk
  · rw [hk]
    exact encode_k7 i D A B (u32 imm) _ _ _ imm w hL hi hD hA hB hn rfl rfl rfl ho h3 h7.1 hn2 hk
/-- What Validate answers. -/
def errF (x : Rv) : Int := if Val x then 0 else 1
/-- The word that Encode answers. -/
def wrdF (x : Rv) : Nat := if Val x then encF x else 0
theorem validate_any (x : Rv) (w : World) (hL : Laid w) : Calls Tryd.prog 14 #[rvV x] w fun e w' => e = .returned (.int .i64 (errF x)) ∧ Below w.heap.size w w' := by
  obtain ⟨op, d, a, b, imm⟩ := x
  by_cases h : op < 0 ∨ 40 < op
  · have e : errF ⟨op, d, a, b, imm⟩ = 1 := by
      unfold errF
      rw [if_neg]
      intro hv
      obtain ⟨h0, h1, -⟩ := hv
      simp only at h0 h1
      omega
    rw [e]
    exact validate_bad op d a b imm w h
  · obtain ⟨i, rfl⟩ : ∃ i : Nat, op = (i : Int) := ⟨op.toNat, by omega⟩
    have hi : i < 41 := by omega
    have e : errF ⟨i, d, a, b, imm⟩ = valI (kT i) d a b imm := by
      unfold errF valI
      by_cases hv : ValK (kT i) d a b imm
      · rw [if_pos hv, if_pos ⟨by simp, by simp; omega, by simpa using hv⟩]
      · rw [if_neg hv, if_neg (fun h => hv (by have := h.2.2; simpa using this))]
    rw [e]
    exact validate_row i d a b imm w hL hi
set_option maxRecDepth 100000 in
set_option maxHeartbeats 4000000 in
theorem Encode_any (x : Rv) (w : World) (hL : Laid w) : Calls Tryd.prog 12 #[rvV x] w fun e w' => e = .returned (.tuple #[.int .u32 (wrdF x : Nat), .int .i64 (errF x)]) ∧ Below w.heap.size w w' := by
  have HV := Lib.hid (fun w1 h1 => validate_any x w1 h1)
  by_cases hv : Val x
  · have e1 : errF x = 0 := if_pos hv
    have e2 : wrdF x = encF x := if_pos hv
    rw [e1] at HV ⊢
    rw [e2]
    have HE : ∀ w1, Laid w1 → Calls Tryd.prog 35 #[rvV x] w1 fun e w' => e = .returned (.int .u32 (encF x : Nat)) ∧ Below w1.heap.size w1 w' := fun w1 h1 => by
      obtain ⟨hi, hop⟩ := op_lt hv
      obtain ⟨h0, h40, hv⟩ := hv
      obtain ⟨op, d, a, b, imm⟩ := x
      obtain ⟨i, rfl⟩ : ∃ i : Nat, op = (i : Int) := ⟨op.toNat, hop.symm⟩
      exact encode_any i (by simpa using hi) d a b imm (by simpa using hv) w1 h1
    replace HE := Lib.hid HE
    clear e1 e2 hv
    obtain ⟨op, d, a, b, imm⟩ := x
    generalize encF ⟨op, d, a, b, imm⟩ = N at HE ⊢
    go_enter Tryd.func12, Tryd.ntmps12
    go_wp2_with fail
    have hx := heap_alloc_new w (.cells #[.int .i64 op, .int .i64 d, .int .i64 a, .int .i64 b, .int .i64 imm] 23)
    have hb : Below w.heap.size w (w.alloc (.cells #[.int .i64 op, .int .i64 d, .int .i64 a, .int .i64 b, .int .i64 imm] 23)) := (Below.refl _ _).alloc (Nat.le_refl _) _
    replace hL := hL.below hb
    generalize World.alloc w _ = W at hx hb hL ⊢
    refine (HV.out _ hL).mono ?_
    rintro e w2 ⟨rfl, hb2⟩
    replace hL := hL.below hb2
    replace hx := (hb2.block _ (lt_of_block hx)).trans hx
    replace hb := hb.trans (hb2.mono hb.size)
    obtain ⟨x0, x1, x2, x3, x4⟩ := cells5r hx
    clear hx hb2
    go_wp2_with fail
    refine (HE.out _ hL).mono ?_
    rintro e w3 ⟨rfl, hb3⟩
    replace hb := hb.trans (hb3.mono hb.size)
    clear x0 x1 x2 x3 x4 hb3
    go_wp2
    exact bodyPost_ret (v := .tuple #[.int .u32 (N : Nat), .int .i64 0]) (by simp [results, Tryd.results12, go_sem]) rfl ⟨rfl, hb⟩
  · have e1 : errF x = 1 := if_neg hv
    have e2 : wrdF x = 0 := if_neg hv
    rw [e1] at HV ⊢
    rw [e2]
    clear e1 e2 hv
    obtain ⟨op, d, a, b, imm⟩ := x
    go_enter Tryd.func12, Tryd.ntmps12
    go_wp2_with fail
    have hb : Below w.heap.size w (w.alloc (.cells #[.int .i64 op, .int .i64 d, .int .i64 a, .int .i64 b, .int .i64 imm] 23)) := (Below.refl _ _).alloc (Nat.le_refl _) _
    replace hL := hL.below hb
    generalize World.alloc w _ = W at hb hL ⊢
    refine (HV.out _ hL).mono ?_
    rintro e w2 ⟨rfl, hb2⟩
    go_wp2
    exact bodyPost_ret (v := .tuple #[.int .u32 ((0 : Nat) : Int), .int .i64 1]) (by simp [results, Tryd.results12, go_sem]) rfl ⟨rfl, hb.trans (hb2.mono hb.size)⟩
end Go.Proofs.YthkaclmnbahieaaDoor
