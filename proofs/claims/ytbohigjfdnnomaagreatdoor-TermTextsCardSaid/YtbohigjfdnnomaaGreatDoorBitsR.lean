/-
  The table of operations, row by row; Do and Total of both packages at whatever operation.
-/
import Derived.Test.YtbohigjfdnnomaaGreatDoorBitsH
namespace Go.Proofs.YtbohigjfdnnomaaGreatDoor
open Go.RowKit

/-- The word of Total where there is none. -/
def lackF (op n a b : Nat) : Nat :=
  if op = 4 then pw n - 1 else if op = 5 then a else if op = 6 then (if b ≠ 0 then a else if sgn n a < 0 then 1 else pw n - 1)
  else if op = 7 then (if b ≠ 0 then 0 else a) else if op = 13 then (if sgn n a < 0 then pw n - 1 else 0) else 0
theorem row2 : OpRow 2 104 108 106 109 := fun _ => by kernel_rfl
theorem row3 : OpRow 3 104 110 106 111 := fun _ => by kernel_rfl
theorem row4 : OpRow 4 112 113 114 115 := fun _ => by kernel_rfl
theorem row5 : OpRow 5 112 116 117 118 := fun _ => by kernel_rfl
theorem row7 : OpRow 7 119 123 124 118 := fun _ => by kernel_rfl
theorem row8 : OpRow 8 104 125 106 118 := fun _ => by kernel_rfl
theorem row9 : OpRow 9 104 126 106 118 := fun _ => by kernel_rfl
theorem row10 : OpRow 10 104 127 106 118 := fun _ => by kernel_rfl
theorem row11 : OpRow 11 128 129 106 130 := fun _ => by kernel_rfl
theorem row12 : OpRow 12 128 131 106 132 := fun _ => by kernel_rfl
theorem row13 : OpRow 13 128 133 134 132 := fun _ => by kernel_rfl
theorem en_zero : Enters 106 := fun _ _ => by kernel_rfl
theorem en_addBreaks : Enters 107 := fun _ _ => by kernel_rfl
theorem en_sub : Enters 108 := fun _ _ => by kernel_rfl
theorem en_subBreaks : Enters 109 := fun _ _ => by kernel_rfl
theorem en_mul : Enters 110 := fun _ _ => by kernel_rfl
theorem en_mulBreaks : Enters 111 := fun _ _ => by kernel_rfl
theorem en_divides : Enters 112 := fun _ _ => by kernel_rfl
theorem en_udiv : Enters 113 := fun _ _ => by kernel_rfl
theorem en_greatest : Enters 114 := fun _ _ => by kernel_rfl
theorem en_udivBreaks : Enters 115 := fun _ _ => by kernel_rfl
theorem en_urem : Enters 116 := fun _ _ => by kernel_rfl
theorem en_first : Enters 117 := fun _ _ => by kernel_rfl
theorem en_never : Enters 118 := fun _ _ => by kernel_rfl
theorem en_sdiv : Enters 120 := fun _ _ => by kernel_rfl
theorem en_sdivBreaks : Enters 122 := fun _ _ => by kernel_rfl
theorem en_srem : Enters 123 := fun _ _ => by kernel_rfl
theorem en_sremLacks : Enters 124 := fun _ _ => by kernel_rfl
theorem en_and : Enters 125 := fun _ _ => by kernel_rfl
theorem en_or : Enters 126 := fun _ _ => by kernel_rfl
theorem en_xor : Enters 127 := fun _ _ => by kernel_rfl
theorem en_shifts : Enters 128 := fun _ _ => by kernel_rfl
theorem en_shl : Enters 129 := fun _ _ => by kernel_rfl
theorem en_shlBreaks : Enters 130 := fun _ _ => by kernel_rfl
theorem en_lshr : Enters 131 := fun _ _ => by kernel_rfl
theorem en_shiftBreaks : Enters 132 := fun _ _ => by kernel_rfl
theorem en_ashr : Enters 133 := fun _ _ => by kernel_rfl
theorem en_ashrLacks : Enters 134 := fun _ _ => by kernel_rfl
theorem sdivLacks_any (n a b : Nat) (h1 : 1 ≤ n) (h2 : n ≤ 32) (ha : a < pw n) : OpFn 121 n a b (.int .u32 (lackF 6 n a b)) := fun w hM => by
  have hc := hM n h2
  by_cases hb : b = 0
  · subst hb
    by_cases hs : sgn n a < 0
    · have E := Lib.hid (show lackF 6 n a 0 = 1 by simp [lackF, hs])
      rw [E.out]
      go_enter Tryz.func121, Tryz.ntmps121
      go_wp2_with (go_at_call 96; refine (signed_any n a _ hM h1 h2 ha).mono ?_; rintro e w' ⟨rfl, rfl⟩)
      go_ret
      exact ⟨rfl, rfl⟩
    · have E := Lib.hid (show lackF 6 n a 0 = pw n - 1 by simp [lackF, hs])
      rw [E.out]
      go_enter Tryz.func121, Tryz.ntmps121
      go_wp2_with (go_at_call 96; refine (signed_any n a _ hM h1 h2 ha).mono ?_; rintro e w' ⟨rfl, rfl⟩)
      go_ret
      exact ⟨rfl, rfl⟩
  · have E := Lib.hid (show lackF 6 n a b = a by simp [lackF, hb])
    rw [E.out]
    go_enter Tryz.func121, Tryz.ntmps121
    go_wp2
    go_ret
    exact ⟨rfl, rfl⟩
theorem sremLacks_any (n a b : Nat) : OpFn 124 n a b (.int .u32 (lackF 7 n a b)) := fun w _ => by
  by_cases hb : b = 0
  · subst hb
    have E := Lib.hid (show lackF 7 n a 0 = a by simp [lackF])
    rw [E.out]
    go_enter Tryz.func124, Tryz.ntmps124
    go_wp2
    go_ret
    exact ⟨rfl, rfl⟩
  · have E := Lib.hid (show lackF 7 n a b = 0 by simp [lackF, hb])
    rw [E.out]
    go_enter Tryz.func124, Tryz.ntmps124
    go_wp2
    go_ret
    exact ⟨rfl, rfl⟩
theorem ashrLacks_any (n a b : Nat) (h1 : 1 ≤ n) (h2 : n ≤ 32) (ha : a < pw n) : OpFn 134 n a b (.int .u32 (lackF 13 n a b)) := fun w hM => by
  have hc := hM n h2
  by_cases hs : sgn n a < 0
  · have E := Lib.hid (show lackF 13 n a b = pw n - 1 by simp [lackF, hs])
    rw [E.out]
    go_enter Tryz.func134, Tryz.ntmps134
    go_wp2_with (go_at_call 96; refine (signed_any n a _ hM h1 h2 ha).mono ?_; rintro e w' ⟨rfl, rfl⟩)
    go_ret
    exact ⟨rfl, rfl⟩
  · have E := Lib.hid (show lackF 13 n a b = 0 by simp [lackF, hs])
    rw [E.out]
    go_enter Tryz.func134, Tryz.ntmps134
    go_wp2_with (go_at_call 96; refine (signed_any n a _ hM h1 h2 ha).mono ?_; rintro e w' ⟨rfl, rfl⟩)
    go_ret
    exact ⟨rfl, rfl⟩
/-- What one row of the table is good for. -/
structure RowOk (op n a b hf df lf bf : Nat) : Prop where
  row : OpRow op hf df lf bf
  eh : Enters hf
  ed : Enters df
  el : Enters lf
  eb : Enters bf
  has : OpFn hf n a b (.bool (hasF op n a b))
  make : hasF op n a b = true → OpFn df n a b (.int .u32 (doF op n a b))
  lack : hasF op n a b = false → OpFn lf n a b (.int .u32 (lackF op n a b))
theorem op_cases {op : Nat} (o1 : 1 ≤ op) (o2 : op ≤ 13) : op = 1 ∨ op = 2 ∨ op = 3 ∨ op = 4 ∨ op = 5 ∨ op = 6 ∨ op = 7 ∨ op = 8 ∨ op = 9 ∨ op = 10 ∨ op = 11 ∨ op = 12 ∨ op = 13 := by omega
section
variable (n a b : Nat) (h1 : 1 ≤ n) (h2 : n ≤ 32) (ha : a < pw n) (hb : b < pw n)
include h1 h2 ha hb
theorem rowOk (op : Nat) (o1 : 1 ≤ op) (o2 : op ≤ 13) : ∃ hf df lf bf, RowOk op n a b hf df lf bf := by
  have hp := pw_le h2
  rcases op_cases o1 o2 with rfl | rfl | rfl | rfl | rfl | rfl | rfl | rfl | rfl | rfl | rfl | rfl | rfl
  · exact ⟨_, _, _, _, ⟨row1, en_always, en_add, en_zero, en_addBreaks, always_any n a b, fun _ => add_any n a b h2, fun h => by simp [hasF] at h⟩⟩
  · exact ⟨_, _, _, _, ⟨row2, en_always, en_sub, en_zero, en_subBreaks, always_any n a b, fun _ => sub_any n a b h2, fun h => by simp [hasF] at h⟩⟩
  · exact ⟨_, _, _, _, ⟨row3, en_always, en_mul, en_zero, en_mulBreaks, always_any n a b, fun _ => mul_any n a b h2, fun h => by simp [hasF] at h⟩⟩
  · exact ⟨_, _, _, _, ⟨row4, en_divides, en_udiv, en_greatest, en_udivBreaks, divides_any n a b, fun h => udiv_any n a b (by omega) (by simpa [hasF] using h), fun _ => greatest_any n a b h2⟩⟩
  · exact ⟨_, _, _, _, ⟨row5, en_divides, en_urem, en_first, en_never, divides_any n a b, fun h => urem_any n a b (by omega) (by simpa [hasF] using h), fun _ => first_any n a b⟩⟩
  · exact ⟨_, _, _, _, ⟨row6, en_dividesSigned, en_sdiv, en_sdivLacks, en_sdivBreaks, dividesSigned_any n a b h1 h2, fun h => sdiv_any n a b h1 h2 ha hb (by simp [hasF] at h; exact h.1), fun _ => sdivLacks_any n a b h1 h2 ha⟩⟩
  · exact ⟨_, _, _, _, ⟨row7, en_dividesSigned, en_srem, en_sremLacks, en_never, dividesSigned_any n a b h1 h2, fun h => srem_any n a b h1 h2 ha hb (by simp [hasF] at h; exact h.1), fun _ => sremLacks_any n a b⟩⟩
  · exact ⟨_, _, _, _, ⟨row8, en_always, en_and, en_zero, en_never, always_any n a b, fun _ => and_any n a b (by omega) (by omega), fun h => by simp [hasF] at h⟩⟩
  · exact ⟨_, _, _, _, ⟨row9, en_always, en_or, en_zero, en_never, always_any n a b, fun _ => or_any n a b (by omega) (by omega), fun h => by simp [hasF] at h⟩⟩
  · exact ⟨_, _, _, _, ⟨row10, en_always, en_xor, en_zero, en_never, always_any n a b, fun _ => xor_any n a b (by omega) (by omega), fun h => by simp [hasF] at h⟩⟩
  · exact ⟨_, _, _, _, ⟨row11, en_shifts, en_shl, en_zero, en_shlBreaks, shifts_any n a b h2, fun h => shl_any n a b h2 (by simp [hasF] at h; omega), fun _ => zero_any n a b⟩⟩
  · exact ⟨_, _, _, _, ⟨row12, en_shifts, en_lshr, en_zero, en_shiftBreaks, shifts_any n a b h2, fun h => lshr_any n a b (by simp [hasF] at h; omega), fun _ => zero_any n a b⟩⟩
  · exact ⟨_, _, _, _, ⟨row13, en_shifts, en_ashr, en_ashrLacks, en_shiftBreaks, shifts_any n a b h2, fun h => ashr_any n a b h1 h2 ha (by simp [hasF] at h; omega), fun _ => ashrLacks_any n a b h1 h2 ha⟩⟩
theorem refdo_some (w : World) (op : Nat) (o1 : 1 ≤ op) (o2 : op ≤ 13) (hh : hasF op n a b = true) : RefDo op n a b w (doF op n a b) true := by
  rcases op_cases o1 o2 with rfl | rfl | rfl | rfl | rfl | rfl | rfl | rfl | rfl | rfl | rfl | rfl | rfl
  · exact refdo_1 n a b w h1 h2 ha hb
  · exact refdo_2 n a b w h1 h2 ha hb
  · exact refdo_3 n a b w h1 h2 ha hb
  · exact refdo_4 n a b w h1 h2 ha hb (by simpa [hasF] using hh)
  · exact refdo_5 n a b w h1 h2 ha hb (by simpa [hasF] using hh)
  · exact refdo_67 n a b w h1 h2 ha hb 6 (.inl rfl) (of_decide_eq_true hh)
  · exact refdo_67 n a b w h1 h2 ha hb 7 (.inr rfl) (of_decide_eq_true hh)
  · exact refdo_bw n a b w h1 h2 ha hb 8 (by omega)
  · exact refdo_bw n a b w h1 h2 ha hb 9 (by omega)
  · exact refdo_bw n a b w h1 h2 ha hb 10 (by omega)
  · exact refdo_sh n a b w h1 h2 ha hb 11 (by omega) (by simpa [hasF] using hh)
  · exact refdo_sh n a b w h1 h2 ha hb 12 (by omega) (by simpa [hasF] using hh)
  · exact refdo_sh n a b w h1 h2 ha hb 13 (by omega) (by simpa [hasF] using hh)
theorem refdo_none (w : World) (op : Nat) (o1 : 1 ≤ op) (o2 : op ≤ 13) (hh : hasF op n a b = false) : RefDo op n a b w 0 false := by
  by_cases h45 : op = 4 ∨ op = 5
  · exact refdo_45_none n a b w h1 h2 ha hb op h45 (by simpa [hasF, h45] using hh)
  by_cases h67 : op = 6 ∨ op = 7
  · by_cases hz : b = 0
    · exact refdo_67_zero n a b w h1 h2 ha hb op h67 hz
    · exact refdo_67_low n a b w h1 h2 ha hb op h67 (by simpa [hasF, h45, h67, hz] using hh)
  by_cases h11 : 11 ≤ op
  · exact refdo_sh_none n a b w h1 h2 ha hb op (by omega) (by simpa [hasF, h45, h67, h11] using hh)
  · simp [hasF, h45, h67, h11] at hh
end
end Go.Proofs.YtbohigjfdnnomaaGreatDoor
