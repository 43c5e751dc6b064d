/-
  Tables as arguments, nil and empty ones too.
-/
import Derived.Test.YtdpfglpefncigaaTrKn
namespace Go.Proofs.Ytdpfglpefncigaa
open Go.RowKit

/-- A table as an argument: the slice's parts, the places it holds. -/
def Tab (w : World) (A : Option Addr) (n c : Nat) (zs : List Plc) : Prop := n = zs.length ∧ n ≤ c ∧ c ≤ 9223372036854775807 ∧ (n = 0 ∨ ∃ b off, A = some ⟨b, off, none⟩ ∧ Lies w b off zs)
theorem Tab.below {w w' : World} {A : Option Addr} {n c : Nat} {zs : List Plc} (h : Tab w A n c zs) (hb : Below w.heap.size w w') : Tab w' A n c zs := by
  obtain ⟨h1, h2, h3, h4 | ⟨b, off, h4, h5⟩⟩ := h
  · exact ⟨h1, h2, h3, .inl h4⟩
  · exact ⟨h1, h2, h3, .inr ⟨b, off, h4, h5.below hb⟩⟩
theorem Tab.parts {w : World} {A : Option Addr} {n c : Nat} {zs : List Plc} (h : Tab w A n c zs) : (n = 0 ∧ zs = []) ∨ (n = zs.length ∧ n ≤ c ∧ c ≤ 9223372036854775807 ∧ ∃ b off, A = some ⟨b, off, none⟩ ∧ Lies w b off zs) := by
  obtain ⟨h1, h2, h3, h4 | ⟨b, off, h4, h5⟩⟩ := h
  · exact .inl ⟨h4, List.eq_nil_of_length_eq_zero (by omega)⟩
  · exact .inr ⟨h1, h2, h3, b, off, h4, h5⟩
theorem Tab.shape {w : World} {A : Option Addr} {n c : Nat} {zs : List Plc} (h : Tab w A n c zs) : n = zs.length := h.1
/-- A row of the call's own is a table. -/
theorem tab_own {w : World} {base : Nat} {v : Value} {ps : List Plc} (h : w.ownsRow base 33 5 v ps.length (placesV ps)) : ∃ A c, v = .slice A ps.length c ∧ Tab w A ps.length c ps := by
  have h0 := h
  rcases h.2 with ⟨rfl, h1⟩ | ⟨g, cap, cur, rfl, _, _, h2, h3, _⟩
  · have hp : ps = [] := List.eq_nil_of_length_eq_zero h1
    subst hp
    exact ⟨none, 0, rfl, rfl, Nat.le_refl _, by omega, .inl rfl⟩
  · exact ⟨_, cap, rfl, rfl, h2, by unfold maxLen at h3; omega, .inr ⟨g, 0, rfl, lies_own h0⟩⟩
theorem val_nil : valF [] = 0 := by decide
theorem fnd_nil (v t : Int) : fnd [] v t = none := rfl
set_option maxRecDepth 100000 in
theorem refValidate_empty (A : Option Addr) (c : Nat) (w : World) : Calls Try.prog 19 #[.slice A 0 c] w fun e w' => e = .returned (.int .i64 0) ∧ Below w.heap.size w w' := by
  go_enter Try.func19, Try.ntmps19
  go_wp2
  go_loopw [3] (fun z wr => z = .int .i64 0 ∧ wr = w) (fun _ _ => 0)
  case atStart => exact ⟨rfl, rfl⟩
  case round =>
    obtain ⟨rfl, rfl⟩ := hrel
    go_wp2
    go_loopw [4] (fun z wr2 => z = .int .i64 0 ∧ wr2 = wr) (fun _ _ => 0)
    case atStart => exact ⟨rfl, rfl⟩
    case round =>
      obtain ⟨rfl, rfl⟩ := hrel
      go_wp2
      go_ret
      exact ⟨rfl, Below.refl _ _⟩

set_option maxRecDepth 100000 in
theorem find_empty (A : Option Addr) (c : Nat) (v t : Int) (w : World) :
    Calls Try.prog 40 #[.slice A 0 c, .int .i64 v, .int .i64 t] w fun e w' => e = .returned (aggP zeroP) ∧ Below w.heap.size w w' := by
  go_enter Try.func40, Try.ntmps40
  go_wp2
  generalize hW : World.alloc w _ = W0
  have r0 : W0.cell? ⟨w.heap.size, 0, none⟩ = some (.int .i64 0) := by rw [← hW]; simp [go_sem]
  have r1 : W0.cell? ⟨w.heap.size, 1, none⟩ = some (.int .i64 0) := by rw [← hW]; simp [go_sem]
  have r2 : W0.cell? ⟨w.heap.size, 2, none⟩ = some (.int .i64 0) := by rw [← hW]; simp [go_sem]
  have r3 : W0.cell? ⟨w.heap.size, 3, none⟩ = some (.int .i64 0) := by rw [← hW]; simp [go_sem]
  have r4 : W0.cell? ⟨w.heap.size, 4, none⟩ = some (.int .i64 0) := by rw [← hW]; simp [go_sem]
  have s0 : W0.frozen? ⟨w.heap.size, 0, none⟩ = false := by rw [← hW]; exact new_free _ _ _ _
  have s1 : W0.frozen? ⟨w.heap.size, 1, none⟩ = false := by rw [← hW]; exact new_free _ _ _ _
  have s2 : W0.frozen? ⟨w.heap.size, 2, none⟩ = false := by rw [← hW]; exact new_free _ _ _ _
  have s3 : W0.frozen? ⟨w.heap.size, 3, none⟩ = false := by rw [← hW]; exact new_free _ _ _ _
  have s4 : W0.frozen? ⟨w.heap.size, 4, none⟩ = false := by rw [← hW]; exact new_free _ _ _ _
  have hb0 : Below w.heap.size w W0 := by rw [← hW]; exact (Below.refl _ _).alloc (Nat.le_refl _) _
  have HP5 := Lib.hid (put5_at zeroP r0 r1 r2 r3 r4)
  have hpb := put5_below zeroP hb0 (Nat.le_refl _)
  clear hW
  go_loopw [11] (fun z wr => z = .int .i64 0 ∧ wr = W0) (fun _ _ => 0)
  case atStart => exact ⟨rfl, rfl⟩
  case round =>
    obtain ⟨rfl, rfl⟩ := hrel
    go_wp2
    obtain ⟨p0, p1, p2, p3, p4⟩ := HP5.out
    change bodyPost _ _ _ _ _ (put5 _ _ zeroP)
    exact bodyPost_ret (v := (aggP zeroP)) (by simp [results, Try.results40, go_sem, p0, p1, p2, p3, p4]) rfl ⟨rfl, hpb⟩

set_option maxRecDepth 100000 in
theorem refFind_empty (A : Option Addr) (c : Nat) (v t : Int) (w : World) :
    Calls Try.prog 42 #[.slice A 0 c, .int .i64 v, .int .i64 t] w fun e w' => e = .returned (.tuple #[aggP zeroP, .bool false]) ∧ Below w.heap.size w w' := by
  go_enter Try.func42, Try.ntmps42
  go_wp2
  generalize hW : World.alloc w _ = W0
  have r0 : W0.cell? ⟨w.heap.size, 0, none⟩ = some (.int .i64 0) := by rw [← hW]; simp [go_sem]
  have r1 : W0.cell? ⟨w.heap.size, 1, none⟩ = some (.int .i64 0) := by rw [← hW]; simp [go_sem]
  have r2 : W0.cell? ⟨w.heap.size, 2, none⟩ = some (.int .i64 0) := by rw [← hW]; simp [go_sem]
  have r3 : W0.cell? ⟨w.heap.size, 3, none⟩ = some (.int .i64 0) := by rw [← hW]; simp [go_sem]
  have r4 : W0.cell? ⟨w.heap.size, 4, none⟩ = some (.int .i64 0) := by rw [← hW]; simp [go_sem]
  have s0 : W0.frozen? ⟨w.heap.size, 0, none⟩ = false := by rw [← hW]; exact new_free _ _ _ _
  have s1 : W0.frozen? ⟨w.heap.size, 1, none⟩ = false := by rw [← hW]; exact new_free _ _ _ _
  have s2 : W0.frozen? ⟨w.heap.size, 2, none⟩ = false := by rw [← hW]; exact new_free _ _ _ _
  have s3 : W0.frozen? ⟨w.heap.size, 3, none⟩ = false := by rw [← hW]; exact new_free _ _ _ _
  have s4 : W0.frozen? ⟨w.heap.size, 4, none⟩ = false := by rw [← hW]; exact new_free _ _ _ _
  have hb0 : Below w.heap.size w W0 := by rw [← hW]; exact (Below.refl _ _).alloc (Nat.le_refl _) _
  have HP5 := Lib.hid (put5_at zeroP r0 r1 r2 r3 r4)
  have hpb := put5_below zeroP hb0 (Nat.le_refl _)
  clear hW
  go_loopw [8] (fun z wr => z = .int .i64 0 ∧ wr = W0) (fun _ _ => 0)
  case atStart => exact ⟨rfl, rfl⟩
  case round =>
    obtain ⟨rfl, rfl⟩ := hrel
    go_wp2
    obtain ⟨p0, p1, p2, p3, p4⟩ := HP5.out
    change bodyPost _ _ _ _ _ (put5 _ _ zeroP)
    exact bodyPost_ret (v := (.tuple #[aggP zeroP, .bool false])) (by simp [results, Try.results42, go_sem, p0, p1, p2, p3, p4]) rfl ⟨rfl, hpb⟩

theorem encode_empty (A : Option Addr) (c : Nat) (w : World) :
    Calls Try.prog 25 #[.slice A 0 c] w fun e w' => ∃ v, e = .returned (.tuple #[v, .int .i64 0]) ∧ Below w.heap.size w w' ∧ w'.ownsRow w.heap.size 5 1 v (encF []).length (bytesV (encF [])) := by
  have HV := Lib.hid (validate_empty A c w)
  go_enter Try.func25, Try.ntmps25
  go_wp2_with fail
  refine (HV.out).mono ?_
  rintro e w1 ⟨rfl, hb1⟩
  go_wp2_with fail
  obtain ⟨B, hB⟩ : ∃ B, B = w1.heap.size := ⟨_, rfl⟩
  have hW : Wrote B w.heap.size [] (w1.alloc (.cells #[.slice none 0 0] 39)) := ⟨.slice none 0 0, by rw [hB]; exact heap_alloc_new w1 _, World.ownsRow_nil _ _ _ _⟩
  have hb2 : Below w.heap.size w (w1.alloc (.cells #[.slice none 0 0] 39)) := hb1.alloc hb1.size _
  have hbB : w.heap.size ≤ B := by have := hb1.size; omega
  rw [← hB]
  generalize World.alloc w1 _ = w2 at hW hb2
  refine (write_all (n := 0) hW (by omega) hbB hb2.size (by simp)).mono ?_
  rintro e w3 ⟨rfl, hW3, hb3, -⟩
  have hb4 : Below w.heap.size w w3 := hb2.trans hb3
  have e0 : [] ++ grpF 5 0 = encF [] := by decide
  rw [e0] at hW3
  clear e0 hW hb2 hb3 hb1 hB
  go_wp2
  go_loopw [24] (fun zi wr => zi = .int .i64 0 ∧ Below w.heap.size w wr ∧ Wrote B w.heap.size (encF []) wr) (fun _ _ => 0)
  case atStart => exact ⟨rfl, hb4, hW3⟩
  case round =>
    obtain ⟨rfl, hb, v, hB, hown⟩ := hrel
    have h1 := cell_of_row _ B 0 _ _ _ hB
    simp at h1
    go_wp2
    refine bodyPost_ret (results_tmp2 rfl _ _ _) rfl ?_
    exact ⟨_, rfl, hb, hown⟩

set_option maxRecDepth 100000 in
theorem refEncode_empty (A : Option Addr) (c : Nat) (w : World) :
    Calls Try.prog 26 #[.slice A 0 c] w fun e w' => ∃ v, e = .returned (.tuple #[v, .int .i64 0]) ∧ Below w.heap.size w w' ∧ w'.ownsRow w.heap.size 5 1 v (encF []).length (bytesV (encF [])) := by
  have HV := Lib.hid (refValidate_empty A c w)
  go_enter Try.func26, Try.ntmps26
  go_wp2_with fail
  refine (HV.out).mono ?_
  rintro e w1 ⟨rfl, hb1⟩
  go_wp2_with fail
  refine (group5 0 (by omega) _).mono ?_
  rintro e w2 ⟨g0, cap0, rfl, hG, hb2⟩
  have hb4 := hb1.trans (hb2.mono hb1.size)
  have hown : w2.ownsRow w.heap.size 5 1 (.slice (some ⟨g0, 0, none⟩) (grpF 5 0).length cap0) (encF []).length (bytesV (encF [])) := by
    have e0 : grpF 5 0 = encF [] := by decide
    rw [← e0]
    obtain ⟨h1, h2⟩ := hG
    refine ⟨h1, ?_⟩
    rcases h2 with ⟨h, _⟩ | ⟨g, cap, cur, h, hg, r⟩
    · exact absurd h (by simp)
    · exact .inr ⟨g, cap, cur, h, Nat.le_trans hb1.size hg, r⟩
  generalize hv0 : Value.slice (some ⟨g0, 0, none⟩) (grpF 5 0).length cap0 = v0 at hown
  clear hv0 hG hb1 hb2
  go_wp2
  go_loopw [5, 7] (fun v zi wr => v = v0 ∧ zi = .int .i64 0 ∧ wr = w2) (fun _ _ _ => 0)
  case atStart => exact ⟨rfl, rfl, rfl⟩
  case round =>
    obtain ⟨rfl, rfl, rfl⟩ := hrel
    go_wp2
    refine bodyPost_ret (results_tmp2 rfl _ _ _) rfl ?_
    exact ⟨_, rfl, hb4, hown⟩

section
variable {w : World} {A : Option Addr} {n c : Nat} {zs : List Plc}
theorem validate_tab (h : Tab w A n c zs) : Calls Try.prog 18 #[.slice A n c] w fun e w' => e = .returned (.int .i64 (valF zs)) ∧ Below w.heap.size w w' := by
  rcases h.parts with ⟨rfl, rfl⟩ | ⟨h1, h2, h3, b, off, rfl, hL⟩
  · rw [val_nil]
    exact validate_empty A c w
  · exact validate_any b off n c zs w hL h1 h2 h3
theorem refValidate_tab (h : Tab w A n c zs) : Calls Try.prog 19 #[.slice A n c] w fun e w' => e = .returned (.int .i64 (valF zs)) ∧ Below w.heap.size w w' := by
  rcases h.parts with ⟨rfl, rfl⟩ | ⟨h1, h2, h3, b, off, rfl, hL⟩
  · rw [val_nil]
    exact refValidate_empty A c w
  · exact refValidate_any b off n c zs w hL h1
theorem check_tab (h : Tab w A n c zs) (v x y : Int) : Calls Try.prog 39 #[.slice A n c, .int .i64 v, .int .i64 x, .int .i64 y] w fun e w' => e = .returned (.int .i64 (chkF zs v x y)) ∧ Below w.heap.size w w' :=
  check_gen _ zs v x y w fun _ hb => validate_tab (h.below hb)
theorem find_tab (h : Tab w A n c zs) (v t : Int) (h64 : zs.length ≤ 64) : Calls Try.prog 40 #[.slice A n c, .int .i64 v, .int .i64 t] w fun e w' => e = .returned (aggP ((fnd zs v t).getD zeroP)) ∧ Below w.heap.size w w' := by
  rcases h.parts with ⟨rfl, rfl⟩ | ⟨h1, h2, h3, b, off, rfl, hL⟩
  · exact find_empty A c v t w
  · exact find_any b off n c zs v t w hL h1 (by omega)
theorem refFind_tab (h : Tab w A n c zs) (v t : Int) (h64 : zs.length ≤ 64) : Calls Try.prog 42 #[.slice A n c, .int .i64 v, .int .i64 t] w fun e w' => e = .returned (.tuple #[aggP ((fnd zs v t).getD zeroP), .bool (fnd zs v t).isSome]) ∧ Below w.heap.size w w' := by
  rcases h.parts with ⟨rfl, rfl⟩ | ⟨h1, h2, h3, b, off, rfl, hL⟩
  · exact refFind_empty A c v t w
  · exact refFind_any b off n c zs v t w hL h1 (by omega)
theorem encode_tab (h : Tab w A n c zs) (hv : valF zs = 0) : Calls Try.prog 25 #[.slice A n c] w fun e w' => ∃ v, e = .returned (.tuple #[v, .int .i64 0]) ∧ Below w.heap.size w w' ∧ w'.ownsRow w.heap.size 5 1 v (encF zs).length (bytesV (encF zs)) := by
  rcases h.parts with ⟨rfl, rfl⟩ | ⟨h1, h2, h3, b, off, rfl, hL⟩
  · exact encode_empty A c w
  · exact encode_good b off n c zs w hL h1 h2 h3 hv
theorem refEncode_tab (h : Tab w A n c zs) (hv : valF zs = 0) : Calls Try.prog 26 #[.slice A n c] w fun e w' => ∃ v, e = .returned (.tuple #[v, .int .i64 0]) ∧ Below w.heap.size w w' ∧ w'.ownsRow w.heap.size 5 1 v (encF zs).length (bytesV (encF zs)) := by
  rcases h.parts with ⟨rfl, rfl⟩ | ⟨h1, h2, h3, b, off, rfl, hL⟩
  · exact refEncode_empty A c w
  · exact refEncode_good b off n c zs w hL h1 hv
theorem encode_tab_bad (h : Tab w A n c zs) (hv : valF zs ≠ 0) : Calls Try.prog 25 #[.slice A n c] w fun e w' => e = .returned (.tuple #[.slice none 0 0, .int .i64 (valF zs)]) ∧ Below w.heap.size w w' :=
  encode_bad _ zs w hv fun _ hb => validate_tab (h.below hb)
theorem refEncode_tab_bad (h : Tab w A n c zs) (hv : valF zs ≠ 0) : Calls Try.prog 26 #[.slice A n c] w fun e w' => e = .returned (.tuple #[.slice none 0 0, .int .i64 (valF zs)]) ∧ Below w.heap.size w w' :=
  refEncode_bad _ zs w hv fun _ hb => refValidate_tab (h.below hb)
end
end Go.Proofs.Ytdpfglpefncigaa
