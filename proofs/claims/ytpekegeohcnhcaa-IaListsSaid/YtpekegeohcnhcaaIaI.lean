/-
  Encode and Size of the program.
-/
import Derived.Test.YtpekegeohcnhcaaIaH
namespace Go.Proofs.Ytpekegeohcnhcaa
open Go.RowKit

def errI (x : Ins) : Int := if valB x then 0 else 1
def bytI (x : Ins) : List Int := if valB x then encF x else []
theorem validate_at (x : Ins) (E : Int) (h : errI x = E) (w : World) : Calls Try.prog 12 #[aggI x] w fun e w' => e = .returned (.int .i64 E) ∧ Below w.heap.size w w' := by
  subst h
  exact validate_any x w
set_option maxRecDepth 100000 in
set_option maxHeartbeats 2000000 in
theorem Encode_any (x : Ins) (w : World) : Calls Try.prog 9 #[aggI x] w fun e w' => ∃ V, e = .returned (.tuple #[V, .int .i64 (errI x)]) ∧ w'.ownsRow w.heap.size 5 1 V (bytI x).length (byV (bytI x)) ∧ Below w.heap.size w w' := by
  cases hv : valB x
  · rw [show errI x = 1 by unfold errI; rw [hv]; rfl, show bytI x = [] by unfold bytI; rw [hv]; rfl]
    have HV := Lib.hid (fun w1 => validate_at x 1 (by unfold errI; rw [hv]; rfl) w1)
    clear hv
    obtain ⟨op, d, s, sz, imm⟩ := x
    go_enter Try.func9, Try.ntmps9
    go_wp2_with fail
    have hb : Below w.heap.size w (w.alloc (.cells #[.int .i64 op, .int .i64 d, .int .i64 s, .int .i64 sz, .int .i64 imm] 23)) := (Below.refl _ _).alloc (Nat.le_refl _) _
    generalize World.alloc w _ = W at hb ⊢
    refine (HV.out _).mono ?_
    rintro e w2 ⟨rfl, hb2⟩
    go_wp2
    exact bodyPost_ret (v := .tuple #[.slice none 0 0, .int .i64 1]) (by simp [results, Try.results9, go_sem]) rfl ⟨_, rfl, World.ownsRow_nil _ _ _ _, hb.trans (hb2.mono hb.size)⟩
  · rw [show errI x = 0 by unfold errI; rw [hv]; rfl, show bytI x = encF x by unfold bytI; rw [hv]; rfl]
    have HE := Lib.hid (show Makes 25 #[aggI x] (encF x) from encode_any x hv)
    have HV := Lib.hid (fun w1 => validate_at x 0 (by unfold errI; rw [hv]; rfl) w1)
    clear hv
    generalize encF x = L at HE ⊢
    obtain ⟨op, d, s, sz, imm⟩ := x
    go_enter Try.func9, Try.ntmps9
    go_wp2_with fail
    have hx := heap_alloc_new w (.cells #[.int .i64 op, .int .i64 d, .int .i64 s, .int .i64 sz, .int .i64 imm] 23)
    have hb : Below w.heap.size w (w.alloc (.cells #[.int .i64 op, .int .i64 d, .int .i64 s, .int .i64 sz, .int .i64 imm] 23)) := (Below.refl _ _).alloc (Nat.le_refl _) _
    generalize World.alloc w _ = W at hx hb ⊢
    refine (HV.out _).mono ?_
    rintro e w2 ⟨rfl, hb2⟩
    replace hx := (hb2.block _ (lt_of_block hx)).trans hx
    replace hb := hb.trans (hb2.mono hb.size)
    obtain ⟨x0, x1, x2, x3, x4⟩ := cells5 hx
    clear hx hb2
    go_wp2_with fail
    refine (HE.out _).mono ?_
    rintro e w3 ⟨v, rfl, hG, hb3⟩
    have HO := Lib.hid (own_lower hG hb.size)
    replace hb := hb.trans (hb3.mono hb.size)
    clear x0 x1 x2 x3 x4 hG hb3
    go_wp2
    exact bodyPost_ret (v := .tuple #[v, .int .i64 0]) (by simp [results, Try.results9, go_sem]) rfl ⟨_, rfl, HO.out, hb⟩
set_option maxRecDepth 100000 in
set_option maxHeartbeats 2000000 in
theorem Size_any (x : Ins) (w : World) : Calls Try.prog 11 #[aggI x] w fun e w' => e = .returned (.tuple #[.int .i64 ((bytI x).length : Int), .int .i64 (errI x)]) ∧ Below w.heap.size w w' := by
  have HE := Lib.hid (fun w1 => Encode_any x w1)
  generalize bytI x = L at HE ⊢
  generalize errI x = E at HE ⊢
  obtain ⟨op, d, s, sz, imm⟩ := x
  go_enter Try.func11, Try.ntmps11
  go_wp2_with fail
  have hb : Below w.heap.size w (w.alloc (.cells #[.int .i64 op, .int .i64 d, .int .i64 s, .int .i64 sz, .int .i64 imm] 23)) := (Below.refl _ _).alloc (Nat.le_refl _) _
  generalize World.alloc w _ = W at hb ⊢
  refine (HE.out _).mono ?_
  rintro e w2 ⟨V, rfl, hG, hb2⟩
  obtain ⟨A, c, rfl⟩ : ∃ A c, V = .slice A L.length c := by
    rcases hG.2 with ⟨h1, h0⟩ | ⟨g, cap, cur, h0, _⟩
    · exact ⟨none, 0, by rw [h1, h0]⟩
    · exact ⟨_, cap, h0⟩
  replace hb := hb.trans (hb2.mono hb.size)
  clear hG hb2
  go_wp2
  exact bodyPost_ret (v := .tuple #[.int .i64 (L.length : Int), .int .i64 E]) (by simp [results, Try.results11, go_sem]) rfl ⟨rfl, hb⟩
end Go.Proofs.Ytpekegeohcnhcaa
