/-
  The reference's small parts at any numbers; new rows of bytes.
-/
import Derived.Test.YtpekegeohcnhcaaIaGd
namespace Go.Proofs.Ytpekegeohcnhcaa
open Go.RowKit

theorem res2 {fn : Func} {u v : Tmp} {P : Program} (h : fn.results = #[.tmp u, .tmp v]) (tmps : Array Value) (w : World) :
    (results fn tmps).run P w = .ok (.tuple #[tmps.getD u undef, tmps.getD v undef]) w := by
  simp [results, h]
/-- What a part of the reference's encode answers. -/
def REnd (w : World) (B : Bool) (L : List Int) (e : Ending) (w' : World) : Prop := ∃ V, e = .returned (.tuple #[V, .bool B]) ∧ (B = true → w'.ownsRow w.heap.size 5 1 V L.length (byV L)) ∧ Below w.heap.size w w'
theorem below_one {cur w1 : World} {o : Obj} (hA : cur.alloc o = w1) : Below cur.heap.size cur w1 := hA ▸ (Below.refl _ _).alloc (Nat.le_refl _) o
theorem below_new {W cur w1 : World} {o : Obj} (hA : cur.alloc o = w1) (hb : Below W.heap.size W cur) : Below W.heap.size W w1 := hA ▸ hb.alloc hb.size o
theorem own_new1 {W cur w1 : World} {x : Int} (hA : cur.alloc (.cells #[.int .u8 x] 5) = w1) (hb : Below W.heap.size W cur) : w1.ownsRow W.heap.size 5 1 (.slice (some ⟨cur.heap.size, 0, none⟩) 1 1) 1 (byV [x]) := by
  subst hA; exact own_lit (l := [x]) hb.size (heap_alloc_new cur _) (by simp)
theorem own_new2 {W cur w1 : World} {x y : Int} (hA : cur.alloc (.cells #[.int .u8 x, .int .u8 y] 5) = w1) (hb : Below W.heap.size W cur) : w1.ownsRow W.heap.size 5 1 (.slice (some ⟨cur.heap.size, 0, none⟩) 2 2) 2 (byV [x, y]) := by
  subst hA; exact own_lit (l := [x, y]) hb.size (heap_alloc_new cur _) (by simp)
theorem own_new3 {W cur w1 : World} {x y z : Int} (hA : cur.alloc (.cells #[.int .u8 x, .int .u8 y, .int .u8 z] 5) = w1) (hb : Below W.heap.size W cur) : w1.ownsRow W.heap.size 5 1 (.slice (some ⟨cur.heap.size, 0, none⟩) 3 3) 3 (byV [x, y, z]) := by
  subst hA; exact own_lit (l := [x, y, z]) hb.size (heap_alloc_new cur _) (by simp)
theorem rFits8_at (x : Int) (B : Bool) (w : World) (h : decide (0 ≤ x ∧ x < 256) = B) : Calls Try.prog 82 #[.int .i64 x, .int .i64 8] w fun e w' => e = .returned (.bool B) ∧ w = w' := by
  have HB := Lib.hid h
  clear h
  by_cases h0 : 0 ≤ x
  · have d0 : decide (0 ≤ x) = true := decide_eq_true h0
    by_cases h1 : x < 256
    · have d1 : decide (x < 256) = true := decide_eq_true h1
      have HE := Lib.hid (show B = true by rw [← HB.out]; exact decide_eq_true (by omega))
      go_enter Try.func82, Try.ntmps82
      go_wp2
      all_goals go_ret
      all_goals exact ⟨ret_b (by first | (rw [HE.out]; done) | (rw [HE.out]; simp; omega)), rfl⟩
    · have HE := Lib.hid (show B = false by rw [← HB.out]; exact decide_eq_false (by omega))
      have d1 : decide (x < 256) = false := decide_eq_false h1
      go_enter Try.func82, Try.ntmps82
      go_wp2
      all_goals go_ret
      all_goals exact ⟨ret_b (by first | (rw [HE.out]; done) | (rw [HE.out]; simp; omega)), rfl⟩
  · have HE := Lib.hid (show B = false by rw [← HB.out]; exact decide_eq_false (by omega))
    have d0 : decide (0 ≤ x) = false := decide_eq_false h0
    go_enter Try.func82, Try.ntmps82
    go_wp2
    all_goals go_ret
    all_goals exact ⟨ret_b (by first | (rw [HE.out]; done) | (rw [HE.out]; simp; omega)), rfl⟩
theorem rMr_sym (r m : Int) (w : World) : Calls Try.prog 80 #[.int .i64 r, .int .i64 m] w fun e w' => ∃ v, e = .returned (.int .u8 v) ∧ Hid (isR r = true → isR m = true → v = 192 + 8 * r + m) ∧ w = w' := by
  by_cases h : isR r = true ∧ isR m = true
  · exact (rMr_at r m w (isR_of h.1) (isR_of h.2)).mono fun _ _ ⟨he, hw⟩ => ⟨_, he, Lib.hid fun _ _ => rfl, hw⟩
  · exact (rMr_any r m w).mono fun _ _ ⟨v, he, hw⟩ => ⟨v, he, Lib.hid fun a b => absurd ⟨a, b⟩ h, hw⟩
theorem rMm_sym (r m n : Int) (w : World) (h1 : -9223372036854775808 ≤ n) (h2 : n ≤ 9223372036854775807) :
    Calls Try.prog 83 #[.int .i64 r, .int .i64 m, .int .i64 n] w fun e w' => ∃ v g cap, e = .returned (.slice (some ⟨g, 0, none⟩) 5 cap) ∧ w'.ownsRow w.heap.size 5 1 (.slice (some ⟨g, 0, none⟩) 5 cap) 5 (byV (v :: le4 n)) ∧ Hid (isR r = true → isR m = true → v = 128 + 8 * r + m) ∧ Below w.heap.size w w' := by
  by_cases h : isR r = true ∧ isR m = true
  · exact (rMm_at r m n w (isR_of h.1) (isR_of h.2) h1 h2).mono fun _ _ hh => by
      obtain ⟨g, cap, he, ho, hb⟩ := hh
      exact ⟨_, g, cap, he, ho, Lib.hid fun _ _ => rfl, hb⟩
  · exact (rMm_any r m n w h1 h2).mono fun _ _ hh => by
      obtain ⟨v, g, cap, he, ho, hb⟩ := hh
      exact ⟨v, g, cap, he, ho, Lib.hid fun a b => absurd ⟨a, b⟩ h, hb⟩
end Go.Proofs.Ytpekegeohcnhcaa
