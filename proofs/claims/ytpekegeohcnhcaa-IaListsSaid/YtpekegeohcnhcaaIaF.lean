/-
  Validate and encode of the program at whatever row of the table.
-/
import Derived.Test.YtpekegeohcnhcaaIaDn
import Derived.Deep.Cut
import Derived.Deep.CutRange
namespace Go.Proofs.Ytpekegeohcnhcaa
open Go.RowKit

abbrev Enters (f : Nat) : Prop := ∀ args w, (callFunc f args).run Try.prog w = .ok (.enter f args) w
abbrev Forms (FC : Array Value) : Prop := ∀ w, Calls Try.prog 27 #[] w fun e w' => e = .returned (.agg FC) ∧ w.alloc (.cells FC 60) = w'
abbrev FmRow (FC : Array Value) (op o n z : Int) (ff wf : Nat) : Prop := ∀ w, (Instr.index 60 (.agg FC) (.int .i64 op)).run Try.prog w = .ok (.agg #[.int .i64 o, .int .i64 n, .int .i64 z, fv ff, fv wf]) w
theorem new_snd (W : World) (o : Obj) (cs : Array Value) (t : TypeId) : ((W.alloc o).alloc (.cells cs t)).drew.heap[W.heap.size + 1]? = some (.cells cs t (0, 0)) := by
  have h := heap_alloc_new (W.alloc o) (.cells cs t)
  rw [show (W.alloc o).heap.size = W.heap.size + 1 by simp] at h
  exact h
theorem new_fst (W : World) (o : Obj) (cs : Array Value) (t : TypeId) : ((W.alloc (.cells cs t)).alloc o).drew.heap[W.heap.size]? = some (.cells cs t (0, 0)) :=
  (heap_alloc_old (W.alloc (.cells cs t)) o (lt_of_block (heap_alloc_new W (.cells cs t)))).trans (heap_alloc_new W (.cells cs t))
theorem two_below (W : World) (a b : Obj) : Below W.heap.size W ((W.alloc a).alloc b).drew := drewR (((Below.refl _ _).alloc (Nat.le_refl _) _).alloc (by simp) _)
set_option maxRecDepth 100000 in
set_option maxHeartbeats 4000000 in
theorem validate_row (FC : Array Value) (hFC : Forms FC) (op d s sz imm : Int) (o n z : Int) (ff wf : Nat) (B Bz : Bool) (w : World) (h0 : 0 ≤ op) (h36 : op ≤ 36) (hidx : FmRow FC op o n z ff wf) (ef : Enters ff)
    (hz : z = 48 ∨ z = 32 ∨ z = 40) (hs : szB z sz = Bz) (hfit : Bz = true → ∀ w1, Calls Try.prog ff #[aggI ⟨op, d, s, sz, imm⟩] w1 fun e w' => e = .returned (.bool B) ∧ Below w1.heap.size w1 w') :
    Calls Try.prog 12 #[aggI ⟨op, d, s, sz, imm⟩] w fun e w' => e = .returned (.int .i64 (if Bz && B then 0 else 1)) ∧ Below w.heap.size w w' := by
  have HF := Lib.hid hfit
  have HZ := Lib.hid hz
  have HSZ := Lib.hid hs
  have d0 : decide (op < 0) = false := decide_eq_false (by omega)
  have d1 : decide (36 < op) = false := decide_eq_false (by omega)
  clear hfit hz hs
  go_enter Try.func12, Try.ntmps12
  go_upto_region 3 with fail
  have hx := heap_alloc_new w (.cells #[.int .i64 op, .int .i64 d, .int .i64 s, .int .i64 sz, .int .i64 imm] 23)
  have hb : Below w.heap.size w (w.alloc (.cells #[.int .i64 op, .int .i64 d, .int .i64 s, .int .i64 sz, .int .i64 imm] 23)) := (Below.refl _ _).alloc (Nat.le_refl _) _
  generalize World.alloc w _ = W at hx hb ⊢
  obtain ⟨X, hX⟩ : ∃ X, X = w.heap.size := ⟨_, rfl⟩
  rw [← hX] at hx ⊢
  have HX := Lib.hid hX
  have lX := lt_of_block hx
  obtain ⟨x0, -, -, -, -⟩ := cells5 hx
  have HXX := Lib.hid hx
  have hne := World.new_ne W _ x0
  clear hX hx
  go_cut [3] from 4 (fun s3 wx => ∃ F, s3 = .pointer (some ⟨F, 0, none⟩) ∧ wx.heap[F]? = some (.cells #[.int .i64 o, .int .i64 n, .int .i64 z, fv ff, fv wf] 59 (0, 0)) ∧ Below W.heap.size W wx)
  case first =>
    go_region_held3 (fun W' => W'.cell? ⟨X, 0, none⟩ = some (.int .i64 op)) (go_keep) (first | (go_at_call 27; refine (hFC _).mono ?_; rintro e w' ⟨rfl, rfl⟩))
    all_goals go_wp2_with fail
    all_goals go_meet
    all_goals first
      | exact ⟨_, rfl, new_snd W _ _ _, two_below W _ _⟩
      | exact ⟨_, rfl, new_fst W _ _ _, two_below W _ _⟩
  case rest =>
    obtain ⟨F, rfl, hf, hb5⟩ := hcut
    have hx := (hb5.block X lX).trans HXX.out
    replace hb := hb.trans (hb5.mono hb.size)
    obtain ⟨x0, x1, x2, x3, x4⟩ := cells5 hx
    obtain ⟨f0, f1, f2, f3, f4⟩ := cells5 hf
    clear hb5 hx hf hne
    by_cases e8 : sz = 8
    · subst e8
      rcases HZ.out with rfl | rfl | rfl
      · have hm : bits .and .i64 48 8 = 0 := by decide
        have hB : Bz = false := by rw [← HSZ.out]; rfl
        subst hB
        go_wp2
        go_ret
        exact ⟨rfl, by first | exact hb | (rw [← HX.out]; exact hb)⟩
      · have hm : bits .and .i64 32 8 = 0 := by decide
        have hB : Bz = false := by rw [← HSZ.out]; rfl
        subst hB
        go_wp2
        go_ret
        exact ⟨rfl, by first | exact hb | (rw [← HX.out]; exact hb)⟩
      · have hm : bits .and .i64 40 8 = 8 := by decide
        have hB : Bz = true := by rw [← HSZ.out]; rfl
        subst hB
        cases B
        · have HF2 := Lib.hid (HF.out rfl)
          clear HF
          go_wp2_with (first | ((with_reducible refine (HF2.out _).mono ?_); rintro e w6 ⟨rfl, hb6⟩))
          go_ret
          exact ⟨rfl, by first | exact hb.trans (hb6.mono hb.size) | (rw [← HX.out]; exact hb.trans (hb6.mono hb.size))⟩
        · have HF2 := Lib.hid (HF.out rfl)
          clear HF
          go_wp2_with (first | ((with_reducible refine (HF2.out _).mono ?_); rintro e w6 ⟨rfl, hb6⟩))
          go_ret
          exact ⟨rfl, by first | exact hb.trans (hb6.mono hb.size) | (rw [← HX.out]; exact hb.trans (hb6.mono hb.size))⟩
    by_cases e16 : sz = 16
    · subst e16
      rcases HZ.out with rfl | rfl | rfl
      · have hm : bits .and .i64 48 16 = 16 := by decide
        have hB : Bz = true := by rw [← HSZ.out]; rfl
        subst hB
        cases B
        · have HF2 := Lib.hid (HF.out rfl)
          clear HF
          go_wp2_with (first | ((with_reducible refine (HF2.out _).mono ?_); rintro e w6 ⟨rfl, hb6⟩))
          go_ret
          exact ⟨rfl, by first | exact hb.trans (hb6.mono hb.size) | (rw [← HX.out]; exact hb.trans (hb6.mono hb.size))⟩
        · have HF2 := Lib.hid (HF.out rfl)
          clear HF
          go_wp2_with (first | ((with_reducible refine (HF2.out _).mono ?_); rintro e w6 ⟨rfl, hb6⟩))
          go_ret
          exact ⟨rfl, by first | exact hb.trans (hb6.mono hb.size) | (rw [← HX.out]; exact hb.trans (hb6.mono hb.size))⟩
      · have hm : bits .and .i64 32 16 = 0 := by decide
        have hB : Bz = false := by rw [← HSZ.out]; rfl
        subst hB
        go_wp2
        go_ret
        exact ⟨rfl, by first | exact hb | (rw [← HX.out]; exact hb)⟩
      · have hm : bits .and .i64 40 16 = 0 := by decide
        have hB : Bz = false := by rw [← HSZ.out]; rfl
        subst hB
        go_wp2
        go_ret
        exact ⟨rfl, by first | exact hb | (rw [← HX.out]; exact hb)⟩
    by_cases e32 : sz = 32
    · subst e32
      rcases HZ.out with rfl | rfl | rfl
      · have hm : bits .and .i64 48 32 = 32 := by decide
        have hB : Bz = true := by rw [← HSZ.out]; rfl
        subst hB
        cases B
        · have HF2 := Lib.hid (HF.out rfl)
          clear HF
          go_wp2_with (first | ((with_reducible refine (HF2.out _).mono ?_); rintro e w6 ⟨rfl, hb6⟩))
          go_ret
          exact ⟨rfl, by first | exact hb.trans (hb6.mono hb.size) | (rw [← HX.out]; exact hb.trans (hb6.mono hb.size))⟩
        · have HF2 := Lib.hid (HF.out rfl)
          clear HF
          go_wp2_with (first | ((with_reducible refine (HF2.out _).mono ?_); rintro e w6 ⟨rfl, hb6⟩))
          go_ret
          exact ⟨rfl, by first | exact hb.trans (hb6.mono hb.size) | (rw [← HX.out]; exact hb.trans (hb6.mono hb.size))⟩
      · have hm : bits .and .i64 32 32 = 32 := by decide
        have hB : Bz = true := by rw [← HSZ.out]; rfl
        subst hB
        cases B
        · have HF2 := Lib.hid (HF.out rfl)
          clear HF
          go_wp2_with (first | ((with_reducible refine (HF2.out _).mono ?_); rintro e w6 ⟨rfl, hb6⟩))
          go_ret
          exact ⟨rfl, by first | exact hb.trans (hb6.mono hb.size) | (rw [← HX.out]; exact hb.trans (hb6.mono hb.size))⟩
        · have HF2 := Lib.hid (HF.out rfl)
          clear HF
          go_wp2_with (first | ((with_reducible refine (HF2.out _).mono ?_); rintro e w6 ⟨rfl, hb6⟩))
          go_ret
          exact ⟨rfl, by first | exact hb.trans (hb6.mono hb.size) | (rw [← HX.out]; exact hb.trans (hb6.mono hb.size))⟩
      · have hm : bits .and .i64 40 32 = 32 := by decide
        have hB : Bz = true := by rw [← HSZ.out]; rfl
        subst hB
        cases B
        · have HF2 := Lib.hid (HF.out rfl)
          clear HF
          go_wp2_with (first | ((with_reducible refine (HF2.out _).mono ?_); rintro e w6 ⟨rfl, hb6⟩))
          go_ret
          exact ⟨rfl, by first | exact hb.trans (hb6.mono hb.size) | (rw [← HX.out]; exact hb.trans (hb6.mono hb.size))⟩
        · have HF2 := Lib.hid (HF.out rfl)
          clear HF
          go_wp2_with (first | ((with_reducible refine (HF2.out _).mono ?_); rintro e w6 ⟨rfl, hb6⟩))
          go_ret
          exact ⟨rfl, by first | exact hb.trans (hb6.mono hb.size) | (rw [← HX.out]; exact hb.trans (hb6.mono hb.size))⟩
    have hB : Bz = false := by rw [← HSZ.out]; simp [szB, e8, e16, e32]
    subst hB
    have q8 : (sz == 8) = false := beq_false_of_ne e8
    have q16 : (sz == 16) = false := beq_false_of_ne e16
    have q32 : (sz == 32) = false := beq_false_of_ne e32
    go_wp2
    go_ret
    exact ⟨rfl, by first | exact hb | (rw [← HX.out]; exact hb)⟩
end Go.Proofs.Ytpekegeohcnhcaa
