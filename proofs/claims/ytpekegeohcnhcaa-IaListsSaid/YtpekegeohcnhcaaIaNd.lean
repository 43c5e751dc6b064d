/-
  The reference's second.
-/
import Derived.Test.YtpekegeohcnhcaaIaNa
import Derived.Test.YtpekegeohcnhcaaIaR
namespace Go.Proofs.Ytpekegeohcnhcaa
open Go.RowKit

theorem res1c {fn : Func} {p : Tmp} {ty : TypeId} {P : Program} (h : fn.results = #[.cell p ty]) (tmps : Array Value) (w : World) (g : Nat) (cs : Array Value)
    (hp : tmps.getD p undef = .pointer (some ⟨g, 0, none⟩)) (hl : (loadVar ty ⟨g, 0, none⟩).run P w = .ok (.agg cs) w) :
    (results fn tmps).run P w = .ok (.agg cs) w := by
  have hp' : tmps[p]?.getD undef = .pointer (some ⟨g, 0, none⟩) := by simpa using hp
  simp [results, h, hp', asAddr, hl]
theorem numK_bd1 {w : World} {A : Option Addr} {n c : Nat} {l : List Int} (h : Byt w A n c l) (p : Nat) : 0 ≤ numK l p 1 ∧ numK l p 1 ≤ 255 := by
  rw [numK_1]
  have := btw_bd h p
  omega
theorem numK_bd4 {w : World} {A : Option Addr} {n c : Nat} {l : List Int} (h : Byt w A n c l) (p : Nat) : 0 ≤ numK l p 4 ∧ numK l p 4 ≤ 4294967295 := by
  rw [numK_4]
  unfold num4 nx4
  have b0 := btw_bd h p
  have b1 := btw_bd h (p + 1)
  have b2 := btw_bd h (p + 2)
  have b3 := btw_bd h (p + 3)
  split <;> omega
theorem numK_bd2 {w : World} {A : Option Addr} {n c : Nat} {l : List Int} (h : Byt w A n c l) (p : Nat) : 0 ≤ numK l p 2 ∧ numK l p 2 ≤ 65535 := by
  rw [numK_2]
  unfold num2 nx2
  have b0 := btw_bd h p
  have b1 := btw_bd h (p + 1)
  split <;> omega
/-- secF with the numbers given. -/
def secV (C M FR WD : Int) : Ins :=
  if C = 11 then ⟨35, 0, 0, 32, 0⟩
  else if C = 175 then ⟨20, regR M, regL M, 32, 0⟩
  else if C = 182 ∧ 192 ≤ M then ⟨30, regR M, regL M, 32, 0⟩
  else if C = 182 then ⟨4, regR M, regL M, 32, FR⟩
  else if C = 183 then ⟨5, regR M, regL M, 32, FR⟩
  else if 144 ≤ C ∧ C ≤ 159 then ⟨29, regL M, C - 144, 32, 0⟩
  else if 64 ≤ C ∧ C ≤ 79 then ⟨31, regR M, regL M, 32, C - 64⟩
  else if 128 ≤ C ∧ C ≤ 143 then ⟨32, 0, C - 128, 32, WD⟩
  else noIns
theorem secV_eq (l : List Int) (p : Nat) : secV (numK l (p + 1) 1) (numK l (p + 2) 1) (sgnR 2147483648 (numK l (p + 3) 4)) (sgnR 2147483648 (numK l (p + 2) 4)) = secF l p := by
  unfold secV secF
  rw [numK_1, numK_1, numK_4, numK_4]
set_option maxRecDepth 100000 in
set_option maxHeartbeats 8000000 in
theorem rSecond_0 {w : World} {A : Option Addr} {n c : Nat} {l : List Int} (hB : Byt w A n c l) :
    Calls Try.prog 95 #[.slice A n c, .int .i64 0] w fun e w' => e = .returned (aggI (secF l 0)) ∧ Below w.heap.size w w' := by
  rw [← secV_eq]
  have hb : Below w.heap.size w (w.alloc (.cells #[.int .i64 0, .int .i64 0, .int .i64 0, .int .i64 0, .int .i64 0] 23)) := (Below.refl _ _).alloc (Nat.le_refl _) _
  have hB2 := hB.below hb
  have H1 := Lib.hid (rNumber_any hB2 (0 + 1) 1 (by omega) (by omega))
  have H2 := Lib.hid (rNumber_any hB2 (0 + 2) 1 (by omega) (by omega))
  have H3 := Lib.hid (rNumber_any hB2 (0 + 3) 4 (by omega) (by omega))
  have H4 := Lib.hid (rNumber_any hB2 (0 + 2) 4 (by omega) (by omega))
  have b1 := numK_bd1 hB (0 + 1)
  have b2 := numK_bd1 hB (0 + 2)
  have b3 := numK_bd4 hB (0 + 3)
  have b4 := numK_bd4 hB (0 + 2)
  clear hB hB2
  generalize numK l (0 + 1) 1 = C at H1 b1 ⊢
  generalize numK l (0 + 2) 1 = M at H2 b2 ⊢
  generalize numK l (0 + 3) 4 = F0 at H3 b3 ⊢
  generalize numK l (0 + 2) 4 = W0 at H4 b4 ⊢
  generalize decide (0 + 1 + 1 ≤ l.length) = q1 at H1
  generalize decide (0 + 2 + 1 ≤ l.length) = q2 at H2
  generalize decide (0 + 3 + 4 ≤ l.length) = q3 at H3
  generalize decide (0 + 2 + 4 ≤ l.length) = q4 at H4
  obtain ⟨FR, hFR⟩ : ∃ v, sgnR 2147483648 F0 = v := ⟨_, rfl⟩
  obtain ⟨WD, hWD⟩ : ∃ v, sgnR 2147483648 W0 = v := ⟨_, rfl⟩
  have H5 := Lib.hid (fun w1 => rSigned32_at F0 FR w1 hFR b3.1 (by omega))
  have H6 := Lib.hid (fun w1 => rSigned32_at W0 WD w1 hWD b4.1 (by omega))
  rw [hFR, hWD]
  clear hFR hWD b3 b4
  obtain ⟨b10, b11⟩ := b1
  obtain ⟨b20, b21⟩ := b2
  obtain ⟨r, hr⟩ : ∃ v, M / 8 % 8 = v := ⟨_, rfl⟩
  obtain ⟨lo, hlo⟩ : ∃ v, M % 8 = v := ⟨_, rfl⟩
  have HRR := Lib.hid (show regR M = r from hr)
  have HLO := Lib.hid (show regL M = lo from hlo)
  go_enter Try.func95, Try.ntmps95
  go_wp2_with fail
  refine (H1.out).mono ?_
  rintro e w2 ⟨rfl, rfl⟩
  go_wp2_with fail
  refine (H2.out).mono ?_
  rintro e w2 ⟨rfl, rfl⟩
  go_wp2_with fail
  refine (H3.out).mono ?_
  rintro e w2 ⟨rfl, rfl⟩
  go_wp2_with fail
  refine (H5.out _).mono ?_
  rintro e w2 ⟨rfl, rfl⟩
  go_wp2_with fail
  refine (H4.out).mono ?_
  rintro e w2 ⟨rfl, rfl⟩
  by_cases h11 : C = 11
  · have hv := Lib.hid (show secV C M FR WD = ⟨35, 0, 0, 32, 0⟩ by unfold secV; simp only [HRR.out, HLO.out]; rw [if_pos h11])
    have f11 : (C == 11) = true := by rw [h11]; rfl
    go_wp2
    refine bodyPost_ret (res1c rfl _ _ w.heap.size _ rfl (loadIA _ w.heap.size _ _ _ _ _ (heap_alloc_new w _))) rfl ⟨by rw [hv.out]; first | done | rfl, (Below.refl _ _).alloc (Nat.le_refl _) _⟩
  by_cases h175 : C = 175
  · have hv := Lib.hid (show secV C M FR WD = ⟨20, r, lo, 32, 0⟩ by unfold secV; simp only [HRR.out, HLO.out]; rw [if_neg h11, if_pos h175])
    have f11 : (C == 11) = false := beq_false_of_ne h11
    have f175 : (C == 175) = true := by rw [h175]; rfl
    go_wp2
    refine bodyPost_ret (res1c rfl _ _ w.heap.size _ rfl (loadIA _ w.heap.size _ _ _ _ _ (heap_alloc_new w _))) rfl ⟨by rw [hv.out]; first | done | rfl, (Below.refl _ _).alloc (Nat.le_refl _) _⟩
  by_cases h182 : C = 182
  · by_cases hM : 192 ≤ M
    · have hv := Lib.hid (show secV C M FR WD = ⟨30, r, lo, 32, 0⟩ by unfold secV; simp only [HRR.out, HLO.out]; rw [if_neg h11, if_neg h175, if_pos ⟨h182, hM⟩])
      have f11 : (C == 11) = false := beq_false_of_ne h11
      have f175 : (C == 175) = false := beq_false_of_ne h175
      have f182 : (C == 182) = true := by rw [h182]; rfl
      have g1 : decide (M ≥ 192) = true := decide_eq_true hM
      go_wp2
      refine bodyPost_ret (res1c rfl _ _ w.heap.size _ rfl (loadIA _ w.heap.size _ _ _ _ _ (heap_alloc_new w _))) rfl ⟨by rw [hv.out]; first | done | rfl, (Below.refl _ _).alloc (Nat.le_refl _) _⟩
    · have hv := Lib.hid (show secV C M FR WD = ⟨4, r, lo, 32, FR⟩ by unfold secV; simp only [HRR.out, HLO.out]; rw [if_neg h11, if_neg h175, if_neg (fun h => hM h.2), if_pos h182])
      have f11 : (C == 11) = false := beq_false_of_ne h11
      have f175 : (C == 175) = false := beq_false_of_ne h175
      have f182 : (C == 182) = true := by rw [h182]; rfl
      have g1 : decide (M ≥ 192) = false := decide_eq_false hM
      have g2 : M < 192 := by omega
      clear hM
      go_wp2
      refine bodyPost_ret (res1c rfl _ _ w.heap.size _ rfl (loadIA _ w.heap.size _ _ _ _ _ (heap_alloc_new w _))) rfl ⟨by rw [hv.out]; first | done | rfl, (Below.refl _ _).alloc (Nat.le_refl _) _⟩
  by_cases h183 : C = 183
  · have hv := Lib.hid (show secV C M FR WD = ⟨5, r, lo, 32, FR⟩ by unfold secV; simp only [HRR.out, HLO.out]; rw [if_neg h11, if_neg h175, if_neg (fun h => h182 h.1), if_neg h182, if_pos h183])
    have f11 : (C == 11) = false := beq_false_of_ne h11
    have f175 : (C == 175) = false := beq_false_of_ne h175
    have f182 : (C == 182) = false := beq_false_of_ne h182
    have f183 : (C == 183) = true := by rw [h183]; rfl
    go_wp2
    refine bodyPost_ret (res1c rfl _ _ w.heap.size _ rfl (loadIA _ w.heap.size _ _ _ _ _ (heap_alloc_new w _))) rfl ⟨by rw [hv.out]; first | done | rfl, (Below.refl _ _).alloc (Nat.le_refl _) _⟩
  by_cases ha : 144 ≤ C ∧ C ≤ 159
  · have hv := Lib.hid (show secV C M FR WD = ⟨29, lo, C - 144, 32, 0⟩ by unfold secV; simp only [HRR.out, HLO.out]; rw [if_neg h11, if_neg h175, if_neg (fun h => h182 h.1), if_neg h182, if_neg h183, if_pos ha])
    have f11 : (C == 11) = false := beq_false_of_ne h11
    have f175 : (C == 175) = false := beq_false_of_ne h175
    have f182 : (C == 182) = false := beq_false_of_ne h182
    have f183 : (C == 183) = false := beq_false_of_ne h183
    obtain ⟨c1, c2⟩ := ha
    have g1 : decide (C ≥ 144) = true := decide_eq_true c1
    have g2 : decide (C ≤ 159) = true := decide_eq_true c2
    go_wp2
    refine bodyPost_ret (res1c rfl _ _ w.heap.size _ rfl (loadIA _ w.heap.size _ _ _ _ _ (heap_alloc_new w _))) rfl ⟨by rw [hv.out]; first | done | rfl, (Below.refl _ _).alloc (Nat.le_refl _) _⟩
  by_cases hb' : 64 ≤ C ∧ C ≤ 79
  · have hv := Lib.hid (show secV C M FR WD = ⟨31, r, lo, 32, C - 64⟩ by unfold secV; simp only [HRR.out, HLO.out]; rw [if_neg h11, if_neg h175, if_neg (fun h => h182 h.1), if_neg h182, if_neg h183, if_neg ha, if_pos hb'])
    have f11 : (C == 11) = false := beq_false_of_ne h11
    have f175 : (C == 175) = false := beq_false_of_ne h175
    have f182 : (C == 182) = false := beq_false_of_ne h182
    have f183 : (C == 183) = false := beq_false_of_ne h183
    obtain ⟨c1, c2⟩ := hb'
    have g1 : C < 144 := by omega
    have g3 : decide (C ≥ 144) = false := decide_eq_false (by omega)
    have g4 : decide (C ≥ 64) = true := decide_eq_true c1
    have g5 : decide (C ≤ 79) = true := decide_eq_true c2
    clear ha
    go_wp2
    refine bodyPost_ret (res1c rfl _ _ w.heap.size _ rfl (loadIA _ w.heap.size _ _ _ _ _ (heap_alloc_new w _))) rfl ⟨by rw [hv.out]; first | done | rfl, (Below.refl _ _).alloc (Nat.le_refl _) _⟩
  by_cases hc : 128 ≤ C ∧ C ≤ 143
  · have hv := Lib.hid (show secV C M FR WD = ⟨32, 0, C - 128, 32, WD⟩ by unfold secV; simp only [HRR.out, HLO.out]; rw [if_neg h11, if_neg h175, if_neg (fun h => h182 h.1), if_neg h182, if_neg h183, if_neg ha, if_neg hb', if_pos hc])
    have f11 : (C == 11) = false := beq_false_of_ne h11
    have f175 : (C == 175) = false := beq_false_of_ne h175
    have f182 : (C == 182) = false := beq_false_of_ne h182
    have f183 : (C == 183) = false := beq_false_of_ne h183
    obtain ⟨c1, c2⟩ := hc
    have g1 : C < 144 := by omega
    have g2 : 79 < C := by omega
    have g3 : decide (C ≥ 144) = false := decide_eq_false (by omega)
    have g4 : decide (C ≥ 64) = true := decide_eq_true (by omega)
    have g5 : decide (C ≤ 79) = false := decide_eq_false (by omega)
    have g6 : decide (C ≥ 128) = true := decide_eq_true c1
    have g7 : decide (C ≤ 143) = true := decide_eq_true c2
    clear ha hb'
    go_wp2_with fail
    refine (H6.out _).mono ?_
    rintro e w2 ⟨rfl, rfl⟩
    go_wp2
    refine bodyPost_ret (res1c rfl _ _ w.heap.size _ rfl (loadIA _ w.heap.size _ _ _ _ _ (heap_alloc_new w _))) rfl ⟨by rw [hv.out]; first | done | rfl, (Below.refl _ _).alloc (Nat.le_refl _) _⟩
  have hv := Lib.hid (show secV C M FR WD = noIns by unfold secV; rw [if_neg h11, if_neg h175, if_neg (fun h => h182 h.1), if_neg h182, if_neg h183, if_neg ha, if_neg hb', if_neg hc])
  have f11 : (C == 11) = false := beq_false_of_ne h11
  have f175 : (C == 175) = false := beq_false_of_ne h175
  have f182 : (C == 182) = false := beq_false_of_ne h182
  have f183 : (C == 183) = false := beq_false_of_ne h183
  have HN := Lib.hid (show ¬ (144 ≤ C ∧ C ≤ 159) ∧ ¬ (64 ≤ C ∧ C ≤ 79) ∧ ¬ (128 ≤ C ∧ C ≤ 143) from ⟨ha, hb', hc⟩)
  clear ha hb' hc
  rcases (show C < 64 ∨ (79 < C ∧ C < 128) ∨ 159 < C by have := HN.out; omega) with c1 | ⟨c1, c2⟩ | c1
  · have g3 : decide (C ≥ 144) = false := decide_eq_false (by omega)
    have g4 : decide (C ≥ 64) = false := decide_eq_false (by omega)
    have g6 : decide (C ≥ 128) = false := decide_eq_false (by omega)
    go_wp2
    refine bodyPost_ret (res1c rfl _ _ w.heap.size _ rfl (loadIA _ w.heap.size _ _ _ _ _ (heap_alloc_new w _))) rfl ⟨by rw [hv.out]; first | done | rfl, (Below.refl _ _).alloc (Nat.le_refl _) _⟩
  · have g3 : decide (C ≥ 144) = false := decide_eq_false (by omega)
    have g4 : decide (C ≥ 64) = true := decide_eq_true (by omega)
    have g5 : decide (C ≤ 79) = false := decide_eq_false (by omega)
    have g6 : decide (C ≥ 128) = false := decide_eq_false (by omega)
    go_wp2
    refine bodyPost_ret (res1c rfl _ _ w.heap.size _ rfl (loadIA _ w.heap.size _ _ _ _ _ (heap_alloc_new w _))) rfl ⟨by rw [hv.out]; first | done | rfl, (Below.refl _ _).alloc (Nat.le_refl _) _⟩
  · have g3 : decide (C ≥ 144) = true := decide_eq_true (by omega)
    have g8 : decide (C ≤ 159) = false := decide_eq_false (by omega)
    have g4 : decide (C ≥ 64) = true := decide_eq_true (by omega)
    have g5 : decide (C ≤ 79) = false := decide_eq_false (by omega)
    have g6 : decide (C ≥ 128) = true := decide_eq_true (by omega)
    have g7 : decide (C ≤ 143) = false := decide_eq_false (by omega)
    go_wp2
    refine bodyPost_ret (res1c rfl _ _ w.heap.size _ rfl (loadIA _ w.heap.size _ _ _ _ _ (heap_alloc_new w _))) rfl ⟨by rw [hv.out]; first | done | rfl, (Below.refl _ _).alloc (Nat.le_refl _) _⟩
set_option maxRecDepth 100000 in
set_option maxHeartbeats 8000000 in
theorem rSecond_1 {w : World} {A : Option Addr} {n c : Nat} {l : List Int} (hB : Byt w A n c l) :
    Calls Try.prog 95 #[.slice A n c, .int .i64 1] w fun e w' => e = .returned (aggI (secF l 1)) ∧ Below w.heap.size w w' := by
  rw [← secV_eq]
  have hb : Below w.heap.size w (w.alloc (.cells #[.int .i64 0, .int .i64 0, .int .i64 0, .int .i64 0, .int .i64 0] 23)) := (Below.refl _ _).alloc (Nat.le_refl _) _
  have hB2 := hB.below hb
  have H1 := Lib.hid (rNumber_any hB2 (1 + 1) 1 (by omega) (by omega))
  have H2 := Lib.hid (rNumber_any hB2 (1 + 2) 1 (by omega) (by omega))
  have H3 := Lib.hid (rNumber_any hB2 (1 + 3) 4 (by omega) (by omega))
  have H4 := Lib.hid (rNumber_any hB2 (1 + 2) 4 (by omega) (by omega))
  have b1 := numK_bd1 hB (1 + 1)
  have b2 := numK_bd1 hB (1 + 2)
  have b3 := numK_bd4 hB (1 + 3)
  have b4 := numK_bd4 hB (1 + 2)
  clear hB hB2
  generalize numK l (1 + 1) 1 = C at H1 b1 ⊢
  generalize numK l (1 + 2) 1 = M at H2 b2 ⊢
  generalize numK l (1 + 3) 4 = F0 at H3 b3 ⊢
  generalize numK l (1 + 2) 4 = W0 at H4 b4 ⊢
  generalize decide (1 + 1 + 1 ≤ l.length) = q1 at H1
  generalize decide (1 + 2 + 1 ≤ l.length) = q2 at H2
  generalize decide (1 + 3 + 4 ≤ l.length) = q3 at H3
  generalize decide (1 + 2 + 4 ≤ l.length) = q4 at H4
  obtain ⟨FR, hFR⟩ : ∃ v, sgnR 2147483648 F0 = v := ⟨_, rfl⟩
  obtain ⟨WD, hWD⟩ : ∃ v, sgnR 2147483648 W0 = v := ⟨_, rfl⟩
  have H5 := Lib.hid (fun w1 => rSigned32_at F0 FR w1 hFR b3.1 (by omega))
  have H6 := Lib.hid (fun w1 => rSigned32_at W0 WD w1 hWD b4.1 (by omega))
  rw [hFR, hWD]
  clear hFR hWD b3 b4
  obtain ⟨b10, b11⟩ := b1
  obtain ⟨b20, b21⟩ := b2
  obtain ⟨r, hr⟩ : ∃ v, M / 8 % 8 = v := ⟨_, rfl⟩
  obtain ⟨lo, hlo⟩ : ∃ v, M % 8 = v := ⟨_, rfl⟩
  have HRR := Lib.hid (show regR M = r from hr)
  have HLO := Lib.hid (show regL M = lo from hlo)
  go_enter Try.func95, Try.ntmps95
  go_wp2_with fail
  refine (H1.out).mono ?_
  rintro e w2 ⟨rfl, rfl⟩
  go_wp2_with fail
  refine (H2.out).mono ?_
  rintro e w2 ⟨rfl, rfl⟩
  go_wp2_with fail
  refine (H3.out).mono ?_
  rintro e w2 ⟨rfl, rfl⟩
  go_wp2_with fail
  refine (H5.out _).mono ?_
  rintro e w2 ⟨rfl, rfl⟩
  go_wp2_with fail
  refine (H4.out).mono ?_
  rintro e w2 ⟨rfl, rfl⟩
  by_cases h11 : C = 11
  · have hv := Lib.hid (show secV C M FR WD = ⟨35, 0, 0, 32, 0⟩ by unfold secV; simp only [HRR.out, HLO.out]; rw [if_pos h11])
    have f11 : (C == 11) = true := by rw [h11]; rfl
    go_wp2
    refine bodyPost_ret (res1c rfl _ _ w.heap.size _ rfl (loadIA _ w.heap.size _ _ _ _ _ (heap_alloc_new w _))) rfl ⟨by rw [hv.out]; first | done | rfl, (Below.refl _ _).alloc (Nat.le_refl _) _⟩
  by_cases h175 : C = 175
  · have hv := Lib.hid (show secV C M FR WD = ⟨20, r, lo, 32, 0⟩ by unfold secV; simp only [HRR.out, HLO.out]; rw [if_neg h11, if_pos h175])
    have f11 : (C == 11) = false := beq_false_of_ne h11
    have f175 : (C == 175) = true := by rw [h175]; rfl
    go_wp2
    refine bodyPost_ret (res1c rfl _ _ w.heap.size _ rfl (loadIA _ w.heap.size _ _ _ _ _ (heap_alloc_new w _))) rfl ⟨by rw [hv.out]; first | done | rfl, (Below.refl _ _).alloc (Nat.le_refl _) _⟩
  by_cases h182 : C = 182
  · by_cases hM : 192 ≤ M
    · have hv := Lib.hid (show secV C M FR WD = ⟨30, r, lo, 32, 0⟩ by unfold secV; simp only [HRR.out, HLO.out]; rw [if_neg h11, if_neg h175, if_pos ⟨h182, hM⟩])
      have f11 : (C == 11) = false := beq_false_of_ne h11
      have f175 : (C == 175) = false := beq_false_of_ne h175
      have f182 : (C == 182) = true := by rw [h182]; rfl
      have g1 : decide (M ≥ 192) = true := decide_eq_true hM
      go_wp2
      refine bodyPost_ret (res1c rfl _ _ w.heap.size _ rfl (loadIA _ w.heap.size _ _ _ _ _ (heap_alloc_new w _))) rfl ⟨by rw [hv.out]; first | done | rfl, (Below.refl _ _).alloc (Nat.le_refl _) _⟩
    · have hv := Lib.hid (show secV C M FR WD = ⟨4, r, lo, 32, FR⟩ by unfold secV; simp only [HRR.out, HLO.out]; rw [if_neg h11, if_neg h175, if_neg (fun h => hM h.2), if_pos h182])
      have f11 : (C == 11) = false := beq_false_of_ne h11
      have f175 : (C == 175) = false := beq_false_of_ne h175
      have f182 : (C == 182) = true := by rw [h182]; rfl
      have g1 : decide (M ≥ 192) = false := decide_eq_false hM
      have g2 : M < 192 := by omega
      clear hM
      go_wp2
      refine bodyPost_ret (res1c rfl _ _ w.heap.size _ rfl (loadIA _ w.heap.size _ _ _ _ _ (heap_alloc_new w _))) rfl ⟨by rw [hv.out]; first | done | rfl, (Below.refl _ _).alloc (Nat.le_refl _) _⟩
  by_cases h183 : C = 183
  · have hv := Lib.hid (show secV C M FR WD = ⟨5, r, lo, 32, FR⟩ by unfold secV; simp only [HRR.out, HLO.out]; rw [if_neg h11, if_neg h175, if_neg (fun h => h182 h.1), if_neg h182, if_pos h183])
    have f11 : (C == 11) = false := beq_false_of_ne h11
    have f175 : (C == 175) = false := beq_false_of_ne h175
    have f182 : (C == 182) = false := beq_false_of_ne h182
    have f183 : (C == 183) = true := by rw [h183]; rfl
    go_wp2
    refine bodyPost_ret (res1c rfl _ _ w.heap.size _ rfl (loadIA _ w.heap.size _ _ _ _ _ (heap_alloc_new w _))) rfl ⟨by rw [hv.out]; first | done | rfl, (Below.refl _ _).alloc (Nat.le_refl _) _⟩
  by_cases ha : 144 ≤ C ∧ C ≤ 159
  · have hv := Lib.hid (show secV C M FR WD = ⟨29, lo, C - 144, 32, 0⟩ by unfold secV; simp only [HRR.out, HLO.out]; rw [if_neg h11, if_neg h175, if_neg (fun h => h182 h.1), if_neg h182, if_neg h183, if_pos ha])
    have f11 : (C == 11) = false := beq_false_of_ne h11
    have f175 : (C == 175) = false := beq_false_of_ne h175
    have f182 : (C == 182) = false := beq_false_of_ne h182
    have f183 : (C == 183) = false := beq_false_of_ne h183
    obtain ⟨c1, c2⟩ := ha
    have g1 : decide (C ≥ 144) = true := decide_eq_true c1
    have g2 : decide (C ≤ 159) = true := decide_eq_true c2
    go_wp2
    refine bodyPost_ret (res1c rfl _ _ w.heap.size _ rfl (loadIA _ w.heap.size _ _ _ _ _ (heap_alloc_new w _))) rfl ⟨by rw [hv.out]; first | done | rfl, (Below.refl _ _).alloc (Nat.le_refl _) _⟩
  by_cases hb' : 64 ≤ C ∧ C ≤ 79
  · have hv := Lib.hid (show secV C M FR WD = ⟨31, r, lo, 32, C - 64⟩ by unfold secV; simp only [HRR.out, HLO.out]; rw [if_neg h11, if_neg h175, if_neg (fun h => h182 h.1), if_neg h182, if_neg h183, if_neg ha, if_pos hb'])
    have f11 : (C == 11) = false := beq_false_of_ne h11
    have f175 : (C == 175) = false := beq_false_of_ne h175
    have f182 : (C == 182) = false := beq_false_of_ne h182
    have f183 : (C == 183) = false := beq_false_of_ne h183
    obtain ⟨c1, c2⟩ := hb'
    have g1 : C < 144 := by omega
    have g3 : decide (C ≥ 144) = false := decide_eq_false (by omega)
    have g4 : decide (C ≥ 64) = true := decide_eq_true c1
    have g5 : decide (C ≤ 79) = true := decide_eq_true c2
    clear ha
    go_wp2
    refine bodyPost_ret (res1c rfl _ _ w.heap.size _ rfl (loadIA _ w.heap.size _ _ _ _ _ (heap_alloc_new w _))) rfl ⟨by rw [hv.out]; first | done | rfl, (Below.refl _ _).alloc (Nat.le_refl _) _⟩
  by_cases hc : 128 ≤ C ∧ C ≤ 143
  · have hv := Lib.hid (show secV C M FR WD = ⟨32, 0, C - 128, 32, WD⟩ by unfold secV; simp only [HRR.out, HLO.out]; rw [if_neg h11, if_neg h175, if_neg (fun h => h182 h.1), if_neg h182, if_neg h183, if_neg ha, if_neg hb', if_pos hc])
    have f11 : (C == 11) = false := beq_false_of_ne h11
    have f175 : (C == 175) = false := beq_false_of_ne h175
    have f182 : (C == 182) = false := beq_false_of_ne h182
    have f183 : (C == 183) = false := beq_false_of_ne h183
    obtain ⟨c1, c2⟩ := hc
    have g1 : C < 144 := by omega
    have g2 : 79 < C := by omega
    have g3 : decide (C ≥ 144) = false := decide_eq_false (by omega)
    have g4 : decide (C ≥ 64) = true := decide_eq_true (by omega)
    have g5 : decide (C ≤ 79) = false := decide_eq_false (by omega)
    have g6 : decide (C ≥ 128) = true := decide_eq_true c1
    have g7 : decide (C ≤ 143) = true := decide_eq_true c2
    clear ha hb'
    go_wp2_with fail
    refine (H6.out _).mono ?_
    rintro e w2 ⟨rfl, rfl⟩
    go_wp2
    refine bodyPost_ret (res1c rfl _ _ w.heap.size _ rfl (loadIA _ w.heap.size _ _ _ _ _ (heap_alloc_new w _))) rfl ⟨by rw [hv.out]; first | done | rfl, (Below.refl _ _).alloc (Nat.le_refl _) _⟩
  have hv := Lib.hid (show secV C M FR WD = noIns by unfold secV; rw [if_neg h11, if_neg h175, if_neg (fun h => h182 h.1), if_neg h182, if_neg h183, if_neg ha, if_neg hb', if_neg hc])
  have f11 : (C == 11) = false := beq_false_of_ne h11
  have f175 : (C == 175) = false := beq_false_of_ne h175
  have f182 : (C == 182) = false := beq_false_of_ne h182
  have f183 : (C == 183) = false := beq_false_of_ne h183
  have HN := Lib.hid (show ¬ (144 ≤ C ∧ C ≤ 159) ∧ ¬ (64 ≤ C ∧ C ≤ 79) ∧ ¬ (128 ≤ C ∧ C ≤ 143) from ⟨ha, hb', hc⟩)
  clear ha hb' hc
  rcases (show C < 64 ∨ (79 < C ∧ C < 128) ∨ 159 < C by have := HN.out; omega) with c1 | ⟨c1, c2⟩ | c1
  · have g3 : decide (C ≥ 144) = false := decide_eq_false (by omega)
    have g4 : decide (C ≥ 64) = false := decide_eq_false (by omega)
    have g6 : decide (C ≥ 128) = false := decide_eq_false (by omega)
    go_wp2
    refine bodyPost_ret (res1c rfl _ _ w.heap.size _ rfl (loadIA _ w.heap.size _ _ _ _ _ (heap_alloc_new w _))) rfl ⟨by rw [hv.out]; first | done | rfl, (Below.refl _ _).alloc (Nat.le_refl _) _⟩
  · have g3 : decide (C ≥ 144) = false := decide_eq_false (by omega)
    have g4 : decide (C ≥ 64) = true := decide_eq_true (by omega)
    have g5 : decide (C ≤ 79) = false := decide_eq_false (by omega)
    have g6 : decide (C ≥ 128) = false := decide_eq_false (by omega)
    go_wp2
    refine bodyPost_ret (res1c rfl _ _ w.heap.size _ rfl (loadIA _ w.heap.size _ _ _ _ _ (heap_alloc_new w _))) rfl ⟨by rw [hv.out]; first | done | rfl, (Below.refl _ _).alloc (Nat.le_refl _) _⟩
  · have g3 : decide (C ≥ 144) = true := decide_eq_true (by omega)
    have g8 : decide (C ≤ 159) = false := decide_eq_false (by omega)
    have g4 : decide (C ≥ 64) = true := decide_eq_true (by omega)
    have g5 : decide (C ≤ 79) = false := decide_eq_false (by omega)
    have g6 : decide (C ≥ 128) = true := decide_eq_true (by omega)
    have g7 : decide (C ≤ 143) = false := decide_eq_false (by omega)
    go_wp2
    refine bodyPost_ret (res1c rfl _ _ w.heap.size _ rfl (loadIA _ w.heap.size _ _ _ _ _ (heap_alloc_new w _))) rfl ⟨by rw [hv.out]; first | done | rfl, (Below.refl _ _).alloc (Nat.le_refl _) _⟩
end Go.Proofs.Ytpekegeohcnhcaa
