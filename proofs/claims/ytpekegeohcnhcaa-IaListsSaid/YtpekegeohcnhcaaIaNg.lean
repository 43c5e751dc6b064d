/-
  The reference's decode and Decode.
-/
import Derived.Test.YtpekegeohcnhcaaIaNf
import Derived.Test.YtpekegeohcnhcaaIaNa
import Derived.Test.YtpekegeohcnhcaaIaYb
namespace Go.Proofs.Ytpekegeohcnhcaa
open Go.RowKit

theorem rdec_yes {l : List Int} {x : Ins} (hg : gueT l = x) (hv : valB x = true) (h : pre (encF x) l = true) : decI l = x ∧ decN l = (encF x).length ∧ decB l = true := by
  have e : decF l = some x := by
    rw [← dec_eq]
    unfold rdecF
    rw [hg, hv, h]
    rfl
  unfold decI decN decB
  rw [e]
  exact ⟨rfl, rfl, rfl⟩
theorem rdec_no {l : List Int} {x : Ins} (hg : gueT l = x) (h : valB x = false ∨ pre (encF x) l = false) : decI l = ⟨0, 0, 0, 0, 0⟩ ∧ decN l = 0 ∧ decB l = false := by
  have e : decF l = none := by
    rw [← dec_eq]
    unfold rdecF
    rw [hg]
    rcases h with h | h
    · rw [h]; rfl
    · rw [h, Bool.and_false]; rfl
  unfold decI decN decB
  rw [e]
  exact ⟨rfl, rfl, rfl⟩
theorem sgnR_bd (h n : Int) (h1 : 0 ≤ n) (h2 : n < 2 * h) : -h ≤ sgnR h n ∧ sgnR h n < h := by
  unfold sgnR
  split <;> omega
theorem num4_bd {w : World} {A : Option Addr} {n c : Nat} {l : List Int} (h : Byt w A n c l) (p : Nat) : 0 ≤ num4 l p ∧ num4 l p < 4294967296 := by
  have := numK_bd4 h p
  rw [numK_4] at this
  omega
theorem nums_bd {w : World} {A : Option Addr} {n c : Nat} {l : List Int} (h : Byt w A n c l) (sz : Int) (p : Nat) : 0 ≤ nums sz l p ∧ nums sz l p < 4294967296 := by
  unfold nums
  split
  · have := numK_bd2 h p
    rw [numK_2] at this
    omega
  · exact num4_bd h p
theorem sec_imm {w : World} {A : Option Addr} {n c : Nat} {l : List Int} (h : Byt w A n c l) (p : Nat) : -4294967296 ≤ (secF l p).imm ∧ (secF l p).imm ≤ 4294967296 := by
  have b0 := btw_bd h (p + 1)
  have b1 := sgnR_bd 2147483648 (num4 l (p + 3)) (num4_bd h _).1 (num4_bd h _).2
  have b2 := sgnR_bd 2147483648 (num4 l (p + 2)) (num4_bd h _).1 (num4_bd h _).2
  unfold secF
  repeat' split
  all_goals (try unfold noIns); dsimp only; omega
def immOk (y : Ins) : Prop := -4294967296 ≤ y.imm ∧ y.imm ≤ 4294967296
theorem ite_ok {c : Prop} [Decidable c] {a b : Ins} (ha : immOk a) (hb : immOk b) : immOk (if c then a else b) := by split <;> assumption
theorem gueF_imm {w : World} {A : Option Addr} {n c : Nat} {l : List Int} (h : Byt w A n c l) (sz : Int) (p : Nat) : -4294967296 ≤ (gueF sz l p).imm ∧ (gueF sz l p).imm ≤ 4294967296 := by
  have b1 := sgnR_bd 2147483648 (num4 l (p + 2)) (num4_bd h _).1 (num4_bd h _).2
  have b2 := sgnR_bd 2147483648 (num4 l (p + 1)) (num4_bd h _).1 (num4_bd h _).2
  have b3 := nums_bd h sz (p + 1)
  have b4 := nums_bd h sz (p + 2)
  have b5 := sgnR_bd 128 (bt l (p + 1)) (btw_bd h _).1 (btw_bd h _).2
  have hh : half sz = 128 ∨ half sz = 32768 ∨ half sz = 2147483648 := by unfold half; split <;> (try split) <;> simp
  have b6 : 0 ≤ sgnR 128 (bt l (p + 2)) % (2 * half sz) ∧ sgnR 128 (bt l (p + 2)) % (2 * half sz) < 4294967296 := by
    rcases hh with e | e | e <;> rw [e] <;> omega
  have bs := sec_imm h p
  unfold gueF
  generalize secF l p = sec at bs ⊢
  show immOk _
  repeat' refine ite_ok ?_ ?_
  all_goals (unfold immOk; (try unfold noIns); (try dsimp only); first | exact bs | omega)
set_option maxRecDepth 100000 in
set_option maxHeartbeats 4000000 in
theorem rGuess_no_32 {w : World} {A : Option Addr} {n c : Nat} {l : List Int} (hB : Byt w A n c l) (hl : ¬ 0 < l.length) :
    Calls Try.prog 74 #[.slice A n c, .int .i64 0, .int .i64 32] w fun e w' => e = .returned (aggI (gueF 32 l 0)) ∧ Below w.heap.size w w' := by
  rw [show gueF 32 l 0 = noIns by unfold gueF; rw [if_pos (by omega)]]
  obtain ⟨W, hW⟩ : ∃ W, W = (w.alloc (.cells #[.int .i64 0, .int .i64 0, .int .i64 0, .int .i64 0, .int .i64 0] 23)).alloc (.cells #[.int .i64 (-1), .int .i64 0, .int .i64 0, .int .i64 0, .int .i64 0] 23) := ⟨_, rfl⟩
  have hb : Below w.heap.size w W := by rw [hW]; exact ((Below.refl _ _).alloc (Nat.le_refl _) _).alloc (by simp) _
  have r0 : W.heap[w.heap.size]? = some (.cells #[.int .i64 0, .int .i64 0, .int .i64 0, .int .i64 0, .int .i64 0] 23 (0, 0)) := by
    rw [hW]; exact (heap_alloc_old _ _ (by simp)).trans (heap_alloc_new w _)
  have rN : W.heap[w.heap.size + 1]? = some (.cells #[.int .i64 (-1), .int .i64 0, .int .i64 0, .int .i64 0, .int .i64 0] 23 (0, 0)) := by
    rw [hW]
    have := heap_alloc_new (w.alloc (.cells #[.int .i64 0, .int .i64 0, .int .i64 0, .int .i64 0, .int .i64 0] 23)) (.cells #[.int .i64 (-1), .int .i64 0, .int .i64 0, .int .i64 0, .int .i64 0] 23)
    simpa using this
  have HWW := Lib.hid hW
  clear hW
  have hB2 := hB.below hb
  have H1 := Lib.hid (rNumber_any hB2 0 1 (by omega) (by omega))
  rw [decide_eq_false (show ¬ 0 + 1 ≤ l.length by omega)] at H1
  generalize numK l 0 1 = C at H1
  clear hB hB2 hl
  go_enter Try.func74, Try.ntmps74
  go_wp2_with fail
  rw [← HWW.out]
  refine (H1.out).mono ?_
  rintro e w2 ⟨rfl, rfl⟩
  clear HWW
  obtain ⟨n0, n1, n2, n3, n4⟩ := cells5 rN
  go_wp2_with (refine wpList_store_row rfl _ _ _ rfl w.heap.size #[.int .i64 (-1), .int .i64 0, .int .i64 0, .int .i64 0, .int .i64 0] rfl rfl 23 _ r0 (infoC _ _ _ _ _) rfl (oneI _ _ _ _ _) ?_)
  have rr := setRow_heap _ w.heap.size _ #[.int .i64 (-1), .int .i64 0, .int .i64 0, .int .i64 0, .int .i64 0] 23 (0, 0) r0
  have hB7 := bel_setRow hb (Nat.le_refl w.heap.size) #[.int .i64 (-1), .int .i64 0, .int .i64 0, .int .i64 0, .int .i64 0]
  clear r0 hb
  go_wp2
  exact bodyPost_ret (res1c rfl _ _ w.heap.size _ rfl (loadIA _ w.heap.size _ _ _ _ _ rr)) rfl ⟨rfl, hB7⟩
theorem rGuess_any_32 {w : World} {A : Option Addr} {n c : Nat} {l : List Int} (hB : Byt w A n c l) :
    Calls Try.prog 74 #[.slice A n c, .int .i64 0, .int .i64 32] w fun e w' => e = .returned (aggI (gueF 32 l 0)) ∧ Below w.heap.size w w' := by
  by_cases hl : 0 < l.length
  · exact rGuess_32 hB hl
  · exact rGuess_no_32 hB hl
set_option maxRecDepth 100000 in
set_option maxHeartbeats 4000000 in
theorem rGuess_no_16 {w : World} {A : Option Addr} {n c : Nat} {l : List Int} (hB : Byt w A n c l) (hl : ¬ 1 < l.length) :
    Calls Try.prog 74 #[.slice A n c, .int .i64 1, .int .i64 16] w fun e w' => e = .returned (aggI (gueF 16 l 1)) ∧ Below w.heap.size w w' := by
  rw [show gueF 16 l 1 = noIns by unfold gueF; rw [if_pos (by omega)]]
  obtain ⟨W, hW⟩ : ∃ W, W = (w.alloc (.cells #[.int .i64 0, .int .i64 0, .int .i64 0, .int .i64 0, .int .i64 0] 23)).alloc (.cells #[.int .i64 (-1), .int .i64 0, .int .i64 0, .int .i64 0, .int .i64 0] 23) := ⟨_, rfl⟩
  have hb : Below w.heap.size w W := by rw [hW]; exact ((Below.refl _ _).alloc (Nat.le_refl _) _).alloc (by simp) _
  have r0 : W.heap[w.heap.size]? = some (.cells #[.int .i64 0, .int .i64 0, .int .i64 0, .int .i64 0, .int .i64 0] 23 (0, 0)) := by
    rw [hW]; exact (heap_alloc_old _ _ (by simp)).trans (heap_alloc_new w _)
  have rN : W.heap[w.heap.size + 1]? = some (.cells #[.int .i64 (-1), .int .i64 0, .int .i64 0, .int .i64 0, .int .i64 0] 23 (0, 0)) := by
    rw [hW]
    have := heap_alloc_new (w.alloc (.cells #[.int .i64 0, .int .i64 0, .int .i64 0, .int .i64 0, .int .i64 0] 23)) (.cells #[.int .i64 (-1), .int .i64 0, .int .i64 0, .int .i64 0, .int .i64 0] 23)
    simpa using this
  have HWW := Lib.hid hW
  clear hW
  have hB2 := hB.below hb
  have H1 := Lib.hid (rNumber_any hB2 1 1 (by omega) (by omega))
  rw [decide_eq_false (show ¬ 1 + 1 ≤ l.length by omega)] at H1
  generalize numK l 1 1 = C at H1
  clear hB hB2 hl
  go_enter Try.func74, Try.ntmps74
  go_wp2_with fail
  rw [← HWW.out]
  refine (H1.out).mono ?_
  rintro e w2 ⟨rfl, rfl⟩
  clear HWW
  obtain ⟨n0, n1, n2, n3, n4⟩ := cells5 rN
  go_wp2_with (refine wpList_store_row rfl _ _ _ rfl w.heap.size #[.int .i64 (-1), .int .i64 0, .int .i64 0, .int .i64 0, .int .i64 0] rfl rfl 23 _ r0 (infoC _ _ _ _ _) rfl (oneI _ _ _ _ _) ?_)
  have rr := setRow_heap _ w.heap.size _ #[.int .i64 (-1), .int .i64 0, .int .i64 0, .int .i64 0, .int .i64 0] 23 (0, 0) r0
  have hB7 := bel_setRow hb (Nat.le_refl w.heap.size) #[.int .i64 (-1), .int .i64 0, .int .i64 0, .int .i64 0, .int .i64 0]
  clear r0 hb
  go_wp2
  exact bodyPost_ret (res1c rfl _ _ w.heap.size _ rfl (loadIA _ w.heap.size _ _ _ _ _ rr)) rfl ⟨rfl, hB7⟩
theorem rGuess_any_16 {w : World} {A : Option Addr} {n c : Nat} {l : List Int} (hB : Byt w A n c l) :
    Calls Try.prog 74 #[.slice A n c, .int .i64 1, .int .i64 16] w fun e w' => e = .returned (aggI (gueF 16 l 1)) ∧ Below w.heap.size w w' := by
  by_cases hl : 1 < l.length
  · exact rGuess_16 hB hl
  · exact rGuess_no_16 hB hl
set_option maxRecDepth 100000 in
set_option maxHeartbeats 8000000 in
theorem rDecode_e {w : World} {A : Option Addr} {n c : Nat} {l : List Int} (hB : Byt w A n c l) (hn : n = 0) :
    Calls Try.prog 32 #[.slice A n c] w fun e w' => e = .returned (.tuple #[aggI (decI l), .int .i64 (decN l : Int), .bool (decB l)]) ∧ Below w.heap.size w w' := by
  have HBy := Lib.hid hB
  obtain ⟨x, hx⟩ : ∃ x, gueF 32 l 0 = x := ⟨_, rfl⟩
  have HGT := Lib.hid (show gueT l = x by rw [← hx]; unfold gueT; rw [if_neg (by rw [bt_no (by rw [← HBy.out.1]; omega)]; decide)])
  obtain ⟨hi1, hi2⟩ := gueF_imm hB 32 0
  rw [hx] at hi1 hi2
  have hb : Below w.heap.size w (w.alloc (.cells #[.int .i64 0, .int .i64 0, .int .i64 0, .int .i64 0, .int .i64 0] 23)) := (Below.refl _ _).alloc (Nat.le_refl _) _
  have r0 := heap_alloc_new w (.cells #[.int .i64 0, .int .i64 0, .int .i64 0, .int .i64 0, .int .i64 0] 23)
  have HG := Lib.hid (rGuess_any_32 (hB.below hb))
  rw [hx] at HG
  clear hx
  have h0 : n = 0 := hn
  subst h0
  clear hB
  go_enter Try.func32, Try.ntmps32
  go_wp2_with fail
  refine HG.out.mono ?_
  rintro e w2 ⟨rfl, hw⟩
  clear HG
  replace r0 := (hw.block _ (lt_of_block r0)).trans r0
  replace hb := hb.trans (hw.mono hb.size)
  replace hB := HBy.out.below hb
  clear hw
  obtain ⟨op, d, s, sz, imm⟩ := x
  replace hi1 : -4294967296 ≤ imm := hi1
  replace hi2 : imm ≤ 4294967296 := hi2
  have HE := Lib.hid (fun w1 => rEncode_any ⟨op, d, s, sz, imm⟩ w1 (by show -9223372036854775808 ≤ imm; omega) (by show imm ≤ 9223372036854775807; omega))
  have hXX := heap_alloc_new w2 (.cells #[.int .i64 op, .int .i64 d, .int .i64 s, .int .i64 sz, .int .i64 imm] 23)
  replace r0 := (heap_alloc_old w2 (.cells #[.int .i64 op, .int .i64 d, .int .i64 s, .int .i64 sz, .int .i64 imm] 23) (lt_of_block r0)).trans r0
  replace hb := hb.alloc hb.size (.cells #[.int .i64 op, .int .i64 d, .int .i64 s, .int .i64 sz, .int .i64 imm] 23)
  go_wp2_with fail
  generalize World.alloc w2 _ = W3 at r0 hb hXX ⊢
  generalize w2.heap.size = X at hXX ⊢
  refine (HE.out _).mono ?_
  rintro e w4 ⟨V, rfl, ho, hw⟩
  clear HE
  replace r0 := (hw.block _ (lt_of_block r0)).trans r0
  replace hXX := (hw.block _ (lt_of_block hXX)).trans hXX
  replace hb := hb.trans (hw.mono hb.size)
  clear hw
  cases hv : valB ⟨op, d, s, sz, imm⟩
  · have HD := Lib.hid (rdec_no HGT.out (.inl hv))
    clear ho hv hXX
    go_wp2_with (refine wpList_store_row rfl _ _ _ rfl w.heap.size #[.int .i64 0, .int .i64 0, .int .i64 0, .int .i64 0, .int .i64 0] rfl rfl 23 _ r0 (infoC _ _ _ _ _) rfl (oneI _ _ _ _ _) ?_)
    have rr := setRow_heap _ w.heap.size _ #[.int .i64 0, .int .i64 0, .int .i64 0, .int .i64 0, .int .i64 0] 23 (0, 0) r0
    have hB7 := bel_setRow hb (Nat.le_refl w.heap.size) #[.int .i64 0, .int .i64 0, .int .i64 0, .int .i64 0, .int .i64 0]
    clear r0 hb
    go_wp2
    refine bodyPost_ret (res3 rfl _ _ w.heap.size #[.int .i64 0, .int .i64 0, .int .i64 0, .int .i64 0, .int .i64 0] rfl (loadIA _ w.heap.size _ _ _ _ _ rr)) rfl ⟨?_, hB7⟩
    rw [HD.out.1, HD.out.2.1, HD.out.2.2]
    rfl
  · obtain ⟨A2, c2, rfl, hB2⟩ := byt_own (ho hv) (enc_by _ hv)
    have HBG := Lib.hid (rBegins_any (HBy.out.below hb) hB2)
    clear ho hB2
    cases hp : pre (encF ⟨op, d, s, sz, imm⟩) l
    · rw [hp] at HBG
      have HD := Lib.hid (rdec_no HGT.out (.inr hp))
      generalize (encF ⟨op, d, s, sz, imm⟩).length = k at HBG HD ⊢
      clear hp hv
      go_wp2_with fail
      refine HBG.out.mono ?_
      rintro e w5 ⟨rfl, hw⟩
      clear HBG
      replace r0 := (hw.block _ (lt_of_block r0)).trans r0
      replace hXX := (hw.block _ (lt_of_block hXX)).trans hXX
      replace hb := hb.trans (hw.mono hb.size)
      clear hw
      obtain ⟨x0, x1, x2, x3, x4⟩ := cells5 hXX
      go_wp2_with (refine wpList_store_row rfl _ _ _ rfl w.heap.size #[.int .i64 0, .int .i64 0, .int .i64 0, .int .i64 0, .int .i64 0] rfl rfl 23 _ r0 (infoC _ _ _ _ _) rfl (oneI _ _ _ _ _) ?_)
      have rr := setRow_heap _ w.heap.size _ #[.int .i64 0, .int .i64 0, .int .i64 0, .int .i64 0, .int .i64 0] 23 (0, 0) r0
      have hB7 := bel_setRow hb (Nat.le_refl w.heap.size) #[.int .i64 0, .int .i64 0, .int .i64 0, .int .i64 0, .int .i64 0]
      clear r0 hb
      go_wp2
      refine bodyPost_ret (res3 rfl _ _ w.heap.size #[.int .i64 0, .int .i64 0, .int .i64 0, .int .i64 0, .int .i64 0] rfl (loadIA _ w.heap.size _ _ _ _ _ rr)) rfl ⟨?_, hB7⟩
      rw [HD.out.1, HD.out.2.1, HD.out.2.2]
      rfl
    · rw [hp] at HBG
      have HD := Lib.hid (rdec_yes HGT.out hv hp)
      generalize (encF ⟨op, d, s, sz, imm⟩).length = k at HBG HD ⊢
      clear hp hv
      go_wp2_with fail
      refine HBG.out.mono ?_
      rintro e w5 ⟨rfl, hw⟩
      clear HBG
      replace r0 := (hw.block _ (lt_of_block r0)).trans r0
      replace hXX := (hw.block _ (lt_of_block hXX)).trans hXX
      replace hb := hb.trans (hw.mono hb.size)
      clear hw
      obtain ⟨x0, x1, x2, x3, x4⟩ := cells5 hXX
      go_wp2_with (refine wpList_store_row rfl _ _ _ rfl w.heap.size #[.int .i64 op, .int .i64 d, .int .i64 s, .int .i64 sz, .int .i64 imm] rfl rfl 23 _ r0 (infoC _ _ _ _ _) rfl (oneI _ _ _ _ _) ?_)
      have rr := setRow_heap _ w.heap.size _ #[.int .i64 op, .int .i64 d, .int .i64 s, .int .i64 sz, .int .i64 imm] 23 (0, 0) r0
      have hB7 := bel_setRow hb (Nat.le_refl w.heap.size) #[.int .i64 op, .int .i64 d, .int .i64 s, .int .i64 sz, .int .i64 imm]
      clear r0 hb
      go_wp2
      refine bodyPost_ret (res3 rfl _ _ w.heap.size #[.int .i64 op, .int .i64 d, .int .i64 s, .int .i64 sz, .int .i64 imm] rfl (loadIA _ w.heap.size _ _ _ _ _ rr)) rfl ⟨?_, hB7⟩
      rw [HD.out.1, HD.out.2.1, HD.out.2.2]
      rfl
set_option maxRecDepth 100000 in
set_option maxHeartbeats 8000000 in
theorem rDecode_n {w : World} {A : Option Addr} {n c : Nat} {l : List Int} (hB : Byt w A n c l) (hn : 0 < n) (h1 : bt l 0 ≠ 102) :
    Calls Try.prog 32 #[.slice A n c] w fun e w' => e = .returned (.tuple #[aggI (decI l), .int .i64 (decN l : Int), .bool (decB l)]) ∧ Below w.heap.size w w' := by
  have HBy := Lib.hid hB
  obtain ⟨x, hx⟩ : ∃ x, gueF 32 l 0 = x := ⟨_, rfl⟩
  have HGT := Lib.hid (show gueT l = x by rw [← hx]; unfold gueT; rw [if_neg h1])
  obtain ⟨hi1, hi2⟩ := gueF_imm hB 32 0
  rw [hx] at hi1 hi2
  have hb : Below w.heap.size w (w.alloc (.cells #[.int .i64 0, .int .i64 0, .int .i64 0, .int .i64 0, .int .i64 0] 23)) := (Below.refl _ _).alloc (Nat.le_refl _) _
  have r0 := heap_alloc_new w (.cells #[.int .i64 0, .int .i64 0, .int .i64 0, .int .i64 0, .int .i64 0] 23)
  have HG := Lib.hid (rGuess_any_32 (hB.below hb))
  rw [hx] at HG
  clear hx
  obtain ⟨b, off, rfl, hlt, hc, hy0, hy1⟩ := (hB.below hb).at_ (j := 0) hn
  have hq : (l[0]! == 102) = false := beq_false_of_ne (by rw [bt_of (by rw [← hB.1]; exact hn)] at h1; exact h1)
  clear hB h1
  generalize l[0]! = y at hc hy0 hy1 hq
  rw [Nat.add_zero] at hc
  go_enter Try.func32, Try.ntmps32
  go_wp2_with fail
  refine HG.out.mono ?_
  rintro e w2 ⟨rfl, hw⟩
  clear HG
  replace r0 := (hw.block _ (lt_of_block r0)).trans r0
  replace hb := hb.trans (hw.mono hb.size)
  replace hB := HBy.out.below hb
  clear hw
  obtain ⟨op, d, s, sz, imm⟩ := x
  replace hi1 : -4294967296 ≤ imm := hi1
  replace hi2 : imm ≤ 4294967296 := hi2
  have HE := Lib.hid (fun w1 => rEncode_any ⟨op, d, s, sz, imm⟩ w1 (by show -9223372036854775808 ≤ imm; omega) (by show imm ≤ 9223372036854775807; omega))
  have hXX := heap_alloc_new w2 (.cells #[.int .i64 op, .int .i64 d, .int .i64 s, .int .i64 sz, .int .i64 imm] 23)
  replace r0 := (heap_alloc_old w2 (.cells #[.int .i64 op, .int .i64 d, .int .i64 s, .int .i64 sz, .int .i64 imm] 23) (lt_of_block r0)).trans r0
  replace hb := hb.alloc hb.size (.cells #[.int .i64 op, .int .i64 d, .int .i64 s, .int .i64 sz, .int .i64 imm] 23)
  go_wp2_with fail
  generalize World.alloc w2 _ = W3 at r0 hb hXX ⊢
  generalize w2.heap.size = X at hXX ⊢
  refine (HE.out _).mono ?_
  rintro e w4 ⟨V, rfl, ho, hw⟩
  clear HE
  replace r0 := (hw.block _ (lt_of_block r0)).trans r0
  replace hXX := (hw.block _ (lt_of_block hXX)).trans hXX
  replace hb := hb.trans (hw.mono hb.size)
  clear hw
  cases hv : valB ⟨op, d, s, sz, imm⟩
  · have HD := Lib.hid (rdec_no HGT.out (.inl hv))
    clear ho hv hXX
    go_wp2_with (refine wpList_store_row rfl _ _ _ rfl w.heap.size #[.int .i64 0, .int .i64 0, .int .i64 0, .int .i64 0, .int .i64 0] rfl rfl 23 _ r0 (infoC _ _ _ _ _) rfl (oneI _ _ _ _ _) ?_)
    have rr := setRow_heap _ w.heap.size _ #[.int .i64 0, .int .i64 0, .int .i64 0, .int .i64 0, .int .i64 0] 23 (0, 0) r0
    have hB7 := bel_setRow hb (Nat.le_refl w.heap.size) #[.int .i64 0, .int .i64 0, .int .i64 0, .int .i64 0, .int .i64 0]
    clear r0 hb
    go_wp2
    refine bodyPost_ret (res3 rfl _ _ w.heap.size #[.int .i64 0, .int .i64 0, .int .i64 0, .int .i64 0, .int .i64 0] rfl (loadIA _ w.heap.size _ _ _ _ _ rr)) rfl ⟨?_, hB7⟩
    rw [HD.out.1, HD.out.2.1, HD.out.2.2]
    rfl
  · obtain ⟨A2, c2, rfl, hB2⟩ := byt_own (ho hv) (enc_by _ hv)
    have HBG := Lib.hid (rBegins_any (HBy.out.below hb) hB2)
    clear ho hB2
    cases hp : pre (encF ⟨op, d, s, sz, imm⟩) l
    · rw [hp] at HBG
      have HD := Lib.hid (rdec_no HGT.out (.inr hp))
      generalize (encF ⟨op, d, s, sz, imm⟩).length = k at HBG HD ⊢
      clear hp hv
      go_wp2_with fail
      refine HBG.out.mono ?_
      rintro e w5 ⟨rfl, hw⟩
      clear HBG
      replace r0 := (hw.block _ (lt_of_block r0)).trans r0
      replace hXX := (hw.block _ (lt_of_block hXX)).trans hXX
      replace hb := hb.trans (hw.mono hb.size)
      clear hw
      obtain ⟨x0, x1, x2, x3, x4⟩ := cells5 hXX
      go_wp2_with (refine wpList_store_row rfl _ _ _ rfl w.heap.size #[.int .i64 0, .int .i64 0, .int .i64 0, .int .i64 0, .int .i64 0] rfl rfl 23 _ r0 (infoC _ _ _ _ _) rfl (oneI _ _ _ _ _) ?_)
      have rr := setRow_heap _ w.heap.size _ #[.int .i64 0, .int .i64 0, .int .i64 0, .int .i64 0, .int .i64 0] 23 (0, 0) r0
      have hB7 := bel_setRow hb (Nat.le_refl w.heap.size) #[.int .i64 0, .int .i64 0, .int .i64 0, .int .i64 0, .int .i64 0]
      clear r0 hb
      go_wp2
      refine bodyPost_ret (res3 rfl _ _ w.heap.size #[.int .i64 0, .int .i64 0, .int .i64 0, .int .i64 0, .int .i64 0] rfl (loadIA _ w.heap.size _ _ _ _ _ rr)) rfl ⟨?_, hB7⟩
      rw [HD.out.1, HD.out.2.1, HD.out.2.2]
      rfl
    · rw [hp] at HBG
      have HD := Lib.hid (rdec_yes HGT.out hv hp)
      generalize (encF ⟨op, d, s, sz, imm⟩).length = k at HBG HD ⊢
      clear hp hv
      go_wp2_with fail
      refine HBG.out.mono ?_
      rintro e w5 ⟨rfl, hw⟩
      clear HBG
      replace r0 := (hw.block _ (lt_of_block r0)).trans r0
      replace hXX := (hw.block _ (lt_of_block hXX)).trans hXX
      replace hb := hb.trans (hw.mono hb.size)
      clear hw
      obtain ⟨x0, x1, x2, x3, x4⟩ := cells5 hXX
      go_wp2_with (refine wpList_store_row rfl _ _ _ rfl w.heap.size #[.int .i64 op, .int .i64 d, .int .i64 s, .int .i64 sz, .int .i64 imm] rfl rfl 23 _ r0 (infoC _ _ _ _ _) rfl (oneI _ _ _ _ _) ?_)
      have rr := setRow_heap _ w.heap.size _ #[.int .i64 op, .int .i64 d, .int .i64 s, .int .i64 sz, .int .i64 imm] 23 (0, 0) r0
      have hB7 := bel_setRow hb (Nat.le_refl w.heap.size) #[.int .i64 op, .int .i64 d, .int .i64 s, .int .i64 sz, .int .i64 imm]
      clear r0 hb
      go_wp2
      refine bodyPost_ret (res3 rfl _ _ w.heap.size #[.int .i64 op, .int .i64 d, .int .i64 s, .int .i64 sz, .int .i64 imm] rfl (loadIA _ w.heap.size _ _ _ _ _ rr)) rfl ⟨?_, hB7⟩
      rw [HD.out.1, HD.out.2.1, HD.out.2.2]
      rfl
set_option maxRecDepth 100000 in
set_option maxHeartbeats 8000000 in
theorem rDecode_y {w : World} {A : Option Addr} {n c : Nat} {l : List Int} (hB : Byt w A n c l) (h1 : bt l 0 = 102) :
    Calls Try.prog 32 #[.slice A n c] w fun e w' => e = .returned (.tuple #[aggI (decI l), .int .i64 (decN l : Int), .bool (decB l)]) ∧ Below w.heap.size w w' := by
  have HBy := Lib.hid hB
  obtain ⟨x, hx⟩ : ∃ x, gueF 16 l 1 = x := ⟨_, rfl⟩
  have HGT := Lib.hid (show gueT l = x by rw [← hx]; unfold gueT; rw [if_pos h1])
  obtain ⟨hi1, hi2⟩ := gueF_imm hB 16 1
  rw [hx] at hi1 hi2
  have hb : Below w.heap.size w (w.alloc (.cells #[.int .i64 0, .int .i64 0, .int .i64 0, .int .i64 0, .int .i64 0] 23)) := (Below.refl _ _).alloc (Nat.le_refl _) _
  have r0 := heap_alloc_new w (.cells #[.int .i64 0, .int .i64 0, .int .i64 0, .int .i64 0, .int .i64 0] 23)
  have HG := Lib.hid (rGuess_any_16 (hB.below hb))
  rw [hx] at HG
  clear hx
  have hn : 0 < n := by
    apply Classical.byContradiction
    intro h0
    rw [bt_no (by rw [← hB.1]; omega)] at h1
    cases h1
  obtain ⟨b, off, rfl, hlt, hc, hy0, hy1⟩ := (hB.below hb).at_ (j := 0) hn
  have hq : l[0]! = 102 := by rw [bt_of (by rw [← hB.1]; exact hn)] at h1; exact h1
  rw [hq] at hc
  clear hB h1 hq hy0 hy1
  rw [Nat.add_zero] at hc
  go_enter Try.func32, Try.ntmps32
  go_wp2_with fail
  refine HG.out.mono ?_
  rintro e w2 ⟨rfl, hw⟩
  clear HG
  replace r0 := (hw.block _ (lt_of_block r0)).trans r0
  replace hb := hb.trans (hw.mono hb.size)
  replace hB := HBy.out.below hb
  clear hw
  obtain ⟨op, d, s, sz, imm⟩ := x
  replace hi1 : -4294967296 ≤ imm := hi1
  replace hi2 : imm ≤ 4294967296 := hi2
  have HE := Lib.hid (fun w1 => rEncode_any ⟨op, d, s, sz, imm⟩ w1 (by show -9223372036854775808 ≤ imm; omega) (by show imm ≤ 9223372036854775807; omega))
  have hXX := heap_alloc_new w2 (.cells #[.int .i64 op, .int .i64 d, .int .i64 s, .int .i64 sz, .int .i64 imm] 23)
  replace r0 := (heap_alloc_old w2 (.cells #[.int .i64 op, .int .i64 d, .int .i64 s, .int .i64 sz, .int .i64 imm] 23) (lt_of_block r0)).trans r0
  replace hb := hb.alloc hb.size (.cells #[.int .i64 op, .int .i64 d, .int .i64 s, .int .i64 sz, .int .i64 imm] 23)
  go_wp2_with fail
  generalize World.alloc w2 _ = W3 at r0 hb hXX ⊢
  generalize w2.heap.size = X at hXX ⊢
  refine (HE.out _).mono ?_
  rintro e w4 ⟨V, rfl, ho, hw⟩
  clear HE
  replace r0 := (hw.block _ (lt_of_block r0)).trans r0
  replace hXX := (hw.block _ (lt_of_block hXX)).trans hXX
  replace hb := hb.trans (hw.mono hb.size)
  clear hw
  cases hv : valB ⟨op, d, s, sz, imm⟩
  · have HD := Lib.hid (rdec_no HGT.out (.inl hv))
    clear ho hv hXX
    go_wp2_with (refine wpList_store_row rfl _ _ _ rfl w.heap.size #[.int .i64 0, .int .i64 0, .int .i64 0, .int .i64 0, .int .i64 0] rfl rfl 23 _ r0 (infoC _ _ _ _ _) rfl (oneI _ _ _ _ _) ?_)
    have rr := setRow_heap _ w.heap.size _ #[.int .i64 0, .int .i64 0, .int .i64 0, .int .i64 0, .int .i64 0] 23 (0, 0) r0
    have hB7 := bel_setRow hb (Nat.le_refl w.heap.size) #[.int .i64 0, .int .i64 0, .int .i64 0, .int .i64 0, .int .i64 0]
    clear r0 hb
    go_wp2
    refine bodyPost_ret (res3 rfl _ _ w.heap.size #[.int .i64 0, .int .i64 0, .int .i64 0, .int .i64 0, .int .i64 0] rfl (loadIA _ w.heap.size _ _ _ _ _ rr)) rfl ⟨?_, hB7⟩
    rw [HD.out.1, HD.out.2.1, HD.out.2.2]
    rfl
  · obtain ⟨A2, c2, rfl, hB2⟩ := byt_own (ho hv) (enc_by _ hv)
    have HBG := Lib.hid (rBegins_any (HBy.out.below hb) hB2)
    clear ho hB2
    cases hp : pre (encF ⟨op, d, s, sz, imm⟩) l
    · rw [hp] at HBG
      have HD := Lib.hid (rdec_no HGT.out (.inr hp))
      generalize (encF ⟨op, d, s, sz, imm⟩).length = k at HBG HD ⊢
      clear hp hv
      go_wp2_with fail
      refine HBG.out.mono ?_
      rintro e w5 ⟨rfl, hw⟩
      clear HBG
      replace r0 := (hw.block _ (lt_of_block r0)).trans r0
      replace hXX := (hw.block _ (lt_of_block hXX)).trans hXX
      replace hb := hb.trans (hw.mono hb.size)
      clear hw
      obtain ⟨x0, x1, x2, x3, x4⟩ := cells5 hXX
      go_wp2_with (refine wpList_store_row rfl _ _ _ rfl w.heap.size #[.int .i64 0, .int .i64 0, .int .i64 0, .int .i64 0, .int .i64 0] rfl rfl 23 _ r0 (infoC _ _ _ _ _) rfl (oneI _ _ _ _ _) ?_)
      have rr := setRow_heap _ w.heap.size _ #[.int .i64 0, .int .i64 0, .int .i64 0, .int .i64 0, .int .i64 0] 23 (0, 0) r0
      have hB7 := bel_setRow hb (Nat.le_refl w.heap.size) #[.int .i64 0, .int .i64 0, .int .i64 0, .int .i64 0, .int .i64 0]
      clear r0 hb
      go_wp2
      refine bodyPost_ret (res3 rfl _ _ w.heap.size #[.int .i64 0, .int .i64 0, .int .i64 0, .int .i64 0, .int .i64 0] rfl (loadIA _ w.heap.size _ _ _ _ _ rr)) rfl ⟨?_, hB7⟩
      rw [HD.out.1, HD.out.2.1, HD.out.2.2]
      rfl
    · rw [hp] at HBG
      have HD := Lib.hid (rdec_yes HGT.out hv hp)
      generalize (encF ⟨op, d, s, sz, imm⟩).length = k at HBG HD ⊢
      clear hp hv
      go_wp2_with fail
      refine HBG.out.mono ?_
      rintro e w5 ⟨rfl, hw⟩
      clear HBG
      replace r0 := (hw.block _ (lt_of_block r0)).trans r0
      replace hXX := (hw.block _ (lt_of_block hXX)).trans hXX
      replace hb := hb.trans (hw.mono hb.size)
      clear hw
      obtain ⟨x0, x1, x2, x3, x4⟩ := cells5 hXX
      go_wp2_with (refine wpList_store_row rfl _ _ _ rfl w.heap.size #[.int .i64 op, .int .i64 d, .int .i64 s, .int .i64 sz, .int .i64 imm] rfl rfl 23 _ r0 (infoC _ _ _ _ _) rfl (oneI _ _ _ _ _) ?_)
      have rr := setRow_heap _ w.heap.size _ #[.int .i64 op, .int .i64 d, .int .i64 s, .int .i64 sz, .int .i64 imm] 23 (0, 0) r0
      have hB7 := bel_setRow hb (Nat.le_refl w.heap.size) #[.int .i64 op, .int .i64 d, .int .i64 s, .int .i64 sz, .int .i64 imm]
      clear r0 hb
      go_wp2
      refine bodyPost_ret (res3 rfl _ _ w.heap.size #[.int .i64 op, .int .i64 d, .int .i64 s, .int .i64 sz, .int .i64 imm] rfl (loadIA _ w.heap.size _ _ _ _ _ rr)) rfl ⟨?_, hB7⟩
      rw [HD.out.1, HD.out.2.1, HD.out.2.2]
      rfl
theorem rDecode0_any {w : World} {A : Option Addr} {n c : Nat} {l : List Int} (hB : Byt w A n c l) :
    Calls Try.prog 32 #[.slice A n c] w fun e w' => e = .returned (.tuple #[aggI (decI l), .int .i64 (decN l : Int), .bool (decB l)]) ∧ Below w.heap.size w w' := by
  by_cases hn : n = 0
  · exact rDecode_e hB hn
  · by_cases h1 : bt l 0 = 102
    · exact rDecode_y hB h1
    · exact rDecode_n hB (by omega) h1
end Go.Proofs.Ytpekegeohcnhcaa
