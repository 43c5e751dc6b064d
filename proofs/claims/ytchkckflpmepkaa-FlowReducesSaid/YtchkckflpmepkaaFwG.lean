/-
  without, reached, dominates.
-/
import Derived.Test.YtchkckflpmepkaaFwF
namespace Go.Proofs.Ytchkckflpmepkaa
open Go.RowKit

section
variable {w : World} {A : Option Addr} {n c : Nat} {G : List (List Nat)}
set_option maxRecDepth 100000 in
set_option maxHeartbeats 4000000 in
theorem without_any (hG : okG G) (h : MG w A n c G) (x : Int) : Calls Try.prog 63 #[.slice A n c, .int .i64 x] w fun e w' => e = .returned (.agg (setA (wy G x 0))) ∧ Below w.heap.size w w' := by
  have HV := Lib.hid (fun (S Gb X V : Nat) (hS0 : w.heap.size ≤ S) (hg : Gb ≠ S) (hx : X ≠ S) (hv : V ≠ S) => visit_any hG h hS0 hg hx hv x 11 0 non)
  have HN := Lib.hid h.1
  clear h
  go_enter Try.func63, Try.ntmps63
  go_upto_region 3 with fail
  obtain ⟨W1, hW1⟩ : ∃ W1, W1 = w.alloc (.cells #[.slice A n c] 22) := ⟨_, rfl⟩
  obtain ⟨W2, hW2⟩ : ∃ W2, W2 = W1.alloc (.cells #[.int .i64 x] 3) := ⟨_, rfl⟩
  obtain ⟨W3, hW3⟩ : ∃ W3, W3 = W2.alloc (.cells zV 52) := ⟨_, rfl⟩
  obtain ⟨W4, hW4⟩ : ∃ W4, W4 = W3.alloc (.cells zV 52) := ⟨_, rfl⟩
  obtain ⟨W5, hW5⟩ : ∃ W5, W5 = W4.alloc (.cells #[.nilFunc] 60) := ⟨_, rfl⟩
  rw [← hW1, ← hW2, ← hW3, ← hW4, ← hW5]
  have z1 : W1.heap.size = w.heap.size + 1 := by rw [hW1]; simp
  have z2 : W2.heap.size = w.heap.size + 1 + 1 := by rw [hW2, ← z1]; simp
  have z3 : W3.heap.size = w.heap.size + 1 + 1 + 1 := by rw [hW3, ← z2]; simp
  have z4 : W4.heap.size = w.heap.size + 1 + 1 + 1 + 1 := by rw [hW4, ← z3]; simp
  have b5 : ∀ (B : Nat) (o : Obj), W4.heap[B]? = some o → W5.heap[B]? = some o := fun B o h => by rw [hW5]; exact (heap_alloc_old W4 _ (lt_of_block h)).trans h
  have b4 : ∀ (B : Nat) (o : Obj), W3.heap[B]? = some o → W4.heap[B]? = some o := fun B o h => by rw [hW4]; exact (heap_alloc_old W3 _ (lt_of_block h)).trans h
  have b3 : ∀ (B : Nat) (o : Obj), W2.heap[B]? = some o → W3.heap[B]? = some o := fun B o h => by rw [hW3]; exact (heap_alloc_old W2 _ (lt_of_block h)).trans h
  have b2 : ∀ (B : Nat) (o : Obj), W1.heap[B]? = some o → W2.heap[B]? = some o := fun B o h => by rw [hW2]; exact (heap_alloc_old W1 _ (lt_of_block h)).trans h
  have hb : Below w.heap.size w W5 := by
    rw [hW5, hW4, hW3, hW2, hW1]
    exact (((((Below.refl _ _).alloc (Nat.le_refl _) _).alloc (by simp) _).alloc (by simp; omega) _).alloc (by simp; omega) _).alloc (by simp; omega) _
  have hGb : W5.heap[w.heap.size]? = some (.cells #[.slice A n c] 22 (0, 0)) := b5 _ _ (b4 _ _ (b3 _ _ (b2 _ _ (by rw [hW1]; exact heap_alloc_new w _))))
  have hX : W5.heap[w.heap.size + 1]? = some (.cells #[.int .i64 x] 3 (0, 0)) := b5 _ _ (b4 _ _ (b3 _ _ (by rw [hW2, ← z1]; exact heap_alloc_new W1 _)))
  have hR : SetB W5 (w.heap.size + 1 + 1) non := b5 _ _ (b4 _ _ (by rw [hW3, ← z2]; exact SetB.zero W2))
  have hS : SetB W5 (w.heap.size + 1 + 1 + 1) non := b5 _ _ (by rw [hW4, ← z3]; exact SetB.zero W3)
  have hV : W5.heap[w.heap.size + 1 + 1 + 1 + 1]? = some (.cells #[.nilFunc] 60 (0, 0)) := by rw [hW5, ← z4]; exact heap_alloc_new W4 _
  clear hW1 hW2 hW3 hW4 hW5 z1 z2 z3 z4 b2 b3 b4 b5
  obtain ⟨W6, hW6⟩ : ∃ W6, W6 = W5.setRow (w.heap.size + 1 + 1 + 1 + 1) #[fnV 65 #[ptr (w.heap.size + 1), ptr (w.heap.size + 1 + 1 + 1), ptr w.heap.size, ptr (w.heap.size + 1 + 1 + 1 + 1)]] := ⟨_, rfl⟩
  go_upto_region 4 with (refine wpList_store_oneTo rfl _ _ _ rfl rfl (w.heap.size + 1 + 1 + 1 + 1) (fnV 65 #[ptr (w.heap.size + 1), ptr (w.heap.size + 1 + 1 + 1), ptr w.heap.size, ptr (w.heap.size + 1 + 1 + 1 + 1)]) rfl rfl rfl 60 .nilFunc hV (by kernel_rfl) ?_)
  have hne : ∀ k, k ≠ w.heap.size + 1 + 1 + 1 + 1 → W6.heap[k]? = W5.heap[k]? := fun k hk => by rw [hW6]; exact setRow_ne _ _ _ hk
  replace hGb := (hne _ (by omega)).trans hGb
  replace hX := (hne _ (by omega)).trans hX
  replace hR := hR.block (hne _ (by omega))
  replace hS := hS.block (hne _ (by omega))
  replace hb : Below w.heap.size w W6 := by rw [hW6]; exact setRow_below hb (by omega) _
  replace hV : W6.heap[w.heap.size + 1 + 1 + 1 + 1]? = some (.cells #[fnV 65 #[ptr (w.heap.size + 1), ptr (w.heap.size + 1 + 1 + 1), ptr w.heap.size, ptr (w.heap.size + 1 + 1 + 1 + 1)]] 60 (0, 0)) := by rw [hW6]; exact setRow_get _ _ _ _ _ hV
  rw [← hW6]
  clear hW6 hne
  have HC := Lib.hid (HV.out _ _ _ _ (by omega) (by omega) (by omega) (by omega) W6 (by have := hG.1; rw [HN.out]; exact this) (by have := free_le non n; have := hG.2.1; have := HN.out; omega) hb hS hGb hX hV)
  have hV0 := cell_of_one hV
  have hR := Lib.hid hR
  clear hS hGb hX hV
  go_wp2_with fail
  refine HC.out.mono ?_
  rintro e w2 ⟨rfl, hK, hS2⟩
  have hR2 := hR.out.block (hK.block _ (lt_of_block hR.out) (by omega))
  have hb2 := hb.trans (hK.below (by omega) hb.size)
  clear hK hb hV0 HC HV hR
  rw [show visF G x 11 0 non = wy G x 0 from rfl] at hS2
  obtain ⟨T, hT⟩ : ∃ T, T = wy G x 0 := ⟨_, rfl⟩
  rw [← hT] at hS2
  have HT := Lib.hid hT
  clear hT
  unfold SetB at hS2 hR2
  go_wp2_with (first | (refine wpList_load_row rfl 52 (.tmp 5) rfl (w.heap.size + 1 + 1 + 1) rfl 52 (setA T) (0, 0) _ hS2 Try.underlying52 rfl (setA_info T) ?_) | (refine wpList_store_row rfl _ _ _ rfl (w.heap.size + 1 + 1) (setA T) rfl rfl 52 _ hR2 (setA_info T) (by rw [setA_size, setA_size]) (setA_one T) ?_))
  exact bodyPost_ret (results_cell_row rfl _ _ (w.heap.size + 1 + 1) 52 (setA T) (0, 0) _ rfl (setRow_get _ _ _ _ _ hR2) Try.underlying52 rfl (setA_info T)) rfl ⟨by rw [HT.out], setRow_below hb2 (by omega) _⟩
set_option maxRecDepth 100000 in
theorem reached_any (hG : okG G) (h : MG w A n c G) : Calls Try.prog 41 #[.slice A n c] w fun e w' => e = .returned (.agg (setA (wy G (-1) 0))) ∧ Below w.heap.size w w' := by
  have HC := Lib.hid (fun w1 (hb : Below w.heap.size w w1) => without_any hG (h.below hb) (-1))
  generalize wy G (-1) 0 = T at HC ⊢
  clear h
  go_enter Try.func41, Try.ntmps41
  go_wp2_with fail
  have hb0 : Below w.heap.size w (w.alloc (.cells zV 52)) := (Below.refl _ _).alloc (Nat.le_refl _) _
  have hR := SetB.zero w
  generalize World.alloc w _ = W0 at hb0 hR ⊢
  refine (HC.out W0 hb0).mono ?_
  rintro e w1 ⟨rfl, hb1⟩
  replace hR := hR.below hb1
  have hb2 := hb0.trans (hb1.mono hb0.size)
  clear hb0 hb1
  unfold SetB at hR
  go_wp2_with (refine wpList_store_row rfl _ _ _ rfl w.heap.size (setA T) rfl rfl 52 _ hR (setA_info T) (by rw [setA_size, setA_size]) (setA_one T) ?_)
  exact bodyPost_ret (results_cell_row rfl _ _ w.heap.size 52 (setA T) (0, 0) _ rfl (setRow_get _ _ _ _ _ hR) Try.underlying52 rfl (setA_info T)) rfl ⟨rfl, setRow_below hb2 (Nat.le_refl _) _⟩
/-- Whether a dominates b. -/
def domB (G : List (List Nat)) (a b : Nat) : Bool := !wy G a 0 b
set_option maxRecDepth 100000 in
theorem dominates_any (hG : okG G) (h : MG w A n c G) (a b : Nat) (hb10 : b < 10) : Calls Try.prog 53 #[.slice A n c, .int .i64 (a : Int), .int .i64 (b : Int)] w fun e w' => e = .returned (.bool (domB G a b)) ∧ Below w.heap.size w w' := by
  have HC := Lib.hid (fun w1 (hb : Below w.heap.size w w1) => without_any hG (h.below hb) a)
  unfold domB
  generalize wy G a 0 = T at HC ⊢
  have hidx := fun W => setA_idx T hb10 W
  clear h
  generalize T b = B at hidx ⊢
  go_enter Try.func53, Try.ntmps53
  go_wp2_with fail
  refine (HC.out w (Below.refl _ _)).mono ?_
  rintro e w1 ⟨rfl, hb1⟩
  go_wp2
  go_ret
  exact ⟨rfl, hb1⟩
end
end Go.Proofs.Ytchkckflpmepkaa
