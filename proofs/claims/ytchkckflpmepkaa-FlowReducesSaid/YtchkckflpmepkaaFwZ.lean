/-
  known.
-/
import Derived.Test.YtchkckflpmepkaaFwYb
namespace Go.Proofs.Ytchkckflpmepkaa
open Go.RowKit

theorem val_1 : valF [[1], [2, 3], [1], []] = 0 := by decide
theorem val_2 : valF [[1, 2], [2], []] = 0 := by decide
theorem val_3 : valF [[1, 2], [2], [1]] = 0 := by decide
theorem ord_1 : resO [[1], [2, 3], [1], []] = [0, 1, 3, 2] := by decide +kernel
theorem err_1 : errL [[1], [2, 3], [1], []] 1 = 0 := by decide +kernel
theorem lop_1 : resL [[1], [2, 3], [1], []] 1 = [1, 2] := by decide +kernel
theorem cri_2 : resC [[1, 2], [2], []] = [(0, 2)] := by decide +kernel
theorem red_3 : resI [[1, 2], [2], [1]] = false := by decide +kernel
theorem eqEdge (a b : Int) (w : World) : (Op.equalIn 10000 50 (.agg #[.int .i64 a, .int .i64 b]) (.agg #[.int .i64 a, .int .i64 b])).run Try.prog w = .ok true w := by
  have u3 := Try.underlying3
  have a3 := Try.isAgg3
  have z3 := Try.sizeOf3
  rw [show (10000 : Nat) = 9999 + 1 from rfl, Op.equalIn]
  simp only [Sem.run_bind, run_underlying Try.underlying50, Result.andThen_ok]
  simp only [Std.Legacy.Range.forIn_eq_forIn_range', Std.Legacy.Range.size, Nat.sub_zero, Nat.add_sub_cancel, Nat.div_one, List.range'_succ, List.range'_zero, List.forIn_cons, List.forIn_nil]
  go_simp
set_option maxRecDepth 100000 in
theorem sameEdges_yes {w : World} {v1 v2 : Value} {l : List Edg} (h1 : EdgV w v1 l) (h2 : EdgV w v2 l) :
    Calls Try.prog 34 #[v1, v2] w fun e w' => e = .returned (.bool true) ∧ Below w.heap.size w w' := by
  obtain ⟨A1, n, c1, rfl, hn1, hc1, hm1, hx1⟩ := h1
  obtain ⟨A2, n2, c2, rfl, hn2, hc2, hm2, hx2⟩ := h2
  obtain rfl : n2 = n := by omega
  have H1 := Lib.hid hx1
  have H2 := Lib.hid hx2
  clear hx1 hx2 hn1 hn2
  go_enter Try.func34, Try.ntmps34
  go_wp2
  go_loopw [5] (fun zi wr => ∃ i : Nat, i ≤ n2 ∧ zi = .int .i64 (i : Int) ∧ Below w.heap.size w wr) (fun zi _ => n2 - (intOf zi).toNat)
  case atStart => exact ⟨0, by omega, rfl, Below.refl _ _⟩
  case round =>
    obtain ⟨i, hi, rfl, hb⟩ := hrel
    by_cases hlt : i < n2
    · obtain ⟨b, off, rfl, hg, ha1, hb1⟩ := edg_get H1.out hb hlt
      obtain ⟨b2, off2, rfl, hg2, ha2, hb2⟩ := edg_get H2.out hb hlt
      generalize ((l[i]!).1 : Int) = p at ha1 ha2
      generalize ((l[i]!).2 : Int) = q at hb1 hb2
      have heq := fun W => eqEdge p q W
      go_wp2
      go_region
      go_wp2
      go_roundw
      case rel => exact ⟨i + 1, by omega, by go_num, drewR hb⟩
      case measure => simp [intOf]; omega
    · obtain rfl : i = n2 := by omega
      go_wp2
      go_ret
      exact ⟨rfl, hb⟩
/-- The cells of a block. -/
theorem cells_at {W : World} {B : Nat} {cs : Array Value} {t : TypeId} {fr : Nat × Nat} (h : W.heap[B]? = some (.cells cs t fr)) {j : Nat} {v : Value} (hv : cs[j]? = some v) : W.cell? ⟨B, j, none⟩ = some v := by
  simp only [World.cell?, h]
  exact hv
theorem Ints.nil (w : World) : Ints w none 0 0 [] := ⟨rfl, Nat.le_refl _, by omega, .inl rfl⟩
/-- A block of slices is a graph. -/
theorem RG_block {W : World} {B n : Nat} {g : List (List Int)} (hB : B < W.heap.size) (hn : n = g.length) (hn10 : n ≤ 100) (h : ∀ j, j < n → ∃ A' n' c', W.cell? ⟨B, j, none⟩ = some (.slice A' n' c') ∧ Ints W A' n' c' g[j]!) : RG W (some ⟨B, 0, none⟩) n n g :=
  ⟨hn, Nat.le_refl _, by omega, .inr ⟨B, 0, rfl, hB, fun j hj => by rw [Nat.zero_add]; exact h j hj⟩⟩
theorem ints_blk {W : World} {B : Nat} {cs : Array Value} {t : TypeId} {fr : Nat × Nat} {l : List Int} {n : Nat} (h : W.heap[B]? = some (.cells cs t fr)) (hn : n = l.length) (hn10 : n ≤ 100) (hc : ∀ j, j < n → cs[j]? = some (.int .i64 l[j]!)) : Ints W (some ⟨B, 0, none⟩) n n l :=
  ⟨hn, Nat.le_refl _, by omega, .inr ⟨B, 0, rfl, lt_of_block h, fun j hj => by rw [Nat.zero_add]; exact cells_at h (hc j hj)⟩⟩
theorem nats_blk {W : World} {B : Nat} {cs : Array Value} {t : TypeId} {fr : Nat × Nat} {l : List Nat} {n : Nat} (h : W.heap[B]? = some (.cells cs t fr)) (hn : n = l.length) (hn10 : n ≤ 100) (hc : ∀ j, j < n → cs[j]? = some (.int .i64 ((l[j]! : Nat) : Int))) : Nats W (some ⟨B, 0, none⟩) n n l :=
  ⟨hn, Nat.le_refl _, by omega, .inr ⟨B, 0, rfl, lt_of_block h, fun j hj => by rw [Nat.zero_add]; exact cells_at h (hc j hj)⟩⟩
theorem rg_1 (w : World) : RG ((((w.alloc (.cells #[.int .i64 1] 3)).alloc (.cells #[.int .i64 2, .int .i64 3] 3)).alloc (.cells #[.int .i64 1] 3)).alloc (.cells #[.slice (some ⟨w.heap.size, 0, none⟩) 1 1, .slice (some ⟨w.heap.size + 1, 0, none⟩) 2 2, .slice (some ⟨w.heap.size + 1 + 1, 0, none⟩) 1 1, .slice none 0 0] 25)) (some ⟨w.heap.size + 1 + 1 + 1, 0, none⟩) 4 4 [[1], [2, 3], [1], []] ∧ Below w.heap.size w ((((w.alloc (.cells #[.int .i64 1] 3)).alloc (.cells #[.int .i64 2, .int .i64 3] 3)).alloc (.cells #[.int .i64 1] 3)).alloc (.cells #[.slice (some ⟨w.heap.size, 0, none⟩) 1 1, .slice (some ⟨w.heap.size + 1, 0, none⟩) 2 2, .slice (some ⟨w.heap.size + 1 + 1, 0, none⟩) 1 1, .slice none 0 0] 25)) := by
  obtain ⟨W1, hW1⟩ : ∃ W1, W1 = w.alloc (.cells #[.int .i64 1] 3) := ⟨_, rfl⟩
  obtain ⟨W2, hW2⟩ : ∃ W2, W2 = W1.alloc (.cells #[.int .i64 2, .int .i64 3] 3) := ⟨_, rfl⟩
  obtain ⟨W3, hW3⟩ : ∃ W3, W3 = W2.alloc (.cells #[.int .i64 1] 3) := ⟨_, rfl⟩
  obtain ⟨W4, hW4⟩ : ∃ W4, W4 = W3.alloc (.cells #[.slice (some ⟨w.heap.size, 0, none⟩) 1 1, .slice (some ⟨w.heap.size + 1, 0, none⟩) 2 2, .slice (some ⟨w.heap.size + 1 + 1, 0, none⟩) 1 1, .slice none 0 0] 25) := ⟨_, rfl⟩
  rw [← hW1, ← hW2, ← hW3, ← hW4]
  have z1 : W1.heap.size = w.heap.size + 1 := by rw [hW1]; simp
  have z2 : W2.heap.size = w.heap.size + 1 + 1 := by rw [hW2, ← z1]; simp
  have z3 : W3.heap.size = w.heap.size + 1 + 1 + 1 := by rw [hW3, ← z2]; simp
  have b2 : ∀ (B : Nat) (o : Obj), W1.heap[B]? = some o → W2.heap[B]? = some o := fun B o h => by rw [hW2]; exact (heap_alloc_old W1 _ (lt_of_block h)).trans h
  have b3 : ∀ (B : Nat) (o : Obj), W2.heap[B]? = some o → W3.heap[B]? = some o := fun B o h => by rw [hW3]; exact (heap_alloc_old W2 _ (lt_of_block h)).trans h
  have b4 : ∀ (B : Nat) (o : Obj), W3.heap[B]? = some o → W4.heap[B]? = some o := fun B o h => by rw [hW4]; exact (heap_alloc_old W3 _ (lt_of_block h)).trans h
  have c0 : W4.heap[w.heap.size]? = some (.cells #[.int .i64 1] 3 (0, 0)) := (b4 _ _ (b3 _ _ (b2 _ _ (by rw [hW1]; exact heap_alloc_new w _))))
  have c1 : W4.heap[w.heap.size + 1]? = some (.cells #[.int .i64 2, .int .i64 3] 3 (0, 0)) := (b4 _ _ (b3 _ _ (by rw [hW2, ← z1]; exact heap_alloc_new W1 _)))
  have c2 : W4.heap[w.heap.size + 1 + 1]? = some (.cells #[.int .i64 1] 3 (0, 0)) := (b4 _ _ (by rw [hW3, ← z2]; exact heap_alloc_new W2 _))
  have co : W4.heap[w.heap.size + 1 + 1 + 1]? = some (.cells #[.slice (some ⟨w.heap.size, 0, none⟩) 1 1, .slice (some ⟨w.heap.size + 1, 0, none⟩) 2 2, .slice (some ⟨w.heap.size + 1 + 1, 0, none⟩) 1 1, .slice none 0 0] 25 (0, 0)) := by rw [hW4, ← z3]; exact heap_alloc_new W3 _
  refine ⟨RG_block (lt_of_block co) rfl (by omega) ?_, ?_⟩
  · intro j hj
    match j, hj with
    | 0, _ => exact ⟨_, _, _, cells_at co rfl, ints_blk c0 rfl (by omega) (fun q hq => by match q, hq with | 0, _ => rfl)⟩
    | 1, _ => exact ⟨_, _, _, cells_at co rfl, ints_blk c1 rfl (by omega) (fun q hq => by match q, hq with | 0, _ => rfl | 1, _ => rfl)⟩
    | 2, _ => exact ⟨_, _, _, cells_at co rfl, ints_blk c2 rfl (by omega) (fun q hq => by match q, hq with | 0, _ => rfl)⟩
    | 3, _ => exact ⟨_, _, _, cells_at co rfl, Ints.nil _⟩
  · rw [hW4, hW3, hW2, hW1]
    exact ((((Below.refl _ _).alloc (Nat.le_refl _) _).alloc (by simp) _).alloc (by simp; omega) _).alloc (by simp; omega) _
theorem rg_2 (w : World) : RG (((w.alloc (.cells #[.int .i64 1, .int .i64 2] 3)).alloc (.cells #[.int .i64 2] 3)).alloc (.cells #[.slice (some ⟨w.heap.size, 0, none⟩) 2 2, .slice (some ⟨w.heap.size + 1, 0, none⟩) 1 1, .slice none 0 0] 25)) (some ⟨w.heap.size + 1 + 1, 0, none⟩) 3 3 [[1, 2], [2], []] ∧ Below w.heap.size w (((w.alloc (.cells #[.int .i64 1, .int .i64 2] 3)).alloc (.cells #[.int .i64 2] 3)).alloc (.cells #[.slice (some ⟨w.heap.size, 0, none⟩) 2 2, .slice (some ⟨w.heap.size + 1, 0, none⟩) 1 1, .slice none 0 0] 25)) := by
  obtain ⟨W1, hW1⟩ : ∃ W1, W1 = w.alloc (.cells #[.int .i64 1, .int .i64 2] 3) := ⟨_, rfl⟩
  obtain ⟨W2, hW2⟩ : ∃ W2, W2 = W1.alloc (.cells #[.int .i64 2] 3) := ⟨_, rfl⟩
  obtain ⟨W3, hW3⟩ : ∃ W3, W3 = W2.alloc (.cells #[.slice (some ⟨w.heap.size, 0, none⟩) 2 2, .slice (some ⟨w.heap.size + 1, 0, none⟩) 1 1, .slice none 0 0] 25) := ⟨_, rfl⟩
  rw [← hW1, ← hW2, ← hW3]
  have z1 : W1.heap.size = w.heap.size + 1 := by rw [hW1]; simp
  have z2 : W2.heap.size = w.heap.size + 1 + 1 := by rw [hW2, ← z1]; simp
  have b2 : ∀ (B : Nat) (o : Obj), W1.heap[B]? = some o → W2.heap[B]? = some o := fun B o h => by rw [hW2]; exact (heap_alloc_old W1 _ (lt_of_block h)).trans h
  have b3 : ∀ (B : Nat) (o : Obj), W2.heap[B]? = some o → W3.heap[B]? = some o := fun B o h => by rw [hW3]; exact (heap_alloc_old W2 _ (lt_of_block h)).trans h
  have c0 : W3.heap[w.heap.size]? = some (.cells #[.int .i64 1, .int .i64 2] 3 (0, 0)) := (b3 _ _ (b2 _ _ (by rw [hW1]; exact heap_alloc_new w _)))
  have c1 : W3.heap[w.heap.size + 1]? = some (.cells #[.int .i64 2] 3 (0, 0)) := (b3 _ _ (by rw [hW2, ← z1]; exact heap_alloc_new W1 _))
  have co : W3.heap[w.heap.size + 1 + 1]? = some (.cells #[.slice (some ⟨w.heap.size, 0, none⟩) 2 2, .slice (some ⟨w.heap.size + 1, 0, none⟩) 1 1, .slice none 0 0] 25 (0, 0)) := by rw [hW3, ← z2]; exact heap_alloc_new W2 _
  refine ⟨RG_block (lt_of_block co) rfl (by omega) ?_, ?_⟩
  · intro j hj
    match j, hj with
    | 0, _ => exact ⟨_, _, _, cells_at co rfl, ints_blk c0 rfl (by omega) (fun q hq => by match q, hq with | 0, _ => rfl | 1, _ => rfl)⟩
    | 1, _ => exact ⟨_, _, _, cells_at co rfl, ints_blk c1 rfl (by omega) (fun q hq => by match q, hq with | 0, _ => rfl)⟩
    | 2, _ => exact ⟨_, _, _, cells_at co rfl, Ints.nil _⟩
  · rw [hW3, hW2, hW1]
    exact (((Below.refl _ _).alloc (Nat.le_refl _) _).alloc (by simp) _).alloc (by simp; omega) _
theorem rg_3 (w : World) : RG ((((w.alloc (.cells #[.int .i64 1, .int .i64 2] 3)).alloc (.cells #[.int .i64 2] 3)).alloc (.cells #[.int .i64 1] 3)).alloc (.cells #[.slice (some ⟨w.heap.size, 0, none⟩) 2 2, .slice (some ⟨w.heap.size + 1, 0, none⟩) 1 1, .slice (some ⟨w.heap.size + 1 + 1, 0, none⟩) 1 1] 25)) (some ⟨w.heap.size + 1 + 1 + 1, 0, none⟩) 3 3 [[1, 2], [2], [1]] ∧ Below w.heap.size w ((((w.alloc (.cells #[.int .i64 1, .int .i64 2] 3)).alloc (.cells #[.int .i64 2] 3)).alloc (.cells #[.int .i64 1] 3)).alloc (.cells #[.slice (some ⟨w.heap.size, 0, none⟩) 2 2, .slice (some ⟨w.heap.size + 1, 0, none⟩) 1 1, .slice (some ⟨w.heap.size + 1 + 1, 0, none⟩) 1 1] 25)) := by
  obtain ⟨W1, hW1⟩ : ∃ W1, W1 = w.alloc (.cells #[.int .i64 1, .int .i64 2] 3) := ⟨_, rfl⟩
  obtain ⟨W2, hW2⟩ : ∃ W2, W2 = W1.alloc (.cells #[.int .i64 2] 3) := ⟨_, rfl⟩
  obtain ⟨W3, hW3⟩ : ∃ W3, W3 = W2.alloc (.cells #[.int .i64 1] 3) := ⟨_, rfl⟩
  obtain ⟨W4, hW4⟩ : ∃ W4, W4 = W3.alloc (.cells #[.slice (some ⟨w.heap.size, 0, none⟩) 2 2, .slice (some ⟨w.heap.size + 1, 0, none⟩) 1 1, .slice (some ⟨w.heap.size + 1 + 1, 0, none⟩) 1 1] 25) := ⟨_, rfl⟩
  rw [← hW1, ← hW2, ← hW3, ← hW4]
  have z1 : W1.heap.size = w.heap.size + 1 := by rw [hW1]; simp
  have z2 : W2.heap.size = w.heap.size + 1 + 1 := by rw [hW2, ← z1]; simp
  have z3 : W3.heap.size = w.heap.size + 1 + 1 + 1 := by rw [hW3, ← z2]; simp
  have b2 : ∀ (B : Nat) (o : Obj), W1.heap[B]? = some o → W2.heap[B]? = some o := fun B o h => by rw [hW2]; exact (heap_alloc_old W1 _ (lt_of_block h)).trans h
  have b3 : ∀ (B : Nat) (o : Obj), W2.heap[B]? = some o → W3.heap[B]? = some o := fun B o h => by rw [hW3]; exact (heap_alloc_old W2 _ (lt_of_block h)).trans h
  have b4 : ∀ (B : Nat) (o : Obj), W3.heap[B]? = some o → W4.heap[B]? = some o := fun B o h => by rw [hW4]; exact (heap_alloc_old W3 _ (lt_of_block h)).trans h
  have c0 : W4.heap[w.heap.size]? = some (.cells #[.int .i64 1, .int .i64 2] 3 (0, 0)) := (b4 _ _ (b3 _ _ (b2 _ _ (by rw [hW1]; exact heap_alloc_new w _))))
  have c1 : W4.heap[w.heap.size + 1]? = some (.cells #[.int .i64 2] 3 (0, 0)) := (b4 _ _ (b3 _ _ (by rw [hW2, ← z1]; exact heap_alloc_new W1 _)))
  have c2 : W4.heap[w.heap.size + 1 + 1]? = some (.cells #[.int .i64 1] 3 (0, 0)) := (b4 _ _ (by rw [hW3, ← z2]; exact heap_alloc_new W2 _))
  have co : W4.heap[w.heap.size + 1 + 1 + 1]? = some (.cells #[.slice (some ⟨w.heap.size, 0, none⟩) 2 2, .slice (some ⟨w.heap.size + 1, 0, none⟩) 1 1, .slice (some ⟨w.heap.size + 1 + 1, 0, none⟩) 1 1] 25 (0, 0)) := by rw [hW4, ← z3]; exact heap_alloc_new W3 _
  refine ⟨RG_block (lt_of_block co) rfl (by omega) ?_, ?_⟩
  · intro j hj
    match j, hj with
    | 0, _ => exact ⟨_, _, _, cells_at co rfl, ints_blk c0 rfl (by omega) (fun q hq => by match q, hq with | 0, _ => rfl | 1, _ => rfl)⟩
    | 1, _ => exact ⟨_, _, _, cells_at co rfl, ints_blk c1 rfl (by omega) (fun q hq => by match q, hq with | 0, _ => rfl)⟩
    | 2, _ => exact ⟨_, _, _, cells_at co rfl, ints_blk c2 rfl (by omega) (fun q hq => by match q, hq with | 0, _ => rfl)⟩
  · rw [hW4, hW3, hW2, hW1]
    exact ((((Below.refl _ _).alloc (Nat.le_refl _) _).alloc (by simp) _).alloc (by simp; omega) _).alloc (by simp; omega) _
set_option maxRecDepth 100000 in
set_option maxHeartbeats 8000000 in
theorem known_any (w : World) : Calls Try.prog 12 #[] w fun e w' => e = .returned (.bool true) ∧ Below w.heap.size w w' := by
  have HO := Lib.hid (fun (W : World) A h => val_1 ▸ ord_1 ▸ Order_any (w := W) (A := A) (n := 4) (c := 4) (g := [[1], [2, 3], [1], []]) h)
  have HL := Lib.hid (fun (W : World) A h => err_1 ▸ lop_1 ▸ Loop_any (w := W) (A := A) (n := 4) (c := 4) (g := [[1], [2, 3], [1], []]) h 1)
  have HC := Lib.hid (fun (W : World) A h => val_2 ▸ cri_2 ▸ Critical_any (w := W) (A := A) (n := 3) (c := 3) (g := [[1, 2], [2], []]) h)
  have HI := Lib.hid (fun (W : World) A h => val_3 ▸ red_3 ▸ IsReducible_any (w := W) (A := A) (n := 3) (c := 3) (g := [[1, 2], [2], [1]]) h)
  go_enter Try.func12, Try.ntmps12
  go_wp2_with fail
  obtain ⟨r1, b1⟩ := rg_1 w
  generalize World.alloc (World.alloc _ _) _ = W1 at r1 b1 ⊢
  refine (HO.out W1 _ r1).mono ?_
  rintro e w1 ⟨v1, rfl, n1, c1⟩
  replace r1 := r1.below c1
  replace b1 := b1.trans (c1.mono b1.size)
  clear c1
  go_wp2_with fail
  refine (HL.out w1 _ r1).mono ?_
  rintro e w2 ⟨v2, rfl, n2, c1⟩
  replace n1 := n1.below c1
  replace b1 := b1.trans (c1.mono b1.size)
  clear c1 r1
  go_wp2_with fail
  obtain ⟨r1, c1⟩ := rg_2 w2
  generalize World.alloc (World.alloc _ _) _ = W3 at r1 c1 ⊢
  replace n1 := n1.below c1
  replace n2 := n2.below c1
  replace b1 := b1.trans (c1.mono b1.size)
  clear c1
  refine (HC.out W3 _ r1).mono ?_
  rintro e w3 ⟨v3, rfl, n3, c1⟩
  replace n1 := n1.below c1
  replace n2 := n2.below c1
  replace b1 := b1.trans (c1.mono b1.size)
  clear c1 r1
  go_wp2_with fail
  obtain ⟨r1, c1⟩ := rg_3 w3
  generalize World.alloc (World.alloc _ _) _ = W4 at r1 c1 ⊢
  replace n1 := n1.below c1
  replace n2 := n2.below c1
  replace n3 := n3.below c1
  replace b1 := b1.trans (c1.mono b1.size)
  clear c1
  refine (HI.out W4 _ r1).mono ?_
  rintro e w4 ⟨rfl, c1⟩
  replace n1 := n1.below c1
  replace n2 := n2.below c1
  replace n3 := n3.below c1
  replace b1 := b1.trans (c1.mono b1.size)
  clear c1 r1
  have N1 := Lib.hid n1
  have N2 := Lib.hid n2
  have N3 := Lib.hid n3
  clear n1 n2 n3
  go_wp2_with fail
  obtain ⟨c1, nn⟩ : Below w4.heap.size w4 (w4.alloc (.cells #[.int .i64 0, .int .i64 1, .int .i64 3, .int .i64 2] 3)) ∧ Nats (w4.alloc (.cells #[.int .i64 0, .int .i64 1, .int .i64 3, .int .i64 2] 3)) (some ⟨w4.heap.size, 0, none⟩) 4 4 [0, 1, 3, 2] := by
    refine ⟨(Below.refl _ _).alloc (Nat.le_refl _) _, nats_blk (heap_alloc_new w4 _) rfl (by omega) (fun q hq => ?_)⟩
    match q, hq with
    | 0, _ => rfl
    | 1, _ => rfl
    | 2, _ => rfl
    | 3, _ => rfl
  have m1 := N1.out.below c1
  have M2 := Lib.hid (N2.out.below c1)
  have M3 := Lib.hid (N3.out.below c1)
  replace b1 := b1.trans (c1.mono b1.size)
  generalize World.alloc w4 _ = W5 at nn m1 M2 M3 b1 ⊢
  obtain ⟨AA, na, ca, rfl, hna⟩ := m1
  clear c1 N1 N2 N3
  refine (sameInts_yes hna nn).mono ?_
  rintro e w5 ⟨rfl, c1⟩
  replace M2 := Lib.hid (M2.out.below c1)
  replace M3 := Lib.hid (M3.out.below c1)
  replace b1 := b1.trans (c1.mono b1.size)
  clear c1 hna nn
  go_wp2_with fail
  obtain ⟨c1, nn⟩ : Below w5.heap.size w5 (w5.alloc (.cells #[.int .i64 1, .int .i64 2] 3)) ∧ Nats (w5.alloc (.cells #[.int .i64 1, .int .i64 2] 3)) (some ⟨w5.heap.size, 0, none⟩) 2 2 [1, 2] := by
    refine ⟨(Below.refl _ _).alloc (Nat.le_refl _) _, nats_blk (heap_alloc_new w5 _) rfl (by omega) (fun q hq => ?_)⟩
    match q, hq with
    | 0, _ => rfl
    | 1, _ => rfl
  have m1 := M2.out.below c1
  replace M3 := Lib.hid (M3.out.below c1)
  replace b1 := b1.trans (c1.mono b1.size)
  generalize World.alloc w5 _ = W6 at nn m1 M3 b1 ⊢
  obtain ⟨AA2, na2, ca2, rfl, hna⟩ := m1
  clear c1 M2
  refine (sameInts_yes hna nn).mono ?_
  rintro e w6 ⟨rfl, c1⟩
  have m3 := M3.out.below c1
  replace b1 := b1.trans (c1.mono b1.size)
  clear c1 hna nn M3
  obtain ⟨A3, n3, c3, rfl, hn3, hc3, hm3, hx⟩ := m3
  obtain rfl : n3 = 1 := hn3
  rcases hx with hx | ⟨b, off, rfl, hbs, hx⟩
  · cases hx
  have hx0 := hx 0 (by omega)
  obtain ⟨x0, x1⟩ := hx0
  rw [Nat.zero_mul, Nat.add_zero] at x0 x1
  replace x0 : w6.cell? ⟨b, off, none⟩ = some (.int .i64 0) := x0
  replace x1 : w6.cell? ⟨b, off + 1, none⟩ = some (.int .i64 2) := x1
  have heq := fun W => eqEdge 0 2 W
  clear hx
  go_wp2
  go_ret
  exact ⟨rfl, b1⟩
end Go.Proofs.Ytchkckflpmepkaa
