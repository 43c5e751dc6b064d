/-
  decode of the program.
-/
import Derived.Test.YthkaclmnbahieaaDoorRvF
namespace Go.Proofs.YthkaclmnbahieaaDoor
open Go.RowKit

/-- What decode answers. -/
def decV (o : Option Rv) : Value := .tuple #[(match o with | some x => rvV x | none => rvA 0 0 0 0 0), .bool o.isSome]
theorem res2c {fn : Func} {p u : Tmp} {ty : TypeId} {P : Program} (h : fn.results = #[.cell p ty, .tmp u]) (tmps : Array Value) (w : World) (g : Nat) (cs : Array Value)
    (hp : tmps.getD p undef = .pointer (some ⟨g, 0, none⟩)) (hl : (loadVar ty ⟨g, 0, none⟩).run P w = .ok (.agg cs) w) :
    (results fn tmps).run P w = .ok (.tuple #[.agg cs, tmps.getD u undef]) w := by
  have hp' : tmps[p]?.getD undef = .pointer (some ⟨g, 0, none⟩) := by simpa using hp
  simp [results, h, hp', asAddr, Result.andThen, hl]
theorem infoRv : (Tryd.prog.info? 23).map (·.size) = some 5 := by kernel_rfl
theorem loadRv (w : World) (g : Nat) (a b c d e : Value) (h : w.heap[g]? = some (.cells #[a, b, c, d, e] 23 (0, 0))) : (loadVar 23 ⟨g, 0, none⟩).run Tryd.prog w = .ok (.agg #[a, b, c, d, e]) w :=
  run_loadVar_row w g 23 23 _ (0, 0) _ h Tryd.underlying23 rfl infoRv
theorem bel_setRow {B g : Nat} {w0 w : World} (hb : Below B w0 w) (h : B ≤ g) (cs : Array Value) : Below B w0 (w.setRow g cs) :=
  ⟨hb.os, hb.tape, hb.output, by simpa using hb.size, fun k hk => (setRow_other w g k cs (by omega)).trans (hb.block k hk)⟩
theorem oneI (a b c d e : Int) : (#[.int .i64 a, .int .i64 b, .int .i64 c, .int .i64 d, .int .i64 e] : Array Value).all (·.oneCell') = true := by
  simp [Value.oneCell']
theorem infoC (a b c d e : Value) : (Tryd.prog.info? 23).map (·.size) = some (#[a, b, c, d, e] : Array Value).size := infoRv
set_option maxRecDepth 100000 in
set_option maxHeartbeats 8000000 in
/-- decode from where the operation is found, kind 0. -/
theorem decode_k0 (n M i : Nat) (hn : n < 4294967296) (w : World) (hL : Laid w) (hM : MapN w M 41) (hf : findF n = some i) (hi : i < 41) (hk : kT i = 0) :
    Calls Tryd.prog 44 #[.map (some M), .int .u32 n] w fun e w' => e = .returned (decV (decF n)) ∧ Below w.heap.size w w' := by
  have HF := Lib.hid (fun w1 h1 => find_any n M hn w1 h1)
  rw [hf] at HF
  unfold findV at HF
  simp only [Option.getD_some, Option.isSome_some] at HF
  have hV := ext_Val hi hn
  have l7 : part n 7 11 0 < 32 := by unfold part; simp; omega
  have l15 : part n 15 19 0 < 32 := by unfold part; simp; omega
  have l20 : part n 20 24 0 < 32 := by unfold part; simp; omega
  have C0 : ∀ w1, Calls Tryd.prog 61 #[.int .u32 n, .int .i64 7, .int .i64 11, .int .i64 0] w1 fun e w' => e = .returned (.int .u32 (part n 7 11 0 : Nat)) ∧ w' = w1.drew := fun w1 => part_any n 7 11 0 w1 hn (by decide) (by decide) (by decide) (by decide) (part_lt (by decide))
  replace C0 := Lib.hid C0
  have C1 : ∀ w1, Calls Tryd.prog 61 #[.int .u32 n, .int .i64 15, .int .i64 19, .int .i64 0] w1 fun e w' => e = .returned (.int .u32 (part n 15 19 0 : Nat)) ∧ w' = w1.drew := fun w1 => part_any n 15 19 0 w1 hn (by decide) (by decide) (by decide) (by decide) (part_lt (by decide))
  replace C1 := Lib.hid C1
  have C2 : ∀ w1, Calls Tryd.prog 61 #[.int .u32 n, .int .i64 20, .int .i64 24, .int .i64 0] w1 fun e w' => e = .returned (.int .u32 (part n 20 24 0 : Nat)) ∧ w' = w1.drew := fun w1 => part_any n 20 24 0 w1 hn (by decide) (by decide) (by decide) (by decide) (part_lt (by decide))
  replace C2 := Lib.hid C2
  have hX : extF i n = ⟨i, (((part n 7 11 0 : Nat)) : Int), (((part n 15 19 0 : Nat)) : Int), (((part n 20 24 0 : Nat)) : Int), 0⟩ := by
    unfold extF
    rw [hk]
    rfl
  have HE : ∀ w1, Laid w1 → Calls Tryd.prog 35 #[rvA i (((part n 7 11 0 : Nat)) : Int) (((part n 15 19 0 : Nat)) : Int) (((part n 20 24 0 : Nat)) : Int) 0] w1 fun e w' => e = .returned (.int .u32 (encF (extF i n) : Nat)) ∧ Below w1.heap.size w1 w' := fun w1 h1 => by
    rw [hX] at hV ⊢
    refine encode_any i hi _ _ _ _ ?_ w1 h1
    have := hV.2.2
    simpa using this
  replace HE := Lib.hid HE
  have HR : decF n = if encF (extF i n) = n then some (extF i n) else none := by
    unfold decF
    rw [hf]
  rw [hX] at HR
  replace HR := Lib.hid HR
  rw [hX] at HE
  have hN : encF ⟨i, (((part n 7 11 0 : Nat)) : Int), (((part n 15 19 0 : Nat)) : Int), (((part n 20 24 0 : Nat)) : Int), 0⟩ < 4294967296 := by
    rw [← hX]
    exact (enc_facts hV).1
  have HFM := Lib.hid (fun w1 (h1 : Laid w1) => h1.fm i hi)
  generalize encF ⟨i, (((part n 7 11 0 : Nat)) : Int), (((part n 15 19 0 : Nat)) : Int), (((part n 20 24 0 : Nat)) : Int), 0⟩ = N at HE HR hN
  generalize part n 7 11 0 = P7 at *
  generalize part n 15 19 0 = P15 at *
  generalize part n 20 24 0 = P20 at *
  clear hV hX hf
  go_enter Tryd.func44, Tryd.ntmps44
  go_upto_region 1 with fail
  have r0 := heap_alloc_new w (.cells #[.int .i64 0, .int .i64 0, .int .i64 0, .int .i64 0, .int .i64 0] 23)
  have hB0 : Below w.heap.size w (w.alloc (.cells #[.int .i64 0, .int .i64 0, .int .i64 0, .int .i64 0, .int .i64 0] 23)) := (Below.refl _ _).alloc (Nat.le_refl _) _
  replace hL := hL.below hB0
  replace hM := hM.below hB0
  generalize World.alloc w _ = W at r0 hB0 hL hM ⊢
  obtain ⟨M0, hM0⟩ : ∃ M0, w.heap.size = M0 := ⟨_, rfl⟩
  rw [hM0] at r0 hB0 ⊢
  replace hM0 := hM0
  go_wp2_with fail
  refine (HF.out _ hM).mono ?_
  rintro e w2 ⟨rfl, hb2⟩
  replace hL := hL.below hb2
  replace r0 := (hb2.block _ (lt_of_block r0)).trans r0
  have HB := Lib.hid (hB0.trans (hb2.mono (show M0 ≤ W.heap.size by rw [← hM0]; exact hB0.size)))
  clear hb2 hB0 hM HF
  go_upto_region 5 with (first | (with_reducible refine (C0.out _).mono ?_; rintro e w' ⟨rfl, rfl⟩) | (with_reducible refine (C1.out _).mono ?_; rintro e w' ⟨rfl, rfl⟩) | (with_reducible refine (C2.out _).mono ?_; rintro e w' ⟨rfl, rfl⟩))
  obtain ⟨f0, -, -, -⟩ := HFM.out _ (hL.below (drewR (drewR (drewR (Below.refl _ _)))))
  rw [hk] at f0
  clear hk HFM
  replace hL := hL.below (drewR (drewR (drewR (Below.refl _ _))))
  replace HB := Lib.hid (drewR (drewR (drewR HB.out)))
  have r1 := show w2.drew.drew.drew.heap[M0]? = _ from r0
  clear r0
  generalize World.drew w2.drew.drew = W3 at hL HB r1 f0 ⊢
  have l0 : M0 < W3.heap.size := lt_of_block r1
  have lF : 1 < W3.heap.size := block_lt_of_cell f0
  go_wp2_with (first | (with_reducible refine (C0.out _).mono ?_; rintro e w' ⟨rfl, rfl⟩) | (with_reducible refine (C1.out _).mono ?_; rintro e w' ⟨rfl, rfl⟩) | (with_reducible refine (C2.out _).mono ?_; rintro e w' ⟨rfl, rfl⟩))
  have hx := show (W3.alloc (.cells #[.int .i64 (i : Int), .int .i64 (P7 : Int), .int .i64 (P15 : Int), .int .i64 (P20 : Int), .int .i64 0] 23)).heap[W3.heap.size]? = _ from heap_alloc_new W3 (.cells #[.int .i64 (i : Int), .int .i64 (P7 : Int), .int .i64 (P15 : Int), .int .i64 (P20 : Int), .int .i64 0] 23)
  have r2 := show (W3.alloc (.cells #[.int .i64 (i : Int), .int .i64 (P7 : Int), .int .i64 (P15 : Int), .int .i64 (P20 : Int), .int .i64 0] 23)).heap[M0]? = _ from (heap_alloc_old W3 (.cells #[.int .i64 (i : Int), .int .i64 (P7 : Int), .int .i64 (P15 : Int), .int .i64 (P20 : Int), .int .i64 0] 23) l0).trans r1
  have hb4 : Below M0 w ((W3.alloc (.cells #[.int .i64 (i : Int), .int .i64 (P7 : Int), .int .i64 (P15 : Int), .int .i64 (P20 : Int), .int .i64 0] 23))) := HB.out.alloc (Nat.le_of_lt l0) (.cells #[.int .i64 (i : Int), .int .i64 (P7 : Int), .int .i64 (P15 : Int), .int .i64 (P20 : Int), .int .i64 0] 23)
  have hL4 : Laid ((W3.alloc (.cells #[.int .i64 (i : Int), .int .i64 (P7 : Int), .int .i64 (P15 : Int), .int .i64 (P20 : Int), .int .i64 0] 23))) := hL.below ((Below.refl _ _).alloc (Nat.le_refl _) (.cells #[.int .i64 (i : Int), .int .i64 (P7 : Int), .int .i64 (P15 : Int), .int .i64 (P20 : Int), .int .i64 0] 23))
  clear hL HB r1 f0 l0 lF
  generalize (W3.alloc (.cells #[.int .i64 (i : Int), .int .i64 (P7 : Int), .int .i64 (P15 : Int), .int .i64 (P20 : Int), .int .i64 0] 23)) = W4 at hx r2 hb4 hL4 ⊢
  generalize W3.heap.size = X at hx ⊢
  refine (HE.out _ hL4).mono ?_
  rintro e w5 ⟨rfl, hb5⟩
  replace hx := (hb5.block _ (lt_of_block hx)).trans hx
  have r0 := (hb5.block _ (lt_of_block r2)).trans r2
  have HB := Lib.hid (hb4.trans (hb5.mono (show M0 ≤ W4.heap.size by rw [← hM0]; exact hb4.size)))
  clear r2 hb4 hL4 hb5 HE
  obtain ⟨x0, x1, x2, x3, x4⟩ := cells5r hx
  by_cases hNn : N = n
  · replace HR := Lib.hid (HR.out.trans (if_pos hNn))
    subst hNn
    go_wp2_with (refine wpList_store_row rfl _ _ _ rfl M0 #[.int .i64 (i : Int), .int .i64 (P7 : Int), .int .i64 (P15 : Int), .int .i64 (P20 : Int), .int .i64 0] rfl rfl 23 _ r0 (infoC _ _ _ _ _) rfl (oneI _ _ _ _ _) ?_)
    have rr := setRow_heap _ M0 _ #[.int .i64 (i : Int), .int .i64 (P7 : Int), .int .i64 (P15 : Int), .int .i64 (P20 : Int), .int .i64 0] 23 (0, 0) r0
    have hB7 := bel_setRow (HB.out) (Nat.le_refl M0) #[.int .i64 (i : Int), .int .i64 (P7 : Int), .int .i64 (P15 : Int), .int .i64 (P20 : Int), .int .i64 0]
    refine bodyPost_ret (res2c rfl _ _ M0 #[.int .i64 (i : Int), .int .i64 (P7 : Int), .int .i64 (P15 : Int), .int .i64 (P20 : Int), .int .i64 0] rfl (loadRv _ M0 _ _ _ _ _ rr)) rfl ⟨?_, by rw [hM0]; exact hB7⟩
    rw [HR.out]
    rfl
  · replace HR := Lib.hid (HR.out.trans (if_neg hNn))
    have hNi : ¬ (N : Int) = (n : Int) := by omega
    clear hNn
    go_wp2_with (refine wpList_store_row rfl _ _ _ rfl M0 #[.int .i64 0, .int .i64 0, .int .i64 0, .int .i64 0, .int .i64 0] rfl rfl 23 _ r0 (infoC _ _ _ _ _) rfl (oneI _ _ _ _ _) ?_)
    have rr := setRow_heap _ M0 _ #[.int .i64 0, .int .i64 0, .int .i64 0, .int .i64 0, .int .i64 0] 23 (0, 0) r0
    have hB7 := bel_setRow (HB.out) (Nat.le_refl M0) #[.int .i64 0, .int .i64 0, .int .i64 0, .int .i64 0, .int .i64 0]
    refine bodyPost_ret (res2c rfl _ _ M0 #[.int .i64 0, .int .i64 0, .int .i64 0, .int .i64 0, .int .i64 0] rfl (loadRv _ M0 _ _ _ _ _ rr)) rfl ⟨?_, by rw [hM0]; exact hB7⟩
    rw [HR.out]
    rfl
set_option maxRecDepth 100000 in
set_option maxHeartbeats 8000000 in
/-- decode from where the operation is found, kind 1. -/
theorem decode_k1 (n M i : Nat) (hn : n < 4294967296) (w : World) (hL : Laid w) (hM : MapN w M 41) (hf : findF n = some i) (hi : i < 41) (hk : kT i = 1) :
    Calls Tryd.prog 44 #[.map (some M), .int .u32 n] w fun e w' => e = .returned (decV (decF n)) ∧ Below w.heap.size w w' := by
  have HF := Lib.hid (fun w1 h1 => find_any n M hn w1 h1)
  rw [hf] at HF
  unfold findV at HF
  simp only [Option.getD_some, Option.isSome_some] at HF
  have hV := ext_Val hi hn
  have l7 : part n 7 11 0 < 32 := by unfold part; simp; omega
  have l15 : part n 15 19 0 < 32 := by unfold part; simp; omega
  have l20 : part n 20 24 0 < 32 := by unfold part; simp; omega
  have C0 : ∀ w1, Calls Tryd.prog 61 #[.int .u32 n, .int .i64 7, .int .i64 11, .int .i64 0] w1 fun e w' => e = .returned (.int .u32 (part n 7 11 0 : Nat)) ∧ w' = w1.drew := fun w1 => part_any n 7 11 0 w1 hn (by decide) (by decide) (by decide) (by decide) (part_lt (by decide))
  replace C0 := Lib.hid C0
  have C1 : ∀ w1, Calls Tryd.prog 61 #[.int .u32 n, .int .i64 15, .int .i64 19, .int .i64 0] w1 fun e w' => e = .returned (.int .u32 (part n 15 19 0 : Nat)) ∧ w' = w1.drew := fun w1 => part_any n 15 19 0 w1 hn (by decide) (by decide) (by decide) (by decide) (part_lt (by decide))
  replace C1 := Lib.hid C1
  have C2 : ∀ w1, Calls Tryd.prog 61 #[.int .u32 n, .int .i64 20, .int .i64 24, .int .i64 0] w1 fun e w' => e = .returned (.int .u32 (part n 20 24 0 : Nat)) ∧ w' = w1.drew := fun w1 => part_any n 20 24 0 w1 hn (by decide) (by decide) (by decide) (by decide) (part_lt (by decide))
  replace C2 := Lib.hid C2
  have HS : ∀ w1, Calls Tryd.prog 63 #[.int .u32 ((n : Int) / 1048576), .int .i64 12] w1 fun e w' => e = .returned (.int .i64 (sgn (n / 1048576) 12)) ∧ w' = w1 := fun w1 => by
    rw [show (n : Int) / 1048576 = ((n / 1048576 : Nat) : Int) by omega]
    exact signed12 (n / 1048576) (by omega) w1
  replace HS := Lib.hid HS
  have hX : extF i n = ⟨i, (((part n 7 11 0 : Nat)) : Int), (((part n 15 19 0 : Nat)) : Int), 0, (sgn (n / 1048576) 12)⟩ := by
    unfold extF
    rw [hk]
    rfl
  have HE : ∀ w1, Laid w1 → Calls Tryd.prog 35 #[rvA i (((part n 7 11 0 : Nat)) : Int) (((part n 15 19 0 : Nat)) : Int) 0 (sgn (n / 1048576) 12)] w1 fun e w' => e = .returned (.int .u32 (encF (extF i n) : Nat)) ∧ Below w1.heap.size w1 w' := fun w1 h1 => by
    rw [hX] at hV ⊢
    refine encode_any i hi _ _ _ _ ?_ w1 h1
    have := hV.2.2
    simpa using this
  replace HE := Lib.hid HE
  have HR : decF n = if encF (extF i n) = n then some (extF i n) else none := by
    unfold decF
    rw [hf]
  rw [hX] at HR
  replace HR := Lib.hid HR
  rw [hX] at HE
  have hN : encF ⟨i, (((part n 7 11 0 : Nat)) : Int), (((part n 15 19 0 : Nat)) : Int), 0, (sgn (n / 1048576) 12)⟩ < 4294967296 := by
    rw [← hX]
    exact (enc_facts hV).1
  have HFM := Lib.hid (fun w1 (h1 : Laid w1) => h1.fm i hi)
  generalize encF ⟨i, (((part n 7 11 0 : Nat)) : Int), (((part n 15 19 0 : Nat)) : Int), 0, (sgn (n / 1048576) 12)⟩ = N at HE HR hN
  generalize sgn (n / 1048576) 12 = I at HS HE HR
  generalize part n 7 11 0 = P7 at *
  generalize part n 15 19 0 = P15 at *
  generalize part n 20 24 0 = P20 at *
  clear hV hX hf
  go_enter Tryd.func44, Tryd.ntmps44
  go_upto_region 1 with fail
  have r0 := heap_alloc_new w (.cells #[.int .i64 0, .int .i64 0, .int .i64 0, .int .i64 0, .int .i64 0] 23)
  have hB0 : Below w.heap.size w (w.alloc (.cells #[.int .i64 0, .int .i64 0, .int .i64 0, .int .i64 0, .int .i64 0] 23)) := (Below.refl _ _).alloc (Nat.le_refl _) _
  replace hL := hL.below hB0
  replace hM := hM.below hB0
  generalize World.alloc w _ = W at r0 hB0 hL hM ⊢
  obtain ⟨M0, hM0⟩ : ∃ M0, w.heap.size = M0 := ⟨_, rfl⟩
  rw [hM0] at r0 hB0 ⊢
  replace hM0 := hM0
  go_wp2_with fail
  refine (HF.out _ hM).mono ?_
  rintro e w2 ⟨rfl, hb2⟩
  replace hL := hL.below hb2
  replace r0 := (hb2.block _ (lt_of_block r0)).trans r0
  have HB := Lib.hid (hB0.trans (hb2.mono (show M0 ≤ W.heap.size by rw [← hM0]; exact hB0.size)))
  clear hb2 hB0 hM HF
  go_upto_region 5 with (first | (with_reducible refine (C0.out _).mono ?_; rintro e w' ⟨rfl, rfl⟩) | (with_reducible refine (C1.out _).mono ?_; rintro e w' ⟨rfl, rfl⟩) | (with_reducible refine (C2.out _).mono ?_; rintro e w' ⟨rfl, rfl⟩) | (with_reducible refine (HS.out _).mono ?_; rintro e w' ⟨rfl, rfl⟩))
  obtain ⟨f0, -, -, -⟩ := HFM.out _ (hL.below (drewR (drewR (drewR (Below.refl _ _)))))
  rw [hk] at f0
  clear hk HFM
  replace hL := hL.below (drewR (drewR (drewR (Below.refl _ _))))
  replace HB := Lib.hid (drewR (drewR (drewR HB.out)))
  have r1 := show w2.drew.drew.drew.heap[M0]? = _ from r0
  clear r0
  generalize World.drew w2.drew.drew = W3 at hL HB r1 f0 ⊢
  have l0 : M0 < W3.heap.size := lt_of_block r1
  have lF : 1 < W3.heap.size := block_lt_of_cell f0
  go_wp2_with (first | (with_reducible refine (C0.out _).mono ?_; rintro e w' ⟨rfl, rfl⟩) | (with_reducible refine (C1.out _).mono ?_; rintro e w' ⟨rfl, rfl⟩) | (with_reducible refine (C2.out _).mono ?_; rintro e w' ⟨rfl, rfl⟩) | (with_reducible refine (HS.out _).mono ?_; rintro e w' ⟨rfl, rfl⟩))
  have hx := show (W3.alloc (.cells #[.int .i64 (i : Int), .int .i64 (P7 : Int), .int .i64 (P15 : Int), .int .i64 0, .int .i64 I] 23)).heap[W3.heap.size]? = _ from heap_alloc_new W3 (.cells #[.int .i64 (i : Int), .int .i64 (P7 : Int), .int .i64 (P15 : Int), .int .i64 0, .int .i64 I] 23)
  have r2 := show (W3.alloc (.cells #[.int .i64 (i : Int), .int .i64 (P7 : Int), .int .i64 (P15 : Int), .int .i64 0, .int .i64 I] 23)).heap[M0]? = _ from (heap_alloc_old W3 (.cells #[.int .i64 (i : Int), .int .i64 (P7 : Int), .int .i64 (P15 : Int), .int .i64 0, .int .i64 I] 23) l0).trans r1
  have hb4 : Below M0 w ((W3.alloc (.cells #[.int .i64 (i : Int), .int .i64 (P7 : Int), .int .i64 (P15 : Int), .int .i64 0, .int .i64 I] 23))) := HB.out.alloc (Nat.le_of_lt l0) (.cells #[.int .i64 (i : Int), .int .i64 (P7 : Int), .int .i64 (P15 : Int), .int .i64 0, .int .i64 I] 23)
  have hL4 : Laid ((W3.alloc (.cells #[.int .i64 (i : Int), .int .i64 (P7 : Int), .int .i64 (P15 : Int), .int .i64 0, .int .i64 I] 23))) := hL.below ((Below.refl _ _).alloc (Nat.le_refl _) (.cells #[.int .i64 (i : Int), .int .i64 (P7 : Int), .int .i64 (P15 : Int), .int .i64 0, .int .i64 I] 23))
  clear hL HB r1 f0 l0 lF
  generalize (W3.alloc (.cells #[.int .i64 (i : Int), .int .i64 (P7 : Int), .int .i64 (P15 : Int), .int .i64 0, .int .i64 I] 23)) = W4 at hx r2 hb4 hL4 ⊢
  generalize W3.heap.size = X at hx ⊢
  refine (HE.out _ hL4).mono ?_
  rintro e w5 ⟨rfl, hb5⟩
  replace hx := (hb5.block _ (lt_of_block hx)).trans hx
  have r0 := (hb5.block _ (lt_of_block r2)).trans r2
  have HB := Lib.hid (hb4.trans (hb5.mono (show M0 ≤ W4.heap.size by rw [← hM0]; exact hb4.size)))
  clear r2 hb4 hL4 hb5 HE
  obtain ⟨x0, x1, x2, x3, x4⟩ := cells5r hx
  by_cases hNn : N = n
  · replace HR := Lib.hid (HR.out.trans (if_pos hNn))
    subst hNn
    go_wp2_with (refine wpList_store_row rfl _ _ _ rfl M0 #[.int .i64 (i : Int), .int .i64 (P7 : Int), .int .i64 (P15 : Int), .int .i64 0, .int .i64 I] rfl rfl 23 _ r0 (infoC _ _ _ _ _) rfl (oneI _ _ _ _ _) ?_)
    have rr := setRow_heap _ M0 _ #[.int .i64 (i : Int), .int .i64 (P7 : Int), .int .i64 (P15 : Int), .int .i64 0, .int .i64 I] 23 (0, 0) r0
    have hB7 := bel_setRow (HB.out) (Nat.le_refl M0) #[.int .i64 (i : Int), .int .i64 (P7 : Int), .int .i64 (P15 : Int), .int .i64 0, .int .i64 I]
    refine bodyPost_ret (res2c rfl _ _ M0 #[.int .i64 (i : Int), .int .i64 (P7 : Int), .int .i64 (P15 : Int), .int .i64 0, .int .i64 I] rfl (loadRv _ M0 _ _ _ _ _ rr)) rfl ⟨?_, by rw [hM0]; exact hB7⟩
    rw [HR.out]
    rfl
  · replace HR := Lib.hid (HR.out.trans (if_neg hNn))
    have hNi : ¬ (N : Int) = (n : Int) := by omega
    clear hNn
    go_wp2_with (refine wpList_store_row rfl _ _ _ rfl M0 #[.int .i64 0, .int .i64 0, .int .i64 0, .int .i64 0, .int .i64 0] rfl rfl 23 _ r0 (infoC _ _ _ _ _) rfl (oneI _ _ _ _ _) ?_)
    have rr := setRow_heap _ M0 _ #[.int .i64 0, .int .i64 0, .int .i64 0, .int .i64 0, .int .i64 0] 23 (0, 0) r0
    have hB7 := bel_setRow (HB.out) (Nat.le_refl M0) #[.int .i64 0, .int .i64 0, .int .i64 0, .int .i64 0, .int .i64 0]
    refine bodyPost_ret (res2c rfl _ _ M0 #[.int .i64 0, .int .i64 0, .int .i64 0, .int .i64 0, .int .i64 0] rfl (loadRv _ M0 _ _ _ _ _ rr)) rfl ⟨?_, by rw [hM0]; exact hB7⟩
    rw [HR.out]
    rfl
set_option maxRecDepth 100000 in
set_option maxHeartbeats 8000000 in
/-- decode from where the operation is found, kind 2. -/
theorem decode_k2 (n M i : Nat) (hn : n < 4294967296) (w : World) (hL : Laid w) (hM : MapN w M 41) (hf : findF n = some i) (hi : i < 41) (hk : kT i = 2) :
    Calls Tryd.prog 44 #[.map (some M), .int .u32 n] w fun e w' => e = .returned (decV (decF n)) ∧ Below w.heap.size w w' := by
  have HF := Lib.hid (fun w1 h1 => find_any n M hn w1 h1)
  rw [hf] at HF
  unfold findV at HF
  simp only [Option.getD_some, Option.isSome_some] at HF
  have hV := ext_Val hi hn
  have l7 : part n 7 11 0 < 32 := by unfold part; simp; omega
  have l15 : part n 15 19 0 < 32 := by unfold part; simp; omega
  have l20 : part n 20 24 0 < 32 := by unfold part; simp; omega
  have C0 : ∀ w1, Calls Tryd.prog 61 #[.int .u32 n, .int .i64 7, .int .i64 11, .int .i64 0] w1 fun e w' => e = .returned (.int .u32 (part n 7 11 0 : Nat)) ∧ w' = w1.drew := fun w1 => part_any n 7 11 0 w1 hn (by decide) (by decide) (by decide) (by decide) (part_lt (by decide))
  replace C0 := Lib.hid C0
  have C1 : ∀ w1, Calls Tryd.prog 61 #[.int .u32 n, .int .i64 15, .int .i64 19, .int .i64 0] w1 fun e w' => e = .returned (.int .u32 (part n 15 19 0 : Nat)) ∧ w' = w1.drew := fun w1 => part_any n 15 19 0 w1 hn (by decide) (by decide) (by decide) (by decide) (part_lt (by decide))
  replace C1 := Lib.hid C1
  have C2 : ∀ w1, Calls Tryd.prog 61 #[.int .u32 n, .int .i64 20, .int .i64 24, .int .i64 0] w1 fun e w' => e = .returned (.int .u32 (part n 20 24 0 : Nat)) ∧ w' = w1.drew := fun w1 => part_any n 20 24 0 w1 hn (by decide) (by decide) (by decide) (by decide) (part_lt (by decide))
  replace C2 := Lib.hid C2
  have hX : extF i n = ⟨i, (((part n 7 11 0 : Nat)) : Int), (((part n 15 19 0 : Nat)) : Int), 0, (((part n 20 24 0 : Nat)) : Int)⟩ := by
    unfold extF
    rw [hk]
    rfl
  have HE : ∀ w1, Laid w1 → Calls Tryd.prog 35 #[rvA i (((part n 7 11 0 : Nat)) : Int) (((part n 15 19 0 : Nat)) : Int) 0 (((part n 20 24 0 : Nat)) : Int)] w1 fun e w' => e = .returned (.int .u32 (encF (extF i n) : Nat)) ∧ Below w1.heap.size w1 w' := fun w1 h1 => by
    rw [hX] at hV ⊢
    refine encode_any i hi _ _ _ _ ?_ w1 h1
    have := hV.2.2
    simpa using this
  replace HE := Lib.hid HE
  have HR : decF n = if encF (extF i n) = n then some (extF i n) else none := by
    unfold decF
    rw [hf]
  rw [hX] at HR
  replace HR := Lib.hid HR
  rw [hX] at HE
  have hN : encF ⟨i, (((part n 7 11 0 : Nat)) : Int), (((part n 15 19 0 : Nat)) : Int), 0, (((part n 20 24 0 : Nat)) : Int)⟩ < 4294967296 := by
    rw [← hX]
    exact (enc_facts hV).1
  have HFM := Lib.hid (fun w1 (h1 : Laid w1) => h1.fm i hi)
  generalize encF ⟨i, (((part n 7 11 0 : Nat)) : Int), (((part n 15 19 0 : Nat)) : Int), 0, (((part n 20 24 0 : Nat)) : Int)⟩ = N at HE HR hN
  generalize part n 7 11 0 = P7 at *
  generalize part n 15 19 0 = P15 at *
  generalize part n 20 24 0 = P20 at *
  clear hV hX hf
  go_enter Tryd.func44, Tryd.ntmps44
  go_upto_region 1 with fail
  have r0 := heap_alloc_new w (.cells #[.int .i64 0, .int .i64 0, .int .i64 0, .int .i64 0, .int .i64 0] 23)
  have hB0 : Below w.heap.size w (w.alloc (.cells #[.int .i64 0, .int .i64 0, .int .i64 0, .int .i64 0, .int .i64 0] 23)) := (Below.refl _ _).alloc (Nat.le_refl _) _
  replace hL := hL.below hB0
  replace hM := hM.below hB0
  generalize World.alloc w _ = W at r0 hB0 hL hM ⊢
  obtain ⟨M0, hM0⟩ : ∃ M0, w.heap.size = M0 := ⟨_, rfl⟩
  rw [hM0] at r0 hB0 ⊢
  replace hM0 := hM0
  go_wp2_with fail
  refine (HF.out _ hM).mono ?_
  rintro e w2 ⟨rfl, hb2⟩
  replace hL := hL.below hb2
  replace r0 := (hb2.block _ (lt_of_block r0)).trans r0
  have HB := Lib.hid (hB0.trans (hb2.mono (show M0 ≤ W.heap.size by rw [← hM0]; exact hB0.size)))
  clear hb2 hB0 hM HF
  go_upto_region 5 with (first | (with_reducible refine (C0.out _).mono ?_; rintro e w' ⟨rfl, rfl⟩) | (with_reducible refine (C1.out _).mono ?_; rintro e w' ⟨rfl, rfl⟩) | (with_reducible refine (C2.out _).mono ?_; rintro e w' ⟨rfl, rfl⟩))
  obtain ⟨f0, -, -, -⟩ := HFM.out _ (hL.below (drewR (drewR (drewR (Below.refl _ _)))))
  rw [hk] at f0
  clear hk HFM
  replace hL := hL.below (drewR (drewR (drewR (Below.refl _ _))))
  replace HB := Lib.hid (drewR (drewR (drewR HB.out)))
  have r1 := show w2.drew.drew.drew.heap[M0]? = _ from r0
  clear r0
  generalize World.drew w2.drew.drew = W3 at hL HB r1 f0 ⊢
  have l0 : M0 < W3.heap.size := lt_of_block r1
  have lF : 1 < W3.heap.size := block_lt_of_cell f0
  go_wp2_with (first | (with_reducible refine (C0.out _).mono ?_; rintro e w' ⟨rfl, rfl⟩) | (with_reducible refine (C1.out _).mono ?_; rintro e w' ⟨rfl, rfl⟩) | (with_reducible refine (C2.out _).mono ?_; rintro e w' ⟨rfl, rfl⟩))
  have hx := show (W3.alloc (.cells #[.int .i64 (i : Int), .int .i64 (P7 : Int), .int .i64 (P15 : Int), .int .i64 0, .int .i64 (P20 : Int)] 23)).heap[W3.heap.size]? = _ from heap_alloc_new W3 (.cells #[.int .i64 (i : Int), .int .i64 (P7 : Int), .int .i64 (P15 : Int), .int .i64 0, .int .i64 (P20 : Int)] 23)
  have r2 := show (W3.alloc (.cells #[.int .i64 (i : Int), .int .i64 (P7 : Int), .int .i64 (P15 : Int), .int .i64 0, .int .i64 (P20 : Int)] 23)).heap[M0]? = _ from (heap_alloc_old W3 (.cells #[.int .i64 (i : Int), .int .i64 (P7 : Int), .int .i64 (P15 : Int), .int .i64 0, .int .i64 (P20 : Int)] 23) l0).trans r1
  have hb4 : Below M0 w ((W3.alloc (.cells #[.int .i64 (i : Int), .int .i64 (P7 : Int), .int .i64 (P15 : Int), .int .i64 0, .int .i64 (P20 : Int)] 23))) := HB.out.alloc (Nat.le_of_lt l0) (.cells #[.int .i64 (i : Int), .int .i64 (P7 : Int), .int .i64 (P15 : Int), .int .i64 0, .int .i64 (P20 : Int)] 23)
  have hL4 : Laid ((W3.alloc (.cells #[.int .i64 (i : Int), .int .i64 (P7 : Int), .int .i64 (P15 : Int), .int .i64 0, .int .i64 (P20 : Int)] 23))) := hL.below ((Below.refl _ _).alloc (Nat.le_refl _) (.cells #[.int .i64 (i : Int), .int .i64 (P7 : Int), .int .i64 (P15 : Int), .int .i64 0, .int .i64 (P20 : Int)] 23))
  clear hL HB r1 f0 l0 lF
  generalize (W3.alloc (.cells #[.int .i64 (i : Int), .int .i64 (P7 : Int), .int .i64 (P15 : Int), .int .i64 0, .int .i64 (P20 : Int)] 23)) = W4 at hx r2 hb4 hL4 ⊢
  generalize W3.heap.size = X at hx ⊢
  refine (HE.out _ hL4).mono ?_
  rintro e w5 ⟨rfl, hb5⟩
  replace hx := (hb5.block _ (lt_of_block hx)).trans hx
  have r0 := (hb5.block _ (lt_of_block r2)).trans r2
  have HB := Lib.hid (hb4.trans (hb5.mono (show M0 ≤ W4.heap.size by rw [← hM0]; exact hb4.size)))
  clear r2 hb4 hL4 hb5 HE
  obtain ⟨x0, x1, x2, x3, x4⟩ := cells5r hx
  by_cases hNn : N = n
  · replace HR := Lib.hid (HR.out.trans (if_pos hNn))
    subst hNn
    go_wp2_with (refine wpList_store_row rfl _ _ _ rfl M0 #[.int .i64 (i : Int), .int .i64 (P7 : Int), .int .i64 (P15 : Int), .int .i64 0, .int .i64 (P20 : Int)] rfl rfl 23 _ r0 (infoC _ _ _ _ _) rfl (oneI _ _ _ _ _) ?_)
    have rr := setRow_heap _ M0 _ #[.int .i64 (i : Int), .int .i64 (P7 : Int), .int .i64 (P15 : Int), .int .i64 0, .int .i64 (P20 : Int)] 23 (0, 0) r0
    have hB7 := bel_setRow (HB.out) (Nat.le_refl M0) #[.int .i64 (i : Int), .int .i64 (P7 : Int), .int .i64 (P15 : Int), .int .i64 0, .int .i64 (P20 : Int)]
    refine bodyPost_ret (res2c rfl _ _ M0 #[.int .i64 (i : Int), .int .i64 (P7 : Int), .int .i64 (P15 : Int), .int .i64 0, .int .i64 (P20 : Int)] rfl (loadRv _ M0 _ _ _ _ _ rr)) rfl ⟨?_, by rw [hM0]; exact hB7⟩
    rw [HR.out]
    rfl
  · replace HR := Lib.hid (HR.out.trans (if_neg hNn))
    have hNi : ¬ (N : Int) = (n : Int) := by omega
    clear hNn
    go_wp2_with (refine wpList_store_row rfl _ _ _ rfl M0 #[.int .i64 0, .int .i64 0, .int .i64 0, .int .i64 0, .int .i64 0] rfl rfl 23 _ r0 (infoC _ _ _ _ _) rfl (oneI _ _ _ _ _) ?_)
    have rr := setRow_heap _ M0 _ #[.int .i64 0, .int .i64 0, .int .i64 0, .int .i64 0, .int .i64 0] 23 (0, 0) r0
    have hB7 := bel_setRow (HB.out) (Nat.le_refl M0) #[.int .i64 0, .int .i64 0, .int .i64 0, .int .i64 0, .int .i64 0]
    refine bodyPost_ret (res2c rfl _ _ M0 #[.int .i64 0, .int .i64 0, .int .i64 0, .int .i64 0, .int .i64 0] rfl (loadRv _ M0 _ _ _ _ _ rr)) rfl ⟨?_, by rw [hM0]; exact hB7⟩
    rw [HR.out]
    rfl
set_option maxRecDepth 100000 in
set_option maxHeartbeats 8000000 in
/-- decode from where the operation is found, kind 3. -/
theorem decode_k3 (n M i : Nat) (hn : n < 4294967296) (w : World) (hL : Laid w) (hM : MapN w M 41) (hf : findF n = some i) (hi : i < 41) (hk : kT i = 3) :
    Calls Tryd.prog 44 #[.map (some M), .int .u32 n] w fun e w' => e = .returned (decV (decF n)) ∧ Below w.heap.size w w' := by
  have HF := Lib.hid (fun w1 h1 => find_any n M hn w1 h1)
  rw [hf] at HF
  unfold findV at HF
  simp only [Option.getD_some, Option.isSome_some] at HF
  have hV := ext_Val hi hn
  have l7 : part n 7 11 0 < 32 := by unfold part; simp; omega
  have l15 : part n 15 19 0 < 32 := by unfold part; simp; omega
  have l20 : part n 20 24 0 < 32 := by unfold part; simp; omega
  have C0 : ∀ w1, Calls Tryd.prog 61 #[.int .u32 n, .int .i64 7, .int .i64 11, .int .i64 0] w1 fun e w' => e = .returned (.int .u32 (part n 7 11 0 : Nat)) ∧ w' = w1.drew := fun w1 => part_any n 7 11 0 w1 hn (by decide) (by decide) (by decide) (by decide) (part_lt (by decide))
  replace C0 := Lib.hid C0
  have C1 : ∀ w1, Calls Tryd.prog 61 #[.int .u32 n, .int .i64 15, .int .i64 19, .int .i64 0] w1 fun e w' => e = .returned (.int .u32 (part n 15 19 0 : Nat)) ∧ w' = w1.drew := fun w1 => part_any n 15 19 0 w1 hn (by decide) (by decide) (by decide) (by decide) (part_lt (by decide))
  replace C1 := Lib.hid C1
  have C2 : ∀ w1, Calls Tryd.prog 61 #[.int .u32 n, .int .i64 20, .int .i64 24, .int .i64 0] w1 fun e w' => e = .returned (.int .u32 (part n 20 24 0 : Nat)) ∧ w' = w1.drew := fun w1 => part_any n 20 24 0 w1 hn (by decide) (by decide) (by decide) (by decide) (part_lt (by decide))
  replace C2 := Lib.hid C2
  have hX : extF i n = ⟨i, (((part n 7 11 0 : Nat)) : Int), 0, 0, ((n / 4096 : Nat) : Int)⟩ := by
    unfold extF
    rw [hk]
    rfl
  have HE : ∀ w1, Laid w1 → Calls Tryd.prog 35 #[rvA i (((part n 7 11 0 : Nat)) : Int) 0 0 ((n / 4096 : Nat) : Int)] w1 fun e w' => e = .returned (.int .u32 (encF (extF i n) : Nat)) ∧ Below w1.heap.size w1 w' := fun w1 h1 => by
    rw [hX] at hV ⊢
    refine encode_any i hi _ _ _ _ ?_ w1 h1
    have := hV.2.2
    simpa using this
  replace HE := Lib.hid HE
  have HR : decF n = if encF (extF i n) = n then some (extF i n) else none := by
    unfold decF
    rw [hf]
  rw [hX] at HR
  replace HR := Lib.hid HR
  rw [hX] at HE
  have hN : encF ⟨i, (((part n 7 11 0 : Nat)) : Int), 0, 0, ((n / 4096 : Nat) : Int)⟩ < 4294967296 := by
    rw [← hX]
    exact (enc_facts hV).1
  have HFM := Lib.hid (fun w1 (h1 : Laid w1) => h1.fm i hi)
  generalize encF ⟨i, (((part n 7 11 0 : Nat)) : Int), 0, 0, ((n / 4096 : Nat) : Int)⟩ = N at HE HR hN
  rw [show ((n / 4096 : Nat) : Int) = (n : Int) / 4096 by omega] at HE HR
  generalize part n 7 11 0 = P7 at *
  generalize part n 15 19 0 = P15 at *
  generalize part n 20 24 0 = P20 at *
  clear hV hX hf
  go_enter Tryd.func44, Tryd.ntmps44
  go_upto_region 1 with fail
  have r0 := heap_alloc_new w (.cells #[.int .i64 0, .int .i64 0, .int .i64 0, .int .i64 0, .int .i64 0] 23)
  have hB0 : Below w.heap.size w (w.alloc (.cells #[.int .i64 0, .int .i64 0, .int .i64 0, .int .i64 0, .int .i64 0] 23)) := (Below.refl _ _).alloc (Nat.le_refl _) _
  replace hL := hL.below hB0
  replace hM := hM.below hB0
  generalize World.alloc w _ = W at r0 hB0 hL hM ⊢
  obtain ⟨M0, hM0⟩ : ∃ M0, w.heap.size = M0 := ⟨_, rfl⟩
  rw [hM0] at r0 hB0 ⊢
  replace hM0 := hM0
  go_wp2_with fail
  refine (HF.out _ hM).mono ?_
  rintro e w2 ⟨rfl, hb2⟩
  replace hL := hL.below hb2
  replace r0 := (hb2.block _ (lt_of_block r0)).trans r0
  have HB := Lib.hid (hB0.trans (hb2.mono (show M0 ≤ W.heap.size by rw [← hM0]; exact hB0.size)))
  clear hb2 hB0 hM HF
  go_upto_region 5 with (first | (with_reducible refine (C0.out _).mono ?_; rintro e w' ⟨rfl, rfl⟩) | (with_reducible refine (C1.out _).mono ?_; rintro e w' ⟨rfl, rfl⟩) | (with_reducible refine (C2.out _).mono ?_; rintro e w' ⟨rfl, rfl⟩))
  obtain ⟨f0, -, -, -⟩ := HFM.out _ (hL.below (drewR (drewR (drewR (Below.refl _ _)))))
  rw [hk] at f0
  clear hk HFM
  replace hL := hL.below (drewR (drewR (drewR (Below.refl _ _))))
  replace HB := Lib.hid (drewR (drewR (drewR HB.out)))
  have r1 := show w2.drew.drew.drew.heap[M0]? = _ from r0
  clear r0
  generalize World.drew w2.drew.drew = W3 at hL HB r1 f0 ⊢
  have l0 : M0 < W3.heap.size := lt_of_block r1
  have lF : 1 < W3.heap.size := block_lt_of_cell f0
  go_wp2_with (first | (with_reducible refine (C0.out _).mono ?_; rintro e w' ⟨rfl, rfl⟩) | (with_reducible refine (C1.out _).mono ?_; rintro e w' ⟨rfl, rfl⟩) | (with_reducible refine (C2.out _).mono ?_; rintro e w' ⟨rfl, rfl⟩))
  have hx := show (W3.alloc (.cells #[.int .i64 (i : Int), .int .i64 (P7 : Int), .int .i64 0, .int .i64 0, .int .i64 ((n : Int) / 4096)] 23)).heap[W3.heap.size]? = _ from heap_alloc_new W3 (.cells #[.int .i64 (i : Int), .int .i64 (P7 : Int), .int .i64 0, .int .i64 0, .int .i64 ((n : Int) / 4096)] 23)
  have r2 := show (W3.alloc (.cells #[.int .i64 (i : Int), .int .i64 (P7 : Int), .int .i64 0, .int .i64 0, .int .i64 ((n : Int) / 4096)] 23)).heap[M0]? = _ from (heap_alloc_old W3 (.cells #[.int .i64 (i : Int), .int .i64 (P7 : Int), .int .i64 0, .int .i64 0, .int .i64 ((n : Int) / 4096)] 23) l0).trans r1
  have hb4 : Below M0 w ((W3.alloc (.cells #[.int .i64 (i : Int), .int .i64 (P7 : Int), .int .i64 0, .int .i64 0, .int .i64 ((n : Int) / 4096)] 23))) := HB.out.alloc (Nat.le_of_lt l0) (.cells #[.int .i64 (i : Int), .int .i64 (P7 : Int), .int .i64 0, .int .i64 0, .int .i64 ((n : Int) / 4096)] 23)
  have hL4 : Laid ((W3.alloc (.cells #[.int .i64 (i : Int), .int .i64 (P7 : Int), .int .i64 0, .int .i64 0, .int .i64 ((n : Int) / 4096)] 23))) := hL.below ((Below.refl _ _).alloc (Nat.le_refl _) (.cells #[.int .i64 (i : Int), .int .i64 (P7 : Int), .int .i64 0, .int .i64 0, .int .i64 ((n : Int) / 4096)] 23))
  clear hL HB r1 f0 l0 lF
  generalize (W3.alloc (.cells #[.int .i64 (i : Int), .int .i64 (P7 : Int), .int .i64 0, .int .i64 0, .int .i64 ((n : Int) / 4096)] 23)) = W4 at hx r2 hb4 hL4 ⊢
  generalize W3.heap.size = X at hx ⊢
  refine (HE.out _ hL4).mono ?_
  rintro e w5 ⟨rfl, hb5⟩
  replace hx := (hb5.block _ (lt_of_block hx)).trans hx
  have r0 := (hb5.block _ (lt_of_block r2)).trans r2
  have HB := Lib.hid (hb4.trans (hb5.mono (show M0 ≤ W4.heap.size by rw [← hM0]; exact hb4.size)))
  clear r2 hb4 hL4 hb5 HE
  obtain ⟨x0, x1, x2, x3, x4⟩ := cells5r hx
  by_cases hNn : N = n
  · replace HR := Lib.hid (HR.out.trans (if_pos hNn))
    subst hNn
    go_wp2_with (refine wpList_store_row rfl _ _ _ rfl M0 #[.int .i64 (i : Int), .int .i64 (P7 : Int), .int .i64 0, .int .i64 0, .int .i64 ((N : Int) / 4096)] rfl rfl 23 _ r0 (infoC _ _ _ _ _) rfl (oneI _ _ _ _ _) ?_)
    have rr := setRow_heap _ M0 _ #[.int .i64 (i : Int), .int .i64 (P7 : Int), .int .i64 0, .int .i64 0, .int .i64 ((N : Int) / 4096)] 23 (0, 0) r0
    have hB7 := bel_setRow (HB.out) (Nat.le_refl M0) #[.int .i64 (i : Int), .int .i64 (P7 : Int), .int .i64 0, .int .i64 0, .int .i64 ((N : Int) / 4096)]
    refine bodyPost_ret (res2c rfl _ _ M0 #[.int .i64 (i : Int), .int .i64 (P7 : Int), .int .i64 0, .int .i64 0, .int .i64 ((N : Int) / 4096)] rfl (loadRv _ M0 _ _ _ _ _ rr)) rfl ⟨?_, by rw [hM0]; exact hB7⟩
    rw [HR.out]
    rfl
  · replace HR := Lib.hid (HR.out.trans (if_neg hNn))
    have hNi : ¬ (N : Int) = (n : Int) := by omega
    clear hNn
    go_wp2_with (refine wpList_store_row rfl _ _ _ rfl M0 #[.int .i64 0, .int .i64 0, .int .i64 0, .int .i64 0, .int .i64 0] rfl rfl 23 _ r0 (infoC _ _ _ _ _) rfl (oneI _ _ _ _ _) ?_)
    have rr := setRow_heap _ M0 _ #[.int .i64 0, .int .i64 0, .int .i64 0, .int .i64 0, .int .i64 0] 23 (0, 0) r0
    have hB7 := bel_setRow (HB.out) (Nat.le_refl M0) #[.int .i64 0, .int .i64 0, .int .i64 0, .int .i64 0, .int .i64 0]
    refine bodyPost_ret (res2c rfl _ _ M0 #[.int .i64 0, .int .i64 0, .int .i64 0, .int .i64 0, .int .i64 0] rfl (loadRv _ M0 _ _ _ _ _ rr)) rfl ⟨?_, by rw [hM0]; exact hB7⟩
    rw [HR.out]
    rfl
set_option maxRecDepth 100000 in
set_option maxHeartbeats 8000000 in
/-- decode from where the operation is found, kind 4. -/
theorem decode_k4 (n M i : Nat) (hn : n < 4294967296) (w : World) (hL : Laid w) (hM : MapN w M 41) (hf : findF n = some i) (hi : i < 41) (hk : kT i = 4) :
    Calls Tryd.prog 44 #[.map (some M), .int .u32 n] w fun e w' => e = .returned (decV (decF n)) ∧ Below w.heap.size w w' := by
  have HF := Lib.hid (fun w1 h1 => find_any n M hn w1 h1)
  rw [hf] at HF
  unfold findV at HF
  simp only [Option.getD_some, Option.isSome_some] at HF
  have hV := ext_Val hi hn
  have l7 : part n 7 11 0 < 32 := by unfold part; simp; omega
  have l15 : part n 15 19 0 < 32 := by unfold part; simp; omega
  have l20 : part n 20 24 0 < 32 := by unfold part; simp; omega
  have C0 : ∀ w1, Calls Tryd.prog 61 #[.int .u32 n, .int .i64 7, .int .i64 11, .int .i64 0] w1 fun e w' => e = .returned (.int .u32 (part n 7 11 0 : Nat)) ∧ w' = w1.drew := fun w1 => part_any n 7 11 0 w1 hn (by decide) (by decide) (by decide) (by decide) (part_lt (by decide))
  replace C0 := Lib.hid C0
  have C1 : ∀ w1, Calls Tryd.prog 61 #[.int .u32 n, .int .i64 15, .int .i64 19, .int .i64 0] w1 fun e w' => e = .returned (.int .u32 (part n 15 19 0 : Nat)) ∧ w' = w1.drew := fun w1 => part_any n 15 19 0 w1 hn (by decide) (by decide) (by decide) (by decide) (part_lt (by decide))
  replace C1 := Lib.hid C1
  have C2 : ∀ w1, Calls Tryd.prog 61 #[.int .u32 n, .int .i64 20, .int .i64 24, .int .i64 0] w1 fun e w' => e = .returned (.int .u32 (part n 20 24 0 : Nat)) ∧ w' = w1.drew := fun w1 => part_any n 20 24 0 w1 hn (by decide) (by decide) (by decide) (by decide) (part_lt (by decide))
  replace C2 := Lib.hid C2
  have C3 : ∀ w1, Calls Tryd.prog 61 #[.int .u32 n, .int .i64 25, .int .i64 31, .int .i64 5] w1 fun e w' => e = .returned (.int .u32 (part n 25 31 5 : Nat)) ∧ w' = w1.drew := fun w1 => part_any n 25 31 5 w1 hn (by decide) (by decide) (by decide) (by decide) (part_lt (by decide))
  replace C3 := Lib.hid C3
  have lt0 : part n 7 11 0 < 4294967296 := part_lt (by decide)
  have lt1 : part n 25 31 5 < 4294967296 := part_lt (by decide)
  have q1 : bits .or .u32 (((part n 7 11 0) : Nat) : Int) ((part n 25 31 5 : Nat) : Int) = (((part n 7 11 0 ||| part n 25 31 5) : Nat) : Int) := u32_or (part n 7 11 0) (part n 25 31 5) lt0 lt1
  have al1 : part n 7 11 0 ||| part n 25 31 5 < 4294967296 := or_lt (a := part n 7 11 0) (b := part n 25 31 5) lt0 lt1
  have HS : ∀ w1, Calls Tryd.prog 63 #[.int .u32 ((part n 7 11 0 ||| part n 25 31 5 : Nat) : Int), .int .i64 12] w1 fun e w' => e = .returned (.int .i64 (sgn (part n 7 11 0 ||| part n 25 31 5) 12)) ∧ w' = w1 := fun w1 => signed12 (part n 7 11 0 ||| part n 25 31 5) (by rw [ext4]; omega) w1
  replace HS := Lib.hid HS
  have hX : extF i n = ⟨i, 0, (((part n 15 19 0 : Nat)) : Int), (((part n 20 24 0 : Nat)) : Int), (sgn (part n 7 11 0 ||| part n 25 31 5) 12)⟩ := by
    unfold extF
    rw [hk]
    rfl
  have HE : ∀ w1, Laid w1 → Calls Tryd.prog 35 #[rvA i 0 (((part n 15 19 0 : Nat)) : Int) (((part n 20 24 0 : Nat)) : Int) (sgn (part n 7 11 0 ||| part n 25 31 5) 12)] w1 fun e w' => e = .returned (.int .u32 (encF (extF i n) : Nat)) ∧ Below w1.heap.size w1 w' := fun w1 h1 => by
    rw [hX] at hV ⊢
    refine encode_any i hi _ _ _ _ ?_ w1 h1
    have := hV.2.2
    simpa using this
  replace HE := Lib.hid HE
  have HR : decF n = if encF (extF i n) = n then some (extF i n) else none := by
    unfold decF
    rw [hf]
  rw [hX] at HR
  replace HR := Lib.hid HR
  rw [hX] at HE
  have hN : encF ⟨i, 0, (((part n 15 19 0 : Nat)) : Int), (((part n 20 24 0 : Nat)) : Int), (sgn (part n 7 11 0 ||| part n 25 31 5) 12)⟩ < 4294967296 := by
    rw [← hX]
    exact (enc_facts hV).1
  have HFM := Lib.hid (fun w1 (h1 : Laid w1) => h1.fm i hi)
  generalize encF ⟨i, 0, (((part n 15 19 0 : Nat)) : Int), (((part n 20 24 0 : Nat)) : Int), (sgn (part n 7 11 0 ||| part n 25 31 5) 12)⟩ = N at HE HR hN
  generalize sgn (part n 7 11 0 ||| part n 25 31 5) 12 = I at HS HE HR
  generalize hO1 : (part n 7 11 0 ||| part n 25 31 5) = O1 at *
  clear hO1
  generalize part n 7 11 0 = P7 at *
  generalize part n 15 19 0 = P15 at *
  generalize part n 20 24 0 = P20 at *
  generalize part n 25 31 5 = P_25_31_5 at *
  clear hV hX hf
  go_enter Tryd.func44, Tryd.ntmps44
  go_upto_region 1 with fail
  have r0 := heap_alloc_new w (.cells #[.int .i64 0, .int .i64 0, .int .i64 0, .int .i64 0, .int .i64 0] 23)
  have hB0 : Below w.heap.size w (w.alloc (.cells #[.int .i64 0, .int .i64 0, .int .i64 0, .int .i64 0, .int .i64 0] 23)) := (Below.refl _ _).alloc (Nat.le_refl _) _
  replace hL := hL.below hB0
  replace hM := hM.below hB0
  generalize World.alloc w _ = W at r0 hB0 hL hM ⊢
  obtain ⟨M0, hM0⟩ : ∃ M0, w.heap.size = M0 := ⟨_, rfl⟩
  rw [hM0] at r0 hB0 ⊢
  replace hM0 := hM0
  go_wp2_with fail
  refine (HF.out _ hM).mono ?_
  rintro e w2 ⟨rfl, hb2⟩
  replace hL := hL.below hb2
  replace r0 := (hb2.block _ (lt_of_block r0)).trans r0
  have HB := Lib.hid (hB0.trans (hb2.mono (show M0 ≤ W.heap.size by rw [← hM0]; exact hB0.size)))
  clear hb2 hB0 hM HF
  go_upto_region 5 with (first | (with_reducible refine (C0.out _).mono ?_; rintro e w' ⟨rfl, rfl⟩) | (with_reducible refine (C1.out _).mono ?_; rintro e w' ⟨rfl, rfl⟩) | (with_reducible refine (C2.out _).mono ?_; rintro e w' ⟨rfl, rfl⟩) | (with_reducible refine (C3.out _).mono ?_; rintro e w' ⟨rfl, rfl⟩) | (with_reducible refine (HS.out _).mono ?_; rintro e w' ⟨rfl, rfl⟩))
  obtain ⟨f0, -, -, -⟩ := HFM.out _ (hL.below (drewR (drewR (drewR (Below.refl _ _)))))
  rw [hk] at f0
  clear hk HFM
  replace hL := hL.below (drewR (drewR (drewR (Below.refl _ _))))
  replace HB := Lib.hid (drewR (drewR (drewR HB.out)))
  have r1 := show w2.drew.drew.drew.heap[M0]? = _ from r0
  clear r0
  generalize World.drew w2.drew.drew = W3 at hL HB r1 f0 ⊢
  have l0 : M0 < W3.heap.size := lt_of_block r1
  have lF : 1 < W3.heap.size := block_lt_of_cell f0
  go_wp2_with (first | (with_reducible refine (C0.out _).mono ?_; rintro e w' ⟨rfl, rfl⟩) | (with_reducible refine (C1.out _).mono ?_; rintro e w' ⟨rfl, rfl⟩) | (with_reducible refine (C2.out _).mono ?_; rintro e w' ⟨rfl, rfl⟩) | (with_reducible refine (C3.out _).mono ?_; rintro e w' ⟨rfl, rfl⟩) | (with_reducible refine (HS.out _).mono ?_; rintro e w' ⟨rfl, rfl⟩))
  have hx := show (W3.alloc (.cells #[.int .i64 (i : Int), .int .i64 0, .int .i64 (P15 : Int), .int .i64 (P20 : Int), .int .i64 I] 23)).drew.drew.heap[W3.heap.size]? = _ from heap_alloc_new W3 (.cells #[.int .i64 (i : Int), .int .i64 0, .int .i64 (P15 : Int), .int .i64 (P20 : Int), .int .i64 I] 23)
  have r2 := show (W3.alloc (.cells #[.int .i64 (i : Int), .int .i64 0, .int .i64 (P15 : Int), .int .i64 (P20 : Int), .int .i64 I] 23)).drew.drew.heap[M0]? = _ from (heap_alloc_old W3 (.cells #[.int .i64 (i : Int), .int .i64 0, .int .i64 (P15 : Int), .int .i64 (P20 : Int), .int .i64 I] 23) l0).trans r1
  have hb4 : Below M0 w ((W3.alloc (.cells #[.int .i64 (i : Int), .int .i64 0, .int .i64 (P15 : Int), .int .i64 (P20 : Int), .int .i64 I] 23)).drew.drew) := drewR (drewR (HB.out.alloc (Nat.le_of_lt l0) (.cells #[.int .i64 (i : Int), .int .i64 0, .int .i64 (P15 : Int), .int .i64 (P20 : Int), .int .i64 I] 23)))
  have hL4 : Laid ((W3.alloc (.cells #[.int .i64 (i : Int), .int .i64 0, .int .i64 (P15 : Int), .int .i64 (P20 : Int), .int .i64 I] 23)).drew.drew) := hL.below (drewR (drewR ((Below.refl _ _).alloc (Nat.le_refl _) (.cells #[.int .i64 (i : Int), .int .i64 0, .int .i64 (P15 : Int), .int .i64 (P20 : Int), .int .i64 I] 23))))
  clear hL HB r1 f0 l0 lF
  generalize (W3.alloc (.cells #[.int .i64 (i : Int), .int .i64 0, .int .i64 (P15 : Int), .int .i64 (P20 : Int), .int .i64 I] 23)).drew.drew = W4 at hx r2 hb4 hL4 ⊢
  generalize W3.heap.size = X at hx ⊢
  refine (HE.out _ hL4).mono ?_
  rintro e w5 ⟨rfl, hb5⟩
  replace hx := (hb5.block _ (lt_of_block hx)).trans hx
  have r0 := (hb5.block _ (lt_of_block r2)).trans r2
  have HB := Lib.hid (hb4.trans (hb5.mono (show M0 ≤ W4.heap.size by rw [← hM0]; exact hb4.size)))
  clear r2 hb4 hL4 hb5 HE
  obtain ⟨x0, x1, x2, x3, x4⟩ := cells5r hx
  by_cases hNn : N = n
  · replace HR := Lib.hid (HR.out.trans (if_pos hNn))
    subst hNn
    go_wp2_with (refine wpList_store_row rfl _ _ _ rfl M0 #[.int .i64 (i : Int), .int .i64 0, .int .i64 (P15 : Int), .int .i64 (P20 : Int), .int .i64 I] rfl rfl 23 _ r0 (infoC _ _ _ _ _) rfl (oneI _ _ _ _ _) ?_)
    have rr := setRow_heap _ M0 _ #[.int .i64 (i : Int), .int .i64 0, .int .i64 (P15 : Int), .int .i64 (P20 : Int), .int .i64 I] 23 (0, 0) r0
    have hB7 := bel_setRow (HB.out) (Nat.le_refl M0) #[.int .i64 (i : Int), .int .i64 0, .int .i64 (P15 : Int), .int .i64 (P20 : Int), .int .i64 I]
    refine bodyPost_ret (res2c rfl _ _ M0 #[.int .i64 (i : Int), .int .i64 0, .int .i64 (P15 : Int), .int .i64 (P20 : Int), .int .i64 I] rfl (loadRv _ M0 _ _ _ _ _ rr)) rfl ⟨?_, by rw [hM0]; exact hB7⟩
    rw [HR.out]
    rfl
  · replace HR := Lib.hid (HR.out.trans (if_neg hNn))
    have hNi : ¬ (N : Int) = (n : Int) := by omega
    clear hNn
    go_wp2_with (refine wpList_store_row rfl _ _ _ rfl M0 #[.int .i64 0, .int .i64 0, .int .i64 0, .int .i64 0, .int .i64 0] rfl rfl 23 _ r0 (infoC _ _ _ _ _) rfl (oneI _ _ _ _ _) ?_)
    have rr := setRow_heap _ M0 _ #[.int .i64 0, .int .i64 0, .int .i64 0, .int .i64 0, .int .i64 0] 23 (0, 0) r0
    have hB7 := bel_setRow (HB.out) (Nat.le_refl M0) #[.int .i64 0, .int .i64 0, .int .i64 0, .int .i64 0, .int .i64 0]
    refine bodyPost_ret (res2c rfl _ _ M0 #[.int .i64 0, .int .i64 0, .int .i64 0, .int .i64 0, .int .i64 0] rfl (loadRv _ M0 _ _ _ _ _ rr)) rfl ⟨?_, by rw [hM0]; exact hB7⟩
    rw [HR.out]
    rfl
set_option maxRecDepth 100000 in
set_option maxHeartbeats 8000000 in
/-- decode from where the operation is found, kind 5. -/
theorem decode_k5 (n M i : Nat) (hn : n < 4294967296) (w : World) (hL : Laid w) (hM : MapN w M 41) (hf : findF n = some i) (hi : i < 41) (hk : kT i = 5) :
    Calls Tryd.prog 44 #[.map (some M), .int .u32 n] w fun e w' => e = .returned (decV (decF n)) ∧ Below w.heap.size w w' := by
  have HF := Lib.hid (fun w1 h1 => find_any n M hn w1 h1)
  rw [hf] at HF
  unfold findV at HF
  simp only [Option.getD_some, Option.isSome_some] at HF
  have hV := ext_Val hi hn
  have l7 : part n 7 11 0 < 32 := by unfold part; simp; omega
  have l15 : part n 15 19 0 < 32 := by unfold part; simp; omega
  have l20 : part n 20 24 0 < 32 := by unfold part; simp; omega
  have C0 : ∀ w1, Calls Tryd.prog 61 #[.int .u32 n, .int .i64 7, .int .i64 11, .int .i64 0] w1 fun e w' => e = .returned (.int .u32 (part n 7 11 0 : Nat)) ∧ w' = w1.drew := fun w1 => part_any n 7 11 0 w1 hn (by decide) (by decide) (by decide) (by decide) (part_lt (by decide))
  replace C0 := Lib.hid C0
  have C1 : ∀ w1, Calls Tryd.prog 61 #[.int .u32 n, .int .i64 15, .int .i64 19, .int .i64 0] w1 fun e w' => e = .returned (.int .u32 (part n 15 19 0 : Nat)) ∧ w' = w1.drew := fun w1 => part_any n 15 19 0 w1 hn (by decide) (by decide) (by decide) (by decide) (part_lt (by decide))
  replace C1 := Lib.hid C1
  have C2 : ∀ w1, Calls Tryd.prog 61 #[.int .u32 n, .int .i64 20, .int .i64 24, .int .i64 0] w1 fun e w' => e = .returned (.int .u32 (part n 20 24 0 : Nat)) ∧ w' = w1.drew := fun w1 => part_any n 20 24 0 w1 hn (by decide) (by decide) (by decide) (by decide) (part_lt (by decide))
  replace C2 := Lib.hid C2
  have C3 : ∀ w1, Calls Tryd.prog 61 #[.int .u32 n, .int .i64 8, .int .i64 11, .int .i64 1] w1 fun e w' => e = .returned (.int .u32 (part n 8 11 1 : Nat)) ∧ w' = w1.drew := fun w1 => part_any n 8 11 1 w1 hn (by decide) (by decide) (by decide) (by decide) (part_lt (by decide))
  replace C3 := Lib.hid C3
  have C4 : ∀ w1, Calls Tryd.prog 61 #[.int .u32 n, .int .i64 25, .int .i64 30, .int .i64 5] w1 fun e w' => e = .returned (.int .u32 (part n 25 30 5 : Nat)) ∧ w' = w1.drew := fun w1 => part_any n 25 30 5 w1 hn (by decide) (by decide) (by decide) (by decide) (part_lt (by decide))
  replace C4 := Lib.hid C4
  have C5 : ∀ w1, Calls Tryd.prog 61 #[.int .u32 n, .int .i64 7, .int .i64 7, .int .i64 11] w1 fun e w' => e = .returned (.int .u32 (part n 7 7 11 : Nat)) ∧ w' = w1.drew := fun w1 => part_any n 7 7 11 w1 hn (by decide) (by decide) (by decide) (by decide) (part_lt (by decide))
  replace C5 := Lib.hid C5
  have C6 : ∀ w1, Calls Tryd.prog 61 #[.int .u32 n, .int .i64 31, .int .i64 31, .int .i64 12] w1 fun e w' => e = .returned (.int .u32 (part n 31 31 12 : Nat)) ∧ w' = w1.drew := fun w1 => part_any n 31 31 12 w1 hn (by decide) (by decide) (by decide) (by decide) (part_lt (by decide))
  replace C6 := Lib.hid C6
  have lt0 : part n 8 11 1 < 4294967296 := part_lt (by decide)
  have lt1 : part n 25 30 5 < 4294967296 := part_lt (by decide)
  have q1 : bits .or .u32 (((part n 8 11 1) : Nat) : Int) ((part n 25 30 5 : Nat) : Int) = (((part n 8 11 1 ||| part n 25 30 5) : Nat) : Int) := u32_or (part n 8 11 1) (part n 25 30 5) lt0 lt1
  have al1 : part n 8 11 1 ||| part n 25 30 5 < 4294967296 := or_lt (a := part n 8 11 1) (b := part n 25 30 5) lt0 lt1
  have lt2 : part n 7 7 11 < 4294967296 := part_lt (by decide)
  have q2 : bits .or .u32 (((part n 8 11 1 ||| part n 25 30 5) : Nat) : Int) ((part n 7 7 11 : Nat) : Int) = (((part n 8 11 1 ||| part n 25 30 5 ||| part n 7 7 11) : Nat) : Int) := u32_or (part n 8 11 1 ||| part n 25 30 5) (part n 7 7 11) al1 lt2
  have al2 : part n 8 11 1 ||| part n 25 30 5 ||| part n 7 7 11 < 4294967296 := or_lt (a := part n 8 11 1 ||| part n 25 30 5) (b := part n 7 7 11) al1 lt2
  have lt3 : part n 31 31 12 < 4294967296 := part_lt (by decide)
  have q3 : bits .or .u32 (((part n 8 11 1 ||| part n 25 30 5 ||| part n 7 7 11) : Nat) : Int) ((part n 31 31 12 : Nat) : Int) = (((part n 8 11 1 ||| part n 25 30 5 ||| part n 7 7 11 ||| part n 31 31 12) : Nat) : Int) := u32_or (part n 8 11 1 ||| part n 25 30 5 ||| part n 7 7 11) (part n 31 31 12) al2 lt3
  have al3 : part n 8 11 1 ||| part n 25 30 5 ||| part n 7 7 11 ||| part n 31 31 12 < 4294967296 := or_lt (a := part n 8 11 1 ||| part n 25 30 5 ||| part n 7 7 11) (b := part n 31 31 12) al2 lt3
  have HS : ∀ w1, Calls Tryd.prog 63 #[.int .u32 ((part n 8 11 1 ||| part n 25 30 5 ||| part n 7 7 11 ||| part n 31 31 12 : Nat) : Int), .int .i64 13] w1 fun e w' => e = .returned (.int .i64 (sgn (part n 8 11 1 ||| part n 25 30 5 ||| part n 7 7 11 ||| part n 31 31 12) 13)) ∧ w' = w1 := fun w1 => signed13 (part n 8 11 1 ||| part n 25 30 5 ||| part n 7 7 11 ||| part n 31 31 12) (by rw [ext5]; omega) w1
  replace HS := Lib.hid HS
  have hX : extF i n = ⟨i, 0, (((part n 15 19 0 : Nat)) : Int), (((part n 20 24 0 : Nat)) : Int), (sgn (part n 8 11 1 ||| part n 25 30 5 ||| part n 7 7 11 ||| part n 31 31 12) 13)⟩ := by
    unfold extF
    rw [hk]
    rfl
  have HE : ∀ w1, Laid w1 → Calls Tryd.prog 35 #[rvA i 0 (((part n 15 19 0 : Nat)) : Int) (((part n 20 24 0 : Nat)) : Int) (sgn (part n 8 11 1 ||| part n 25 30 5 ||| part n 7 7 11 ||| part n 31 31 12) 13)] w1 fun e w' => e = .returned (.int .u32 (encF (extF i n) : Nat)) ∧ Below w1.heap.size w1 w' := fun w1 h1 => by
    rw [hX] at hV ⊢
    refine encode_any i hi _ _ _ _ ?_ w1 h1
    have := hV.2.2
    simpa using this
  replace HE := Lib.hid HE
  have HR : decF n = if encF (extF i n) = n then some (extF i n) else none := by
    unfold decF
    rw [hf]
  rw [hX] at HR
  replace HR := Lib.hid HR
  rw [hX] at HE
  have hN : encF ⟨i, 0, (((part n 15 19 0 : Nat)) : Int), (((part n 20 24 0 : Nat)) : Int), (sgn (part n 8 11 1 ||| part n 25 30 5 ||| part n 7 7 11 ||| part n 31 31 12) 13)⟩ < 4294967296 := by
    rw [← hX]
    exact (enc_facts hV).1
  have HFM := Lib.hid (fun w1 (h1 : Laid w1) => h1.fm i hi)
  generalize encF ⟨i, 0, (((part n 15 19 0 : Nat)) : Int), (((part n 20 24 0 : Nat)) : Int), (sgn (part n 8 11 1 ||| part n 25 30 5 ||| part n 7 7 11 ||| part n 31 31 12) 13)⟩ = N at HE HR hN
  generalize sgn (part n 8 11 1 ||| part n 25 30 5 ||| part n 7 7 11 ||| part n 31 31 12) 13 = I at HS HE HR
  generalize hO3 : (part n 8 11 1 ||| part n 25 30 5 ||| part n 7 7 11 ||| part n 31 31 12) = O3 at *
  clear hO3
  generalize hO2 : (part n 8 11 1 ||| part n 25 30 5 ||| part n 7 7 11) = O2 at *
  clear hO2
  generalize hO1 : (part n 8 11 1 ||| part n 25 30 5) = O1 at *
  clear hO1
  generalize part n 7 11 0 = P7 at *
  generalize part n 15 19 0 = P15 at *
  generalize part n 20 24 0 = P20 at *
  generalize part n 8 11 1 = P_8_11_1 at *
  generalize part n 25 30 5 = P_25_30_5 at *
  generalize part n 7 7 11 = P_7_7_11 at *
  generalize part n 31 31 12 = P_31_31_12 at *
  clear hV hX hf
  go_enter Tryd.func44, Tryd.ntmps44
  go_upto_region 1 with fail
  have r0 := heap_alloc_new w (.cells #[.int .i64 0, .int .i64 0, .int .i64 0, .int .i64 0, .int .i64 0] 23)
  have hB0 : Below w.heap.size w (w.alloc (.cells #[.int .i64 0, .int .i64 0, .int .i64 0, .int .i64 0, .int .i64 0] 23)) := (Below.refl _ _).alloc (Nat.le_refl _) _
  replace hL := hL.below hB0
  replace hM := hM.below hB0
  generalize World.alloc w _ = W at r0 hB0 hL hM ⊢
  obtain ⟨M0, hM0⟩ : ∃ M0, w.heap.size = M0 := ⟨_, rfl⟩
  rw [hM0] at r0 hB0 ⊢
  replace hM0 := hM0
  go_wp2_with fail
  refine (HF.out _ hM).mono ?_
  rintro e w2 ⟨rfl, hb2⟩
  replace hL := hL.below hb2
  replace r0 := (hb2.block _ (lt_of_block r0)).trans r0
  have HB := Lib.hid (hB0.trans (hb2.mono (show M0 ≤ W.heap.size by rw [← hM0]; exact hB0.size)))
  clear hb2 hB0 hM HF
  go_upto_region 5 with (first | (with_reducible refine (C0.out _).mono ?_; rintro e w' ⟨rfl, rfl⟩) | (with_reducible refine (C1.out _).mono ?_; rintro e w' ⟨rfl, rfl⟩) | (with_reducible refine (C2.out _).mono ?_; rintro e w' ⟨rfl, rfl⟩) | (with_reducible refine (C3.out _).mono ?_; rintro e w' ⟨rfl, rfl⟩) | (with_reducible refine (C4.out _).mono ?_; rintro e w' ⟨rfl, rfl⟩) | (with_reducible refine (C5.out _).mono ?_; rintro e w' ⟨rfl, rfl⟩) | (with_reducible refine (C6.out _).mono ?_; rintro e w' ⟨rfl, rfl⟩) | (with_reducible refine (HS.out _).mono ?_; rintro e w' ⟨rfl, rfl⟩))
  obtain ⟨f0, -, -, -⟩ := HFM.out _ (hL.below (drewR (drewR (drewR (Below.refl _ _)))))
  rw [hk] at f0
  clear hk HFM
  replace hL := hL.below (drewR (drewR (drewR (Below.refl _ _))))
  replace HB := Lib.hid (drewR (drewR (drewR HB.out)))
  have r1 := show w2.drew.drew.drew.heap[M0]? = _ from r0
  clear r0
  generalize World.drew w2.drew.drew = W3 at hL HB r1 f0 ⊢
  have l0 : M0 < W3.heap.size := lt_of_block r1
  have lF : 1 < W3.heap.size := block_lt_of_cell f0
  go_wp2_with (first | (with_reducible refine (C0.out _).mono ?_; rintro e w' ⟨rfl, rfl⟩) | (with_reducible refine (C1.out _).mono ?_; rintro e w' ⟨rfl, rfl⟩) | (with_reducible refine (C2.out _).mono ?_; rintro e w' ⟨rfl, rfl⟩) | (with_reducible refine (C3.out _).mono ?_; rintro e w' ⟨rfl, rfl⟩) | (with_reducible refine (C4.out _).mono ?_; rintro e w' ⟨rfl, rfl⟩) | (with_reducible refine (C5.out _).mono ?_; rintro e w' ⟨rfl, rfl⟩) | (with_reducible refine (C6.out _).mono ?_; rintro e w' ⟨rfl, rfl⟩) | (with_reducible refine (HS.out _).mono ?_; rintro e w' ⟨rfl, rfl⟩))
  have hx := show (W3.alloc (.cells #[.int .i64 (i : Int), .int .i64 0, .int .i64 (P15 : Int), .int .i64 (P20 : Int), .int .i64 I] 23)).drew.drew.drew.drew.heap[W3.heap.size]? = _ from heap_alloc_new W3 (.cells #[.int .i64 (i : Int), .int .i64 0, .int .i64 (P15 : Int), .int .i64 (P20 : Int), .int .i64 I] 23)
  have r2 := show (W3.alloc (.cells #[.int .i64 (i : Int), .int .i64 0, .int .i64 (P15 : Int), .int .i64 (P20 : Int), .int .i64 I] 23)).drew.drew.drew.drew.heap[M0]? = _ from (heap_alloc_old W3 (.cells #[.int .i64 (i : Int), .int .i64 0, .int .i64 (P15 : Int), .int .i64 (P20 : Int), .int .i64 I] 23) l0).trans r1
  have hb4 : Below M0 w ((W3.alloc (.cells #[.int .i64 (i : Int), .int .i64 0, .int .i64 (P15 : Int), .int .i64 (P20 : Int), .int .i64 I] 23)).drew.drew.drew.drew) := drewR (drewR (drewR (drewR (HB.out.alloc (Nat.le_of_lt l0) (.cells #[.int .i64 (i : Int), .int .i64 0, .int .i64 (P15 : Int), .int .i64 (P20 : Int), .int .i64 I] 23)))))
  have hL4 : Laid ((W3.alloc (.cells #[.int .i64 (i : Int), .int .i64 0, .int .i64 (P15 : Int), .int .i64 (P20 : Int), .int .i64 I] 23)).drew.drew.drew.drew) := hL.below (drewR (drewR (drewR (drewR ((Below.refl _ _).alloc (Nat.le_refl _) (.cells #[.int .i64 (i : Int), .int .i64 0, .int .i64 (P15 : Int), .int .i64 (P20 : Int), .int .i64 I] 23))))))
  clear hL HB r1 f0 l0 lF
  generalize (W3.alloc (.cells #[.int .i64 (i : Int), .int .i64 0, .int .i64 (P15 : Int), .int .i64 (P20 : Int), .int .i64 I] 23)).drew.drew.drew.drew = W4 at hx r2 hb4 hL4 ⊢
  generalize W3.heap.size = X at hx ⊢
  refine (HE.out _ hL4).mono ?_
  rintro e w5 ⟨rfl, hb5⟩
  replace hx := (hb5.block _ (lt_of_block hx)).trans hx
  have r0 := (hb5.block _ (lt_of_block r2)).trans r2
  have HB := Lib.hid (hb4.trans (hb5.mono (show M0 ≤ W4.heap.size by rw [← hM0]; exact hb4.size)))
  clear r2 hb4 hL4 hb5 HE
  obtain ⟨x0, x1, x2, x3, x4⟩ := cells5r hx
  by_cases hNn : N = n
  · replace HR := Lib.hid (HR.out.trans (if_pos hNn))
    subst hNn
    go_wp2_with (refine wpList_store_row rfl _ _ _ rfl M0 #[.int .i64 (i : Int), .int .i64 0, .int .i64 (P15 : Int), .int .i64 (P20 : Int), .int .i64 I] rfl rfl 23 _ r0 (infoC _ _ _ _ _) rfl (oneI _ _ _ _ _) ?_)
    have rr := setRow_heap _ M0 _ #[.int .i64 (i : Int), .int .i64 0, .int .i64 (P15 : Int), .int .i64 (P20 : Int), .int .i64 I] 23 (0, 0) r0
    have hB7 := bel_setRow (HB.out) (Nat.le_refl M0) #[.int .i64 (i : Int), .int .i64 0, .int .i64 (P15 : Int), .int .i64 (P20 : Int), .int .i64 I]
    refine bodyPost_ret (res2c rfl _ _ M0 #[.int .i64 (i : Int), .int .i64 0, .int .i64 (P15 : Int), .int .i64 (P20 : Int), .int .i64 I] rfl (loadRv _ M0 _ _ _ _ _ rr)) rfl ⟨?_, by rw [hM0]; exact hB7⟩
    rw [HR.out]
    rfl
  · replace HR := Lib.hid (HR.out.trans (if_neg hNn))
    have hNi : ¬ (N : Int) = (n : Int) := by omega
    clear hNn
    go_wp2_with (refine wpList_store_row rfl _ _ _ rfl M0 #[.int .i64 0, .int .i64 0, .int .i64 0, .int .i64 0, .int .i64 0] rfl rfl 23 _ r0 (infoC _ _ _ _ _) rfl (oneI _ _ _ _ _) ?_)
    have rr := setRow_heap _ M0 _ #[.int .i64 0, .int .i64 0, .int .i64 0, .int .i64 0, .int .i64 0] 23 (0, 0) r0
    have hB7 := bel_setRow (HB.out) (Nat.le_refl M0) #[.int .i64 0, .int .i64 0, .int .i64 0, .int .i64 0, .int .i64 0]
    refine bodyPost_ret (res2c rfl _ _ M0 #[.int .i64 0, .int .i64 0, .int .i64 0, .int .i64 0, .int .i64 0] rfl (loadRv _ M0 _ _ _ _ _ rr)) rfl ⟨?_, by rw [hM0]; exact hB7⟩
    rw [HR.out]
    rfl
set_option maxRecDepth 100000 in
set_option maxHeartbeats 8000000 in
/-- decode from where the operation is found, kind 6. -/
theorem decode_k6 (n M i : Nat) (hn : n < 4294967296) (w : World) (hL : Laid w) (hM : MapN w M 41) (hf : findF n = some i) (hi : i < 41) (hk : kT i = 6) :
    Calls Tryd.prog 44 #[.map (some M), .int .u32 n] w fun e w' => e = .returned (decV (decF n)) ∧ Below w.heap.size w w' := by
  have HF := Lib.hid (fun w1 h1 => find_any n M hn w1 h1)
  rw [hf] at HF
  unfold findV at HF
  simp only [Option.getD_some, Option.isSome_some] at HF
  have hV := ext_Val hi hn
  have l7 : part n 7 11 0 < 32 := by unfold part; simp; omega
  have l15 : part n 15 19 0 < 32 := by unfold part; simp; omega
  have l20 : part n 20 24 0 < 32 := by unfold part; simp; omega
  have C0 : ∀ w1, Calls Tryd.prog 61 #[.int .u32 n, .int .i64 7, .int .i64 11, .int .i64 0] w1 fun e w' => e = .returned (.int .u32 (part n 7 11 0 : Nat)) ∧ w' = w1.drew := fun w1 => part_any n 7 11 0 w1 hn (by decide) (by decide) (by decide) (by decide) (part_lt (by decide))
  replace C0 := Lib.hid C0
  have C1 : ∀ w1, Calls Tryd.prog 61 #[.int .u32 n, .int .i64 15, .int .i64 19, .int .i64 0] w1 fun e w' => e = .returned (.int .u32 (part n 15 19 0 : Nat)) ∧ w' = w1.drew := fun w1 => part_any n 15 19 0 w1 hn (by decide) (by decide) (by decide) (by decide) (part_lt (by decide))
  replace C1 := Lib.hid C1
  have C2 : ∀ w1, Calls Tryd.prog 61 #[.int .u32 n, .int .i64 20, .int .i64 24, .int .i64 0] w1 fun e w' => e = .returned (.int .u32 (part n 20 24 0 : Nat)) ∧ w' = w1.drew := fun w1 => part_any n 20 24 0 w1 hn (by decide) (by decide) (by decide) (by decide) (part_lt (by decide))
  replace C2 := Lib.hid C2
  have C3 : ∀ w1, Calls Tryd.prog 61 #[.int .u32 n, .int .i64 21, .int .i64 30, .int .i64 1] w1 fun e w' => e = .returned (.int .u32 (part n 21 30 1 : Nat)) ∧ w' = w1.drew := fun w1 => part_any n 21 30 1 w1 hn (by decide) (by decide) (by decide) (by decide) (part_lt (by decide))
  replace C3 := Lib.hid C3
  have C4 : ∀ w1, Calls Tryd.prog 61 #[.int .u32 n, .int .i64 20, .int .i64 20, .int .i64 11] w1 fun e w' => e = .returned (.int .u32 (part n 20 20 11 : Nat)) ∧ w' = w1.drew := fun w1 => part_any n 20 20 11 w1 hn (by decide) (by decide) (by decide) (by decide) (part_lt (by decide))
  replace C4 := Lib.hid C4
  have C5 : ∀ w1, Calls Tryd.prog 61 #[.int .u32 n, .int .i64 12, .int .i64 19, .int .i64 12] w1 fun e w' => e = .returned (.int .u32 (part n 12 19 12 : Nat)) ∧ w' = w1.drew := fun w1 => part_any n 12 19 12 w1 hn (by decide) (by decide) (by decide) (by decide) (part_lt (by decide))
  replace C5 := Lib.hid C5
  have C6 : ∀ w1, Calls Tryd.prog 61 #[.int .u32 n, .int .i64 31, .int .i64 31, .int .i64 20] w1 fun e w' => e = .returned (.int .u32 (part n 31 31 20 : Nat)) ∧ w' = w1.drew := fun w1 => part_any n 31 31 20 w1 hn (by decide) (by decide) (by decide) (by decide) (part_lt (by decide))
  replace C6 := Lib.hid C6
  have lt0 : part n 21 30 1 < 4294967296 := part_lt (by decide)
  have lt1 : part n 20 20 11 < 4294967296 := part_lt (by decide)
  have q1 : bits .or .u32 (((part n 21 30 1) : Nat) : Int) ((part n 20 20 11 : Nat) : Int) = (((part n 21 30 1 ||| part n 20 20 11) : Nat) : Int) := u32_or (part n 21 30 1) (part n 20 20 11) lt0 lt1
  have al1 : part n 21 30 1 ||| part n 20 20 11 < 4294967296 := or_lt (a := part n 21 30 1) (b := part n 20 20 11) lt0 lt1
  have lt2 : part n 12 19 12 < 4294967296 := part_lt (by decide)
  have q2 : bits .or .u32 (((part n 21 30 1 ||| part n 20 20 11) : Nat) : Int) ((part n 12 19 12 : Nat) : Int) = (((part n 21 30 1 ||| part n 20 20 11 ||| part n 12 19 12) : Nat) : Int) := u32_or (part n 21 30 1 ||| part n 20 20 11) (part n 12 19 12) al1 lt2
  have al2 : part n 21 30 1 ||| part n 20 20 11 ||| part n 12 19 12 < 4294967296 := or_lt (a := part n 21 30 1 ||| part n 20 20 11) (b := part n 12 19 12) al1 lt2
  have lt3 : part n 31 31 20 < 4294967296 := part_lt (by decide)
  have q3 : bits .or .u32 (((part n 21 30 1 ||| part n 20 20 11 ||| part n 12 19 12) : Nat) : Int) ((part n 31 31 20 : Nat) : Int) = (((part n 21 30 1 ||| part n 20 20 11 ||| part n 12 19 12 ||| part n 31 31 20) : Nat) : Int) := u32_or (part n 21 30 1 ||| part n 20 20 11 ||| part n 12 19 12) (part n 31 31 20) al2 lt3
  have al3 : part n 21 30 1 ||| part n 20 20 11 ||| part n 12 19 12 ||| part n 31 31 20 < 4294967296 := or_lt (a := part n 21 30 1 ||| part n 20 20 11 ||| part n 12 19 12) (b := part n 31 31 20) al2 lt3
  have HS : ∀ w1, Calls Tryd.prog 63 #[.int .u32 ((part n 21 30 1 ||| part n 20 20 11 ||| part n 12 19 12 ||| part n 31 31 20 : Nat) : Int), .int .i64 21] w1 fun e w' => e = .returned (.int .i64 (sgn (part n 21 30 1 ||| part n 20 20 11 ||| part n 12 19 12 ||| part n 31 31 20) 21)) ∧ w' = w1 := fun w1 => signed21 (part n 21 30 1 ||| part n 20 20 11 ||| part n 12 19 12 ||| part n 31 31 20) (by rw [ext6]; omega) w1
  replace HS := Lib.hid HS
  have hX : extF i n = ⟨i, (((part n 7 11 0 : Nat)) : Int), 0, 0, (sgn (part n 21 30 1 ||| part n 20 20 11 ||| part n 12 19 12 ||| part n 31 31 20) 21)⟩ := by
    unfold extF
    rw [hk]
    rfl
  have HE : ∀ w1, Laid w1 → Calls Tryd.prog 35 #[rvA i (((part n 7 11 0 : Nat)) : Int) 0 0 (sgn (part n 21 30 1 ||| part n 20 20 11 ||| part n 12 19 12 ||| part n 31 31 20) 21)] w1 fun e w' => e = .returned (.int .u32 (encF (extF i n) : Nat)) ∧ Below w1.heap.size w1 w' := fun w1 h1 => by
    rw [hX] at hV ⊢
    refine encode_any i hi _ _ _ _ ?_ w1 h1
    have := hV.2.2
    simpa using this
  replace HE := Lib.hid HE
  have HR : decF n = if encF (extF i n) = n then some (extF i n) else none := by
    unfold decF
    rw [hf]
  rw [hX] at HR
  replace HR := Lib.hid HR
  rw [hX] at HE
  have hN : encF ⟨i, (((part n 7 11 0 : Nat)) : Int), 0, 0, (sgn (part n 21 30 1 ||| part n 20 20 11 ||| part n 12 19 12 ||| part n 31 31 20) 21)⟩ < 4294967296 := by
    rw [← hX]
    exact (enc_facts hV).1
  have HFM := Lib.hid (fun w1 (h1 : Laid w1) => h1.fm i hi)
  generalize encF ⟨i, (((part n 7 11 0 : Nat)) : Int), 0, 0, (sgn (part n 21 30 1 ||| part n 20 20 11 ||| part n 12 19 12 ||| part n 31 31 20) 21)⟩ = N at HE HR hN
  generalize sgn (part n 21 30 1 ||| part n 20 20 11 ||| part n 12 19 12 ||| part n 31 31 20) 21 = I at HS HE HR
  generalize hO3 : (part n 21 30 1 ||| part n 20 20 11 ||| part n 12 19 12 ||| part n 31 31 20) = O3 at *
  clear hO3
  generalize hO2 : (part n 21 30 1 ||| part n 20 20 11 ||| part n 12 19 12) = O2 at *
  clear hO2
  generalize hO1 : (part n 21 30 1 ||| part n 20 20 11) = O1 at *
  clear hO1
  generalize part n 7 11 0 = P7 at *
  generalize part n 15 19 0 = P15 at *
  generalize part n 20 24 0 = P20 at *
  generalize part n 21 30 1 = P_21_30_1 at *
  generalize part n 20 20 11 = P_20_20_11 at *
  generalize part n 12 19 12 = P_12_19_12 at *
  generalize part n 31 31 20 = P_31_31_20 at *
  clear hV hX hf
  go_enter Tryd.func44, Tryd.ntmps44
  go_upto_region 1 with fail
  have r0 := heap_alloc_new w (.cells #[.int .i64 0, .int .i64 0, .int .i64 0, .int .i64 0, .int .i64 0] 23)
  have hB0 : Below w.heap.size w (w.alloc (.cells #[.int .i64 0, .int .i64 0, .int .i64 0, .int .i64 0, .int .i64 0] 23)) := (Below.refl _ _).alloc (Nat.le_refl _) _
  replace hL := hL.below hB0
  replace hM := hM.below hB0
  generalize World.alloc w _ = W at r0 hB0 hL hM ⊢
  obtain ⟨M0, hM0⟩ : ∃ M0, w.heap.size = M0 := ⟨_, rfl⟩
  rw [hM0] at r0 hB0 ⊢
  replace hM0 := hM0
  go_wp2_with fail
  refine (HF.out _ hM).mono ?_
  rintro e w2 ⟨rfl, hb2⟩
  replace hL := hL.below hb2
  replace r0 := (hb2.block _ (lt_of_block r0)).trans r0
  have HB := Lib.hid (hB0.trans (hb2.mono (show M0 ≤ W.heap.size by rw [← hM0]; exact hB0.size)))
  clear hb2 hB0 hM HF
  go_upto_region 5 with (first | (with_reducible refine (C0.out _).mono ?_; rintro e w' ⟨rfl, rfl⟩) | (with_reducible refine (C1.out _).mono ?_; rintro e w' ⟨rfl, rfl⟩) | (with_reducible refine (C2.out _).mono ?_; rintro e w' ⟨rfl, rfl⟩) | (with_reducible refine (C3.out _).mono ?_; rintro e w' ⟨rfl, rfl⟩) | (with_reducible refine (C4.out _).mono ?_; rintro e w' ⟨rfl, rfl⟩) | (with_reducible refine (C5.out _).mono ?_; rintro e w' ⟨rfl, rfl⟩) | (with_reducible refine (C6.out _).mono ?_; rintro e w' ⟨rfl, rfl⟩) | (with_reducible refine (HS.out _).mono ?_; rintro e w' ⟨rfl, rfl⟩))
  obtain ⟨f0, -, -, -⟩ := HFM.out _ (hL.below (drewR (drewR (drewR (Below.refl _ _)))))
  rw [hk] at f0
  clear hk HFM
  replace hL := hL.below (drewR (drewR (drewR (Below.refl _ _))))
  replace HB := Lib.hid (drewR (drewR (drewR HB.out)))
  have r1 := show w2.drew.drew.drew.heap[M0]? = _ from r0
  clear r0
  generalize World.drew w2.drew.drew = W3 at hL HB r1 f0 ⊢
  have l0 : M0 < W3.heap.size := lt_of_block r1
  have lF : 1 < W3.heap.size := block_lt_of_cell f0
  go_wp2_with (first | (with_reducible refine (C0.out _).mono ?_; rintro e w' ⟨rfl, rfl⟩) | (with_reducible refine (C1.out _).mono ?_; rintro e w' ⟨rfl, rfl⟩) | (with_reducible refine (C2.out _).mono ?_; rintro e w' ⟨rfl, rfl⟩) | (with_reducible refine (C3.out _).mono ?_; rintro e w' ⟨rfl, rfl⟩) | (with_reducible refine (C4.out _).mono ?_; rintro e w' ⟨rfl, rfl⟩) | (with_reducible refine (C5.out _).mono ?_; rintro e w' ⟨rfl, rfl⟩) | (with_reducible refine (C6.out _).mono ?_; rintro e w' ⟨rfl, rfl⟩) | (with_reducible refine (HS.out _).mono ?_; rintro e w' ⟨rfl, rfl⟩))
  have hx := show (W3.alloc (.cells #[.int .i64 (i : Int), .int .i64 (P7 : Int), .int .i64 0, .int .i64 0, .int .i64 I] 23)).drew.drew.drew.drew.heap[W3.heap.size]? = _ from heap_alloc_new W3 (.cells #[.int .i64 (i : Int), .int .i64 (P7 : Int), .int .i64 0, .int .i64 0, .int .i64 I] 23)
  have r2 := show (W3.alloc (.cells #[.int .i64 (i : Int), .int .i64 (P7 : Int), .int .i64 0, .int .i64 0, .int .i64 I] 23)).drew.drew.drew.drew.heap[M0]? = _ from (heap_alloc_old W3 (.cells #[.int .i64 (i : Int), .int .i64 (P7 : Int), .int .i64 0, .int .i64 0, .int .i64 I] 23) l0).trans r1
  have hb4 : Below M0 w ((W3.alloc (.cells #[.int .i64 (i : Int), .int .i64 (P7 : Int), .int .i64 0, .int .i64 0, .int .i64 I] 23)).drew.drew.drew.drew) := drewR (drewR (drewR (drewR (HB.out.alloc (Nat.le_of_lt l0) (.cells #[.int .i64 (i : Int), .int .i64 (P7 : Int), .int .i64 0, .int .i64 0, .int .i64 I] 23)))))
  have hL4 : Laid ((W3.alloc (.cells #[.int .i64 (i : Int), .int .i64 (P7 : Int), .int .i64 0, .int .i64 0, .int .i64 I] 23)).drew.drew.drew.drew) := hL.below (drewR (drewR (drewR (drewR ((Below.refl _ _).alloc (Nat.le_refl _) (.cells #[.int .i64 (i : Int), .int .i64 (P7 : Int), .int .i64 0, .int .i64 0, .int .i64 I] 23))))))
  clear hL HB r1 f0 l0 lF
  generalize (W3.alloc (.cells #[.int .i64 (i : Int), .int .i64 (P7 : Int), .int .i64 0, .int .i64 0, .int .i64 I] 23)).drew.drew.drew.drew = W4 at hx r2 hb4 hL4 ⊢
  generalize W3.heap.size = X at hx ⊢
  refine (HE.out _ hL4).mono ?_
  rintro e w5 ⟨rfl, hb5⟩
  replace hx := (hb5.block _ (lt_of_block hx)).trans hx
  have r0 := (hb5.block _ (lt_of_block r2)).trans r2
  have HB := Lib.hid (hb4.trans (hb5.mono (show M0 ≤ W4.heap.size by rw [← hM0]; exact hb4.size)))
  clear r2 hb4 hL4 hb5 HE
  obtain ⟨x0, x1, x2, x3, x4⟩ := cells5r hx
  by_cases hNn : N = n
  · replace HR := Lib.hid (HR.out.trans (if_pos hNn))
    subst hNn
    go_wp2_with (refine wpList_store_row rfl _ _ _ rfl M0 #[.int .i64 (i : Int), .int .i64 (P7 : Int), .int .i64 0, .int .i64 0, .int .i64 I] rfl rfl 23 _ r0 (infoC _ _ _ _ _) rfl (oneI _ _ _ _ _) ?_)
    have rr := setRow_heap _ M0 _ #[.int .i64 (i : Int), .int .i64 (P7 : Int), .int .i64 0, .int .i64 0, .int .i64 I] 23 (0, 0) r0
    have hB7 := bel_setRow (HB.out) (Nat.le_refl M0) #[.int .i64 (i : Int), .int .i64 (P7 : Int), .int .i64 0, .int .i64 0, .int .i64 I]
    refine bodyPost_ret (res2c rfl _ _ M0 #[.int .i64 (i : Int), .int .i64 (P7 : Int), .int .i64 0, .int .i64 0, .int .i64 I] rfl (loadRv _ M0 _ _ _ _ _ rr)) rfl ⟨?_, by rw [hM0]; exact hB7⟩
    rw [HR.out]
    rfl
  · replace HR := Lib.hid (HR.out.trans (if_neg hNn))
    have hNi : ¬ (N : Int) = (n : Int) := by omega
    clear hNn
    go_wp2_with (refine wpList_store_row rfl _ _ _ rfl M0 #[.int .i64 0, .int .i64 0, .int .i64 0, .int .i64 0, .int .i64 0] rfl rfl 23 _ r0 (infoC _ _ _ _ _) rfl (oneI _ _ _ _ _) ?_)
    have rr := setRow_heap _ M0 _ #[.int .i64 0, .int .i64 0, .int .i64 0, .int .i64 0, .int .i64 0] 23 (0, 0) r0
    have hB7 := bel_setRow (HB.out) (Nat.le_refl M0) #[.int .i64 0, .int .i64 0, .int .i64 0, .int .i64 0, .int .i64 0]
    refine bodyPost_ret (res2c rfl _ _ M0 #[.int .i64 0, .int .i64 0, .int .i64 0, .int .i64 0, .int .i64 0] rfl (loadRv _ M0 _ _ _ _ _ rr)) rfl ⟨?_, by rw [hM0]; exact hB7⟩
    rw [HR.out]
    rfl
set_option maxRecDepth 100000 in
set_option maxHeartbeats 8000000 in
/-- decode from where the operation is found, kind 7. -/
theorem decode_k7 (n M i : Nat) (hn : n < 4294967296) (w : World) (hL : Laid w) (hM : MapN w M 41) (hf : findF n = some i) (hi : i < 41) (hk : kT i = 7) :
    Calls Tryd.prog 44 #[.map (some M), .int .u32 n] w fun e w' => e = .returned (decV (decF n)) ∧ Below w.heap.size w w' := by
  have HF := Lib.hid (fun w1 h1 => find_any n M hn w1 h1)
  rw [hf] at HF
  unfold findV at HF
  simp only [Option.getD_some, Option.isSome_some] at HF
  have hV := ext_Val hi hn
  have l7 : part n 7 11 0 < 32 := by unfold part; simp; omega
  have l15 : part n 15 19 0 < 32 := by unfold part; simp; omega
  have l20 : part n 20 24 0 < 32 := by unfold part; simp; omega
  have C0 : ∀ w1, Calls Tryd.prog 61 #[.int .u32 n, .int .i64 7, .int .i64 11, .int .i64 0] w1 fun e w' => e = .returned (.int .u32 (part n 7 11 0 : Nat)) ∧ w' = w1.drew := fun w1 => part_any n 7 11 0 w1 hn (by decide) (by decide) (by decide) (by decide) (part_lt (by decide))
  replace C0 := Lib.hid C0
  have C1 : ∀ w1, Calls Tryd.prog 61 #[.int .u32 n, .int .i64 15, .int .i64 19, .int .i64 0] w1 fun e w' => e = .returned (.int .u32 (part n 15 19 0 : Nat)) ∧ w' = w1.drew := fun w1 => part_any n 15 19 0 w1 hn (by decide) (by decide) (by decide) (by decide) (part_lt (by decide))
  replace C1 := Lib.hid C1
  have C2 : ∀ w1, Calls Tryd.prog 61 #[.int .u32 n, .int .i64 20, .int .i64 24, .int .i64 0] w1 fun e w' => e = .returned (.int .u32 (part n 20 24 0 : Nat)) ∧ w' = w1.drew := fun w1 => part_any n 20 24 0 w1 hn (by decide) (by decide) (by decide) (by decide) (part_lt (by decide))
  replace C2 := Lib.hid C2
  have hX : extF i n = ⟨i, 0, 0, 0, 0⟩ := by
    unfold extF
    rw [hk]
    rfl
  have HE : ∀ w1, Laid w1 → Calls Tryd.prog 35 #[rvA i 0 0 0 0] w1 fun e w' => e = .returned (.int .u32 (encF (extF i n) : Nat)) ∧ Below w1.heap.size w1 w' := fun w1 h1 => by
    rw [hX] at hV ⊢
    refine encode_any i hi _ _ _ _ ?_ w1 h1
    have := hV.2.2
    simpa using this
  replace HE := Lib.hid HE
  have HR : decF n = if encF (extF i n) = n then some (extF i n) else none := by
    unfold decF
    rw [hf]
  rw [hX] at HR
  replace HR := Lib.hid HR
  rw [hX] at HE
  have hN : encF ⟨i, 0, 0, 0, 0⟩ < 4294967296 := by
    rw [← hX]
    exact (enc_facts hV).1
  have HFM := Lib.hid (fun w1 (h1 : Laid w1) => h1.fm i hi)
  generalize encF ⟨i, 0, 0, 0, 0⟩ = N at HE HR hN
  generalize part n 7 11 0 = P7 at *
  generalize part n 15 19 0 = P15 at *
  generalize part n 20 24 0 = P20 at *
  clear hV hX hf
  go_enter Tryd.func44, Tryd.ntmps44
  go_upto_region 1 with fail
  have r0 := heap_alloc_new w (.cells #[.int .i64 0, .int .i64 0, .int .i64 0, .int .i64 0, .int .i64 0] 23)
  have hB0 : Below w.heap.size w (w.alloc (.cells #[.int .i64 0, .int .i64 0, .int .i64 0, .int .i64 0, .int .i64 0] 23)) := (Below.refl _ _).alloc (Nat.le_refl _) _
  replace hL := hL.below hB0
  replace hM := hM.below hB0
  generalize World.alloc w _ = W at r0 hB0 hL hM ⊢
  obtain ⟨M0, hM0⟩ : ∃ M0, w.heap.size = M0 := ⟨_, rfl⟩
  rw [hM0] at r0 hB0 ⊢
  replace hM0 := hM0
  go_wp2_with fail
  refine (HF.out _ hM).mono ?_
  rintro e w2 ⟨rfl, hb2⟩
  replace hL := hL.below hb2
  replace r0 := (hb2.block _ (lt_of_block r0)).trans r0
  have HB := Lib.hid (hB0.trans (hb2.mono (show M0 ≤ W.heap.size by rw [← hM0]; exact hB0.size)))
  clear hb2 hB0 hM HF
  go_upto_region 5 with (first | (with_reducible refine (C0.out _).mono ?_; rintro e w' ⟨rfl, rfl⟩) | (with_reducible refine (C1.out _).mono ?_; rintro e w' ⟨rfl, rfl⟩) | (with_reducible refine (C2.out _).mono ?_; rintro e w' ⟨rfl, rfl⟩))
  obtain ⟨f0, -, -, -⟩ := HFM.out _ (hL.below (drewR (drewR (drewR (Below.refl _ _)))))
  rw [hk] at f0
  clear hk HFM
  replace hL := hL.below (drewR (drewR (drewR (Below.refl _ _))))
  replace HB := Lib.hid (drewR (drewR (drewR HB.out)))
  have r1 := show w2.drew.drew.drew.heap[M0]? = _ from r0
  clear r0
  generalize World.drew w2.drew.drew = W3 at hL HB r1 f0 ⊢
  have l0 : M0 < W3.heap.size := lt_of_block r1
  have lF : 1 < W3.heap.size := block_lt_of_cell f0
  go_wp2_with (first | (with_reducible refine (C0.out _).mono ?_; rintro e w' ⟨rfl, rfl⟩) | (with_reducible refine (C1.out _).mono ?_; rintro e w' ⟨rfl, rfl⟩) | (with_reducible refine (C2.out _).mono ?_; rintro e w' ⟨rfl, rfl⟩))
  have hx := show (W3.alloc (.cells #[.int .i64 (i : Int), .int .i64 0, .int .i64 0, .int .i64 0, .int .i64 0] 23)).heap[W3.heap.size]? = _ from heap_alloc_new W3 (.cells #[.int .i64 (i : Int), .int .i64 0, .int .i64 0, .int .i64 0, .int .i64 0] 23)
  have r2 := show (W3.alloc (.cells #[.int .i64 (i : Int), .int .i64 0, .int .i64 0, .int .i64 0, .int .i64 0] 23)).heap[M0]? = _ from (heap_alloc_old W3 (.cells #[.int .i64 (i : Int), .int .i64 0, .int .i64 0, .int .i64 0, .int .i64 0] 23) l0).trans r1
  have hb4 : Below M0 w ((W3.alloc (.cells #[.int .i64 (i : Int), .int .i64 0, .int .i64 0, .int .i64 0, .int .i64 0] 23))) := HB.out.alloc (Nat.le_of_lt l0) (.cells #[.int .i64 (i : Int), .int .i64 0, .int .i64 0, .int .i64 0, .int .i64 0] 23)
  have hL4 : Laid ((W3.alloc (.cells #[.int .i64 (i : Int), .int .i64 0, .int .i64 0, .int .i64 0, .int .i64 0] 23))) := hL.below ((Below.refl _ _).alloc (Nat.le_refl _) (.cells #[.int .i64 (i : Int), .int .i64 0, .int .i64 0, .int .i64 0, .int .i64 0] 23))
  clear hL HB r1 f0 l0 lF
  generalize (W3.alloc (.cells #[.int .i64 (i : Int), .int .i64 0, .int .i64 0, .int .i64 0, .int .i64 0] 23)) = W4 at hx r2 hb4 hL4 ⊢
  generalize W3.heap.size = X at hx ⊢
  refine (HE.out _ hL4).mono ?_
  rintro e w5 ⟨rfl, hb5⟩
  replace hx := (hb5.block _ (lt_of_block hx)).trans hx
  have r0 := (hb5.block _ (lt_of_block r2)).trans r2
  have HB := Lib.hid (hb4.trans (hb5.mono (show M0 ≤ W4.heap.size by rw [← hM0]; exact hb4.size)))
  clear r2 hb4 hL4 hb5 HE
  obtain ⟨x0, x1, x2, x3, x4⟩ := cells5r hx
  by_cases hNn : N = n
  · replace HR := Lib.hid (HR.out.trans (if_pos hNn))
    subst hNn
    go_wp2_with (refine wpList_store_row rfl _ _ _ rfl M0 #[.int .i64 (i : Int), .int .i64 0, .int .i64 0, .int .i64 0, .int .i64 0] rfl rfl 23 _ r0 (infoC _ _ _ _ _) rfl (oneI _ _ _ _ _) ?_)
    have rr := setRow_heap _ M0 _ #[.int .i64 (i : Int), .int .i64 0, .int .i64 0, .int .i64 0, .int .i64 0] 23 (0, 0) r0
    have hB7 := bel_setRow (HB.out) (Nat.le_refl M0) #[.int .i64 (i : Int), .int .i64 0, .int .i64 0, .int .i64 0, .int .i64 0]
    refine bodyPost_ret (res2c rfl _ _ M0 #[.int .i64 (i : Int), .int .i64 0, .int .i64 0, .int .i64 0, .int .i64 0] rfl (loadRv _ M0 _ _ _ _ _ rr)) rfl ⟨?_, by rw [hM0]; exact hB7⟩
    rw [HR.out]
    rfl
  · replace HR := Lib.hid (HR.out.trans (if_neg hNn))
    have hNi : ¬ (N : Int) = (n : Int) := by omega
    clear hNn
    go_wp2_with (refine wpList_store_row rfl _ _ _ rfl M0 #[.int .i64 0, .int .i64 0, .int .i64 0, .int .i64 0, .int .i64 0] rfl rfl 23 _ r0 (infoC _ _ _ _ _) rfl (oneI _ _ _ _ _) ?_)
    have rr := setRow_heap _ M0 _ #[.int .i64 0, .int .i64 0, .int .i64 0, .int .i64 0, .int .i64 0] 23 (0, 0) r0
    have hB7 := bel_setRow (HB.out) (Nat.le_refl M0) #[.int .i64 0, .int .i64 0, .int .i64 0, .int .i64 0, .int .i64 0]
    refine bodyPost_ret (res2c rfl _ _ M0 #[.int .i64 0, .int .i64 0, .int .i64 0, .int .i64 0, .int .i64 0] rfl (loadRv _ M0 _ _ _ _ _ rr)) rfl ⟨?_, by rw [hM0]; exact hB7⟩
    rw [HR.out]
    rfl
set_option maxRecDepth 100000 in
set_option maxHeartbeats 8000000 in
theorem decode_none (n M : Nat) (hn : n < 4294967296) (w : World) (hM : MapN w M 41) (hf : findF n = none) :
    Calls Tryd.prog 44 #[.map (some M), .int .u32 n] w fun e w' => e = .returned (decV (decF n)) ∧ Below w.heap.size w w' := by
  have HF := Lib.hid (fun w1 h1 => find_any n M hn w1 h1)
  rw [hf] at HF
  unfold findV at HF
  simp only [Option.getD_none, Option.isSome_none] at HF
  have HR : decF n = none := by
    unfold decF
    rw [hf]
  replace HR := Lib.hid HR
  clear hf
  go_enter Tryd.func44, Tryd.ntmps44
  go_upto_region 1 with fail
  have r0 := heap_alloc_new w (.cells #[.int .i64 0, .int .i64 0, .int .i64 0, .int .i64 0, .int .i64 0] 23)
  have hB0 : Below w.heap.size w (w.alloc (.cells #[.int .i64 0, .int .i64 0, .int .i64 0, .int .i64 0, .int .i64 0] 23)) := (Below.refl _ _).alloc (Nat.le_refl _) _
  replace hM := hM.below hB0
  generalize World.alloc w _ = W at r0 hB0 hM ⊢
  obtain ⟨M0, hM0⟩ : ∃ M0, w.heap.size = M0 := ⟨_, rfl⟩
  rw [hM0] at r0 hB0 ⊢
  go_wp2_with fail
  refine (HF.out _ hM).mono ?_
  rintro e w2 ⟨rfl, hb2⟩
  replace r0 := (hb2.block _ (lt_of_block r0)).trans r0
  have HB := Lib.hid (hB0.trans (hb2.mono (show M0 ≤ W.heap.size by rw [← hM0]; exact hB0.size)))
  clear hb2 hB0 hM HF
  go_wp2_with (refine wpList_store_row rfl _ _ _ rfl M0 #[.int .i64 0, .int .i64 0, .int .i64 0, .int .i64 0, .int .i64 0] rfl rfl 23 _ r0 (infoC _ _ _ _ _) rfl (oneI _ _ _ _ _) ?_)
  have rr := setRow_heap _ M0 _ #[.int .i64 0, .int .i64 0, .int .i64 0, .int .i64 0, .int .i64 0] 23 (0, 0) r0
  have hB7 := bel_setRow (HB.out) (Nat.le_refl M0) #[.int .i64 0, .int .i64 0, .int .i64 0, .int .i64 0, .int .i64 0]
  refine bodyPost_ret (res2c rfl _ _ M0 #[.int .i64 0, .int .i64 0, .int .i64 0, .int .i64 0, .int .i64 0] rfl (loadRv _ M0 _ _ _ _ _ rr)) rfl ⟨?_, by rw [hM0]; exact hB7⟩
  rw [HR.out]
  rfl
theorem decode_any (n M : Nat) (hn : n < 4294967296) (w : World) (hL : Laid w) (hM : MapN w M 41) :
    Calls Tryd.prog 44 #[.map (some M), .int .u32 n] w fun e w' => e = .returned (decV (decF n)) ∧ Below w.heap.size w w' := by
  rcases hf : findF n with _ | i
  · exact decode_none n M hn w hM hf
  · have hi := find_lt hf
    have hk := kT_le hi
    obtain hk | hk | hk | hk | hk | hk | hk | hk : kT i = 0 ∨ kT i = 1 ∨ kT i = 2 ∨ kT i = 3 ∨ kT i = 4 ∨ kT i = 5 ∨ kT i = 6 ∨ kT i = 7 := by omega
    · exact decode_k0 n M i hn w hL hM hf hi hk
    · exact decode_k1 n M i hn w hL hM hf hi hk
    · exact decode_k2 n M i hn w hL hM hf hi hk
    · exact decode_k3 n M i hn w hL hM hf hi hk
    · exact decode_k4 n M i hn w hL hM hf hi hk
    · exact decode_k5 n M i hn w hL hM hf hi hk
    · exact decode_k6 n M i hn w hL hM hf hi hk
    · exact decode_k7 n M i hn w hL hM hf hi hk
/-- The instruction that Decode answers. -/
def decI (n : Nat) : Rv := match decF n with | some x => x | none => ⟨0, 0, 0, 0, 0⟩
def decB (n : Nat) : Bool := (decF n).isSome
theorem decV_eq (n : Nat) : decV (decF n) = .tuple #[rvV (decI n), .bool (decB n)] := by
  unfold decV decI decB
  cases decF n <;> rfl
set_option maxRecDepth 100000 in
set_option maxHeartbeats 8000000 in
theorem Decode_any (n : Nat) (hn : n < 4294967296) (w : World) (hL : Laid w) : Calls Tryd.prog 16 #[.int .u32 n] w fun e w' => e = .returned (.tuple #[rvV (decI n), .bool (decB n)]) ∧ Below w.heap.size w w' := by
  have HO := Lib.hid (fun w1 h1 => newOps_any w1 h1)
  have HD := Lib.hid (fun w1 M h1 h2 => decode_any n M hn w1 h1 h2)
  rw [decV_eq] at HD
  generalize decI n = x at HD ⊢
  generalize decB n = b at HD ⊢
  obtain ⟨op, d, a, c, imm⟩ := x
  go_enter Tryd.func16, Tryd.ntmps16
  go_upto_region 1 with fail
  have r0 := heap_alloc_new w (.cells #[.int .i64 0, .int .i64 0, .int .i64 0, .int .i64 0, .int .i64 0] 23)
  have hB0 : Below w.heap.size w (w.alloc (.cells #[.int .i64 0, .int .i64 0, .int .i64 0, .int .i64 0, .int .i64 0] 23)) := (Below.refl _ _).alloc (Nat.le_refl _) _
  replace hL := hL.below hB0
  generalize World.alloc w _ = W at r0 hB0 hL ⊢
  obtain ⟨M0, hM0⟩ : ∃ M0, w.heap.size = M0 := ⟨_, rfl⟩
  rw [hM0] at r0 hB0 ⊢
  go_wp2_with fail
  refine (HO.out _ hL).mono ?_
  rintro e w2 ⟨M, rfl, hM, -, hb2⟩
  replace r0 := (hb2.block _ (lt_of_block r0)).trans r0
  replace hL := hL.below hb2
  replace hB0 := hB0.trans (hb2.mono (show M0 ≤ W.heap.size by rw [← hM0]; exact hB0.size))
  clear hb2 HO
  go_wp2_with fail
  refine (HD.out _ M hL hM).mono ?_
  rintro e w3 ⟨rfl, hb3⟩
  replace r0 := (hb3.block _ (lt_of_block r0)).trans r0
  have HB := Lib.hid (hB0.trans (hb3.mono (show M0 ≤ w2.heap.size by rw [← hM0]; exact hB0.size)))
  clear hb3 hB0 hL hM HD
  go_wp2_with (refine wpList_store_row rfl _ _ _ rfl M0 #[.int .i64 op, .int .i64 d, .int .i64 a, .int .i64 c, .int .i64 imm] rfl rfl 23 _ r0 (infoC _ _ _ _ _) rfl (oneI _ _ _ _ _) ?_)
  have rr := setRow_heap _ M0 _ #[.int .i64 op, .int .i64 d, .int .i64 a, .int .i64 c, .int .i64 imm] 23 (0, 0) r0
  have hB7 := bel_setRow (HB.out) (Nat.le_refl M0) #[.int .i64 op, .int .i64 d, .int .i64 a, .int .i64 c, .int .i64 imm]
  refine bodyPost_ret (res2c rfl _ _ M0 #[.int .i64 op, .int .i64 d, .int .i64 a, .int .i64 c, .int .i64 imm] rfl (loadRv _ M0 _ _ _ _ _ rr)) rfl ⟨?_, by rw [hM0]; exact hB7⟩
  rfl
end Go.Proofs.YthkaclmnbahieaaDoor
