/-
  The walk of RvZeros.
-/
import Derived.Test.YthkaclmnbahieaaDoorRvZx
import Derived.Test.YthkaclmnbahieaaDoorRvZy
namespace Go.Proofs.YthkaclmnbahieaaDoor
open Go.RowKit

theorem str_nil (A : Option Addr) (c : Nat) (w : World) : (convert 35 9 (.slice A 0 c)).run Tryd.prog w = .ok (.string (strI [])) w := by
  rw [run_convert_bytes_string w 35 9 5 _ 0 c Tryd.underlying35 Tryd.underlying5 Tryd.underlying9]
  cases A <;> simp [Conv.bytesToString, loadCells]
  all_goals rfl
section
variable {w : World} {MC : Array Value} {R : Nat → Nat} {fl : Int} {pc n c : Nat} {fin : Int} {A : Option Addr} {l : List Int}
set_option maxRecDepth 100000 in
set_option maxHeartbeats 4000000 in
theorem zeros_long (h : MachI MC R fl pc (.slice A n c) fin) (hL : Laid w) (hn : ¬ n ≤ 40000) : Calls Tryd.prog 11 #[.agg MC] w fun e w' => e = .returned (.bool true) ∧ Below w.heap.size w w' := by
  have hb0 : Below w.heap.size w (w.alloc (.cells MC 52)) := (Below.refl _ _).alloc (Nat.le_refl _) _
  have hx := heap_alloc_new w (.cells MC 52)
  obtain ⟨-, -, -, c34, -⟩ := h.cells hx
  have d1 : (40000 : Int) < (n : Int) := by omega
  have HB := Lib.hid hb0
  have HL := Lib.hid hL
  clear h hx hb0 hn hL
  go_enter Tryd.func11, Tryd.ntmps11
  go_upto_region 1 with fail
  generalize World.alloc w _ = W at c34 HB ⊢
  go_wp2_with fail
  refine (known_any _ (HL.out.below HB.out)).mono ?_
  rintro e w2 ⟨rfl, hb⟩
  go_wp2
  go_ret
  exact ⟨rfl, HB.out.trans (hb.mono HB.out.size)⟩
set_option maxRecDepth 100000 in
set_option maxHeartbeats 4000000 in
theorem zeros_err (h : MachI MC R fl pc (.slice A n c) fin) (hL : Laid w) (hn : n ≤ 40000) (Z : Nat) (hZ : ¬ Z = 0)
    (HS : ∀ w1, Below w.heap.size w w1 → Calls Tryd.prog 30 #[.agg MC] w1 fun e w' => e = .returned (.tuple #[.agg zeroMC, .int .i64 (Z : Nat)]) ∧ Below w1.heap.size w1 w') :
    Calls Tryd.prog 11 #[.agg MC] w fun e w' => e = .returned (.bool true) ∧ Below w.heap.size w w' := by
  have hb0 : Below w.heap.size w (w.alloc (.cells MC 52)) := (Below.refl _ _).alloc (Nat.le_refl _) _
  have hx := heap_alloc_new w (.cells MC 52)
  obtain ⟨-, -, -, c34, -⟩ := h.cells hx
  have d1 : ¬ (40000 : Int) < (n : Int) := by omega
  have d2 : ((Z : Int) != 0) = true := bne_iff_ne.mpr (by omega)
  have hs := h.size
  have HB := Lib.hid hb0
  have HL := Lib.hid hL
  have HSS := Lib.hid HS
  clear h hb0 hn hL hZ HS
  go_enter Tryd.func11, Tryd.ntmps11
  go_upto_region 1 with fail
  generalize World.alloc w _ = W at hx c34 HB ⊢
  obtain ⟨X, hX⟩ : ∃ X, X = w.heap.size := ⟨_, rfl⟩
  rw [← hX] at hx c34 ⊢
  have HX := Lib.hid hX
  clear hX
  go_wp2_with (refine wpList_load_row rfl _ _ rfl X rfl 52 MC (0, 0) _ hx Tryd.underlying52 rfl (by rw [hs]; kernel_rfl) ?_)
  refine (HSS.out _ HB.out).mono ?_
  rintro e w3 ⟨rfl, hb3⟩
  replace HB := Lib.hid (HB.out.trans (hb3.mono HB.out.size))
  clear hx c34 hb3 HSS
  have hy := heap_alloc_new w3 (.cells zeroMC 52)
  have hby : Below w3.heap.size w3 (w3.alloc (.cells zeroMC 52)) := (Below.refl _ _).alloc (Nat.le_refl _) _
  have HB4 := Lib.hid (bel_setRow (HB.out.trans (hby.mono HB.out.size)) HB.out.size zeroMC)
  clear hby
  go_upto_region 4 with (refine wpList_store_row rfl _ _ _ rfl w3.heap.size zeroMC rfl rfl 52 _ hy size_zero rfl one_zero ?_)
  clear hy
  generalize World.setRow _ _ _ = W4 at HB4 ⊢
  go_wp2_with fail
  refine (known_any _ (HL.out.below HB4.out)).mono ?_
  rintro e w5 ⟨rfl, hb5⟩
  go_wp2
  go_ret
  exact ⟨rfl, HB4.out.trans (hb5.mono HB4.out.size)⟩
set_option maxRecDepth 100000 in
set_option maxHeartbeats 4000000 in
theorem zeros_same (h : MachI MC R fl pc (.slice A n c) fin) (hL : Laid w) (hn : n ≤ 40000) (S : ByteArray) (hS : ∀ w1, Below w.heap.size w w1 → (convert 35 9 (.slice A n c)).run Tryd.prog w1 = .ok (.string S) w1)
    (HS : ∀ w1, Below w.heap.size w w1 → Calls Tryd.prog 30 #[.agg MC] w1 fun e w' => ∃ MC' R' pc' fin' A' c', e = .returned (.tuple #[.agg MC', .int .i64 0]) ∧ MachV MC' R' fl pc' (.slice A' n c') fin' ∧ R' 0 = 0 ∧ (∀ w2, Below w'.heap.size w' w2 → (convert 35 9 (.slice A' n c')).run Tryd.prog w2 = .ok (.string S) w2) ∧ Below w1.heap.size w1 w') :
    Calls Tryd.prog 11 #[.agg MC] w fun e w' => e = .returned (.bool true) ∧ Below w.heap.size w w' := by
  have hb0 : Below w.heap.size w (w.alloc (.cells MC 52)) := (Below.refl _ _).alloc (Nat.le_refl _) _
  have hx := heap_alloc_new w (.cells MC 52)
  obtain ⟨-, -, -, c34, -⟩ := h.cells hx
  have d1 : ¬ (40000 : Int) < (n : Int) := by omega
  have hs := h.size
  have HB := Lib.hid hb0
  have HL := Lib.hid hL
  have HH := Lib.hid h
  have HSS := Lib.hid HS
  have HCv := Lib.hid hS
  clear h hb0 hn hL HS hS
  go_enter Tryd.func11, Tryd.ntmps11
  go_upto_region 1 with fail
  generalize World.alloc w _ = W at hx c34 HB ⊢
  obtain ⟨X, hX⟩ : ∃ X, X = w.heap.size := ⟨_, rfl⟩
  rw [← hX] at hx c34 ⊢
  have HX := Lib.hid hX
  clear hX
  go_wp2_with (refine wpList_load_row rfl _ _ rfl X rfl 52 MC (0, 0) _ hx Tryd.underlying52 rfl (by rw [hs]; kernel_rfl) ?_)
  refine (HSS.out _ HB.out).mono ?_
  rintro e w3 ⟨MC', R', pc', fin', A', c', rfl, hV, hz, hcv, hb3⟩
  replace hx := (hb3.block _ (lt_of_block hx)).trans hx
  replace HB := Lib.hid (HB.out.trans (hb3.mono HB.out.size))
  clear c34 hb3 HSS
  have hxl := lt_of_block hx
  have hy := heap_alloc_new w3 (.cells zeroMC 52)
  have hby : Below w3.heap.size w3 (w3.alloc (.cells zeroMC 52)) := (Below.refl _ _).alloc (Nat.le_refl _) _
  have hx4 := (hby.block _ hxl).trans hx
  have HB4 := Lib.hid (bel_setRow (HB.out.trans (hby.mono HB.out.size)) HB.out.size MC')
  have hW4 := Lib.hid (bel_setRow hby (Nat.le_refl _) MC')
  have rr := setRow_heap _ w3.heap.size _ MC' 52 (0, 0) hy
  have rx := (setRow_other (w3.alloc (.cells zeroMC 52)) w3.heap.size X MC' (by omega)).trans hx4
  have hone := one_mach hV
  have hs' := hV.size
  have HV := Lib.hid hV
  have HCv' := Lib.hid hcv
  clear hby hx4 hx hV hcv hxl
  have HZ := Lib.hid hz
  clear hz
  go_upto_region 4 with (refine wpList_store_row rfl _ _ _ rfl w3.heap.size MC' rfl rfl 52 _ hy (by rw [hs']; kernel_rfl) (by rw [hs']; rfl) hone ?_)
  clear hy hone
  generalize World.setRow _ _ _ = W4 at HB4 hW4 rr rx ⊢
  have q1 := HCv.out _ HB4.out
  have q2 := HCv'.out _ hW4.out
  clear hW4 HCv HCv'
  generalize w3.heap.size = Y at *
  obtain ⟨a0, a32, -, a34, -⟩ := HH.out.cells rx
  obtain ⟨b0, b32, -, b34, -⟩ := (HV.out.mac rr).cells
  have b00 := b0 0 (by omega)
  rw [HZ.out] at b00
  clear a0 b0 rr rx hs hs'
  go_wp2_with fail
  refine (known_any _ (HL.out.below HB4.out)).mono ?_
  rintro e w5 ⟨rfl, hb5⟩
  go_wp2
  go_ret
  exact ⟨rfl, HB4.out.trans (hb5.mono HB4.out.size)⟩
set_option maxRecDepth 100000 in
set_option maxHeartbeats 4000000 in
theorem zeros_store (h : MachI MC R fl pc (.slice A n c) fin) (hL : Laid w) (hn : n ≤ 40000) (hR : ∀ j, R j < 4294967296) (hB : Byt w A n c l) (hpc : pc + 4 ≤ n) (xr : Rv) (hF : decF (ldF l pc 4) = some xr) (hop : 28 ≤ xr.op.toNat ∧ xr.op.toNat ≤ 30) (S S' : ByteArray) (hne : S.toList ≠ S'.toList) (hS : ∀ w1, Below w.heap.size w w1 → (convert 35 9 (.slice A n c)).run Tryd.prog w1 = .ok (.string S) w1)
    (HS : ∀ w1, Below w.heap.size w w1 → Calls Tryd.prog 30 #[.agg MC] w1 fun e w' => ∃ MC' pc' fin' A' c', e = .returned (.tuple #[.agg MC', .int .i64 0]) ∧ MachV MC' R fl pc' (.slice A' n c') fin' ∧ R 0 = 0 ∧ (∀ w2, Below w'.heap.size w' w2 → (convert 35 9 (.slice A' n c')).run Tryd.prog w2 = .ok (.string S') w2) ∧ Below w1.heap.size w1 w') :
    Calls Tryd.prog 11 #[.agg MC] w fun e w' => e = .returned (.bool true) ∧ Below w.heap.size w w' := by
  have hb0 : Below w.heap.size w (w.alloc (.cells MC 52)) := (Below.refl _ _).alloc (Nat.le_refl _) _
  have hx := heap_alloc_new w (.cells MC 52)
  obtain ⟨-, -, -, c34, -⟩ := h.cells hx
  have d1 : ¬ (40000 : Int) < (n : Int) := by omega
  have hs := h.size
  have HB := Lib.hid hb0
  have HL := Lib.hid hL
  have HH := Lib.hid h
  have HSS := Lib.hid HS
  have HCv := Lib.hid hS
  have HBy := Lib.hid hB
  have HF := Lib.hid hF
  have HR := Lib.hid hR
  have hnm := Lib.hid hn
  have hop1 : 28 ≤ xr.op := by omega
  have hop2 : xr.op ≤ 30 := by omega
  have hpc4 : ¬ (n : Int) < (pc : Int) + 4 := by omega
  have hse : (S'.toList == S.toList) = false := beq_eq_false_iff_ne.mpr (fun e => hne e.symm)
  have HPC := Lib.hid hpc
  clear h hb0 hn hL HS hS hB hF hR hop hne hpc
  go_enter Tryd.func11, Tryd.ntmps11
  go_upto_region 1 with fail
  generalize World.alloc w _ = W at hx c34 HB ⊢
  obtain ⟨X, hX⟩ : ∃ X, X = w.heap.size := ⟨_, rfl⟩
  rw [← hX] at hx c34 ⊢
  have HX := Lib.hid hX
  clear hX
  go_wp2_with (refine wpList_load_row rfl _ _ rfl X rfl 52 MC (0, 0) _ hx Tryd.underlying52 rfl (by rw [hs]; kernel_rfl) ?_)
  refine (HSS.out _ HB.out).mono ?_
  rintro e w3 ⟨MC', pc', fin', A', c', rfl, hV, hz, hcv, hb3⟩
  replace hx := (hb3.block _ (lt_of_block hx)).trans hx
  replace HB := Lib.hid (HB.out.trans (hb3.mono HB.out.size))
  clear c34 hb3 HSS
  have hxl := lt_of_block hx
  have hy := heap_alloc_new w3 (.cells zeroMC 52)
  have hby : Below w3.heap.size w3 (w3.alloc (.cells zeroMC 52)) := (Below.refl _ _).alloc (Nat.le_refl _) _
  have hx4 := (hby.block _ hxl).trans hx
  have HB4 := Lib.hid (bel_setRow (HB.out.trans (hby.mono HB.out.size)) HB.out.size MC')
  have hW4 := Lib.hid (bel_setRow hby (Nat.le_refl _) MC')
  have rr := setRow_heap _ w3.heap.size _ MC' 52 (0, 0) hy
  have rx := (setRow_other (w3.alloc (.cells zeroMC 52)) w3.heap.size X MC' (by omega)).trans hx4
  have hone := one_mach hV
  have hs' := hV.size
  have HV := Lib.hid hV
  have HCv' := Lib.hid hcv
  clear hby hx4 hx hV hcv hxl
  have HZ := Lib.hid hz
  clear hz
  go_upto_region 4 with (refine wpList_store_row rfl _ _ _ rfl w3.heap.size MC' rfl rfl 52 _ hy (by rw [hs']; kernel_rfl) (by rw [hs']; rfl) hone ?_)
  clear hy hone
  generalize World.setRow _ _ _ = W4 at HB4 hW4 rr rx ⊢
  have q1 := HCv.out _ HB4.out
  have q2 := HCv'.out _ hW4.out
  clear hW4 HCv HCv'
  generalize w3.heap.size = Y at *
  obtain ⟨a0, a32, a33, a34, -⟩ := HH.out.cells rx
  obtain ⟨b0, b32, -, b34, -⟩ := (HV.out.mac rr).cells
  have b00 := b0 0 (by omega)
  rw [HZ.out] at b00
  have HX4 := Lib.hid rx
  have HY4 := Lib.hid rr
  clear a0 b0 rr rx hs hs'
  go_upto_region 12 with fail
  have hp40 : pc + 4 ≤ 40000 := Nat.le_trans HPC.out hnm.out
  have hB4 := HBy.out.below HB4.out
  clear d1 b34 b32 b00 q1 q2 a32
  have hbi := hB4.2.2.2.1
  obtain ⟨b, off, rfl, hbs, hc0, -, -⟩ := hB4.at_ (j := pc) (by have := HPC.out; omega)
  obtain ⟨b', off', hAe, -, hc1, -, -⟩ := hB4.at_ (j := pc + 1) (by have := HPC.out; omega)
  cases hAe
  obtain ⟨b', off', hAe, -, hc2, -, -⟩ := hB4.at_ (j := pc + 2) (by have := HPC.out; omega)
  cases hAe
  obtain ⟨b', off', hAe, -, hc3, -, -⟩ := hB4.at_ (j := pc + 3) (by have := HPC.out; omega)
  cases hAe
  have hnat : ∀ j, j < 4 → ∃ x : Nat, l[pc + j]! = (x : Int) ∧ x < 256 := fun j hj => by
    have := hbi (pc + j) (by have := HPC.out; omega)
    exact ⟨(l[pc + j]!).toNat, by omega, by omega⟩
  obtain ⟨x0, e0, y0⟩ := hnat 0 (by decide)
  obtain ⟨x1, e1, y1⟩ := hnat 1 (by decide)
  obtain ⟨x2, e2, y2⟩ := hnat 2 (by decide)
  obtain ⟨x3, e3, y3⟩ := hnat 3 (by decide)
  rw [Nat.add_zero] at e0
  rw [e0] at hc0
  rw [e1] at hc1
  rw [e2] at hc2
  rw [e3] at hc3
  have HE := Lib.hid (And.intro e0 (And.intro e1 (And.intro e2 e3)))
  have v1 : bits .or .u32 (x0 : Int) ((x1 : Int) * 256) = ((x0 + x1 * 256 : Nat) : Int) := u32_put (a := x0) (x := x1) (k := 8) (by omega) y1 (by decide)
  have v2 : bits .or .u32 ((x0 + x1 * 256 : Nat) : Int) ((x2 : Int) * 65536) = ((x0 + x1 * 256 + x2 * 65536 : Nat) : Int) := u32_put (a := x0 + x1 * 256) (x := x2) (k := 16) (by omega) y2 (by decide)
  have v3 : bits .or .u32 ((x0 + x1 * 256 + x2 * 65536 : Nat) : Int) ((x3 : Int) * 16777216) = ((x0 + x1 * 256 + x2 * 65536 + x3 * 16777216 : Nat) : Int) := u32_put (a := x0 + x1 * 256 + x2 * 65536) (x := x3) (k := 24) (by omega) y3 (by decide)
  obtain ⟨z1, hz1⟩ : ∃ z, z = x0 + x1 * 256 := ⟨_, rfl⟩
  rw [← hz1] at v1 v2 v3
  obtain ⟨z2, hz2⟩ : ∃ z, z = z1 + x2 * 65536 := ⟨_, rfl⟩
  rw [← hz2] at v2 v3
  obtain ⟨z3, hz3⟩ : ∃ z, z = z2 + x3 * 16777216 := ⟨_, rfl⟩
  rw [← hz3] at v3
  have HZZ := Lib.hid (And.intro hz1 (And.intro hz2 hz3))
  have t1 : IntKind.u32.wrap ((x1 : Int) * 256) = (x1 : Int) * 256 := by show _ % 4294967296 = _; omega
  have t2 : IntKind.u32.wrap ((x2 : Int) * 65536) = (x2 : Int) * 65536 := by show _ % 4294967296 = _; omega
  have t3 : IntKind.u32.wrap ((x3 : Int) * 16777216) = (x3 : Int) * 16777216 := by show _ % 4294967296 = _; omega
  have g0 : IntKind.u32.wrap (x0 : Int) = (x0 : Int) := by show _ % 4294967296 = _; omega
  have g1 : IntKind.u32.wrap (x1 : Int) = (x1 : Int) := by show _ % 4294967296 = _; omega
  have g2 : IntKind.u32.wrap (x2 : Int) = (x2 : Int) := by show _ % 4294967296 = _; omega
  have g3 : IntKind.u32.wrap (x3 : Int) = (x3 : Int) := by show _ % 4294967296 = _; omega
  obtain ⟨p1, hp1⟩ : ∃ p, p = pc + 1 := ⟨_, rfl⟩
  obtain ⟨p2, hp2⟩ : ∃ p, p = pc + 2 := ⟨_, rfl⟩
  obtain ⟨p3, hp3⟩ : ∃ p, p = pc + 3 := ⟨_, rfl⟩
  rw [← hp1] at hc1
  rw [← hp2] at hc2
  rw [← hp3] at hc3
  have r1 : IntKind.u32.wrap ((pc : Int) + 1) = (p1 : Int) := by show _ % 4294967296 = _; omega
  have r2 : IntKind.u32.wrap ((pc : Int) + 2) = (p2 : Int) := by show _ % 4294967296 = _; omega
  have r3 : IntKind.u32.wrap ((pc : Int) + 3) = (p3 : Int) := by show _ % 4294967296 = _; omega
  have i0 : (pc : Int) < (n : Int) := by omega
  have i1 : (p1 : Int) < (n : Int) := by omega
  have i2 : (p2 : Int) < (n : Int) := by omega
  have i3 : (p3 : Int) < (n : Int) := by omega
  have j0 : pc < n := by omega
  have j1 : p1 < n := by omega
  have j2 : p2 < n := by omega
  have j3 : p3 < n := by omega
  clear hz1 hz2 hz3 hp1 hp2 hp3 e0 e1 e2 e3 hbi hnat hB4 y0 y1 y2 y3 hp40
  go_quiet (fail)
  have hld : ldF l pc 4 = z3 := by
    obtain ⟨e0, e1, e2, e3⟩ := HE.out
    obtain ⟨f1, f2, f3⟩ := HZZ.out
    have hln := HBy.out.1
    unfold ldF
    rw [num_take (by have := HPC.out; omega)]
    unfold num4
    rw [e0, e1, e2, e3]
    omega
  have HFz := HF.out
  rw [hld] at HFz
  have hz32 : z3 < 4294967296 := by
    have h1 := numP_lt (byt_part HBy.out pc 4 (by decide) HPC.out).2.2.2.1 4 (by decide)
    have h2 : numP ((l.drop pc).take 4) 4 = z3 := hld
    omega
  have HD := Lib.hid (fun w1 hw => Decode_any z3 hz32 w1 hw)
  rw [show decI z3 = xr by unfold decI; rw [HFz], show decB z3 = true by unfold decB; rw [HFz]; rfl] at HD
  clear HFz hld hz32 hc0 hc1 hc2 hc3 t1 t2 t3 g0 g1 g2 g3 r1 r2 r3 i0 i1 i2 i3 j0 j1 j2 j3 v1 v2 v3 a33 a34
  replace HX4 := Lib.hid ((show (W4.drewN nq).heap[X]? = some (.cells MC 52 (0, 0)) from HX4.out))
  replace HY4 := Lib.hid ((show (W4.drewN nq).heap[Y]? = some (.cells MC' 52 (0, 0)) from HY4.out))
  replace HB4 := Lib.hid (show Below w.heap.size w (W4.drewN nq) from drewNR HB4.out)
  generalize W4.drewN nq = W5 at HX4 HY4 HB4 ⊢
  go_wp2_with fail
  refine (HD.out _ (HL.out.below HB4.out)).mono ?_
  rintro e w6 ⟨rfl, hb6⟩
  have hb7 : Below w6.heap.size w6 (w6.alloc (.cells #[.int .i64 xr.op, .int .i64 xr.d, .int .i64 xr.a, .int .i64 xr.b, .int .i64 xr.imm] 23)) := (Below.refl _ _).alloc (Nat.le_refl _) _
  replace hb7 := hb6.trans (hb7.mono hb6.size)
  have hx7 := (hb7.block _ (lt_of_block HX4.out)).trans HX4.out
  have hy7 := (hb7.block _ (lt_of_block HY4.out)).trans HY4.out
  have hz7 := heap_alloc_new w6 (.cells #[.int .i64 xr.op, .int .i64 xr.d, .int .i64 xr.a, .int .i64 xr.b, .int .i64 xr.imm] 23)
  have HB7 := Lib.hid (HB4.out.trans (hb7.mono HB4.out.size))
  clear hb6 hb7 HX4 HY4 HD
  go_upto_region 14 with fail
  generalize World.alloc w6 _ = W7 at hx7 hy7 hz7 HB7 ⊢
  generalize w6.heap.size = Z at hz7 ⊢
  obtain ⟨z0, -, -, -, -⟩ := cells5r hz7
  have l3 := eq_regs_yes (R := R) (S := R) (fun _ _ => rfl) W7
  have HX7 := Lib.hid hx7
  have HY7 := Lib.hid hy7
  clear hz7 hx7 hy7
  go_wp2_with (first | (refine wpList_regs_g rfl _ rfl X rfl HH.out.reg HX7.out ?_) | (refine wpList_regs_g rfl _ rfl Y rfl HV.out.reg HY7.out ?_))
  refine (known_any _ (HL.out.below HB7.out)).mono ?_
  rintro e w8 ⟨rfl, hb8⟩
  go_wp2
  go_ret
  exact ⟨rfl, HB7.out.trans (hb8.mono HB7.out.size)⟩
theorem chk_zero {n r : Nat} (h : chkM n r 0 = 0) : n ≤ 32768 ∧ r = 0 := by
  unfold chkM at h
  split at h
  · cases h
  · omega
theorem endM_pos (n r : Nat) : ¬ endM n r = 0 := by
  unfold endM
  split <;> decide
theorem strI_ne {a b : List Int} (ha : isBy a) (hb : isBy b) (h : a ≠ b) : (strI b).toList ≠ (strI a).toList := by
  intro e
  have q := str_list (a := b) (b := a)
  rw [e] at q
  have : decide (strI b = strI a) = true := by rw [← q]; simp
  exact h (strI_inj hb ha (of_decide_eq_true this)).symm
theorem stF_by {l : List Int} (h : isBy l) (P v : Nat) : ∀ k, isBy (stF l P v k)
  | 0 => h
  | k + 1 => by
    intro x hx
    rcases List.mem_or_eq_of_mem_set hx with hx | rfl
    · exact stF_by h P v k x hx
    · omega
theorem exF_by (op d a b : Nat) (imm : Int) (s : Mst) (h : isBy s.l) : isBy (exF op d a b imm s).2.l := by
  unfold exF
  repeat (first | exact h | exact stF_by h _ _ _ | split)
theorem stepF_by (s : Mst) (h : isBy s.l) : isBy (stepF s).l := by
  unfold stepF
  split
  · split
    · exact h
    · split
      · exact exF_by _ _ _ _ _ s h
      · exact exF_by _ _ _ _ _ s h
  · exact h
theorem zeros_walk (h : MachI MC R fl pc (.slice A n c) fin) (hR : ∀ j, R j < 4294967296) (hpc : pc < 4294967296) (hB : Byn w A n c l) (hL : Laid w) : Calls Tryd.prog 11 #[.agg MC] w fun e w' => e = .returned (.bool true) ∧ Below w.heap.size w w' := by
  by_cases hn : n ≤ 40000
  rotate_left
  · exact zeros_long h hL hn
  by_cases hf : fin = 0
  rotate_left
  · exact zeros_err h hL hn _ (endM_pos n (R 0)) (fun w1 _ => Step_end h hf _ rfl (endM_pos n (R 0)))
  subst hf
  have hV := h.zero
  by_cases hk : chkM n (R 0) 0 = 0
  rotate_left
  · exact zeros_err h hL hn _ hk (fun w1 _ => Step_bad hV _ rfl hk)
  obtain ⟨hn2, h0⟩ := chk_zero hk
  by_cases hn0 : n = 0
  · subst hn0
    refine zeros_same h hL hn (strI []) (fun w1 _ => str_nil A c w1) (fun w1 hb => (Step_none hV hB.2 h0 hpc (hL.below hb)).mono ?_)
    rintro e w' ⟨MC', A', c', rfl, hV', hb'⟩
    exact ⟨MC', R, pc, 3, A', c', rfl, hV', h0, fun w2 _ => str_nil A' c' w2, hb'⟩
  obtain ⟨kz, kl, km⟩ := stepF_keep ⟨R, pc, 0, l⟩
  have hS : ∀ w1, Below w.heap.size w w1 → (convert 35 9 (.slice A n c)).run Tryd.prog w1 = .ok (.string (strI l)) w1 := fun w1 hb => str_conv (hB.1.below hb)
  by_cases he : (stepF ⟨R, pc, 0, l⟩).l = l
  · refine zeros_same h hL hn (strI l) hS (fun w1 hb => (Step_some hV (hB.1.below hb) (by omega) hn2 h0 hR hpc (hL.below hb)).mono ?_)
    rintro e w' ⟨MC', g, c', rfl, hV', hM', -, hb'⟩
    rw [he] at hM'
    exact ⟨MC', _, _, _, _, c', rfl, hV', kz h0, fun w2 hb2 => str_conv (hM'.byt.below hb2), hb'⟩
  · rcases km with km | ⟨k4, x, hx, o1, o2, kR⟩
    · exact absurd km he
    have hln : n = l.length := hB.1.1
    refine zeros_store h hL hn hR hB.1 (by rw [hln]; exact k4) x hx ⟨o1, o2⟩ (strI l) _ (strI_ne (stepF_by ⟨R, pc, 0, l⟩ hB.1.isBy) hB.1.isBy he) hS (fun w1 hb => (Step_some hV (hB.1.below hb) (by omega) hn2 h0 hR hpc (hL.below hb)).mono ?_)
    rintro e w' ⟨MC', g, c', rfl, hV', hM', -, hb'⟩
    rw [kR] at hV'
    exact ⟨MC', _, _, _, c', rfl, hV', h0, fun w2 hb2 => str_conv (hM'.byt.below hb2), hb'⟩
end
end Go.Proofs.YthkaclmnbahieaaDoor
