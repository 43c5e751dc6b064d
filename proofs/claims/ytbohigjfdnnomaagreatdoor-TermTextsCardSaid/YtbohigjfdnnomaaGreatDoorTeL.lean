/-
  value of the program.
-/
import Derived.Test.YtbohigjfdnnomaaGreatDoorTeK
namespace Go.Proofs.YtbohigjfdnnomaaGreatDoor
open Go.RowKit

/-- A right node over a list of nodes with values. -/
structure FitX (T : List Nd) (x : Nd) (l env : List Nat) : Prop where
  op : 0 ≤ x.op ∧ x.op ≤ 18 ∨ x.op = 33
  wid : 1 ≤ x.width ∧ x.width ≤ 32
  len : (x.args.length : Int) = argN x.op
  fit : fitB T x = true
  imm : immB x = true
  imm0 : 0 ≤ x.imm
  arg : ∀ i, i < x.args.length → ∃ p : Nat, x.args[i]! = (p : Int) ∧ p < T.length ∧ p < l.length ∧ (1 ≤ T[p]!.width ∧ T[p]!.width ≤ 32) ∧ l[p]! < pw T[p]!.width.toNat
  env : x.op = 33 → x.imm.toNat < env.length
theorem fit_valid {T : List Nd} {env : List Nat} (h : valF T = 0) (hi : ∀ k, k < T.length → 0 ≤ T[k]!.imm) (he : envB T env = true) {k : Nat} (hk : k < T.length) : FitX T T[k]! (vals T env k) env := by
  obtain ⟨ho, -, hw, hl, ha, him⟩ := nod_iff.1 ((val_zero.1 h).2.1 k hk)
  refine ⟨ho, hw, hl, (val_zero.1 h).2.2.1 k hk, him, hi k hk, fun i hi' => ?_, fun h33 => ?_⟩
  · obtain ⟨p, hp, hpk⟩ := args_below h k hk i hi'
    have hw := (nod_iff.1 ((val_zero.1 h).2.1 p (by omega))).2.2.1
    exact ⟨p, hp, by omega, by rw [vals_len]; exact hpk, hw, by rw [vals_at T env hpk]; exact vals_lt h hi he p (by omega)⟩
  · obtain ⟨v, hv, hv4⟩ := var_imm ((val_zero.1 h).2.1 k hk) h33 (hi k hk)
    rw [hv, Int.toNat_natCast, (env_iff.1 he).1]
    exact hv4
section
variable {T : List Nd} {x : Nd} {l env : List Nat}
theorem val1_const (h : x.op = 0) : val1 T x l env = x.imm.toNat := by unfold val1; rw [if_pos h]
theorem val1_var (h : x.op = 33) : val1 T x l env = env[x.imm.toNat]! := by unfold val1; rw [if_neg (by omega), if_pos h]
theorem val1_cmp (h : x.op = 14) {p q : Nat} (hp : x.args[0]! = (p : Int)) (hq : x.args[1]! = (q : Int)) : val1 T x l env = if cmpF x.imm.toNat (T[p]!.width).toNat l[p]! l[q]! then 1 else 0 := by
  unfold val1 wOf
  rw [if_neg (by omega), if_neg (by omega), if_pos h, hp, hq, Int.toNat_natCast, Int.toNat_natCast]
theorem val1_sel (h : x.op = 15) {p q r : Nat} (hp : x.args[0]! = (p : Int)) (hq : x.args[1]! = (q : Int)) (hr : x.args[2]! = (r : Int)) : val1 T x l env = if l[p]! = 0 then l[r]! else l[q]! := by
  unfold val1
  rw [if_neg (by omega), if_neg (by omega), if_neg (by omega), if_pos h, hp, hq, hr, Int.toNat_natCast, Int.toNat_natCast, Int.toNat_natCast]
theorem val1_ext (h1 : 16 ≤ x.op) (h2 : x.op ≤ 18) {p : Nat} (hp : x.args[0]! = (p : Int)) : val1 T x l env = extF x.op.toNat (T[p]!.width).toNat x.width.toNat l[p]! := by
  unfold val1 wOf
  rw [if_neg (by omega), if_neg (by omega), if_neg (by omega), if_neg (by omega), if_pos h1, hp, Int.toNat_natCast]
theorem val1_tot (h1 : 1 ≤ x.op) (h2 : x.op ≤ 13) {p q : Nat} (hp : x.args[0]! = (p : Int)) (hq : x.args[1]! = (q : Int)) : val1 T x l env = totF x.op.toNat x.width.toNat l[p]! l[q]! := by
  unfold val1
  rw [if_neg (by omega), if_neg (by omega), if_neg (by omega), if_neg (by omega), if_neg (by omega), hp, hq, Int.toNat_natCast, Int.toNat_natCast]
end
theorem ret_u {a b : Nat} (h : b = a) : Ending.returned (.int .u32 (a : Int)) = .returned (.int .u32 (b : Int)) := by rw [h]
theorem Ints.at0 {w : World} {A : Option Addr} {n c : Nat} {l : List Int} (h : Ints w A n c l) (h0 : 0 < n) : ∃ b off, A = some ⟨b, off, none⟩ ∧ b < w.heap.size ∧ (w.cell? ⟨b, off, none⟩ = some (.int .i64 l[0]!)) ∧ (1 < n → w.cell? ⟨b, off + 1, none⟩ = some (.int .i64 l[1]!)) ∧ (2 < n → w.cell? ⟨b, off + 2, none⟩ = some (.int .i64 l[2]!)) := by
  obtain ⟨h1, h2, h3, h4 | ⟨b, off, h4, h5, h6⟩⟩ := h
  · omega
  · exact ⟨b, off, h4, h5, h6 0 h0, h6 1, h6 2⟩
section
variable {w : World} {A A' L E : Option Addr} {n c n' c' k cL m cE : Nat} {T : List Nd} {x : Nd} {l env : List Nat}
  (hT : Term w A n c T) (hM : Masks w) (hI : Ints w A' n' c' x.args) (hL : Ws w L k cL l) (hE : Ws w E m cE env) (hF : FitX T x l env)
include hI hF in
set_option maxRecDepth 100000 in
set_option maxHeartbeats 4000000 in
theorem value_const (ho : x.op = 0) : Calls Tryz.prog 50 #[.slice A n c, .agg #[.int .i64 x.op, .int .i64 x.width, .int .i64 x.flags, .slice A' n' c', .int .u32 x.imm], .slice L k cL, .slice E m cE] w fun e w' => e = .returned (.int .u32 ((val1 T x l env : Nat) : Int)) ∧ Below w.heap.size w w' := by
  have HV := Lib.hid (val1_const (T := T) (l := l) (env := env) ho)
  obtain ⟨v, hv⟩ : ∃ v : Nat, x.imm = v := ⟨x.imm.toNat, by have := hF.imm0; omega⟩
  have hn : n' = 0 := by
    have := hF.len
    rw [← hI.1, ho] at this
    have e : argN 0 = 0 := rfl
    omega
  generalize val1 T x l env = V at HV ⊢
  rw [hv, Int.toNat_natCast] at HV
  clear hF hI
  obtain ⟨op, wid, fl, args, imm⟩ := x
  simp only at ho hv ⊢
  subst ho hv hn
  go_enter Tryz.func50, Tryz.ntmps50
  go_upto_region 1 with fail
  have hx := heap_alloc_new w (.cells #[.int .i64 0, .int .i64 wid, .int .i64 fl, .slice A' 0 c', .int .u32 (v : Int)] 38)
  have hb : Below w.heap.size w (w.alloc (.cells #[.int .i64 0, .int .i64 wid, .int .i64 fl, .slice A' 0 c', .int .u32 (v : Int)] 38)) := (Below.refl _ _).alloc (Nat.le_refl _) _
  generalize World.alloc w _ = W1 at hx hb ⊢
  obtain ⟨b0, b1, -, b3, b4⟩ := cells5 (x := ⟨0, wid, fl, args, (v : Int)⟩) hx
  have hBl := lt_of_block hx
  go_wp2
  go_ret
  exact ⟨by exact ret_u HV.out, hb⟩
include hI hE hF in
set_option maxRecDepth 100000 in
set_option maxHeartbeats 4000000 in
theorem value_var (ho : x.op = 33) : Calls Tryz.prog 50 #[.slice A n c, .agg #[.int .i64 x.op, .int .i64 x.width, .int .i64 x.flags, .slice A' n' c', .int .u32 x.imm], .slice L k cL, .slice E m cE] w fun e w' => e = .returned (.int .u32 ((val1 T x l env : Nat) : Int)) ∧ Below w.heap.size w w' := by
  have HV := Lib.hid (val1_var (T := T) (l := l) (env := env) ho)
  obtain ⟨v, hv⟩ : ∃ v : Nat, x.imm = v := ⟨x.imm.toNat, by have := hF.imm0; omega⟩
  have hvm := hF.env ho
  rw [hv, Int.toNat_natCast, ← hE.1] at hvm
  have hn : n' = 0 := by
    have := hF.len
    rw [← hI.1, ho] at this
    have e : argN 33 = 0 := rfl
    omega
  generalize val1 T x l env = V at HV ⊢
  rw [hv, Int.toNat_natCast] at HV
  obtain ⟨bE, oE, rfl, hbE, hcE⟩ := hE.at_ hvm
  have hcap := hE.2.1
  have hmax := hE.2.2.1
  clear hF hI hE
  obtain ⟨op, wid, fl, args, imm⟩ := x
  simp only at ho hv ⊢
  subst ho hv hn
  generalize env[v]! = u at hcE HV
  go_enter Tryz.func50, Tryz.ntmps50
  go_upto_region 1 with fail
  have hx := heap_alloc_new w (.cells #[.int .i64 33, .int .i64 wid, .int .i64 fl, .slice A' 0 c', .int .u32 (v : Int)] 38)
  have hb : Below w.heap.size w (w.alloc (.cells #[.int .i64 33, .int .i64 wid, .int .i64 fl, .slice A' 0 c', .int .u32 (v : Int)] 38)) := (Below.refl _ _).alloc (Nat.le_refl _) _
  generalize World.alloc w _ = W1 at hx hb ⊢
  obtain ⟨b0, b1, -, b3, b4⟩ := cells5 (x := ⟨33, wid, fl, args, (v : Int)⟩) hx
  have hBl := lt_of_block hx
  replace hcE := (hb.cell (p := ⟨bE, oE + v, none⟩) hbE).trans hcE
  replace hbE := Nat.lt_of_lt_of_le hbE hb.size
  clear hx
  go_wp2
  go_ret
  exact ⟨by exact ret_u HV.out, hb⟩
include hM hI hL hF in
set_option maxRecDepth 100000 in
set_option maxHeartbeats 8000000 in
theorem value_tot (o1 : 1 ≤ x.op) (o2 : x.op ≤ 13) : Calls Tryz.prog 50 #[.slice A n c, .agg #[.int .i64 x.op, .int .i64 x.width, .int .i64 x.flags, .slice A' n' c', .int .u32 x.imm], .slice L k cL, .slice E m cE] w fun e w' => e = .returned (.int .u32 ((val1 T x l env : Nat) : Int)) ∧ Below w.heap.size w w' := by
  have hn : n' = 2 := by
    have := hF.len
    rw [← hI.1, show argN x.op = 2 from if_pos (by omega)] at this
    omega
  obtain ⟨p, hp, hpT, hpl, hpw, hpv⟩ := hF.arg 0 (by rw [← hI.1]; omega)
  obtain ⟨q, hq, hqT, hql, hqw, hqv⟩ := hF.arg 1 (by rw [← hI.1]; omega)
  have HV := Lib.hid (val1_tot (T := T) (l := l) (env := env) o1 o2 hp hq)
  have hfit := hF.fit
  unfold fitB wOf at hfit
  rw [if_pos ⟨o1, o2⟩, hp, hq, Int.toNat_natCast, Int.toNat_natCast, Bool.and_eq_true, decide_eq_true_iff, decide_eq_true_iff] at hfit
  rw [hfit.1] at hpv
  rw [hfit.2] at hqv
  have hw := hF.wid
  rw [← hL.1] at hpl hql
  obtain ⟨bL, oL, rfl, hbL, hcp⟩ := hL.at_ hpl
  obtain ⟨bL', oL', e, -, hcq⟩ := hL.at_ hql
  injection e with e
  injection e with e e2 _
  subst e e2
  obtain ⟨bA, oA, rfl, hbA, ha0, ha1, -⟩ := hI.at0 (by omega)
  replace ha1 := ha1 (by omega)
  rw [hp] at ha0
  rw [hq] at ha1
  have hcap := hL.2.1
  have hmax := hL.2.2.1
  have hcapI := hI.2.1
  have hmaxI := hI.2.2.1
  have HM := Lib.hid hM
  generalize val1 T x l env = V at HV ⊢
  generalize l[p]! = a at HV hpv hcp
  generalize l[q]! = b at HV hqv hcq
  clear hF hI hL hM hfit hp hq hpw hqw hpT hqT
  obtain ⟨op, wid, fl, args, imm⟩ := x
  simp only at o1 o2 hw HV hpv hqv ⊢
  subst hn
  have HC := Lib.hid (fun w1 hM => bTotal_any op wid a b w1 hw.1 hw.2 hpv hqv hM o1 o2)
  have e0 : (op == 0) = false := beq_false_of_ne (by omega)
  have e33 : (op == 33) = false := beq_false_of_ne (by omega)
  have e14 : (op == 14) = false := beq_false_of_ne (by omega)
  have e15 : (op == 15) = false := beq_false_of_ne (by omega)
  have e16 : (op == 16) = false := beq_false_of_ne (by omega)
  have e17 : (op == 17) = false := beq_false_of_ne (by omega)
  have e18 : (op == 18) = false := beq_false_of_ne (by omega)
  clear o1 o2 hw hpv hqv
  go_enter Tryz.func50, Tryz.ntmps50
  go_upto_region 1 with fail
  have hx := heap_alloc_new w (.cells #[.int .i64 op, .int .i64 wid, .int .i64 fl, .slice (some ⟨bA, oA, none⟩) 2 c', .int .u32 imm] 38)
  have hb : Below w.heap.size w (w.alloc (.cells #[.int .i64 op, .int .i64 wid, .int .i64 fl, .slice (some ⟨bA, oA, none⟩) 2 c', .int .u32 imm] 38)) := (Below.refl _ _).alloc (Nat.le_refl _) _
  generalize World.alloc w _ = W1 at hx hb ⊢
  obtain ⟨b0, b1, -, b3, b4⟩ := cells5 (x := ⟨op, wid, fl, args, imm⟩) hx
  have hBl := lt_of_block hx
  replace hcp := (hb.cell (p := ⟨bL, oL + p, none⟩) hbL).trans hcp
  replace hcq := (hb.cell (p := ⟨bL, oL + q, none⟩) hbL).trans hcq
  replace ha0 := (hb.cell (p := ⟨bA, oA, none⟩) hbA).trans ha0
  replace ha1 := (hb.cell (p := ⟨bA, oA + 1, none⟩) hbA).trans ha1
  replace hbL := Nat.lt_of_lt_of_le hbL hb.size
  replace hbA := Nat.lt_of_lt_of_le hbA hb.size
  have HM1 := Lib.hid (HM.out.below hb (Nat.le_refl _))
  clear hx HM
  go_wp2_with fail
  refine (HC.out _ HM1.out).mono ?_
  rintro e w3 ⟨rfl, hb3⟩
  have hb4 := hb.trans (hb3.mono hb.size)
  clear hb hb3 HC HM1
  go_wp2
  go_ret
  exact ⟨by exact ret_u HV.out, hb4⟩
include hT hM hI hL hF in
set_option maxRecDepth 100000 in
set_option maxHeartbeats 8000000 in
theorem value_cmp (ho : x.op = 14) : Calls Tryz.prog 50 #[.slice A n c, .agg #[.int .i64 x.op, .int .i64 x.width, .int .i64 x.flags, .slice A' n' c', .int .u32 x.imm], .slice L k cL, .slice E m cE] w fun e w' => e = .returned (.int .u32 ((val1 T x l env : Nat) : Int)) ∧ Below w.heap.size w w' := by
  have hn : n' = 2 := by
    have := hF.len
    rw [← hI.1, show argN x.op = 2 from if_pos (by omega)] at this
    omega
  obtain ⟨p, hp, hpT, hpl, hpw, hpv⟩ := hF.arg 0 (by rw [← hI.1]; omega)
  obtain ⟨q, hq, hqT, hql, hqw, hqv⟩ := hF.arg 1 (by rw [← hI.1]; omega)
  have HV := Lib.hid (val1_cmp (T := T) (l := l) (env := env) ho hp hq)
  have hfit := hF.fit
  unfold fitB wOf at hfit
  rw [if_neg (by omega), if_pos ho, hp, hq, Int.toNat_natCast, Int.toNat_natCast, decide_eq_true_iff] at hfit
  rw [← hfit] at hqv
  have him := hF.imm
  unfold immB at him
  rw [if_neg (by omega), if_neg (by omega), if_pos ho, Bool.and_eq_true, decide_eq_true_iff, decide_eq_true_iff] at him
  have him0 := hF.imm0
  obtain ⟨v, hv⟩ : ∃ v : Nat, x.imm = v := ⟨x.imm.toNat, by omega⟩
  rw [hv] at HV
  rw [← hL.1] at hpl hql
  rw [← hT.1] at hpT
  obtain ⟨bL, oL, rfl, hbL, hcp⟩ := hL.at_ hpl
  obtain ⟨bL', oL', e, -, hcq⟩ := hL.at_ hql
  injection e with e
  injection e with e e2 _
  subst e e2
  obtain ⟨bA, oA, rfl, hbA, ha0, ha1, -⟩ := hI.at0 (by omega)
  replace ha1 := ha1 (by omega)
  obtain ⟨bT, oT, A3, n3, c3, rfl, hbT, ⟨-, ht, -, -, -⟩, -⟩ := hT.at_ hpT
  rw [hp] at ha0
  rw [hq] at ha1
  have hcap := hL.2.1
  have hmax := hL.2.2.1
  have hcapI := hI.2.1
  have hmaxI := hI.2.2.1
  have hcapT := hT.2.1
  have hmaxT := hT.2.2.1
  have HM := Lib.hid hM
  generalize val1 T x l env = V at HV ⊢
  generalize l[p]! = a at HV hpv hcp
  generalize l[q]! = b at HV hqv hcq
  generalize (T[p]!).width = W at HV hpv hqv ht hpw
  have HC := Lib.hid (fun w1 hM => bCmp_any W a b w1 hpw.1 hpw.2 hpv hqv hM (v : Int) (by omega) (by omega))
  generalize cmpF (v : Int).toNat W.toNat a b = cb at HV HC
  have HWR := Lib.hid (show IntKind.i64.wrap (v : Int) = (v : Int) by rw [IntKind.wrap_i64]; omega)
  clear hF hI hL hM hT hfit hp hq hpw hqw hqT hpv hqv him him0
  obtain ⟨op, wid, fl, args, imm⟩ := x
  simp only at ho hv ⊢
  subst hn ho hv
  go_enter Tryz.func50, Tryz.ntmps50
  go_upto_region 1 with fail
  have hx := heap_alloc_new w (.cells #[.int .i64 14, .int .i64 wid, .int .i64 fl, .slice (some ⟨bA, oA, none⟩) 2 c', .int .u32 (v : Int)] 38)
  have hb : Below w.heap.size w (w.alloc (.cells #[.int .i64 14, .int .i64 wid, .int .i64 fl, .slice (some ⟨bA, oA, none⟩) 2 c', .int .u32 (v : Int)] 38)) := (Below.refl _ _).alloc (Nat.le_refl _) _
  generalize World.alloc w _ = W1 at hx hb ⊢
  replace hcp := (hb.cell (p := ⟨bL, oL + p, none⟩) hbL).trans hcp
  replace hcq := (hb.cell (p := ⟨bL, oL + q, none⟩) hbL).trans hcq
  replace hbL := Nat.lt_of_lt_of_le hbL hb.size
  have HS := Lib.hid (show ∀ U, Below W1.heap.size W1 U → (U.cell? ⟨w.heap.size, 0, none⟩ = some (.int .i64 14) ∧ U.cell? ⟨w.heap.size, 3, none⟩ = some (.slice (some ⟨bA, oA, none⟩) 2 c') ∧ U.cell? ⟨w.heap.size, 4, none⟩ = some (.int .u32 (v : Int))) ∧ U.cell? ⟨bA, oA, none⟩ = some (.int .i64 (p : Int)) ∧ U.cell? ⟨bA, oA + 1, none⟩ = some (.int .i64 (q : Int)) ∧ U.cell? ⟨bT, oT + p * 5 + 1, none⟩ = some (.int .i64 W) from fun U hU => by
    obtain ⟨d0, -, -, d3, d4⟩ := cells5 (x := ⟨14, wid, fl, args, (v : Int)⟩) ((hU.block _ (lt_of_block hx)).trans hx)
    have hbU := hb.trans (hU.mono hb.size)
    exact ⟨⟨d0, d3, d4⟩, (hbU.cell (p := ⟨bA, oA, none⟩) hbA).trans ha0, (hbU.cell (p := ⟨bA, oA + 1, none⟩) hbA).trans ha1, (hbU.cell (p := ⟨bT, oT + p * 5 + 1, none⟩) hbT).trans ht⟩)
  have HM1 := Lib.hid (fun U (hU : Below W1.heap.size W1 U) => HM.out.below (hb.trans (hU.mono hb.size)) (Nat.le_refl _))
  have hBl := lt_of_block hx
  have HB := Lib.hid hb
  replace hbA := Nat.lt_of_lt_of_le hbA hb.size
  obtain ⟨⟨b0, b3, b4⟩, c0, c1, -⟩ := HS.out W1 (Below.refl _ _)
  clear ha0 ha1 hx hbT HM hb
  generalize hBE : w.heap.size = B at *
  have HBE := Lib.hid hBE
  clear hBE
  cases cb
  · have HV2 := Lib.hid (HV.out.trans (if_neg (by decide)))
    clear HV
    go_upto_region 14 with fail
    refine wp_region_held_drew (S := (fun U => (U.cell? ⟨B, 0, none⟩ = some (.int .i64 14) ∧ U.cell? ⟨B, 3, none⟩ = some (.slice (some ⟨bA, oA, none⟩) 2 c') ∧ U.cell? ⟨B, 4, none⟩ = some (.int .u32 (v : Int))) ∧ U.cell? ⟨bA, oA, none⟩ = some (.int .i64 (p : Int)) ∧ U.cell? ⟨bA, oA + 1, none⟩ = some (.int .i64 (q : Int)) ∧ U.cell? ⟨bT, oT + p * 5 + 1, none⟩ = some (.int .i64 W))) (by kernel_rfl) ?_ (fun hHeld => ?_)
    · exact HS.out _ (by first | exact Below.refl _ _ | exact drewD (Below.refl _ _) | exact drewR (Below.refl _ _))
    refine wpAnyH_take (i := 0) (oi := ({ dst := some 62, op := Op.fieldAddr 38 (Operand.tmp 5) 4, type := 0, pos := "term.go:59", after := #[], guard := none } : Oper)) (v := ?a1_v0) rfl (by kernel_rfl) (by kernel_rfl) (by kernel_rfl) (fun _ _ _ h => h) (Or.inl ⟨by rfl, ?a1_y0⟩) (by assumption) ?a1_r0
    case a1_y0 =>
      intro w hSw
      (try dsimp only at hSw)
      go_simp
      (try with_reducible rfl)
    try simp only [Act.put, List.setIfInBounds_toArray, List.set_cons_zero, List.set_cons_succ]
    refine wpAnyH_take (i := 1) (oi := ({ dst := some 63, op := Op.load 36 (Operand.tmp 62), type := 36, pos := "term.go:59", after := #[{ on := 0, ground := Ground.data }], guard := none } : Oper)) (v := ?a2_v1) rfl (by kernel_rfl) (by kernel_rfl) (by kernel_rfl) (fun _ _ _ h => h) (Or.inl ⟨by rfl, ?a2_y1⟩) (by assumption) ?a2_r1
    case a2_y1 =>
      intro w hSw
      (try dsimp only at hSw)
      go_simp
      (try with_reducible rfl)
    try simp only [Act.put, List.setIfInBounds_toArray, List.set_cons_zero, List.set_cons_succ]
    refine wpAnyH_take (i := 2) (oi := ({ dst := some 64, op := Op.convert 36 3 (Operand.tmp 63), type := 3, pos := "term.go:59", after := #[{ on := 1, ground := Ground.data }], guard := none } : Oper)) (v := ?a3_v2) rfl (by kernel_rfl) (by kernel_rfl) (by kernel_rfl) (fun _ _ _ h => h) (Or.inl ⟨by rfl, ?a3_y2⟩) (by assumption) ?a3_r2
    case a3_y2 =>
      intro w hSw
      (try dsimp only at hSw)
      go_simp
      (try with_reducible rfl)
    try simp only [Act.put, List.setIfInBounds_toArray, List.set_cons_zero, List.set_cons_succ]
    refine wpAnyH_take (i := 3) (oi := ({ dst := some 65, op := Op.move (Operand.tmp 0), type := 22, pos := "term.go:59", after := #[], guard := none } : Oper)) (v := ?a4_v3) rfl (by kernel_rfl) (by kernel_rfl) (by kernel_rfl) (fun _ _ _ h => h) (Or.inl ⟨by rfl, ?a4_y3⟩) (by assumption) ?a4_r3
    case a4_y3 =>
      intro w hSw
      (try dsimp only at hSw)
      go_simp
      (try with_reducible rfl)
    try simp only [Act.put, List.setIfInBounds_toArray, List.set_cons_zero, List.set_cons_succ]
    refine wpAnyH_take (i := 4) (oi := ({ dst := some 66, op := Op.fieldAddr 38 (Operand.tmp 5) 3, type := 0, pos := "term.go:59", after := #[], guard := none } : Oper)) (v := ?a5_v4) rfl (by kernel_rfl) (by kernel_rfl) (by kernel_rfl) (fun _ _ _ h => h) (Or.inl ⟨by rfl, ?a5_y4⟩) (by assumption) ?a5_r4
    case a5_y4 =>
      intro w hSw
      (try dsimp only at hSw)
      go_simp
      (try with_reducible rfl)
    try simp only [Act.put, List.setIfInBounds_toArray, List.set_cons_zero, List.set_cons_succ]
    refine wpAnyH_take (i := 5) (oi := ({ dst := some 67, op := Op.load 35 (Operand.tmp 66), type := 35, pos := "term.go:59", after := #[{ on := 4, ground := Ground.data }], guard := none } : Oper)) (v := ?a6_v5) rfl (by kernel_rfl) (by kernel_rfl) (by kernel_rfl) (fun _ _ _ h => h) (Or.inl ⟨by rfl, ?a6_y5⟩) (by assumption) ?a6_r5
    case a6_y5 =>
      intro w hSw
      (try dsimp only at hSw)
      go_simp
      (try with_reducible rfl)
    try simp only [Act.put, List.setIfInBounds_toArray, List.set_cons_zero, List.set_cons_succ]
    refine wpAnyH_take (i := 6) (oi := ({ dst := some 68, op := Op.indexAddr 35 (Operand.tmp 67) (Operand.const (Value.int IntKind.i64 0)), type := 0, pos := "term.go:59", after := #[{ on := 5, ground := Ground.data }], guard := none } : Oper)) (v := ?a7_v6) rfl (by kernel_rfl) (by kernel_rfl) (by kernel_rfl) (fun _ _ _ h => h) (Or.inl ⟨by rfl, ?a7_y6⟩) (by assumption) ?a7_r6
    case a7_y6 =>
      intro w hSw
      (try dsimp only at hSw)
      go_simp
      (try with_reducible rfl)
    try simp only [Act.put, List.setIfInBounds_toArray, List.set_cons_zero, List.set_cons_succ]
    refine wpAnyH_take (i := 7) (oi := ({ dst := some 69, op := Op.load 3 (Operand.tmp 68), type := 3, pos := "term.go:59", after := #[{ on := 6, ground := Ground.data }], guard := none } : Oper)) (v := ?a8_v7) rfl (by kernel_rfl) (by kernel_rfl) (by kernel_rfl) (fun _ _ _ h => h) (Or.inl ⟨by rfl, ?a8_y7⟩) (by assumption) ?a8_r7
    case a8_y7 =>
      intro w hSw
      (try dsimp only at hSw)
      go_simp
      (try with_reducible rfl)
    try simp only [Act.put, List.setIfInBounds_toArray, List.set_cons_zero, List.set_cons_succ]
    refine wpAnyH_take (i := 8) (oi := ({ dst := some 70, op := Op.indexAddr 22 (Operand.tmp 65) (Operand.tmp 69), type := 0, pos := "term.go:59", after := #[{ on := 3, ground := Ground.data }, { on := 7, ground := Ground.data }], guard := none } : Oper)) (v := ?a9_v8) rfl (by kernel_rfl) (by kernel_rfl) (by kernel_rfl) (fun _ _ _ h => h) (Or.inl ⟨by rfl, ?a9_y8⟩) (by assumption) ?a9_r8
    case a9_y8 =>
      intro w hSw
      (try dsimp only at hSw)
      go_simp
      (try with_reducible rfl)
    try simp only [Act.put, List.setIfInBounds_toArray, List.set_cons_zero, List.set_cons_succ]
    refine wpAnyH_take (i := 9) (oi := ({ dst := some 71, op := Op.fieldAddr 38 (Operand.tmp 70) 1, type := 0, pos := "term.go:59", after := #[{ on := 8, ground := Ground.data }], guard := none } : Oper)) (v := ?a10_v9) rfl (by kernel_rfl) (by kernel_rfl) (by kernel_rfl) (fun _ _ _ h => h) (Or.inl ⟨by rfl, ?a10_y9⟩) (by assumption) ?a10_r9
    case a10_y9 =>
      intro w hSw
      (try dsimp only at hSw)
      go_simp
      (try with_reducible rfl)
    try simp only [Act.put, List.setIfInBounds_toArray, List.set_cons_zero, List.set_cons_succ]
    refine wpAnyH_take (i := 10) (oi := ({ dst := some 72, op := Op.load 3 (Operand.tmp 71), type := 3, pos := "term.go:59", after := #[{ on := 9, ground := Ground.data }], guard := none } : Oper)) (v := ?a11_v10) rfl (by kernel_rfl) (by kernel_rfl) (by kernel_rfl) (fun _ _ _ h => h) (Or.inl ⟨by rfl, ?a11_y10⟩) (by assumption) ?a11_r10
    case a11_y10 =>
      intro w hSw
      (try dsimp only at hSw)
      go_simp
      (try with_reducible rfl)
    try simp only [Act.put, List.setIfInBounds_toArray, List.set_cons_zero, List.set_cons_succ]
    refine wpAnyH_take (i := 11) (oi := ({ dst := some 73, op := Op.move (Operand.tmp 9), type := 36, pos := "term.go:59", after := #[], guard := none } : Oper)) (v := ?a12_v11) rfl (by kernel_rfl) (by kernel_rfl) (by kernel_rfl) (fun _ _ _ h => h) (Or.inl ⟨by rfl, ?a12_y11⟩) (by assumption) ?a12_r11
    case a12_y11 =>
      intro w hSw
      (try dsimp only at hSw)
      go_simp
      (try with_reducible rfl)
    try simp only [Act.put, List.setIfInBounds_toArray, List.set_cons_zero, List.set_cons_succ]
    refine wpAnyH_take (i := 12) (oi := ({ dst := some 74, op := Op.move (Operand.tmp 10), type := 36, pos := "term.go:59", after := #[], guard := none } : Oper)) (v := ?a13_v12) rfl (by kernel_rfl) (by kernel_rfl) (by kernel_rfl) (fun _ _ _ h => h) (Or.inl ⟨by rfl, ?a13_y12⟩) (by assumption) ?a13_r12
    case a13_y12 =>
      intro w hSw
      (try dsimp only at hSw)
      go_simp
      (try with_reducible rfl)
    try simp only [Act.put, List.setIfInBounds_toArray, List.set_cons_zero, List.set_cons_succ]
    refine wpAnyH_ready (rs := [13]) (by kernel_rfl) (by simp) ?_
    refine AllReadyH.cons (o := ({ dst := some 75, op := Op.call { callee := Callee.value (Operand.func 73), args := #[Operand.tmp 64, Operand.tmp 72, Operand.tmp 73, Operand.tmp 74], argTypes := #[3, 3, 36, 36] }, type := 26, pos := "term.go:59", after := #[{ on := 2, ground := Ground.data }, { on := 10, ground := Ground.data }, { on := 11, ground := Ground.data }, { on := 12, ground := Ground.data }], guard := none } : Oper)) rfl (fun K hKK => ?_) AllReadyH.nil
    go_simp
    rw [HWR.out]
    refine (HC.out _ (HM1.out _ (by first | exact Below.refl _ _ | exact drewD (Below.refl _ _) | exact drewR (Below.refl _ _)))).mono ?_
    rintro e w3 ⟨rfl, rfl⟩
    refine hKK.out _ _ (HS.out _ (by first | exact Below.refl _ _ | exact drewD (Below.refl _ _) | exact drewR (Below.refl _ _))) (fun hS13_13 => ?_)
    try simp only [Act.put, List.setIfInBounds_toArray, List.set_cons_zero, List.set_cons_succ]
    refine wpAnyH_take (i := 14) (oi := ({ dst := some 61, op := Op.move (Operand.tmp 75), type := 26, pos := "term.go:59", after := #[{ on := 13, ground := Ground.data }], guard := none } : Oper)) (v := ?a14_v14) rfl (by kernel_rfl) (by kernel_rfl) (by kernel_rfl) (fun _ _ _ h => h) (Or.inl ⟨by rfl, ?a14_y14⟩) (by assumption) ?a14_r14
    case a14_y14 =>
      intro w hSw
      (try dsimp only at hSw)
      go_simp
      (try with_reducible rfl)
    try simp only [Act.put, List.setIfInBounds_toArray, List.set_cons_zero, List.set_cons_succ]
    refine wpAnyH_take (i := 15) (oi := ({ dst := some 76, op := Op.extract (Operand.tmp 61) 0, type := 4, pos := "term.go:59", after := #[{ on := 14, ground := Ground.data }], guard := none } : Oper)) (v := ?a15_v15) rfl (by kernel_rfl) (by kernel_rfl) (by kernel_rfl) (fun _ _ _ h => h) (Or.inl ⟨by rfl, ?a15_y15⟩) (by assumption) ?a15_r15
    case a15_y15 =>
      intro w hSw
      (try dsimp only at hSw)
      go_simp
      (try with_reducible rfl)
    try simp only [Act.put, List.setIfInBounds_toArray, List.set_cons_zero, List.set_cons_succ]
    refine wpAnyH_take (i := 16) (oi := ({ dst := some 77, op := Op.extract (Operand.tmp 61) 1, type := 25, pos := "term.go:59", after := #[{ on := 14, ground := Ground.data }, { on := 17, ground := Ground.gcOnly Departure.lateStores }], guard := none } : Oper)) (v := ?a16_v16) rfl (by kernel_rfl) (by kernel_rfl) (by kernel_rfl) (fun _ _ _ h => h) (Or.inl ⟨by rfl, ?a16_y16⟩) (by assumption) ?a16_r16
    case a16_y16 =>
      intro w hSw
      (try dsimp only at hSw)
      go_simp
      (try with_reducible rfl)
    try simp only [Act.put, List.setIfInBounds_toArray, List.set_cons_zero, List.set_cons_succ]
    refine wpAnyH_take (i := 17) (oi := ({ dst := some 12, op := Op.assign (Operand.tmp 76), type := 4, pos := "term.go:59", after := #[{ on := 15, ground := Ground.data }, { on := 13, ground := Ground.chain }, { on := 0, ground := Ground.phase }, { on := 1, ground := Ground.phase }, { on := 2, ground := Ground.phase }, { on := 3, ground := Ground.phase }, { on := 4, ground := Ground.phase }, { on := 5, ground := Ground.phase }, { on := 6, ground := Ground.phase }, { on := 7, ground := Ground.phase }, { on := 8, ground := Ground.phase }, { on := 9, ground := Ground.phase }, { on := 10, ground := Ground.phase }, { on := 11, ground := Ground.phase }, { on := 12, ground := Ground.phase }, { on := 13, ground := Ground.phase }, { on := 14, ground := Ground.phase }, { on := 15, ground := Ground.phase }, { on := 16, ground := Ground.textOnly Departure.lateStores }], guard := none } : Oper)) (v := ?a17_v17) rfl (by kernel_rfl) (by kernel_rfl) (by kernel_rfl) (fun _ _ _ h => h) (Or.inl ⟨by rfl, ?a17_y17⟩) (by assumption) ?a17_r17
    case a17_y17 =>
      intro w hSw
      (try dsimp only at hSw)
      go_simp
      (try with_reducible rfl)
    try simp only [Act.put, List.setIfInBounds_toArray, List.set_cons_zero, List.set_cons_succ]
    refine wpAnyH_take (i := 18) (oi := ({ dst := some 13, op := Op.assign (Operand.tmp 77), type := 25, pos := "term.go:59", after := #[{ on := 16, ground := Ground.data }, { on := 17, ground := Ground.chain }, { on := 0, ground := Ground.phase }, { on := 1, ground := Ground.phase }, { on := 2, ground := Ground.phase }, { on := 3, ground := Ground.phase }, { on := 4, ground := Ground.phase }, { on := 5, ground := Ground.phase }, { on := 6, ground := Ground.phase }, { on := 7, ground := Ground.phase }, { on := 8, ground := Ground.phase }, { on := 9, ground := Ground.phase }, { on := 10, ground := Ground.phase }, { on := 11, ground := Ground.phase }, { on := 12, ground := Ground.phase }, { on := 13, ground := Ground.phase }, { on := 14, ground := Ground.phase }, { on := 15, ground := Ground.phase }, { on := 16, ground := Ground.phase }, { on := 17, ground := Ground.phase }], guard := none } : Oper)) (v := ?a18_v18) rfl (by kernel_rfl) (by kernel_rfl) (by kernel_rfl) (fun _ _ _ h => h) (Or.inl ⟨by rfl, ?a18_y18⟩) (by assumption) ?a18_r18
    case a18_y18 =>
      intro w hSw
      (try dsimp only at hSw)
      go_simp
      (try with_reducible rfl)
    try simp only [Act.put, List.setIfInBounds_toArray, List.set_cons_zero, List.set_cons_succ]
    refine wpAnyH_done (by kernel_rfl) ?_ _
    go_wp2
    go_ret
    exact ⟨by exact ret_u HV2.out, by rw [HBE.out]; exact drewD HB.out⟩
  · have HV2 := Lib.hid (HV.out.trans (if_pos rfl))
    clear HV
    go_upto_region 14 with fail
    refine wp_region_held_drew (S := (fun U => (U.cell? ⟨B, 0, none⟩ = some (.int .i64 14) ∧ U.cell? ⟨B, 3, none⟩ = some (.slice (some ⟨bA, oA, none⟩) 2 c') ∧ U.cell? ⟨B, 4, none⟩ = some (.int .u32 (v : Int))) ∧ U.cell? ⟨bA, oA, none⟩ = some (.int .i64 (p : Int)) ∧ U.cell? ⟨bA, oA + 1, none⟩ = some (.int .i64 (q : Int)) ∧ U.cell? ⟨bT, oT + p * 5 + 1, none⟩ = some (.int .i64 W))) (by kernel_rfl) ?_ (fun hHeld => ?_)
    · exact HS.out _ (by first | exact Below.refl _ _ | exact drewD (Below.refl _ _) | exact drewR (Below.refl _ _))
    refine wpAnyH_take (i := 0) (oi := ({ dst := some 62, op := Op.fieldAddr 38 (Operand.tmp 5) 4, type := 0, pos := "term.go:59", after := #[], guard := none } : Oper)) (v := ?b1_v0) rfl (by kernel_rfl) (by kernel_rfl) (by kernel_rfl) (fun _ _ _ h => h) (Or.inl ⟨by rfl, ?b1_y0⟩) (by assumption) ?b1_r0
    case b1_y0 =>
      intro w hSw
      (try dsimp only at hSw)
      go_simp
      (try with_reducible rfl)
    try simp only [Act.put, List.setIfInBounds_toArray, List.set_cons_zero, List.set_cons_succ]
    refine wpAnyH_take (i := 1) (oi := ({ dst := some 63, op := Op.load 36 (Operand.tmp 62), type := 36, pos := "term.go:59", after := #[{ on := 0, ground := Ground.data }], guard := none } : Oper)) (v := ?b2_v1) rfl (by kernel_rfl) (by kernel_rfl) (by kernel_rfl) (fun _ _ _ h => h) (Or.inl ⟨by rfl, ?b2_y1⟩) (by assumption) ?b2_r1
    case b2_y1 =>
      intro w hSw
      (try dsimp only at hSw)
      go_simp
      (try with_reducible rfl)
    try simp only [Act.put, List.setIfInBounds_toArray, List.set_cons_zero, List.set_cons_succ]
    refine wpAnyH_take (i := 2) (oi := ({ dst := some 64, op := Op.convert 36 3 (Operand.tmp 63), type := 3, pos := "term.go:59", after := #[{ on := 1, ground := Ground.data }], guard := none } : Oper)) (v := ?b3_v2) rfl (by kernel_rfl) (by kernel_rfl) (by kernel_rfl) (fun _ _ _ h => h) (Or.inl ⟨by rfl, ?b3_y2⟩) (by assumption) ?b3_r2
    case b3_y2 =>
      intro w hSw
      (try dsimp only at hSw)
      go_simp
      (try with_reducible rfl)
    try simp only [Act.put, List.setIfInBounds_toArray, List.set_cons_zero, List.set_cons_succ]
    refine wpAnyH_take (i := 3) (oi := ({ dst := some 65, op := Op.move (Operand.tmp 0), type := 22, pos := "term.go:59", after := #[], guard := none } : Oper)) (v := ?b4_v3) rfl (by kernel_rfl) (by kernel_rfl) (by kernel_rfl) (fun _ _ _ h => h) (Or.inl ⟨by rfl, ?b4_y3⟩) (by assumption) ?b4_r3
    case b4_y3 =>
      intro w hSw
      (try dsimp only at hSw)
      go_simp
      (try with_reducible rfl)
    try simp only [Act.put, List.setIfInBounds_toArray, List.set_cons_zero, List.set_cons_succ]
    refine wpAnyH_take (i := 4) (oi := ({ dst := some 66, op := Op.fieldAddr 38 (Operand.tmp 5) 3, type := 0, pos := "term.go:59", after := #[], guard := none } : Oper)) (v := ?b5_v4) rfl (by kernel_rfl) (by kernel_rfl) (by kernel_rfl) (fun _ _ _ h => h) (Or.inl ⟨by rfl, ?b5_y4⟩) (by assumption) ?b5_r4
    case b5_y4 =>
      intro w hSw
      (try dsimp only at hSw)
      go_simp
      (try with_reducible rfl)
    try simp only [Act.put, List.setIfInBounds_toArray, List.set_cons_zero, List.set_cons_succ]
    refine wpAnyH_take (i := 5) (oi := ({ dst := some 67, op := Op.load 35 (Operand.tmp 66), type := 35, pos := "term.go:59", after := #[{ on := 4, ground := Ground.data }], guard := none } : Oper)) (v := ?b6_v5) rfl (by kernel_rfl) (by kernel_rfl) (by kernel_rfl) (fun _ _ _ h => h) (Or.inl ⟨by rfl, ?b6_y5⟩) (by assumption) ?b6_r5
    case b6_y5 =>
      intro w hSw
      (try dsimp only at hSw)
      go_simp
      (try with_reducible rfl)
    try simp only [Act.put, List.setIfInBounds_toArray, List.set_cons_zero, List.set_cons_succ]
    refine wpAnyH_take (i := 6) (oi := ({ dst := some 68, op := Op.indexAddr 35 (Operand.tmp 67) (Operand.const (Value.int IntKind.i64 0)), type := 0, pos := "term.go:59", after := #[{ on := 5, ground := Ground.data }], guard := none } : Oper)) (v := ?b7_v6) rfl (by kernel_rfl) (by kernel_rfl) (by kernel_rfl) (fun _ _ _ h => h) (Or.inl ⟨by rfl, ?b7_y6⟩) (by assumption) ?b7_r6
    case b7_y6 =>
      intro w hSw
      (try dsimp only at hSw)
      go_simp
      (try with_reducible rfl)
    try simp only [Act.put, List.setIfInBounds_toArray, List.set_cons_zero, List.set_cons_succ]
    refine wpAnyH_take (i := 7) (oi := ({ dst := some 69, op := Op.load 3 (Operand.tmp 68), type := 3, pos := "term.go:59", after := #[{ on := 6, ground := Ground.data }], guard := none } : Oper)) (v := ?b8_v7) rfl (by kernel_rfl) (by kernel_rfl) (by kernel_rfl) (fun _ _ _ h => h) (Or.inl ⟨by rfl, ?b8_y7⟩) (by assumption) ?b8_r7
    case b8_y7 =>
      intro w hSw
      (try dsimp only at hSw)
      go_simp
      (try with_reducible rfl)
    try simp only [Act.put, List.setIfInBounds_toArray, List.set_cons_zero, List.set_cons_succ]
    refine wpAnyH_take (i := 8) (oi := ({ dst := some 70, op := Op.indexAddr 22 (Operand.tmp 65) (Operand.tmp 69), type := 0, pos := "term.go:59", after := #[{ on := 3, ground := Ground.data }, { on := 7, ground := Ground.data }], guard := none } : Oper)) (v := ?b9_v8) rfl (by kernel_rfl) (by kernel_rfl) (by kernel_rfl) (fun _ _ _ h => h) (Or.inl ⟨by rfl, ?b9_y8⟩) (by assumption) ?b9_r8
    case b9_y8 =>
      intro w hSw
      (try dsimp only at hSw)
      go_simp
      (try with_reducible rfl)
    try simp only [Act.put, List.setIfInBounds_toArray, List.set_cons_zero, List.set_cons_succ]
    refine wpAnyH_take (i := 9) (oi := ({ dst := some 71, op := Op.fieldAddr 38 (Operand.tmp 70) 1, type := 0, pos := "term.go:59", after := #[{ on := 8, ground := Ground.data }], guard := none } : Oper)) (v := ?b10_v9) rfl (by kernel_rfl) (by kernel_rfl) (by kernel_rfl) (fun _ _ _ h => h) (Or.inl ⟨by rfl, ?b10_y9⟩) (by assumption) ?b10_r9
    case b10_y9 =>
      intro w hSw
      (try dsimp only at hSw)
      go_simp
      (try with_reducible rfl)
    try simp only [Act.put, List.setIfInBounds_toArray, List.set_cons_zero, List.set_cons_succ]
    refine wpAnyH_take (i := 10) (oi := ({ dst := some 72, op := Op.load 3 (Operand.tmp 71), type := 3, pos := "term.go:59", after := #[{ on := 9, ground := Ground.data }], guard := none } : Oper)) (v := ?b11_v10) rfl (by kernel_rfl) (by kernel_rfl) (by kernel_rfl) (fun _ _ _ h => h) (Or.inl ⟨by rfl, ?b11_y10⟩) (by assumption) ?b11_r10
    case b11_y10 =>
      intro w hSw
      (try dsimp only at hSw)
      go_simp
      (try with_reducible rfl)
    try simp only [Act.put, List.setIfInBounds_toArray, List.set_cons_zero, List.set_cons_succ]
    refine wpAnyH_take (i := 11) (oi := ({ dst := some 73, op := Op.move (Operand.tmp 9), type := 36, pos := "term.go:59", after := #[], guard := none } : Oper)) (v := ?b12_v11) rfl (by kernel_rfl) (by kernel_rfl) (by kernel_rfl) (fun _ _ _ h => h) (Or.inl ⟨by rfl, ?b12_y11⟩) (by assumption) ?b12_r11
    case b12_y11 =>
      intro w hSw
      (try dsimp only at hSw)
      go_simp
      (try with_reducible rfl)
    try simp only [Act.put, List.setIfInBounds_toArray, List.set_cons_zero, List.set_cons_succ]
    refine wpAnyH_take (i := 12) (oi := ({ dst := some 74, op := Op.move (Operand.tmp 10), type := 36, pos := "term.go:59", after := #[], guard := none } : Oper)) (v := ?b13_v12) rfl (by kernel_rfl) (by kernel_rfl) (by kernel_rfl) (fun _ _ _ h => h) (Or.inl ⟨by rfl, ?b13_y12⟩) (by assumption) ?b13_r12
    case b13_y12 =>
      intro w hSw
      (try dsimp only at hSw)
      go_simp
      (try with_reducible rfl)
    try simp only [Act.put, List.setIfInBounds_toArray, List.set_cons_zero, List.set_cons_succ]
    refine wpAnyH_ready (rs := [13]) (by kernel_rfl) (by simp) ?_
    refine AllReadyH.cons (o := ({ dst := some 75, op := Op.call { callee := Callee.value (Operand.func 73), args := #[Operand.tmp 64, Operand.tmp 72, Operand.tmp 73, Operand.tmp 74], argTypes := #[3, 3, 36, 36] }, type := 26, pos := "term.go:59", after := #[{ on := 2, ground := Ground.data }, { on := 10, ground := Ground.data }, { on := 11, ground := Ground.data }, { on := 12, ground := Ground.data }], guard := none } : Oper)) rfl (fun K hKK => ?_) AllReadyH.nil
    go_simp
    rw [HWR.out]
    refine (HC.out _ (HM1.out _ (by first | exact Below.refl _ _ | exact drewD (Below.refl _ _) | exact drewR (Below.refl _ _)))).mono ?_
    rintro e w3 ⟨rfl, rfl⟩
    refine hKK.out _ _ (HS.out _ (by first | exact Below.refl _ _ | exact drewD (Below.refl _ _) | exact drewR (Below.refl _ _))) (fun hS13_13 => ?_)
    try simp only [Act.put, List.setIfInBounds_toArray, List.set_cons_zero, List.set_cons_succ]
    refine wpAnyH_take (i := 14) (oi := ({ dst := some 61, op := Op.move (Operand.tmp 75), type := 26, pos := "term.go:59", after := #[{ on := 13, ground := Ground.data }], guard := none } : Oper)) (v := ?b14_v14) rfl (by kernel_rfl) (by kernel_rfl) (by kernel_rfl) (fun _ _ _ h => h) (Or.inl ⟨by rfl, ?b14_y14⟩) (by assumption) ?b14_r14
    case b14_y14 =>
      intro w hSw
      (try dsimp only at hSw)
      go_simp
      (try with_reducible rfl)
    try simp only [Act.put, List.setIfInBounds_toArray, List.set_cons_zero, List.set_cons_succ]
    refine wpAnyH_take (i := 15) (oi := ({ dst := some 76, op := Op.extract (Operand.tmp 61) 0, type := 4, pos := "term.go:59", after := #[{ on := 14, ground := Ground.data }], guard := none } : Oper)) (v := ?b15_v15) rfl (by kernel_rfl) (by kernel_rfl) (by kernel_rfl) (fun _ _ _ h => h) (Or.inl ⟨by rfl, ?b15_y15⟩) (by assumption) ?b15_r15
    case b15_y15 =>
      intro w hSw
      (try dsimp only at hSw)
      go_simp
      (try with_reducible rfl)
    try simp only [Act.put, List.setIfInBounds_toArray, List.set_cons_zero, List.set_cons_succ]
    refine wpAnyH_take (i := 16) (oi := ({ dst := some 77, op := Op.extract (Operand.tmp 61) 1, type := 25, pos := "term.go:59", after := #[{ on := 14, ground := Ground.data }, { on := 17, ground := Ground.gcOnly Departure.lateStores }], guard := none } : Oper)) (v := ?b16_v16) rfl (by kernel_rfl) (by kernel_rfl) (by kernel_rfl) (fun _ _ _ h => h) (Or.inl ⟨by rfl, ?b16_y16⟩) (by assumption) ?b16_r16
    case b16_y16 =>
      intro w hSw
      (try dsimp only at hSw)
      go_simp
      (try with_reducible rfl)
    try simp only [Act.put, List.setIfInBounds_toArray, List.set_cons_zero, List.set_cons_succ]
    refine wpAnyH_take (i := 17) (oi := ({ dst := some 12, op := Op.assign (Operand.tmp 76), type := 4, pos := "term.go:59", after := #[{ on := 15, ground := Ground.data }, { on := 13, ground := Ground.chain }, { on := 0, ground := Ground.phase }, { on := 1, ground := Ground.phase }, { on := 2, ground := Ground.phase }, { on := 3, ground := Ground.phase }, { on := 4, ground := Ground.phase }, { on := 5, ground := Ground.phase }, { on := 6, ground := Ground.phase }, { on := 7, ground := Ground.phase }, { on := 8, ground := Ground.phase }, { on := 9, ground := Ground.phase }, { on := 10, ground := Ground.phase }, { on := 11, ground := Ground.phase }, { on := 12, ground := Ground.phase }, { on := 13, ground := Ground.phase }, { on := 14, ground := Ground.phase }, { on := 15, ground := Ground.phase }, { on := 16, ground := Ground.textOnly Departure.lateStores }], guard := none } : Oper)) (v := ?b17_v17) rfl (by kernel_rfl) (by kernel_rfl) (by kernel_rfl) (fun _ _ _ h => h) (Or.inl ⟨by rfl, ?b17_y17⟩) (by assumption) ?b17_r17
    case b17_y17 =>
      intro w hSw
      (try dsimp only at hSw)
      go_simp
      (try with_reducible rfl)
    try simp only [Act.put, List.setIfInBounds_toArray, List.set_cons_zero, List.set_cons_succ]
    refine wpAnyH_take (i := 18) (oi := ({ dst := some 13, op := Op.assign (Operand.tmp 77), type := 25, pos := "term.go:59", after := #[{ on := 16, ground := Ground.data }, { on := 17, ground := Ground.chain }, { on := 0, ground := Ground.phase }, { on := 1, ground := Ground.phase }, { on := 2, ground := Ground.phase }, { on := 3, ground := Ground.phase }, { on := 4, ground := Ground.phase }, { on := 5, ground := Ground.phase }, { on := 6, ground := Ground.phase }, { on := 7, ground := Ground.phase }, { on := 8, ground := Ground.phase }, { on := 9, ground := Ground.phase }, { on := 10, ground := Ground.phase }, { on := 11, ground := Ground.phase }, { on := 12, ground := Ground.phase }, { on := 13, ground := Ground.phase }, { on := 14, ground := Ground.phase }, { on := 15, ground := Ground.phase }, { on := 16, ground := Ground.phase }, { on := 17, ground := Ground.phase }], guard := none } : Oper)) (v := ?b18_v18) rfl (by kernel_rfl) (by kernel_rfl) (by kernel_rfl) (fun _ _ _ h => h) (Or.inl ⟨by rfl, ?b18_y18⟩) (by assumption) ?b18_r18
    case b18_y18 =>
      intro w hSw
      (try dsimp only at hSw)
      go_simp
      (try with_reducible rfl)
    try simp only [Act.put, List.setIfInBounds_toArray, List.set_cons_zero, List.set_cons_succ]
    refine wpAnyH_done (by kernel_rfl) ?_ _
    go_wp2
    go_ret
    exact ⟨by exact ret_u HV2.out, by rw [HBE.out]; exact drewD HB.out⟩
include hI hL hF in
set_option maxRecDepth 100000 in
set_option maxHeartbeats 8000000 in
theorem value_sel (ho : x.op = 15) : Calls Tryz.prog 50 #[.slice A n c, .agg #[.int .i64 x.op, .int .i64 x.width, .int .i64 x.flags, .slice A' n' c', .int .u32 x.imm], .slice L k cL, .slice E m cE] w fun e w' => e = .returned (.int .u32 ((val1 T x l env : Nat) : Int)) ∧ Below w.heap.size w w' := by
  have hn : n' = 3 := by
    have := hF.len
    rw [← hI.1, ho] at this
    have e : argN 15 = 3 := rfl
    omega
  obtain ⟨p, hp, -, hpl, -, -⟩ := hF.arg 0 (by rw [← hI.1]; omega)
  obtain ⟨q, hq, -, hql, -, -⟩ := hF.arg 1 (by rw [← hI.1]; omega)
  obtain ⟨r, hr, -, hrl, -, -⟩ := hF.arg 2 (by rw [← hI.1]; omega)
  have HV := Lib.hid (val1_sel (T := T) (l := l) (env := env) ho hp hq hr)
  rw [← hL.1] at hpl hql hrl
  obtain ⟨bL, oL, rfl, hbL, hcp⟩ := hL.at_ hpl
  obtain ⟨bL', oL', e, -, hcq⟩ := hL.at_ hql
  injection e with e
  injection e with e e2 _
  subst e e2
  obtain ⟨bL', oL', e, -, hcr⟩ := hL.at_ hrl
  injection e with e
  injection e with e e2 _
  subst e e2
  obtain ⟨bA, oA, rfl, hbA, ha0, ha1, ha2⟩ := hI.at0 (by omega)
  replace ha1 := ha1 (by omega)
  replace ha2 := ha2 (by omega)
  rw [hp] at ha0
  rw [hq] at ha1
  rw [hr] at ha2
  have hcap := hL.2.1
  have hmax := hL.2.2.1
  have hcapI := hI.2.1
  have hmaxI := hI.2.2.1
  generalize val1 T x l env = V at HV ⊢
  generalize l[p]! = a at HV hcp
  generalize l[q]! = b at HV hcq
  generalize l[r]! = d at HV hcr
  clear hF hI hL hp hq hr
  obtain ⟨op, wid, fl, args, imm⟩ := x
  simp only at ho ⊢
  subst hn ho
  go_enter Tryz.func50, Tryz.ntmps50
  go_upto_region 1 with fail
  have hx := heap_alloc_new w (.cells #[.int .i64 15, .int .i64 wid, .int .i64 fl, .slice (some ⟨bA, oA, none⟩) 3 c', .int .u32 imm] 38)
  have hb : Below w.heap.size w (w.alloc (.cells #[.int .i64 15, .int .i64 wid, .int .i64 fl, .slice (some ⟨bA, oA, none⟩) 3 c', .int .u32 imm] 38)) := (Below.refl _ _).alloc (Nat.le_refl _) _
  generalize World.alloc w _ = W1 at hx hb ⊢
  obtain ⟨b0, b1, -, b3, b4⟩ := cells5 (x := ⟨15, wid, fl, args, imm⟩) hx
  have hBl := lt_of_block hx
  replace hcp := (hb.cell (p := ⟨bL, oL + p, none⟩) hbL).trans hcp
  replace hcq := (hb.cell (p := ⟨bL, oL + q, none⟩) hbL).trans hcq
  replace hcr := (hb.cell (p := ⟨bL, oL + r, none⟩) hbL).trans hcr
  replace ha0 := (hb.cell (p := ⟨bA, oA, none⟩) hbA).trans ha0
  replace ha1 := (hb.cell (p := ⟨bA, oA + 1, none⟩) hbA).trans ha1
  replace ha2 := (hb.cell (p := ⟨bA, oA + 2, none⟩) hbA).trans ha2
  replace hbL := Nat.lt_of_lt_of_le hbL hb.size
  replace hbA := Nat.lt_of_lt_of_le hbA hb.size
  clear hx
  by_cases z : a = 0
  · have e1 : ((a : Int) == 0) = true := by simp [z]
    have HV2 := Lib.hid (HV.out.trans (if_pos z))
    clear HV z
    go_wp2
    go_ret
    exact ⟨by exact ret_u HV2.out, hb⟩
  · have e1 : ((a : Int) == 0) = false := by simp [z]
    have HV2 := Lib.hid (HV.out.trans (if_neg z))
    clear HV z
    go_wp2
    go_ret
    exact ⟨by exact ret_u HV2.out, hb⟩
include hT hM hI hL hF in
set_option maxRecDepth 100000 in
set_option maxHeartbeats 8000000 in
theorem value_ext (o1 : 16 ≤ x.op) (o2 : x.op ≤ 18) : Calls Tryz.prog 50 #[.slice A n c, .agg #[.int .i64 x.op, .int .i64 x.width, .int .i64 x.flags, .slice A' n' c', .int .u32 x.imm], .slice L k cL, .slice E m cE] w fun e w' => e = .returned (.int .u32 ((val1 T x l env : Nat) : Int)) ∧ Below w.heap.size w w' := by
  have hn : n' = 1 := by
    have := hF.len
    unfold argN at this
    rw [← hI.1, if_neg (by omega), if_neg (by omega), if_neg (by omega)] at this
    omega
  obtain ⟨p, hp, hpT, hpl, hpw, hpv⟩ := hF.arg 0 (by rw [← hI.1]; omega)
  have HV := Lib.hid (val1_ext (T := T) (l := l) (env := env) o1 o2 hp)
  have hfit := hF.fit
  have hwid := hF.wid
  have hext : x.op = 16 ∧ (T[p]!).width < x.width ∨ x.op = 17 ∧ (T[p]!).width < x.width ∨ x.op = 18 ∧ x.width < (T[p]!).width := by
    unfold fitB wOf at hfit
    rw [if_neg (by omega), if_neg (by omega), if_neg (by omega), hp, Int.toNat_natCast] at hfit
    by_cases h16 : x.op = 16 ∨ x.op = 17
    · rw [if_pos h16, decide_eq_true_iff] at hfit
      omega
    · rw [if_neg h16, if_pos (by omega), decide_eq_true_iff] at hfit
      omega
  rw [← hL.1] at hpl
  rw [← hT.1] at hpT
  obtain ⟨bL, oL, rfl, hbL, hcp⟩ := hL.at_ hpl
  obtain ⟨bA, oA, rfl, hbA, ha0, -, -⟩ := hI.at0 (by omega)
  obtain ⟨bT, oT, A3, n3, c3, rfl, hbT, ⟨-, ht, -, -, -⟩, -⟩ := hT.at_ hpT
  rw [hp] at ha0
  have hcap := hL.2.1
  have hmax := hL.2.2.1
  have hcapI := hI.2.1
  have hmaxI := hI.2.2.1
  have hcapT := hT.2.1
  have hmaxT := hT.2.2.1
  have HM := Lib.hid hM
  generalize val1 T x l env = V at HV ⊢
  generalize l[p]! = a at HV hpv hcp
  generalize (T[p]!).width = W at HV hpv ht hpw hext
  obtain ⟨op, wid, fl, args, imm⟩ := x
  simp only at o1 o2 hext hwid HV ⊢
  have HC := Lib.hid (fun w1 hM => bExt_any op W wid a w1 hpw.1 hpw.2 hwid.1 hwid.2 hpv hext hM)
  generalize extF op.toNat W.toNat wid.toNat a = R at HV HC
  have e0 : (op == 0) = false := beq_false_of_ne (by omega)
  have e33 : (op == 33) = false := beq_false_of_ne (by omega)
  have e14 : (op == 14) = false := beq_false_of_ne (by omega)
  have e15 : (op == 15) = false := beq_false_of_ne (by omega)
  have h3 : op = 16 ∨ op = 17 ∨ op = 18 := by omega
  clear hF hI hL hM hT hfit hp hpw hpv hext hwid o1 o2
  subst hn
  go_enter Tryz.func50, Tryz.ntmps50
  go_upto_region 1 with fail
  have hx := heap_alloc_new w (.cells #[.int .i64 op, .int .i64 wid, .int .i64 fl, .slice (some ⟨bA, oA, none⟩) 1 c', .int .u32 imm] 38)
  have hb : Below w.heap.size w (w.alloc (.cells #[.int .i64 op, .int .i64 wid, .int .i64 fl, .slice (some ⟨bA, oA, none⟩) 1 c', .int .u32 imm] 38)) := (Below.refl _ _).alloc (Nat.le_refl _) _
  generalize World.alloc w _ = W1 at hx hb ⊢
  replace hcp := (hb.cell (p := ⟨bL, oL + p, none⟩) hbL).trans hcp
  replace hbL := Nat.lt_of_lt_of_le hbL hb.size
  have HS := Lib.hid (show ∀ U, Below W1.heap.size W1 U → (U.cell? ⟨w.heap.size, 0, none⟩ = some (.int .i64 op) ∧ U.cell? ⟨w.heap.size, 1, none⟩ = some (.int .i64 wid) ∧ U.cell? ⟨w.heap.size, 3, none⟩ = some (.slice (some ⟨bA, oA, none⟩) 1 c')) ∧ U.cell? ⟨bA, oA, none⟩ = some (.int .i64 (p : Int)) ∧ U.cell? ⟨bT, oT + p * 5 + 1, none⟩ = some (.int .i64 W) from fun U hU => by
    obtain ⟨d0, d1, -, d3, -⟩ := cells5 (x := ⟨op, wid, fl, args, imm⟩) ((hU.block _ (lt_of_block hx)).trans hx)
    have hbU := hb.trans (hU.mono hb.size)
    exact ⟨⟨d0, d1, d3⟩, (hbU.cell (p := ⟨bA, oA, none⟩) hbA).trans ha0, (hbU.cell (p := ⟨bT, oT + p * 5 + 1, none⟩) hbT).trans ht⟩)
  have HM1 := Lib.hid (fun U (hU : Below W1.heap.size W1 U) => HM.out.below (hb.trans (hU.mono hb.size)) (Nat.le_refl _))
  have hBl := lt_of_block hx
  have HB := Lib.hid hb
  replace hbA := Nat.lt_of_lt_of_le hbA hb.size
  obtain ⟨⟨b0, b1, b3⟩, c0, -⟩ := HS.out W1 (Below.refl _ _)
  clear ha0 hx hbT HM hb
  generalize hBE : w.heap.size = B at *
  have HBE := Lib.hid hBE
  clear hBE
  rcases h3 with h | h | h
  · have e16 : (op == 16) = true := by simp [h]
    clear h
    go_upto_region 24 with fail
    refine wp_region_held_drew (S := (fun U => (U.cell? ⟨B, 0, none⟩ = some (.int .i64 op) ∧ U.cell? ⟨B, 1, none⟩ = some (.int .i64 wid) ∧ U.cell? ⟨B, 3, none⟩ = some (.slice (some ⟨bA, oA, none⟩) 1 c')) ∧ U.cell? ⟨bA, oA, none⟩ = some (.int .i64 (p : Int)) ∧ U.cell? ⟨bT, oT + p * 5 + 1, none⟩ = some (.int .i64 W))) (by kernel_rfl) ?_ (fun hHeld => ?_)
    · exact HS.out _ (by first | exact Below.refl _ _ | exact drewD (Below.refl _ _) | exact drewR (Below.refl _ _))
    refine wpAnyH_take (i := 0) (oi := ({ dst := some 96, op := Op.fieldAddr 38 (Operand.tmp 5) 0, type := 0, pos := "term.go:68", after := #[], guard := none } : Oper)) (v := ?c1_v0) rfl (by kernel_rfl) (by kernel_rfl) (by kernel_rfl) (fun _ _ _ h => h) (Or.inl ⟨by rfl, ?c1_y0⟩) (by assumption) ?c1_r0
    case c1_y0 =>
      intro w hSw
      (try dsimp only at hSw)
      go_simp
      (try with_reducible rfl)
    try simp only [Act.put, List.setIfInBounds_toArray, List.set_cons_zero, List.set_cons_succ]
    refine wpAnyH_take (i := 1) (oi := ({ dst := some 97, op := Op.load 3 (Operand.tmp 96), type := 3, pos := "term.go:68", after := #[{ on := 0, ground := Ground.data }], guard := none } : Oper)) (v := ?c2_v1) rfl (by kernel_rfl) (by kernel_rfl) (by kernel_rfl) (fun _ _ _ h => h) (Or.inl ⟨by rfl, ?c2_y1⟩) (by assumption) ?c2_r1
    case c2_y1 =>
      intro w hSw
      (try dsimp only at hSw)
      go_simp
      (try with_reducible rfl)
    try simp only [Act.put, List.setIfInBounds_toArray, List.set_cons_zero, List.set_cons_succ]
    refine wpAnyH_take (i := 2) (oi := ({ dst := some 98, op := Op.move (Operand.tmp 0), type := 22, pos := "term.go:68", after := #[], guard := none } : Oper)) (v := ?c3_v2) rfl (by kernel_rfl) (by kernel_rfl) (by kernel_rfl) (fun _ _ _ h => h) (Or.inl ⟨by rfl, ?c3_y2⟩) (by assumption) ?c3_r2
    case c3_y2 =>
      intro w hSw
      (try dsimp only at hSw)
      go_simp
      (try with_reducible rfl)
    try simp only [Act.put, List.setIfInBounds_toArray, List.set_cons_zero, List.set_cons_succ]
    refine wpAnyH_take (i := 3) (oi := ({ dst := some 99, op := Op.fieldAddr 38 (Operand.tmp 5) 3, type := 0, pos := "term.go:68", after := #[], guard := none } : Oper)) (v := ?c4_v3) rfl (by kernel_rfl) (by kernel_rfl) (by kernel_rfl) (fun _ _ _ h => h) (Or.inl ⟨by rfl, ?c4_y3⟩) (by assumption) ?c4_r3
    case c4_y3 =>
      intro w hSw
      (try dsimp only at hSw)
      go_simp
      (try with_reducible rfl)
    try simp only [Act.put, List.setIfInBounds_toArray, List.set_cons_zero, List.set_cons_succ]
    refine wpAnyH_take (i := 4) (oi := ({ dst := some 100, op := Op.load 35 (Operand.tmp 99), type := 35, pos := "term.go:68", after := #[{ on := 3, ground := Ground.data }], guard := none } : Oper)) (v := ?c5_v4) rfl (by kernel_rfl) (by kernel_rfl) (by kernel_rfl) (fun _ _ _ h => h) (Or.inl ⟨by rfl, ?c5_y4⟩) (by assumption) ?c5_r4
    case c5_y4 =>
      intro w hSw
      (try dsimp only at hSw)
      go_simp
      (try with_reducible rfl)
    try simp only [Act.put, List.setIfInBounds_toArray, List.set_cons_zero, List.set_cons_succ]
    refine wpAnyH_take (i := 5) (oi := ({ dst := some 101, op := Op.indexAddr 35 (Operand.tmp 100) (Operand.const (Value.int IntKind.i64 0)), type := 0, pos := "term.go:68", after := #[{ on := 4, ground := Ground.data }], guard := none } : Oper)) (v := ?c6_v5) rfl (by kernel_rfl) (by kernel_rfl) (by kernel_rfl) (fun _ _ _ h => h) (Or.inl ⟨by rfl, ?c6_y5⟩) (by assumption) ?c6_r5
    case c6_y5 =>
      intro w hSw
      (try dsimp only at hSw)
      go_simp
      (try with_reducible rfl)
    try simp only [Act.put, List.setIfInBounds_toArray, List.set_cons_zero, List.set_cons_succ]
    refine wpAnyH_take (i := 6) (oi := ({ dst := some 102, op := Op.load 3 (Operand.tmp 101), type := 3, pos := "term.go:68", after := #[{ on := 5, ground := Ground.data }], guard := none } : Oper)) (v := ?c7_v6) rfl (by kernel_rfl) (by kernel_rfl) (by kernel_rfl) (fun _ _ _ h => h) (Or.inl ⟨by rfl, ?c7_y6⟩) (by assumption) ?c7_r6
    case c7_y6 =>
      intro w hSw
      (try dsimp only at hSw)
      go_simp
      (try with_reducible rfl)
    try simp only [Act.put, List.setIfInBounds_toArray, List.set_cons_zero, List.set_cons_succ]
    refine wpAnyH_take (i := 7) (oi := ({ dst := some 103, op := Op.indexAddr 22 (Operand.tmp 98) (Operand.tmp 102), type := 0, pos := "term.go:68", after := #[{ on := 2, ground := Ground.data }, { on := 6, ground := Ground.data }], guard := none } : Oper)) (v := ?c8_v7) rfl (by kernel_rfl) (by kernel_rfl) (by kernel_rfl) (fun _ _ _ h => h) (Or.inl ⟨by rfl, ?c8_y7⟩) (by assumption) ?c8_r7
    case c8_y7 =>
      intro w hSw
      (try dsimp only at hSw)
      go_simp
      (try with_reducible rfl)
    try simp only [Act.put, List.setIfInBounds_toArray, List.set_cons_zero, List.set_cons_succ]
    refine wpAnyH_take (i := 8) (oi := ({ dst := some 104, op := Op.fieldAddr 38 (Operand.tmp 103) 1, type := 0, pos := "term.go:68", after := #[{ on := 7, ground := Ground.data }], guard := none } : Oper)) (v := ?c9_v8) rfl (by kernel_rfl) (by kernel_rfl) (by kernel_rfl) (fun _ _ _ h => h) (Or.inl ⟨by rfl, ?c9_y8⟩) (by assumption) ?c9_r8
    case c9_y8 =>
      intro w hSw
      (try dsimp only at hSw)
      go_simp
      (try with_reducible rfl)
    try simp only [Act.put, List.setIfInBounds_toArray, List.set_cons_zero, List.set_cons_succ]
    refine wpAnyH_take (i := 9) (oi := ({ dst := some 105, op := Op.load 3 (Operand.tmp 104), type := 3, pos := "term.go:68", after := #[{ on := 8, ground := Ground.data }], guard := none } : Oper)) (v := ?c10_v9) rfl (by kernel_rfl) (by kernel_rfl) (by kernel_rfl) (fun _ _ _ h => h) (Or.inl ⟨by rfl, ?c10_y9⟩) (by assumption) ?c10_r9
    case c10_y9 =>
      intro w hSw
      (try dsimp only at hSw)
      go_simp
      (try with_reducible rfl)
    try simp only [Act.put, List.setIfInBounds_toArray, List.set_cons_zero, List.set_cons_succ]
    refine wpAnyH_take (i := 10) (oi := ({ dst := some 106, op := Op.fieldAddr 38 (Operand.tmp 5) 1, type := 0, pos := "term.go:68", after := #[], guard := none } : Oper)) (v := ?c11_v10) rfl (by kernel_rfl) (by kernel_rfl) (by kernel_rfl) (fun _ _ _ h => h) (Or.inl ⟨by rfl, ?c11_y10⟩) (by assumption) ?c11_r10
    case c11_y10 =>
      intro w hSw
      (try dsimp only at hSw)
      go_simp
      (try with_reducible rfl)
    try simp only [Act.put, List.setIfInBounds_toArray, List.set_cons_zero, List.set_cons_succ]
    refine wpAnyH_take (i := 11) (oi := ({ dst := some 107, op := Op.load 3 (Operand.tmp 106), type := 3, pos := "term.go:68", after := #[{ on := 10, ground := Ground.data }], guard := none } : Oper)) (v := ?c12_v11) rfl (by kernel_rfl) (by kernel_rfl) (by kernel_rfl) (fun _ _ _ h => h) (Or.inl ⟨by rfl, ?c12_y11⟩) (by assumption) ?c12_r11
    case c12_y11 =>
      intro w hSw
      (try dsimp only at hSw)
      go_simp
      (try with_reducible rfl)
    try simp only [Act.put, List.setIfInBounds_toArray, List.set_cons_zero, List.set_cons_succ]
    refine wpAnyH_take (i := 12) (oi := ({ dst := some 108, op := Op.move (Operand.tmp 9), type := 36, pos := "term.go:68", after := #[], guard := none } : Oper)) (v := ?c13_v12) rfl (by kernel_rfl) (by kernel_rfl) (by kernel_rfl) (fun _ _ _ h => h) (Or.inl ⟨by rfl, ?c13_y12⟩) (by assumption) ?c13_r12
    case c13_y12 =>
      intro w hSw
      (try dsimp only at hSw)
      go_simp
      (try with_reducible rfl)
    try simp only [Act.put, List.setIfInBounds_toArray, List.set_cons_zero, List.set_cons_succ]
    refine wpAnyH_ready (rs := [13]) (by kernel_rfl) (by simp) ?_
    refine AllReadyH.cons (o := ({ dst := some 109, op := Op.call { callee := Callee.value (Operand.func 74), args := #[Operand.tmp 97, Operand.tmp 105, Operand.tmp 107, Operand.tmp 108], argTypes := #[3, 3, 3, 36] }, type := 39, pos := "term.go:68", after := #[{ on := 1, ground := Ground.data }, { on := 9, ground := Ground.data }, { on := 11, ground := Ground.data }, { on := 12, ground := Ground.data }], guard := none } : Oper)) rfl (fun K hKK => ?_) AllReadyH.nil
    go_simp
    refine (HC.out _ (HM1.out _ (by first | exact Below.refl _ _ | exact drewD (Below.refl _ _) | exact drewR (Below.refl _ _)))).mono ?_
    rintro e w3 ⟨rfl, rfl⟩
    refine hKK.out _ _ (HS.out _ (by first | exact Below.refl _ _ | exact drewD (Below.refl _ _) | exact drewR (Below.refl _ _))) (fun hS13_13 => ?_)
    try simp only [Act.put, List.setIfInBounds_toArray, List.set_cons_zero, List.set_cons_succ]
    refine wpAnyH_take (i := 14) (oi := ({ dst := some 95, op := Op.move (Operand.tmp 109), type := 39, pos := "term.go:68", after := #[{ on := 13, ground := Ground.data }], guard := none } : Oper)) (v := ?c14_v14) rfl (by kernel_rfl) (by kernel_rfl) (by kernel_rfl) (fun _ _ _ h => h) (Or.inl ⟨by rfl, ?c14_y14⟩) (by assumption) ?c14_r14
    case c14_y14 =>
      intro w hSw
      (try dsimp only at hSw)
      go_simp
      (try with_reducible rfl)
    try simp only [Act.put, List.setIfInBounds_toArray, List.set_cons_zero, List.set_cons_succ]
    refine wpAnyH_take (i := 15) (oi := ({ dst := some 110, op := Op.extract (Operand.tmp 95) 0, type := 36, pos := "term.go:68", after := #[{ on := 14, ground := Ground.data }], guard := none } : Oper)) (v := ?c15_v15) rfl (by kernel_rfl) (by kernel_rfl) (by kernel_rfl) (fun _ _ _ h => h) (Or.inl ⟨by rfl, ?c15_y15⟩) (by assumption) ?c15_r15
    case c15_y15 =>
      intro w hSw
      (try dsimp only at hSw)
      go_simp
      (try with_reducible rfl)
    try simp only [Act.put, List.setIfInBounds_toArray, List.set_cons_zero, List.set_cons_succ]
    refine wpAnyH_take (i := 16) (oi := ({ dst := some 111, op := Op.extract (Operand.tmp 95) 1, type := 25, pos := "term.go:68", after := #[{ on := 14, ground := Ground.data }, { on := 17, ground := Ground.gcOnly Departure.lateStores }], guard := none } : Oper)) (v := ?c16_v16) rfl (by kernel_rfl) (by kernel_rfl) (by kernel_rfl) (fun _ _ _ h => h) (Or.inl ⟨by rfl, ?c16_y16⟩) (by assumption) ?c16_r16
    case c16_y16 =>
      intro w hSw
      (try dsimp only at hSw)
      go_simp
      (try with_reducible rfl)
    try simp only [Act.put, List.setIfInBounds_toArray, List.set_cons_zero, List.set_cons_succ]
    refine wpAnyH_take (i := 17) (oi := ({ dst := some 11, op := Op.assign (Operand.tmp 110), type := 36, pos := "term.go:68", after := #[{ on := 15, ground := Ground.data }, { on := 13, ground := Ground.chain }, { on := 0, ground := Ground.phase }, { on := 1, ground := Ground.phase }, { on := 2, ground := Ground.phase }, { on := 3, ground := Ground.phase }, { on := 4, ground := Ground.phase }, { on := 5, ground := Ground.phase }, { on := 6, ground := Ground.phase }, { on := 7, ground := Ground.phase }, { on := 8, ground := Ground.phase }, { on := 9, ground := Ground.phase }, { on := 10, ground := Ground.phase }, { on := 11, ground := Ground.phase }, { on := 12, ground := Ground.phase }, { on := 13, ground := Ground.phase }, { on := 14, ground := Ground.phase }, { on := 15, ground := Ground.phase }, { on := 16, ground := Ground.textOnly Departure.lateStores }], guard := none } : Oper)) (v := ?c17_v17) rfl (by kernel_rfl) (by kernel_rfl) (by kernel_rfl) (fun _ _ _ h => h) (Or.inl ⟨by rfl, ?c17_y17⟩) (by assumption) ?c17_r17
    case c17_y17 =>
      intro w hSw
      (try dsimp only at hSw)
      go_simp
      (try with_reducible rfl)
    try simp only [Act.put, List.setIfInBounds_toArray, List.set_cons_zero, List.set_cons_succ]
    refine wpAnyH_done (by kernel_rfl) ?_ _
    go_wp2
    go_ret
    exact ⟨by exact ret_u HV.out, by rw [HBE.out]; exact drewD HB.out⟩
  · have e16 : (op == 16) = false := by simp [h]
    have e17 : (op == 17) = true := by simp [h]
    clear h
    go_upto_region 24 with fail
    refine wp_region_held_drew (S := (fun U => (U.cell? ⟨B, 0, none⟩ = some (.int .i64 op) ∧ U.cell? ⟨B, 1, none⟩ = some (.int .i64 wid) ∧ U.cell? ⟨B, 3, none⟩ = some (.slice (some ⟨bA, oA, none⟩) 1 c')) ∧ U.cell? ⟨bA, oA, none⟩ = some (.int .i64 (p : Int)) ∧ U.cell? ⟨bT, oT + p * 5 + 1, none⟩ = some (.int .i64 W))) (by kernel_rfl) ?_ (fun hHeld => ?_)
    · exact HS.out _ (by first | exact Below.refl _ _ | exact drewD (Below.refl _ _) | exact drewR (Below.refl _ _))
    refine wpAnyH_take (i := 0) (oi := ({ dst := some 96, op := Op.fieldAddr 38 (Operand.tmp 5) 0, type := 0, pos := "term.go:68", after := #[], guard := none } : Oper)) (v := ?d1_v0) rfl (by kernel_rfl) (by kernel_rfl) (by kernel_rfl) (fun _ _ _ h => h) (Or.inl ⟨by rfl, ?d1_y0⟩) (by assumption) ?d1_r0
    case d1_y0 =>
      intro w hSw
      (try dsimp only at hSw)
      go_simp
      (try with_reducible rfl)
    try simp only [Act.put, List.setIfInBounds_toArray, List.set_cons_zero, List.set_cons_succ]
    refine wpAnyH_take (i := 1) (oi := ({ dst := some 97, op := Op.load 3 (Operand.tmp 96), type := 3, pos := "term.go:68", after := #[{ on := 0, ground := Ground.data }], guard := none } : Oper)) (v := ?d2_v1) rfl (by kernel_rfl) (by kernel_rfl) (by kernel_rfl) (fun _ _ _ h => h) (Or.inl ⟨by rfl, ?d2_y1⟩) (by assumption) ?d2_r1
    case d2_y1 =>
      intro w hSw
      (try dsimp only at hSw)
      go_simp
      (try with_reducible rfl)
    try simp only [Act.put, List.setIfInBounds_toArray, List.set_cons_zero, List.set_cons_succ]
    refine wpAnyH_take (i := 2) (oi := ({ dst := some 98, op := Op.move (Operand.tmp 0), type := 22, pos := "term.go:68", after := #[], guard := none } : Oper)) (v := ?d3_v2) rfl (by kernel_rfl) (by kernel_rfl) (by kernel_rfl) (fun _ _ _ h => h) (Or.inl ⟨by rfl, ?d3_y2⟩) (by assumption) ?d3_r2
    case d3_y2 =>
      intro w hSw
      (try dsimp only at hSw)
      go_simp
      (try with_reducible rfl)
    try simp only [Act.put, List.setIfInBounds_toArray, List.set_cons_zero, List.set_cons_succ]
    refine wpAnyH_take (i := 3) (oi := ({ dst := some 99, op := Op.fieldAddr 38 (Operand.tmp 5) 3, type := 0, pos := "term.go:68", after := #[], guard := none } : Oper)) (v := ?d4_v3) rfl (by kernel_rfl) (by kernel_rfl) (by kernel_rfl) (fun _ _ _ h => h) (Or.inl ⟨by rfl, ?d4_y3⟩) (by assumption) ?d4_r3
    case d4_y3 =>
      intro w hSw
      (try dsimp only at hSw)
      go_simp
      (try with_reducible rfl)
    try simp only [Act.put, List.setIfInBounds_toArray, List.set_cons_zero, List.set_cons_succ]
    refine wpAnyH_take (i := 4) (oi := ({ dst := some 100, op := Op.load 35 (Operand.tmp 99), type := 35, pos := "term.go:68", after := #[{ on := 3, ground := Ground.data }], guard := none } : Oper)) (v := ?d5_v4) rfl (by kernel_rfl) (by kernel_rfl) (by kernel_rfl) (fun _ _ _ h => h) (Or.inl ⟨by rfl, ?d5_y4⟩) (by assumption) ?d5_r4
    case d5_y4 =>
      intro w hSw
      (try dsimp only at hSw)
      go_simp
      (try with_reducible rfl)
    try simp only [Act.put, List.setIfInBounds_toArray, List.set_cons_zero, List.set_cons_succ]
    refine wpAnyH_take (i := 5) (oi := ({ dst := some 101, op := Op.indexAddr 35 (Operand.tmp 100) (Operand.const (Value.int IntKind.i64 0)), type := 0, pos := "term.go:68", after := #[{ on := 4, ground := Ground.data }], guard := none } : Oper)) (v := ?d6_v5) rfl (by kernel_rfl) (by kernel_rfl) (by kernel_rfl) (fun _ _ _ h => h) (Or.inl ⟨by rfl, ?d6_y5⟩) (by assumption) ?d6_r5
    case d6_y5 =>
      intro w hSw
      (try dsimp only at hSw)
      go_simp
      (try with_reducible rfl)
    try simp only [Act.put, List.setIfInBounds_toArray, List.set_cons_zero, List.set_cons_succ]
    refine wpAnyH_take (i := 6) (oi := ({ dst := some 102, op := Op.load 3 (Operand.tmp 101), type := 3, pos := "term.go:68", after := #[{ on := 5, ground := Ground.data }], guard := none } : Oper)) (v := ?d7_v6) rfl (by kernel_rfl) (by kernel_rfl) (by kernel_rfl) (fun _ _ _ h => h) (Or.inl ⟨by rfl, ?d7_y6⟩) (by assumption) ?d7_r6
    case d7_y6 =>
      intro w hSw
      (try dsimp only at hSw)
      go_simp
      (try with_reducible rfl)
    try simp only [Act.put, List.setIfInBounds_toArray, List.set_cons_zero, List.set_cons_succ]
    refine wpAnyH_take (i := 7) (oi := ({ dst := some 103, op := Op.indexAddr 22 (Operand.tmp 98) (Operand.tmp 102), type := 0, pos := "term.go:68", after := #[{ on := 2, ground := Ground.data }, { on := 6, ground := Ground.data }], guard := none } : Oper)) (v := ?d8_v7) rfl (by kernel_rfl) (by kernel_rfl) (by kernel_rfl) (fun _ _ _ h => h) (Or.inl ⟨by rfl, ?d8_y7⟩) (by assumption) ?d8_r7
    case d8_y7 =>
      intro w hSw
      (try dsimp only at hSw)
      go_simp
      (try with_reducible rfl)
    try simp only [Act.put, List.setIfInBounds_toArray, List.set_cons_zero, List.set_cons_succ]
    refine wpAnyH_take (i := 8) (oi := ({ dst := some 104, op := Op.fieldAddr 38 (Operand.tmp 103) 1, type := 0, pos := "term.go:68", after := #[{ on := 7, ground := Ground.data }], guard := none } : Oper)) (v := ?d9_v8) rfl (by kernel_rfl) (by kernel_rfl) (by kernel_rfl) (fun _ _ _ h => h) (Or.inl ⟨by rfl, ?d9_y8⟩) (by assumption) ?d9_r8
    case d9_y8 =>
      intro w hSw
      (try dsimp only at hSw)
      go_simp
      (try with_reducible rfl)
    try simp only [Act.put, List.setIfInBounds_toArray, List.set_cons_zero, List.set_cons_succ]
    refine wpAnyH_take (i := 9) (oi := ({ dst := some 105, op := Op.load 3 (Operand.tmp 104), type := 3, pos := "term.go:68", after := #[{ on := 8, ground := Ground.data }], guard := none } : Oper)) (v := ?d10_v9) rfl (by kernel_rfl) (by kernel_rfl) (by kernel_rfl) (fun _ _ _ h => h) (Or.inl ⟨by rfl, ?d10_y9⟩) (by assumption) ?d10_r9
    case d10_y9 =>
      intro w hSw
      (try dsimp only at hSw)
      go_simp
      (try with_reducible rfl)
    try simp only [Act.put, List.setIfInBounds_toArray, List.set_cons_zero, List.set_cons_succ]
    refine wpAnyH_take (i := 10) (oi := ({ dst := some 106, op := Op.fieldAddr 38 (Operand.tmp 5) 1, type := 0, pos := "term.go:68", after := #[], guard := none } : Oper)) (v := ?d11_v10) rfl (by kernel_rfl) (by kernel_rfl) (by kernel_rfl) (fun _ _ _ h => h) (Or.inl ⟨by rfl, ?d11_y10⟩) (by assumption) ?d11_r10
    case d11_y10 =>
      intro w hSw
      (try dsimp only at hSw)
      go_simp
      (try with_reducible rfl)
    try simp only [Act.put, List.setIfInBounds_toArray, List.set_cons_zero, List.set_cons_succ]
    refine wpAnyH_take (i := 11) (oi := ({ dst := some 107, op := Op.load 3 (Operand.tmp 106), type := 3, pos := "term.go:68", after := #[{ on := 10, ground := Ground.data }], guard := none } : Oper)) (v := ?d12_v11) rfl (by kernel_rfl) (by kernel_rfl) (by kernel_rfl) (fun _ _ _ h => h) (Or.inl ⟨by rfl, ?d12_y11⟩) (by assumption) ?d12_r11
    case d12_y11 =>
      intro w hSw
      (try dsimp only at hSw)
      go_simp
      (try with_reducible rfl)
    try simp only [Act.put, List.setIfInBounds_toArray, List.set_cons_zero, List.set_cons_succ]
    refine wpAnyH_take (i := 12) (oi := ({ dst := some 108, op := Op.move (Operand.tmp 9), type := 36, pos := "term.go:68", after := #[], guard := none } : Oper)) (v := ?d13_v12) rfl (by kernel_rfl) (by kernel_rfl) (by kernel_rfl) (fun _ _ _ h => h) (Or.inl ⟨by rfl, ?d13_y12⟩) (by assumption) ?d13_r12
    case d13_y12 =>
      intro w hSw
      (try dsimp only at hSw)
      go_simp
      (try with_reducible rfl)
    try simp only [Act.put, List.setIfInBounds_toArray, List.set_cons_zero, List.set_cons_succ]
    refine wpAnyH_ready (rs := [13]) (by kernel_rfl) (by simp) ?_
    refine AllReadyH.cons (o := ({ dst := some 109, op := Op.call { callee := Callee.value (Operand.func 74), args := #[Operand.tmp 97, Operand.tmp 105, Operand.tmp 107, Operand.tmp 108], argTypes := #[3, 3, 3, 36] }, type := 39, pos := "term.go:68", after := #[{ on := 1, ground := Ground.data }, { on := 9, ground := Ground.data }, { on := 11, ground := Ground.data }, { on := 12, ground := Ground.data }], guard := none } : Oper)) rfl (fun K hKK => ?_) AllReadyH.nil
    go_simp
    refine (HC.out _ (HM1.out _ (by first | exact Below.refl _ _ | exact drewD (Below.refl _ _) | exact drewR (Below.refl _ _)))).mono ?_
    rintro e w3 ⟨rfl, rfl⟩
    refine hKK.out _ _ (HS.out _ (by first | exact Below.refl _ _ | exact drewD (Below.refl _ _) | exact drewR (Below.refl _ _))) (fun hS13_13 => ?_)
    try simp only [Act.put, List.setIfInBounds_toArray, List.set_cons_zero, List.set_cons_succ]
    refine wpAnyH_take (i := 14) (oi := ({ dst := some 95, op := Op.move (Operand.tmp 109), type := 39, pos := "term.go:68", after := #[{ on := 13, ground := Ground.data }], guard := none } : Oper)) (v := ?d14_v14) rfl (by kernel_rfl) (by kernel_rfl) (by kernel_rfl) (fun _ _ _ h => h) (Or.inl ⟨by rfl, ?d14_y14⟩) (by assumption) ?d14_r14
    case d14_y14 =>
      intro w hSw
      (try dsimp only at hSw)
      go_simp
      (try with_reducible rfl)
    try simp only [Act.put, List.setIfInBounds_toArray, List.set_cons_zero, List.set_cons_succ]
    refine wpAnyH_take (i := 15) (oi := ({ dst := some 110, op := Op.extract (Operand.tmp 95) 0, type := 36, pos := "term.go:68", after := #[{ on := 14, ground := Ground.data }], guard := none } : Oper)) (v := ?d15_v15) rfl (by kernel_rfl) (by kernel_rfl) (by kernel_rfl) (fun _ _ _ h => h) (Or.inl ⟨by rfl, ?d15_y15⟩) (by assumption) ?d15_r15
    case d15_y15 =>
      intro w hSw
      (try dsimp only at hSw)
      go_simp
      (try with_reducible rfl)
    try simp only [Act.put, List.setIfInBounds_toArray, List.set_cons_zero, List.set_cons_succ]
    refine wpAnyH_take (i := 16) (oi := ({ dst := some 111, op := Op.extract (Operand.tmp 95) 1, type := 25, pos := "term.go:68", after := #[{ on := 14, ground := Ground.data }, { on := 17, ground := Ground.gcOnly Departure.lateStores }], guard := none } : Oper)) (v := ?d16_v16) rfl (by kernel_rfl) (by kernel_rfl) (by kernel_rfl) (fun _ _ _ h => h) (Or.inl ⟨by rfl, ?d16_y16⟩) (by assumption) ?d16_r16
    case d16_y16 =>
      intro w hSw
      (try dsimp only at hSw)
      go_simp
      (try with_reducible rfl)
    try simp only [Act.put, List.setIfInBounds_toArray, List.set_cons_zero, List.set_cons_succ]
    refine wpAnyH_take (i := 17) (oi := ({ dst := some 11, op := Op.assign (Operand.tmp 110), type := 36, pos := "term.go:68", after := #[{ on := 15, ground := Ground.data }, { on := 13, ground := Ground.chain }, { on := 0, ground := Ground.phase }, { on := 1, ground := Ground.phase }, { on := 2, ground := Ground.phase }, { on := 3, ground := Ground.phase }, { on := 4, ground := Ground.phase }, { on := 5, ground := Ground.phase }, { on := 6, ground := Ground.phase }, { on := 7, ground := Ground.phase }, { on := 8, ground := Ground.phase }, { on := 9, ground := Ground.phase }, { on := 10, ground := Ground.phase }, { on := 11, ground := Ground.phase }, { on := 12, ground := Ground.phase }, { on := 13, ground := Ground.phase }, { on := 14, ground := Ground.phase }, { on := 15, ground := Ground.phase }, { on := 16, ground := Ground.textOnly Departure.lateStores }], guard := none } : Oper)) (v := ?d17_v17) rfl (by kernel_rfl) (by kernel_rfl) (by kernel_rfl) (fun _ _ _ h => h) (Or.inl ⟨by rfl, ?d17_y17⟩) (by assumption) ?d17_r17
    case d17_y17 =>
      intro w hSw
      (try dsimp only at hSw)
      go_simp
      (try with_reducible rfl)
    try simp only [Act.put, List.setIfInBounds_toArray, List.set_cons_zero, List.set_cons_succ]
    refine wpAnyH_done (by kernel_rfl) ?_ _
    go_wp2
    go_ret
    exact ⟨by exact ret_u HV.out, by rw [HBE.out]; exact drewD HB.out⟩
  · have e16 : (op == 16) = false := by simp [h]
    have e17 : (op == 17) = false := by simp [h]
    have e18 : (op == 18) = true := by simp [h]
    clear h
    go_upto_region 24 with fail
    refine wp_region_held_drew (S := (fun U => (U.cell? ⟨B, 0, none⟩ = some (.int .i64 op) ∧ U.cell? ⟨B, 1, none⟩ = some (.int .i64 wid) ∧ U.cell? ⟨B, 3, none⟩ = some (.slice (some ⟨bA, oA, none⟩) 1 c')) ∧ U.cell? ⟨bA, oA, none⟩ = some (.int .i64 (p : Int)) ∧ U.cell? ⟨bT, oT + p * 5 + 1, none⟩ = some (.int .i64 W))) (by kernel_rfl) ?_ (fun hHeld => ?_)
    · exact HS.out _ (by first | exact Below.refl _ _ | exact drewD (Below.refl _ _) | exact drewR (Below.refl _ _))
    refine wpAnyH_take (i := 0) (oi := ({ dst := some 96, op := Op.fieldAddr 38 (Operand.tmp 5) 0, type := 0, pos := "term.go:68", after := #[], guard := none } : Oper)) (v := ?e1_v0) rfl (by kernel_rfl) (by kernel_rfl) (by kernel_rfl) (fun _ _ _ h => h) (Or.inl ⟨by rfl, ?e1_y0⟩) (by assumption) ?e1_r0
    case e1_y0 =>
      intro w hSw
      (try dsimp only at hSw)
      go_simp
      (try with_reducible rfl)
    try simp only [Act.put, List.setIfInBounds_toArray, List.set_cons_zero, List.set_cons_succ]
    refine wpAnyH_take (i := 1) (oi := ({ dst := some 97, op := Op.load 3 (Operand.tmp 96), type := 3, pos := "term.go:68", after := #[{ on := 0, ground := Ground.data }], guard := none } : Oper)) (v := ?e2_v1) rfl (by kernel_rfl) (by kernel_rfl) (by kernel_rfl) (fun _ _ _ h => h) (Or.inl ⟨by rfl, ?e2_y1⟩) (by assumption) ?e2_r1
    case e2_y1 =>
      intro w hSw
      (try dsimp only at hSw)
      go_simp
      (try with_reducible rfl)
    try simp only [Act.put, List.setIfInBounds_toArray, List.set_cons_zero, List.set_cons_succ]
    refine wpAnyH_take (i := 2) (oi := ({ dst := some 98, op := Op.move (Operand.tmp 0), type := 22, pos := "term.go:68", after := #[], guard := none } : Oper)) (v := ?e3_v2) rfl (by kernel_rfl) (by kernel_rfl) (by kernel_rfl) (fun _ _ _ h => h) (Or.inl ⟨by rfl, ?e3_y2⟩) (by assumption) ?e3_r2
    case e3_y2 =>
      intro w hSw
      (try dsimp only at hSw)
      go_simp
      (try with_reducible rfl)
    try simp only [Act.put, List.setIfInBounds_toArray, List.set_cons_zero, List.set_cons_succ]
    refine wpAnyH_take (i := 3) (oi := ({ dst := some 99, op := Op.fieldAddr 38 (Operand.tmp 5) 3, type := 0, pos := "term.go:68", after := #[], guard := none } : Oper)) (v := ?e4_v3) rfl (by kernel_rfl) (by kernel_rfl) (by kernel_rfl) (fun _ _ _ h => h) (Or.inl ⟨by rfl, ?e4_y3⟩) (by assumption) ?e4_r3
    case e4_y3 =>
      intro w hSw
      (try dsimp only at hSw)
      go_simp
      (try with_reducible rfl)
    try simp only [Act.put, List.setIfInBounds_toArray, List.set_cons_zero, List.set_cons_succ]
    refine wpAnyH_take (i := 4) (oi := ({ dst := some 100, op := Op.load 35 (Operand.tmp 99), type := 35, pos := "term.go:68", after := #[{ on := 3, ground := Ground.data }], guard := none } : Oper)) (v := ?e5_v4) rfl (by kernel_rfl) (by kernel_rfl) (by kernel_rfl) (fun _ _ _ h => h) (Or.inl ⟨by rfl, ?e5_y4⟩) (by assumption) ?e5_r4
    case e5_y4 =>
      intro w hSw
      (try dsimp only at hSw)
      go_simp
      (try with_reducible rfl)
    try simp only [Act.put, List.setIfInBounds_toArray, List.set_cons_zero, List.set_cons_succ]
    refine wpAnyH_take (i := 5) (oi := ({ dst := some 101, op := Op.indexAddr 35 (Operand.tmp 100) (Operand.const (Value.int IntKind.i64 0)), type := 0, pos := "term.go:68", after := #[{ on := 4, ground := Ground.data }], guard := none } : Oper)) (v := ?e6_v5) rfl (by kernel_rfl) (by kernel_rfl) (by kernel_rfl) (fun _ _ _ h => h) (Or.inl ⟨by rfl, ?e6_y5⟩) (by assumption) ?e6_r5
    case e6_y5 =>
      intro w hSw
      (try dsimp only at hSw)
      go_simp
      (try with_reducible rfl)
    try simp only [Act.put, List.setIfInBounds_toArray, List.set_cons_zero, List.set_cons_succ]
    refine wpAnyH_take (i := 6) (oi := ({ dst := some 102, op := Op.load 3 (Operand.tmp 101), type := 3, pos := "term.go:68", after := #[{ on := 5, ground := Ground.data }], guard := none } : Oper)) (v := ?e7_v6) rfl (by kernel_rfl) (by kernel_rfl) (by kernel_rfl) (fun _ _ _ h => h) (Or.inl ⟨by rfl, ?e7_y6⟩) (by assumption) ?e7_r6
    case e7_y6 =>
      intro w hSw
      (try dsimp only at hSw)
      go_simp
      (try with_reducible rfl)
    try simp only [Act.put, List.setIfInBounds_toArray, List.set_cons_zero, List.set_cons_succ]
    refine wpAnyH_take (i := 7) (oi := ({ dst := some 103, op := Op.indexAddr 22 (Operand.tmp 98) (Operand.tmp 102), type := 0, pos := "term.go:68", after := #[{ on := 2, ground := Ground.data }, { on := 6, ground := Ground.data }], guard := none } : Oper)) (v := ?e8_v7) rfl (by kernel_rfl) (by kernel_rfl) (by kernel_rfl) (fun _ _ _ h => h) (Or.inl ⟨by rfl, ?e8_y7⟩) (by assumption) ?e8_r7
    case e8_y7 =>
      intro w hSw
      (try dsimp only at hSw)
      go_simp
      (try with_reducible rfl)
    try simp only [Act.put, List.setIfInBounds_toArray, List.set_cons_zero, List.set_cons_succ]
    refine wpAnyH_take (i := 8) (oi := ({ dst := some 104, op := Op.fieldAddr 38 (Operand.tmp 103) 1, type := 0, pos := "term.go:68", after := #[{ on := 7, ground := Ground.data }], guard := none } : Oper)) (v := ?e9_v8) rfl (by kernel_rfl) (by kernel_rfl) (by kernel_rfl) (fun _ _ _ h => h) (Or.inl ⟨by rfl, ?e9_y8⟩) (by assumption) ?e9_r8
    case e9_y8 =>
      intro w hSw
      (try dsimp only at hSw)
      go_simp
      (try with_reducible rfl)
    try simp only [Act.put, List.setIfInBounds_toArray, List.set_cons_zero, List.set_cons_succ]
    refine wpAnyH_take (i := 9) (oi := ({ dst := some 105, op := Op.load 3 (Operand.tmp 104), type := 3, pos := "term.go:68", after := #[{ on := 8, ground := Ground.data }], guard := none } : Oper)) (v := ?e10_v9) rfl (by kernel_rfl) (by kernel_rfl) (by kernel_rfl) (fun _ _ _ h => h) (Or.inl ⟨by rfl, ?e10_y9⟩) (by assumption) ?e10_r9
    case e10_y9 =>
      intro w hSw
      (try dsimp only at hSw)
      go_simp
      (try with_reducible rfl)
    try simp only [Act.put, List.setIfInBounds_toArray, List.set_cons_zero, List.set_cons_succ]
    refine wpAnyH_take (i := 10) (oi := ({ dst := some 106, op := Op.fieldAddr 38 (Operand.tmp 5) 1, type := 0, pos := "term.go:68", after := #[], guard := none } : Oper)) (v := ?e11_v10) rfl (by kernel_rfl) (by kernel_rfl) (by kernel_rfl) (fun _ _ _ h => h) (Or.inl ⟨by rfl, ?e11_y10⟩) (by assumption) ?e11_r10
    case e11_y10 =>
      intro w hSw
      (try dsimp only at hSw)
      go_simp
      (try with_reducible rfl)
    try simp only [Act.put, List.setIfInBounds_toArray, List.set_cons_zero, List.set_cons_succ]
    refine wpAnyH_take (i := 11) (oi := ({ dst := some 107, op := Op.load 3 (Operand.tmp 106), type := 3, pos := "term.go:68", after := #[{ on := 10, ground := Ground.data }], guard := none } : Oper)) (v := ?e12_v11) rfl (by kernel_rfl) (by kernel_rfl) (by kernel_rfl) (fun _ _ _ h => h) (Or.inl ⟨by rfl, ?e12_y11⟩) (by assumption) ?e12_r11
    case e12_y11 =>
      intro w hSw
      (try dsimp only at hSw)
      go_simp
      (try with_reducible rfl)
    try simp only [Act.put, List.setIfInBounds_toArray, List.set_cons_zero, List.set_cons_succ]
    refine wpAnyH_take (i := 12) (oi := ({ dst := some 108, op := Op.move (Operand.tmp 9), type := 36, pos := "term.go:68", after := #[], guard := none } : Oper)) (v := ?e13_v12) rfl (by kernel_rfl) (by kernel_rfl) (by kernel_rfl) (fun _ _ _ h => h) (Or.inl ⟨by rfl, ?e13_y12⟩) (by assumption) ?e13_r12
    case e13_y12 =>
      intro w hSw
      (try dsimp only at hSw)
      go_simp
      (try with_reducible rfl)
    try simp only [Act.put, List.setIfInBounds_toArray, List.set_cons_zero, List.set_cons_succ]
    refine wpAnyH_ready (rs := [13]) (by kernel_rfl) (by simp) ?_
    refine AllReadyH.cons (o := ({ dst := some 109, op := Op.call { callee := Callee.value (Operand.func 74), args := #[Operand.tmp 97, Operand.tmp 105, Operand.tmp 107, Operand.tmp 108], argTypes := #[3, 3, 3, 36] }, type := 39, pos := "term.go:68", after := #[{ on := 1, ground := Ground.data }, { on := 9, ground := Ground.data }, { on := 11, ground := Ground.data }, { on := 12, ground := Ground.data }], guard := none } : Oper)) rfl (fun K hKK => ?_) AllReadyH.nil
    go_simp
    refine (HC.out _ (HM1.out _ (by first | exact Below.refl _ _ | exact drewD (Below.refl _ _) | exact drewR (Below.refl _ _)))).mono ?_
    rintro e w3 ⟨rfl, rfl⟩
    refine hKK.out _ _ (HS.out _ (by first | exact Below.refl _ _ | exact drewD (Below.refl _ _) | exact drewR (Below.refl _ _))) (fun hS13_13 => ?_)
    try simp only [Act.put, List.setIfInBounds_toArray, List.set_cons_zero, List.set_cons_succ]
    refine wpAnyH_take (i := 14) (oi := ({ dst := some 95, op := Op.move (Operand.tmp 109), type := 39, pos := "term.go:68", after := #[{ on := 13, ground := Ground.data }], guard := none } : Oper)) (v := ?e14_v14) rfl (by kernel_rfl) (by kernel_rfl) (by kernel_rfl) (fun _ _ _ h => h) (Or.inl ⟨by rfl, ?e14_y14⟩) (by assumption) ?e14_r14
    case e14_y14 =>
      intro w hSw
      (try dsimp only at hSw)
      go_simp
      (try with_reducible rfl)
    try simp only [Act.put, List.setIfInBounds_toArray, List.set_cons_zero, List.set_cons_succ]
    refine wpAnyH_take (i := 15) (oi := ({ dst := some 110, op := Op.extract (Operand.tmp 95) 0, type := 36, pos := "term.go:68", after := #[{ on := 14, ground := Ground.data }], guard := none } : Oper)) (v := ?e15_v15) rfl (by kernel_rfl) (by kernel_rfl) (by kernel_rfl) (fun _ _ _ h => h) (Or.inl ⟨by rfl, ?e15_y15⟩) (by assumption) ?e15_r15
    case e15_y15 =>
      intro w hSw
      (try dsimp only at hSw)
      go_simp
      (try with_reducible rfl)
    try simp only [Act.put, List.setIfInBounds_toArray, List.set_cons_zero, List.set_cons_succ]
    refine wpAnyH_take (i := 16) (oi := ({ dst := some 111, op := Op.extract (Operand.tmp 95) 1, type := 25, pos := "term.go:68", after := #[{ on := 14, ground := Ground.data }, { on := 17, ground := Ground.gcOnly Departure.lateStores }], guard := none } : Oper)) (v := ?e16_v16) rfl (by kernel_rfl) (by kernel_rfl) (by kernel_rfl) (fun _ _ _ h => h) (Or.inl ⟨by rfl, ?e16_y16⟩) (by assumption) ?e16_r16
    case e16_y16 =>
      intro w hSw
      (try dsimp only at hSw)
      go_simp
      (try with_reducible rfl)
    try simp only [Act.put, List.setIfInBounds_toArray, List.set_cons_zero, List.set_cons_succ]
    refine wpAnyH_take (i := 17) (oi := ({ dst := some 11, op := Op.assign (Operand.tmp 110), type := 36, pos := "term.go:68", after := #[{ on := 15, ground := Ground.data }, { on := 13, ground := Ground.chain }, { on := 0, ground := Ground.phase }, { on := 1, ground := Ground.phase }, { on := 2, ground := Ground.phase }, { on := 3, ground := Ground.phase }, { on := 4, ground := Ground.phase }, { on := 5, ground := Ground.phase }, { on := 6, ground := Ground.phase }, { on := 7, ground := Ground.phase }, { on := 8, ground := Ground.phase }, { on := 9, ground := Ground.phase }, { on := 10, ground := Ground.phase }, { on := 11, ground := Ground.phase }, { on := 12, ground := Ground.phase }, { on := 13, ground := Ground.phase }, { on := 14, ground := Ground.phase }, { on := 15, ground := Ground.phase }, { on := 16, ground := Ground.textOnly Departure.lateStores }], guard := none } : Oper)) (v := ?e17_v17) rfl (by kernel_rfl) (by kernel_rfl) (by kernel_rfl) (fun _ _ _ h => h) (Or.inl ⟨by rfl, ?e17_y17⟩) (by assumption) ?e17_r17
    case e17_y17 =>
      intro w hSw
      (try dsimp only at hSw)
      go_simp
      (try with_reducible rfl)
    try simp only [Act.put, List.setIfInBounds_toArray, List.set_cons_zero, List.set_cons_succ]
    refine wpAnyH_done (by kernel_rfl) ?_ _
    go_wp2
    go_ret
    exact ⟨by exact ret_u HV.out, by rw [HBE.out]; exact drewD HB.out⟩
include hT hM hI hL hE hF in
/-- What value answers. -/
theorem value_any : Calls Tryz.prog 50 #[.slice A n c, .agg #[.int .i64 x.op, .int .i64 x.width, .int .i64 x.flags, .slice A' n' c', .int .u32 x.imm], .slice L k cL, .slice E m cE] w fun e w' => e = .returned (.int .u32 ((val1 T x l env : Nat) : Int)) ∧ Below w.heap.size w w' := by
  by_cases h0 : x.op = 0
  · exact value_const hI hF h0
  by_cases h33 : x.op = 33
  · exact value_var hI hE hF h33
  by_cases h14 : x.op = 14
  · exact value_cmp hT hM hI hL hF h14
  by_cases h15 : x.op = 15
  · exact value_sel hI hL hF h15
  have := hF.op
  by_cases h16 : 16 ≤ x.op
  · exact value_ext hT hM hI hL hF h16 (by omega)
  · exact value_tot hM hI hL hF (by omega) (by omega)
end
end Go.Proofs.YtbohigjfdnnomaaGreatDoor
