/-
  Issue and Cost of both packages.
-/
import Derived.Test.YtjlacdnkncgpaaaTmJ
namespace Go.Proofs.Ytjlacdnkncgpaaa
open Go.RowKit

theorem val_cases (zs : List Cod) : valF zs = 0 ∨ valF zs = 1 ∨ valF zs = 3 := by
  unfold valF
  split
  · exact .inr (.inr rfl)
  · split
    · exact .inl rfl
    · exact .inr (.inl rfl)
/-- What Issue answers. -/
def resL (zs : List Cod) : List Int := if valF zs = 0 then issL zs zs.length else []
/-- When all is done. -/
def cstF (zs : List Cod) (out : List Int) : Nat → Int
  | 0 => 0
  | i + 1 => max (cstF zs out i) (out[i]! + latF zs[i]!.op)
/-- What Cost answers. -/
def resC (zs : List Cod) : Int := if valF zs = 0 then cstF zs (issL zs zs.length) zs.length else 0
section
variable {w : World} {A : Option Addr} {n c : Nat} {zs : List Cod}
set_option maxRecDepth 100000 in
theorem Issue_tab (h : Tab w A n c zs) : Calls Try.prog 9 #[.slice A n c] w fun e w' => ∃ V, e = .returned (.tuple #[V, .int .i64 (valF zs)]) ∧ IntsAt w' V (resL zs) ∧ Below w.heap.size w w' := by
  have HV := Lib.hid (validate_tab h)
  rcases val_cases zs with hv | hv | hv
  · have HI := Lib.hid (fun w1 (hb : Below w.heap.size w w1) => issue_tab (h.below hb) hv)
    have HR := Lib.hid (show resL zs = issL zs n by rw [resL, if_pos hv, ← h.shape])
    rw [hv] at HV
    rw [hv]
    clear h hv
    go_enter Try.func9, Try.ntmps9
    go_wp2_with fail
    refine HV.out.mono ?_
    rintro e w1 ⟨rfl, hb⟩
    go_wp2_with fail
    refine (HI.out _ hb).mono ?_
    rintro e w2 ⟨v, rfl, hown, hb2⟩
    go_wp2
    exact bodyPost_ret (v := .tuple #[v, .int .i64 0]) (by simp [results, Try.results9, go_sem]) rfl ⟨v, rfl, by rw [HR.out]; exact own_ints (by rw [issL_len]; exact hown), hb.trans (hb2.mono hb.size)⟩
  · rw [hv] at HV
    rw [show resL zs = [] from if_neg (by omega), hv]
    clear h hv
    go_enter Try.func9, Try.ntmps9
    go_wp2_with fail
    refine HV.out.mono ?_
    rintro e w1 ⟨rfl, hb⟩
    go_wp2
    exact bodyPost_ret (v := .tuple #[.slice none 0 0, .int .i64 1]) (by simp [results, Try.results9, go_sem]) rfl ⟨_, rfl, ⟨none, 0, rfl, .inl rfl⟩, hb⟩
  · rw [hv] at HV
    rw [show resL zs = [] from if_neg (by omega), hv]
    clear h hv
    go_enter Try.func9, Try.ntmps9
    go_wp2_with fail
    refine HV.out.mono ?_
    rintro e w1 ⟨rfl, hb⟩
    go_wp2
    exact bodyPost_ret (v := .tuple #[.slice none 0 0, .int .i64 3]) (by simp [results, Try.results9, go_sem]) rfl ⟨_, rfl, ⟨none, 0, rfl, .inl rfl⟩, hb⟩
set_option maxRecDepth 100000 in
theorem refIssueTop_tab (h : Tab w A n c zs) : Calls Try.prog 10 #[.slice A n c] w fun e w' => ∃ V, e = .returned (.tuple #[V, .int .i64 (valF zs)]) ∧ IntsAt w' V (resL zs) ∧ Below w.heap.size w w' := by
  have HV := Lib.hid (refValidate_tab h)
  rcases val_cases zs with hv | hv | hv
  · have HI := Lib.hid (fun w1 (hb : Below w.heap.size w w1) => refIssue_tab (h.below hb) hv)
    have HR := Lib.hid (show resL zs = issL zs n by rw [resL, if_pos hv, ← h.shape])
    rw [hv] at HV
    rw [hv]
    clear h hv
    go_enter Try.func10, Try.ntmps10
    go_wp2_with fail
    refine HV.out.mono ?_
    rintro e w1 ⟨rfl, hb⟩
    go_wp2_with fail
    refine (HI.out _ hb).mono ?_
    rintro e w2 ⟨v, rfl, hown, hb2⟩
    go_wp2
    exact bodyPost_ret (v := .tuple #[v, .int .i64 0]) (by simp [results, Try.results10, go_sem]) rfl ⟨v, rfl, by rw [HR.out]; exact own_ints (by rw [issL_len]; exact hown), hb.trans (hb2.mono hb.size)⟩
  · rw [hv] at HV
    rw [show resL zs = [] from if_neg (by omega), hv]
    clear h hv
    go_enter Try.func10, Try.ntmps10
    go_wp2_with fail
    refine HV.out.mono ?_
    rintro e w1 ⟨rfl, hb⟩
    go_wp2
    exact bodyPost_ret (v := .tuple #[.slice none 0 0, .int .i64 1]) (by simp [results, Try.results10, go_sem]) rfl ⟨_, rfl, ⟨none, 0, rfl, .inl rfl⟩, hb⟩
  · rw [hv] at HV
    rw [show resL zs = [] from if_neg (by omega), hv]
    clear h hv
    go_enter Try.func10, Try.ntmps10
    go_wp2_with fail
    refine HV.out.mono ?_
    rintro e w1 ⟨rfl, hb⟩
    go_wp2
    exact bodyPost_ret (v := .tuple #[.slice none 0 0, .int .i64 3]) (by simp [results, Try.results10, go_sem]) rfl ⟨_, rfl, ⟨none, 0, rfl, .inl rfl⟩, hb⟩
set_option maxRecDepth 100000 in
set_option maxHeartbeats 4000000 in
theorem cost_tab (h : Tab w A n c zs) (hv : valF zs = 0) : Calls Try.prog 30 #[.slice A n c] w fun e w' => e = .returned (.int .i64 (cstF zs (issL zs n) n)) ∧ Below w.heap.size w w' := by
  have HT := Lib.hid h
  have hcap := h.2.1
  obtain ⟨h40, -⟩ := val_all hv
  have n40 : n ≤ 40 := by rw [h.shape]; exact h40
  have HI := Lib.hid (issue_tab h hv)
  obtain ⟨bd1, -, -, -⟩ := iss_bound zs n
  have HB := Lib.hid bd1
  have HLN := Lib.hid (issL_len zs n)
  generalize issL zs n = out at HI HB HLN ⊢
  clear h hv h40 bd1
  go_enter Try.func30, Try.ntmps30
  go_wp2_with fail
  refine HI.out.mono ?_
  rintro e w1 ⟨v, rfl, hown, hb1⟩
  have HOW := Lib.hid hown
  have hlen : ∃ gA cO, v = .slice gA n cO := by
    rcases hown.2 with ⟨h1, h0⟩ | ⟨g, cap, cur, h0, _⟩
    · exact ⟨none, 0, by rw [h1, h0]⟩
    · exact ⟨_, cap, h0⟩
  obtain ⟨gA, cO, rfl⟩ := hlen
  clear hown HI
  go_wp2_with fail
  go_loopw [3, 9] (fun zm zi wr => ∃ i : Nat, i ≤ n ∧ zi = .int .i64 (i : Int) ∧ zm = .int .i64 (cstF zs out i) ∧ Below w.heap.size w wr ∧ Below w1.heap.size w1 wr) (fun _ zi _ => n - (intOf zi).toNat)
  case atStart => exact ⟨0, by omega, rfl, rfl, hb1, Below.refl _ _⟩
  case round =>
    obtain ⟨i, hin, rfl, rfl, hb, hb2⟩ := hrel
    by_cases hlt : i < n
    · obtain ⟨b0, off, rfl, hbs, ht⟩ := (HT.out.below hb).at_ hlt
      have HC := Lib.hid (show cstF zs out (i + 1) = max (cstF zs out i) (out[i]! + latF zs[i]!.op) from rfl)
      obtain ⟨gO, rfl⟩ : ∃ gO, gA = some ⟨gO, 0, none⟩ := by
        rcases HOW.out.2 with ⟨_, h0⟩ | ⟨g, cap, cur, h0, _⟩
        · omega
        · injection h0 with h0 _ _
          exact ⟨g, h0⟩
      have hcO : i < cO := by
        rcases HOW.out.2 with ⟨h1, h0⟩ | ⟨g2, cap, cur, h0, -, -, hc, _⟩
        · omega
        · injection h0 with _ _ h3
          omega
      have hoc := (own_cell (own_below HOW.out hb2) (x := .int .i64 out[i]!) (i := i) (by simp [iV, HLN.out, hlt])).1
      have hob := HB.out i hlt
      have hlat := lat_pos zs[i]!.op
      obtain ⟨L, hL⟩ : ∃ L, latF zs[i]!.op = L := ⟨_, rfl⟩
      rw [hL] at HC hlat
      have HL := Lib.hid hL
      clear hL
      generalize out[i]! = oi at HC hoc hob
      generalize cstF zs out i = mk at HC ⊢
      generalize zs[i]! = x at ht HL
      obtain ⟨op, d, a, b, imm, to⟩ := x
      obtain ⟨c0, c1, c2, c3, c4, c5⟩ := ht
      simp only at c0 HL
      clear c1 c2 c3 c4 c5
      go_wp2_with (first | (go_at_call 33; ((with_reducible refine (latency_at op L _ HL.out).mono ?_); rintro e w' ⟨rfl, rfl⟩)))
      go_roundw
      case rel => exact ⟨i + 1, by omega, by go_num, congrArg (Value.int .i64) HC.out.symm, hb, hb2⟩
      case measure => simp [intOf]; omega
    · obtain rfl : i = n := by omega
      go_wp2
      go_ret
      exact ⟨rfl, hb⟩
set_option maxRecDepth 100000 in
set_option maxHeartbeats 4000000 in
theorem refCost_tab (h : Tab w A n c zs) (hv : valF zs = 0) : Calls Try.prog 31 #[.slice A n c] w fun e w' => e = .returned (.int .i64 (cstF zs (issL zs n) n)) ∧ Below w.heap.size w w' := by
  have HT := Lib.hid h
  have hcap := h.2.1
  obtain ⟨h40, -⟩ := val_all hv
  have n40 : n ≤ 40 := by rw [h.shape]; exact h40
  have HI := Lib.hid (refIssue_tab h hv)
  obtain ⟨bd1, -, -, -⟩ := iss_bound zs n
  have HB := Lib.hid bd1
  have HLN := Lib.hid (issL_len zs n)
  generalize issL zs n = out at HI HB HLN ⊢
  clear h hv h40 bd1
  go_enter Try.func31, Try.ntmps31
  go_wp2_with fail
  refine HI.out.mono ?_
  rintro e w1 ⟨v, rfl, hown, hb1⟩
  have HOW := Lib.hid hown
  have hlen : ∃ gA cO, v = .slice gA n cO := by
    rcases hown.2 with ⟨h1, h0⟩ | ⟨g, cap, cur, h0, _⟩
    · exact ⟨none, 0, by rw [h1, h0]⟩
    · exact ⟨_, cap, h0⟩
  obtain ⟨gA, cO, rfl⟩ := hlen
  clear hown HI
  go_wp2_with fail
  go_loopw [3, 5] (fun zm zi wr => ∃ i : Nat, i ≤ n ∧ zi = .int .i64 (i : Int) ∧ zm = .int .i64 (cstF zs out i) ∧ Below w.heap.size w wr ∧ Below w1.heap.size w1 wr) (fun _ zi _ => n - (intOf zi).toNat)
  case atStart => exact ⟨0, by omega, rfl, rfl, hb1, Below.refl _ _⟩
  case round =>
    obtain ⟨i, hin, rfl, rfl, hb, hb2⟩ := hrel
    by_cases hlt : i < n
    · obtain ⟨b0, off, rfl, hbs, ht⟩ := (HT.out.below hb).at_ hlt
      have HC := Lib.hid (show cstF zs out (i + 1) = max (cstF zs out i) (out[i]! + latF zs[i]!.op) from rfl)
      obtain ⟨gO, rfl⟩ : ∃ gO, gA = some ⟨gO, 0, none⟩ := by
        rcases HOW.out.2 with ⟨_, h0⟩ | ⟨g, cap, cur, h0, _⟩
        · omega
        · injection h0 with h0 _ _
          exact ⟨g, h0⟩
      have hcO : i < cO := by
        rcases HOW.out.2 with ⟨h1, h0⟩ | ⟨g2, cap, cur, h0, -, -, hc, _⟩
        · omega
        · injection h0 with _ _ h3
          omega
      have hoc := (own_cell (own_below HOW.out hb2) (x := .int .i64 out[i]!) (i := i) (by simp [iV, HLN.out, hlt])).1
      have hob := HB.out i hlt
      have hlat := lat_pos zs[i]!.op
      obtain ⟨L, hL⟩ : ∃ L, latF zs[i]!.op = L := ⟨_, rfl⟩
      rw [hL] at HC hlat
      have HL := Lib.hid hL
      clear hL
      generalize out[i]! = oi at HC hoc hob
      generalize cstF zs out i = mk at HC ⊢
      generalize zs[i]! = x at ht HL
      obtain ⟨op, d, a, b, imm, to⟩ := x
      obtain ⟨c0, c1, c2, c3, c4, c5⟩ := ht
      simp only at c0 HL
      clear c1 c2 c3 c4 c5
      have TA := cell_regrown c0
      have TO := cell_regrown hoc
      clear c0 hoc
      go_wp2
      refine wp_region_quiet_below (by kernel_rfl) (by kernel_rfl) ?_
      have q2 : ∀ (dr : Nat) (os : Array Obj), Calls Try.prog 34 #[.int .i64 op] (Sort.grow (redrawn wr dr) os) fun e w'' => e = .returned (.int .i64 L) ∧ ∃ p : Regrown, w'' = Sort.grow (redrawn wr p.d) p.os := fun dr os => Calls.regrown_of (refLatency_at op L _ HL.out)
      have Q2 := Lib.hid q2
      clear q2
      iterate 14 (go_big_quiet_step ((go_at_call 34; with_reducible exact Q2.out _ _)))
      refine wpQuiet_nil ?_
      intro _ hw'
      obtain ⟨⟨dq2, osq2⟩, hw''⟩ := hw'
      subst hw''
      replace hb := hb.trans ((below_regrown wr dq2 osq2).mono hb.size)
      replace hb2 := hb2.trans ((below_regrown wr dq2 osq2).mono hb2.size)
      generalize Sort.grow (redrawn wr dq2) osq2 = W6 at hb hb2 ⊢
      clear TA TO
      go_wp2
      go_roundw
      case rel => exact ⟨i + 1, by omega, by go_num, congrArg (Value.int .i64) HC.out.symm, hb, hb2⟩
      case measure => simp [intOf]; omega
    · obtain rfl : i = n := by omega
      go_wp2
      go_ret
      exact ⟨rfl, hb⟩
set_option maxRecDepth 100000 in
theorem Cost_tab (h : Tab w A n c zs) : Calls Try.prog 11 #[.slice A n c] w fun e w' => e = .returned (.tuple #[.int .i64 (resC zs), .int .i64 (valF zs)]) ∧ Below w.heap.size w w' := by
  have HV := Lib.hid (validate_tab h)
  rcases val_cases zs with hv | hv | hv
  · have HI := Lib.hid (fun w1 (hb : Below w.heap.size w w1) => cost_tab (h.below hb) hv)
    rw [hv] at HV
    rw [show resC zs = cstF zs (issL zs n) n by rw [resC, if_pos hv, ← h.shape], hv]
    generalize cstF zs (issL zs n) n = C at HI ⊢
    clear h hv
    go_enter Try.func11, Try.ntmps11
    go_wp2_with fail
    refine HV.out.mono ?_
    rintro e w1 ⟨rfl, hb⟩
    go_wp2_with fail
    refine (HI.out _ hb).mono ?_
    rintro e w2 ⟨rfl, hb2⟩
    go_wp2
    exact bodyPost_ret (v := .tuple #[.int .i64 C, .int .i64 0]) (by simp [results, Try.results11, go_sem]) rfl ⟨rfl, hb.trans (hb2.mono hb.size)⟩
  · rw [hv] at HV
    rw [show resC zs = 0 from if_neg (by omega), hv]
    clear h hv
    go_enter Try.func11, Try.ntmps11
    go_wp2_with fail
    refine HV.out.mono ?_
    rintro e w1 ⟨rfl, hb⟩
    go_wp2
    exact bodyPost_ret (v := .tuple #[.int .i64 0, .int .i64 1]) (by simp [results, Try.results11, go_sem]) rfl ⟨rfl, hb⟩
  · rw [hv] at HV
    rw [show resC zs = 0 from if_neg (by omega), hv]
    clear h hv
    go_enter Try.func11, Try.ntmps11
    go_wp2_with fail
    refine HV.out.mono ?_
    rintro e w1 ⟨rfl, hb⟩
    go_wp2
    exact bodyPost_ret (v := .tuple #[.int .i64 0, .int .i64 3]) (by simp [results, Try.results11, go_sem]) rfl ⟨rfl, hb⟩
set_option maxRecDepth 100000 in
theorem refCostTop_tab (h : Tab w A n c zs) : Calls Try.prog 12 #[.slice A n c] w fun e w' => e = .returned (.tuple #[.int .i64 (resC zs), .int .i64 (valF zs)]) ∧ Below w.heap.size w w' := by
  have HV := Lib.hid (refValidate_tab h)
  rcases val_cases zs with hv | hv | hv
  · have HI := Lib.hid (fun w1 (hb : Below w.heap.size w w1) => refCost_tab (h.below hb) hv)
    rw [hv] at HV
    rw [show resC zs = cstF zs (issL zs n) n by rw [resC, if_pos hv, ← h.shape], hv]
    generalize cstF zs (issL zs n) n = C at HI ⊢
    clear h hv
    go_enter Try.func12, Try.ntmps12
    go_wp2_with fail
    refine HV.out.mono ?_
    rintro e w1 ⟨rfl, hb⟩
    go_wp2_with fail
    refine (HI.out _ hb).mono ?_
    rintro e w2 ⟨rfl, hb2⟩
    go_wp2
    exact bodyPost_ret (v := .tuple #[.int .i64 C, .int .i64 0]) (by simp [results, Try.results12, go_sem]) rfl ⟨rfl, hb.trans (hb2.mono hb.size)⟩
  · rw [hv] at HV
    rw [show resC zs = 0 from if_neg (by omega), hv]
    clear h hv
    go_enter Try.func12, Try.ntmps12
    go_wp2_with fail
    refine HV.out.mono ?_
    rintro e w1 ⟨rfl, hb⟩
    go_wp2
    exact bodyPost_ret (v := .tuple #[.int .i64 0, .int .i64 1]) (by simp [results, Try.results12, go_sem]) rfl ⟨rfl, hb⟩
  · rw [hv] at HV
    rw [show resC zs = 0 from if_neg (by omega), hv]
    clear h hv
    go_enter Try.func12, Try.ntmps12
    go_wp2_with fail
    refine HV.out.mono ?_
    rintro e w1 ⟨rfl, hb⟩
    go_wp2
    exact bodyPost_ret (v := .tuple #[.int .i64 0, .int .i64 3]) (by simp [results, Try.results12, go_sem]) rfl ⟨rfl, hb⟩
end
end Go.Proofs.Ytjlacdnkncgpaaa
