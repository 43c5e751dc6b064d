/-
  OWN TEXT. Text of the program.
-/
import Derived.Test.YtbohigjfdnnomaaGreatDoorTeXb
import Derived.Test.YtbohigjfdnnomaaGreatDoorTeXd
import Derived.Lib.QuietBelow
import Derived.Deep.CutRange
namespace Go.Proofs.YtbohigjfdnnomaaGreatDoor
open Go.RowKit

theorem str_app (a b : List UInt8) : (⟨a.toArray⟩ : ByteArray) ++ ⟨b.toArray⟩ = ⟨(a ++ b).toArray⟩ := by
  apply ByteArray.ext
  simp [ByteArray.data_append]
theorem infoS : (Tryz.prog.info? 9).map (fun i => (i.zero, i.size, i.bytes)) = some (some (.string ⟨#[]⟩), 1, 16) := by kernel_rfl
/-- What Text needs of a node. -/
structure NdOk (x : Nd) : Prop where
  op : 0 ≤ x.op ∧ x.op ≤ 33
  width : 0 ≤ x.width ∧ x.width ≤ 32
  imm : 0 ≤ x.imm ∧ x.imm < 4294967296
  len : x.args.length ≤ 100
  args : ∀ i, i < x.args.length → 0 ≤ x.args[i]! ∧ x.args[i]! ≤ 300
theorem ndOk_of {T : List Nd} (hv : valF T = 0) {k : Nat} (hk : k < T.length) (hi : 0 ≤ T[k]!.imm ∧ T[k]!.imm < 4294967296) : NdOk T[k]! := by
  obtain ⟨h1, h2, _⟩ := val_zero.1 hv
  have h3 := nod_iff.1 (h2 k hk)
  exact ⟨by omega, by omega, hi, val_args hv k hk, fun i hi => by have := h3.2.2.2.2.1 i hi; omega⟩
def strV (l : List (List UInt8)) : List Value := l.map fun b => .string ⟨b.toArray⟩
theorem strV_len (l : List (List UInt8)) : (strV l).length = l.length := by simp [strV]
theorem strV_app (a : List (List UInt8)) (b : List UInt8) : strV (a ++ [b]) = strV a ++ [.string ⟨b.toArray⟩] := by simp [strV]
theorem words_next {T : List Nd} {k : Nat} (h : k < T.length) : (T.take (k + 1)).map wordT = (T.take k).map wordT ++ [wordT T[k]!] := by
  rw [List.take_succ_eq_append_getElem h, List.map_append, List.map_singleton, getElem!_pos T k h]
theorem cmaT_app : ∀ (a : List Int) (x : Int), cmaT (a ++ [x]) = cmaT a ++ 44 :: Lib.itoa x
  | [], x => by simp [cmaT]
  | y :: a, x => by simp [cmaT, cmaT_app a x]
theorem cmaT_next {l : List Int} {q : Nat} (h : q < l.length) : cmaT (l.take (q + 1)) = cmaT (l.take q) ++ 44 :: Lib.itoa l[q]! := by
  rw [List.take_succ_eq_append_getElem h, cmaT_app, getElem!_pos l q h]
theorem cma_len {l : List Int} (h : ∀ i, i < l.length → 0 ≤ l[i]! ∧ l[i]! ≤ 300) : ∀ q, (cmaT (l.take q)).length ≤ 22 * q
  | 0 => by simp [cmaT]
  | q + 1 => by
    have h1 := cma_len h q
    by_cases hq : q < l.length
    · have h2 := h q hq
      have h3 := Lib.itoa_length_le l[q]! (by omega) (by omega)
      rw [cmaT_next hq, List.length_append, List.length_cons]
      omega
    · rw [List.take_of_length_le (by omega)]
      rw [List.take_of_length_le (by omega)] at h1
      omega
theorem word_len {x : Nd} (h : NdOk x) : (wordT x).length ≤ 2290 := by
  have h1 := Lib.itoa_length_le x.op (by have := h.op; omega) (by have := h.op; omega)
  have h2 := Lib.itoa_length_le x.width (by have := h.width; omega) (by have := h.width; omega)
  have h3 : (immT x).length ≤ 21 := by
    have h4 := Lib.nDigits_le20 x.imm.toNat (by have := h.imm; omega)
    unfold immT
    split
    · rw [List.length_cons, Lib.decDigits_length]
      omega
    · simp
  have h5 := cma_len h.args x.args.length
  rw [List.take_length] at h5
  have h6 := h.len
  unfold wordT
  simp only [List.length_append, List.length_cons]
  omega
theorem tail_len : ∀ (T : List Nd), (∀ x, x ∈ T → NdOk x) → (tailT T).length ≤ 2300 * T.length
  | [], _ => by simp [tailT]
  | x :: T, h => by
    have h1 := word_len (h x (List.mem_cons_self ..))
    have h2 := tail_len T fun z hz => h z (List.mem_cons_of_mem _ hz)
    simp only [tailT, List.length_cons, List.length_append]
    omega
section
variable {w : World} {A : Option Addr} {n c : Nat} {T : List Nd}
set_option maxRecDepth 100000 in
set_option maxHeartbeats 8000000 in
theorem text_yes (h : Term w A n c T) (hv : valF T = 0) (hP : P10 w) :
    Calls Tryz.prog 9 #[.slice A n c] w fun e w' => e = .returned (.tuple #[.string ⟨(textT (shL T)).toArray⟩, .int .i64 0]) ∧ Below w.heap.size w w' := by
  have HT := Lib.hid (share_any h)
  have hlt := (val_zero.1 hv).1
  have hX0 : valF (shL T) = 0 := (shF_val hv (by omega)).1
  simp only [hv, if_true] at HT
  rw [show shF T (T.length - 1) = shL T from rfl] at HT
  generalize shL T = X at HT hX0 ⊢
  have HV := Lib.hid hX0
  have hl := (val_zero.1 hX0).1
  have HP := Lib.hid hP
  clear h hv hlt hX0 hP
  obtain ⟨i0, hi, hz0, hz1, hz2⟩ := info_parts infoS
  go_enter Tryz.func9, Tryz.ntmps9
  go_wp2_with fail
  refine HT.out.mono ?_
  rintro e w1 ⟨nv, av, rfl, hO, -, hb⟩
  obtain ⟨A3, c3, rfl, hX⟩ := own_term hO
  have HX := Lib.hid hX
  have HB := Lib.hid hb
  have hcap := hX.2.1
  have hmax := hX.2.2.1
  have HOK := Lib.hid (fun k (hk : k < X.length) => ndOk_of HV.out hk (term_imm hX k hk))
  clear hO hX hb HT
  go_wp2_with fail
  go_loopw [6, 22] (fun sv zk wr => ∃ k : Nat, k ≤ X.length ∧ zk = .int .i64 (k : Int) ∧ Below w1.heap.size w1 wr ∧ wr.ownsRow w1.heap.size 9 1 sv k (strV ((X.take k).map wordT))) (fun _ zk _ => X.length - (intOf zk).toNat)
  case atStart => exact ⟨0, by omega, rfl, Below.refl _ _, ⟨by simp [strV], .inl ⟨rfl, rfl⟩⟩⟩
  case round =>
    obtain ⟨k, hk, rfl, hb, hown⟩ := hrel
    by_cases hlt : k < X.length
    · obtain ⟨b, off, A', n', c', rfl, hg, ⟨c0, c1, c2, c3, c4⟩, hI, -⟩ := (HX.out.below hb).at_ hlt
      have hok := HOK.out k hlt
      have HW := Lib.hid (words_next hlt)
      have HH := Lib.hid (show wordT X[k]! = Lib.itoa X[k]!.op ++ (58 :: (Lib.itoa X[k]!.width ++ (immT X[k]! ++ cmaT X[k]!.args))) from rfl)
      generalize wordT X[k]! = WD at HW HH
      generalize X[k]! = x at c0 c1 c2 c3 c4 hI hok HH
      have HB1 := Lib.hid hb
      have HSZ := Lib.hid hb.size
      have HO := Lib.hid hown
      have HIA := Lib.hid hI
      obtain ⟨op, wid, fl, args, imm⟩ := x
      simp only at c0 c1 c2 c3 c4
      clear hb hown hI
      go_upto_region 8 with fail
      have hx := heap_alloc_new wr (.cells #[.int .i64 op, .int .i64 wid, .int .i64 fl, .slice A' n' c', .int .u32 imm] 38)
      have hbn : Below wr.heap.size wr (wr.alloc (.cells #[.int .i64 op, .int .i64 wid, .int .i64 fl, .slice A' n' c', .int .u32 imm] 38)) := (Below.refl _ _).alloc (Nat.le_refl _) _
      generalize World.alloc wr _ = W1 at hx hbn ⊢
      replace HO := Lib.hid (own_below HO.out hbn)
      replace HIA := Lib.hid (HIA.out.below hbn)
      replace HB1 := Lib.hid (HB1.out.trans (hbn.mono HB1.out.size))
      have hDl := lt_of_block hx
      obtain ⟨D, hDE⟩ : ∃ D, wr.heap.size = D := ⟨_, rfl⟩
      rw [hDE] at hx hDl ⊢
      have hDD : w1.heap.size ≤ D := by rw [← hDE]; exact HSZ.out
      clear hDE hbn c0 c1 c2 c3 c4 HSZ
      have hx := Lib.hid hx
      obtain ⟨d0, d1, d2, d3, d4⟩ := cells5 (x := ⟨op, wid, fl, args, imm⟩) hx.out
      simp only at d0 d1 d2 d3 d4 HIA HH
      have hop := hok.op
      have hwid := hok.width
      simp only at hop hwid
      have HI1 := Lib.hid (fun w2 (hP : P10 w2) => itoa_any op (by omega) (by omega) w2 hP)
      have HI2 := Lib.hid (fun w2 (hP : P10 w2) => itoa_any wid (by omega) (by omega) w2 hP)
      have l1 := Lib.itoa_length_le op (by omega) (by omega)
      have l2 := Lib.itoa_length_le wid (by omega) (by omega)
      generalize Lib.itoa op = S1 at HI1 l1 HH
      generalize Lib.itoa wid = S2 at HI2 l2 HH
      have q1 : S1.length + 1 ≤ 9223372036854775807 := by omega
      have q2 : S1.length + 1 + S2.length ≤ 9223372036854775807 := by omega
      have HPW := Lib.hid (HP.out.below (HB.out.trans (HB1.out.mono HB.out.size)))
      clear hop hwid
      refine wp_region_quiet_below (by kernel_rfl) (by kernel_rfl) ?_
      have Tx0 := cell_regrown d0
      have Tx1 := cell_regrown d1
      have HQ1 := Lib.hid (show ∀ (d : Nat) (os : Array Obj), Calls Tryz.prog 20 #[.int .i64 op] (Sort.grow (redrawn W1 d) os) fun e w'' => e = .returned (.string ⟨S1.toArray⟩) ∧ ∃ p : Regrown, w'' = Sort.grow (redrawn W1 p.d) p.os from fun d os => Calls.regrown_of (HI1.out _ (HPW.out.below (below_regrown W1 d os))))
      have HQ2 := Lib.hid (show ∀ (d : Nat) (os : Array Obj), Calls Tryz.prog 20 #[.int .i64 wid] (Sort.grow (redrawn W1 d) os) fun e w'' => e = .returned (.string ⟨S2.toArray⟩) ∧ ∃ p : Regrown, w'' = Sort.grow (redrawn W1 p.d) p.os from fun d os => Calls.regrown_of (HI2.out _ (HPW.out.below (below_regrown W1 d os))))
      iterate 9 (go_big_quiet_step ((go_at_call 20; first | with_reducible exact HQ1.out _ _ | with_reducible exact HQ2.out _ _)))
      refine wpQuiet_nil ?_
      intro _ hw'
      obtain ⟨⟨dq, osq⟩, hw''⟩ := hw'
      subst hw''
      have hbq := below_regrown W1 dq osq
      generalize Sort.grow (redrawn W1 dq) osq = W2 at hbq ⊢
      replace hx := Lib.hid ((hbq.block D hDl).trans hx.out)
      replace HO := Lib.hid (own_below HO.out hbq)
      replace HIA := Lib.hid (HIA.out.below hbq)
      replace HB1 := Lib.hid (HB1.out.trans (hbq.mono HB1.out.size))
      rw [show (⟨S1.toArray⟩ : ByteArray) ++ ⟨#[58]⟩ ++ ⟨S2.toArray⟩ = ⟨(S1 ++ 58 :: S2).toArray⟩ by rw [show (⟨#[58]⟩ : ByteArray) = ⟨([58] : List UInt8).toArray⟩ from rfl, str_app, str_app]; simp]
      replace HH := Lib.hid (show WD = (S1 ++ 58 :: S2) ++ (immT ⟨op, wid, fl, args, imm⟩ ++ cmaT args) by rw [HH.out]; simp)
      have lH : (S1 ++ 58 :: S2).length ≤ 50 := by simp; omega
      generalize S1 ++ 58 :: S2 = H1 at HH lH ⊢
      clear Tx0 Tx1 HQ1 HQ2 HI1 HI2 l1 l2 q1 q2 HPW hbq hDl d0 d1 d2 d3 d4
      obtain ⟨d0, d1, d2, d3, d4⟩ := cells5 (x := ⟨op, wid, fl, args, imm⟩) hx.out
      simp only at d0 d1 d2 d3 d4
      obtain ⟨BB, hBB⟩ : ∃ BB : Bool, BB = decide (op = 0 ∨ op = 33 ∨ op = 14) := ⟨_, rfl⟩
      have HBB := Lib.hid hBB
      clear hBB
      go_upto_region 9 with fail
      go_cut [46] from 34 to 71 (fun s46 wx => s46 = .bool BB ∧ wx = W2)
      case first =>
        by_cases o0 : op = 0
        · obtain rfl : BB = true := by rw [HBB.out]; exact decide_eq_true (.inl o0)
          subst o0
          clear HBB HH
          go_wp2
          go_meet
          exact ⟨rfl, rfl⟩
        · have p0 : (op == 0) = false := by simp [o0]
          by_cases o1 : op = 33
          · obtain rfl : BB = true := by rw [HBB.out]; exact decide_eq_true (.inr (.inl o1))
            subst o1
            clear HBB HH o0
            go_wp2
            go_meet
            exact ⟨rfl, rfl⟩
          · have p1 : (op == 33) = false := by simp [o1]
            by_cases o2 : op = 14
            · obtain rfl : BB = true := by rw [HBB.out]; exact decide_eq_true (.inr (.inr o2))
              subst o2
              clear HBB HH o0 o1
              go_wp2
              go_meet
              exact ⟨rfl, rfl⟩
            · have p2 : (op == 14) = false := by simp [o2]
              obtain rfl : BB = false := by rw [HBB.out]; exact decide_eq_false (fun e => by rcases e with e | e | e <;> omega)
              clear HBB HH o0 o1 o2
              go_wp2
              go_meet
              exact ⟨rfl, rfl⟩
      case rest =>
      obtain ⟨rfl, rfl⟩ := hcut
      have him := hok.imm
      simp only at him
      have HI3 := Lib.hid (fun (u : Nat) (hu : imm = (u : Int)) w2 (hP : P10 w2) => formatUint_any u (by omega) w2 hP)
      obtain ⟨u, rfl⟩ : ∃ u : Nat, imm = (u : Int) := ⟨imm.toNat, by omega⟩
      replace HI3 := Lib.hid (HI3.out u rfl)
      have l3 : (Lib.decDigits u).length ≤ 20 := by rw [Lib.decDigits_length]; exact Lib.nDigits_le20 u (by omega)
      replace HBB := Lib.hid (show immT ⟨op, wid, fl, args, (u : Int)⟩ = if BB = true then 46 :: Lib.decDigits u else [] by
        unfold immT
        rw [HBB.out]
        simp)
      rw [HBB.out] at HH
      replace HBB := Lib.hid (show (if BB = true then 46 :: Lib.decDigits u else []).length ≤ 21 by split <;> simp <;> omega)
      generalize Lib.decDigits u = S3 at HI3 l3 HH HBB
      go_upto_if 46 with fail
      go_cut [9] from 47 to 71 (fun s9 wx => s9 = .string ⟨(H1 ++ (if BB = true then 46 :: S3 else [])).toArray⟩ ∧ Below wc.heap.size wc wx)
      case first =>
        rcases BB with _ | _
        · have HE0 := Lib.hid (show H1 = H1 ++ (if false = true then 46 :: S3 else []) by simp)
          go_wp2
          go_meet
          exact ⟨congrArg (fun l : List UInt8 => Value.string ⟨l.toArray⟩) HE0.out, Below.refl _ _⟩
        · have q1 : 1 + S3.length ≤ 9223372036854775807 := by omega
          have q2 : H1.length + (1 + S3.length) ≤ 9223372036854775807 := by omega
          have HE0 := Lib.hid (show (⟨H1.toArray⟩ : ByteArray) ++ ((⟨#[46]⟩ : ByteArray) ++ ⟨S3.toArray⟩) = ⟨(H1 ++ (if true = true then 46 :: S3 else [])).toArray⟩ by
            rw [show (⟨#[46]⟩ : ByteArray) = ⟨([46] : List UInt8).toArray⟩ from rfl, str_app, str_app]
            simp)
          have HCL := Lib.hid (HI3.out _ (HP.out.below (HB.out.trans (HB1.out.mono HB.out.size))))
          clear HH HBB
          go_wp2_with fail
          refine HCL.out.mono ?_
          rintro e v0 ⟨rfl, hbv⟩
          go_wp2_with fail
          go_meet
          exact ⟨congrArg Value.string HE0.out, hbv⟩
      case rest =>
      obtain ⟨rfl, hbw⟩ := hcut
      have hDl := lt_of_block hx.out
      replace hx := Lib.hid ((hbw.block D hDl).trans hx.out)
      replace HO := Lib.hid (own_below HO.out hbw)
      replace HIA := Lib.hid (HIA.out.below hbw)
      replace HB1 := Lib.hid (HB1.out.trans (hbw.mono HB1.out.size))
      replace HH := Lib.hid (show WD = (H1 ++ (if BB = true then 46 :: S3 else [])) ++ cmaT args by rw [HH.out]; simp)
      have lH2 : (H1 ++ (if BB = true then 46 :: S3 else [])).length ≤ 71 := by have := HBB.out; rw [List.length_append]; omega
      generalize H1 ++ (if BB = true then 46 :: S3 else []) = H2 at HH lH2 ⊢
      clear hbw HI3 l3 HBB d0 d1 d2 d3 d4 him lH
      generalize wc = W3 at hx HO HIA HB1 ⊢
      obtain ⟨d0, d1, d2, d3, d4⟩ := cells5 (x := ⟨op, wid, fl, args, (u : Int)⟩) hx.out
      simp only at d0 d1 d2 d3 d4
      have hlen := hok.len
      have HAR := Lib.hid hok.args
      simp only at hlen HAR
      have hn' := HIA.out.1
      have hca := HIA.out.2.1
      have hma := HIA.out.2.2.1
      have HN' := Lib.hid hn'
      have hn2 : n' ≤ 100 := by omega
      clear hn'
      have HLN := Lib.hid (cma_len HAR.out)
      go_wp2_with fail
      clear d0 d1 d2 d3 d4
      go_loopw [9, 57] (fun s9 zq wr => ∃ q : Nat, q ≤ n' ∧ zq = .int .i64 (q : Int) ∧ s9 = .string ⟨(H2 ++ cmaT (args.take q)).toArray⟩ ∧ Below W3.heap.size W3 wr) (fun _ zq _ => n' - (intOf zq).toNat)
      case atStart => exact ⟨0, by omega, rfl, by simp [cmaT], Below.refl _ _⟩
      case round =>
        obtain ⟨q, hq, rfl, rfl, hbq⟩ := hrel
        by_cases hqn : q < n'
        · obtain ⟨g, off', rfl, hg2, hc⟩ := (HIA.out.below hbq).at_ hqn
          have hqa : q < args.length := by rw [← HN'.out]; exact hqn
          have HNX := Lib.hid (cmaT_next hqa)
          have har := HAR.out q hqa
          have HI4 := Lib.hid (fun w2 (hP : P10 w2) => itoa_any args[q]! (by omega) (by omega) w2 hP)
          have l4 := Lib.itoa_length_le args[q]! (by omega) (by omega)
          have l5 := HLN.out q
          have q2 : (H2 ++ cmaT (args.take q)).length + (1 + (Lib.itoa args[q]!).length) ≤ 9223372036854775807 := by rw [List.length_append]; omega
          generalize args[q]! = y at hc HNX HI4 l4 q2
          clear har
          generalize Lib.itoa y = S4 at HNX HI4 l4 q2
          have q1 : 1 + S4.length ≤ 9223372036854775807 := by omega
          have HE0 := Lib.hid (show (⟨(H2 ++ cmaT (args.take q)).toArray⟩ : ByteArray) ++ ((⟨#[44]⟩ : ByteArray) ++ ⟨S4.toArray⟩) = ⟨(H2 ++ cmaT (args.take (q + 1))).toArray⟩ by
            rw [show (⟨#[44]⟩ : ByteArray) = ⟨([44] : List UInt8).toArray⟩ from rfl, str_app, str_app, HNX.out]
            simp)
          generalize H2 ++ cmaT (args.take q) = H3 at q2 HE0 ⊢
          have HBQ := Lib.hid hbq
          have HCL := Lib.hid (HI4.out _ (HP.out.below (HB.out.trans ((HB1.out.trans (hbq.mono HB1.out.size)).mono HB.out.size))))
          clear hbq HNX HI4 l4 l5 hqa
          go_wp2_with fail
          refine HCL.out.mono ?_
          rintro e v0 ⟨rfl, hbv⟩
          go_wp2_with fail
          go_roundw
          case rel => exact ⟨q + 1, by omega, by go_num, congrArg Value.string HE0.out, HBQ.out.trans (hbv.mono HBQ.out.size)⟩
          case measure => simp [intOf]; omega
        · have HWD := Lib.hid (show WD = H2 ++ cmaT (args.take q) by
            rw [HH.out, List.take_of_length_le (by have := HN'.out; omega)])
          rw [← HWD.out]
          generalize wr = W4 at hbq ⊢
          replace HO := Lib.hid (own_below HO.out hbq)
          replace HB1 := Lib.hid (HB1.out.trans (hbq.mono HB1.out.size))
          clear HWD hbq HH HLN HAR HIA HN'
          have hown := HO.out
          have hb := HB1.out
          go_wp2_with (at_builtin; refine wpList_append_own _ rfl _ _ 45 rfl w1.heap.size 9 i0 (.string ⟨#[]⟩) 1 16 Tryz.underlying45 hi hz0 hz1 hz2 rfl (by decide) _ _ _ rfl (hown.alloc _) ⟨W4.heap.size, 0, none⟩ 1 1 [.string ⟨WD.toArray⟩] rfl rfl (one_new W4 _ _) ?k2 ?k3 ?k4 ?k5 ?_)
          case k2 => simp [Value.oneCell']
          case k3 => unfold maxLen; omega
          case k4 => omega
          case k5 => have := hb.size; simp; omega
          intro v2 w7 hown7 hgrow _
          have hb5 : Below w1.heap.size w1 w7 := (hb.alloc hb.size _).grown hgrow (by have := hb.size; simp; omega) (own_base (hown.alloc (.cells #[.string ⟨WD.toArray⟩] 9)))
          have HO5 := Lib.hid (show w7.ownsRow w1.heap.size 9 1 v2 (k + 1) (strV ((X.take (k + 1)).map wordT)) by rw [HW.out, strV_app, List.map_take]; exact hown7)
          clear hown hown7 hgrow hb
          go_wp2
          go_roundw
          case rel => exact ⟨k + 1, by omega, by go_num, hb5, HO5.out⟩
          case measure => simp [intOf]; omega
    · have ek : k = X.length := by omega
      subst ek
      rw [List.take_length] at hown
      rcases hown.2 with ⟨-, h0⟩ | ⟨g, cap, cur, rfl, hg, hh, hcp, hcm, -, -⟩
      · omega
      · have HJ := join_any g 0 cap (X.map wordT) wr (fun j hj => by
          rw [List.length_map] at hj
          rw [Nat.zero_add]
          refine (own_cell hown (i := j) ?_).1
          unfold strV
          rw [List.getElem?_map, List.getElem?_eq_getElem (by rw [List.length_map]; exact hj), Option.map_some, getElem!_pos _ j (by rw [List.length_map]; exact hj)]) (lt_of_block hh) (by rw [List.length_map]; omega) (by rw [List.length_map]; exact hcp) (by
          have h1 := text_tail (T := X) (fun e => by rw [e] at hl; simp at hl)
          have h2 := tail_len X (fun x hx => by
            obtain ⟨i, hi2, rfl⟩ := List.getElem_of_mem hx
            have := HOK.out i hi2
            rw [getElem!_pos X i hi2] at this
            exact this)
          rw [← h1, List.length_cons] at h2
          show (textT X).length ≤ _
          omega)
        rw [List.length_map] at HJ
        have HJ2 := Lib.hid (show Calls Tryz.prog 22 #[.slice (some ⟨g, 0, none⟩) X.length cap, .string ⟨#[32]⟩] wr fun e w' => e = .returned (.string ⟨(textT X).toArray⟩) ∧ Below wr.heap.size wr w' from HJ)
        have HBB := Lib.hid (HB.out.trans (hb.mono HB.out.size))
        clear HJ hown hh hb
        go_wp2_with fail
        refine HJ2.out.mono ?_
        rintro e w9 ⟨rfl, hb9⟩
        go_wp2
        go_ret2
        exact ⟨rfl, HBB.out.trans (hb9.mono HBB.out.size)⟩
end
end Go.Proofs.YtbohigjfdnnomaaGreatDoor
