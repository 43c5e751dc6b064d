/-
  The walk of TermMeans.
-/
import Derived.Test.YtbohigjfdnnomaaDoorTeTx
import Derived.Test.YtbohigjfdnnomaaDoorTeS
import Derived.Maps.AppendAt
namespace Go.Proofs.YtbohigjfdnnomaaDoor
open Go.RowKit

theorem uV_at {l : List Nat} {j : Nat} (h : j < l.length) : (uV l)[j]? = some (.int .u32 ((l[j]! : Nat) : Int)) := by simp [uV, h]
/-- Words in own memory, one of them replaced. -/
theorem own_put {w : World} {base g c m v y : Nat} {l : List Nat} (h : w.ownsRow base 34 1 (.slice (some ⟨g, 0, none⟩) m c) m (uV l)) (hc : c ≤ 9223372036854775807) (hl : m = l.length) (hmc : m ≤ c) (hg : g < w.heap.size) (hv : v < m) : Ws (w.setCell ⟨g, v, none⟩ (.int .u32 (y : Int))) (some ⟨g, 0, none⟩) m c (l.set v y) := by
  refine ⟨by simp [hl], hmc, hc, .inr ⟨g, 0, rfl, by simpa using hg, fun j hj => ?_⟩⟩
  rw [Nat.zero_add]
  by_cases e : j = v
  · subst e
    rw [set_same (by omega)]
    exact World.cell?_setCell_same w ⟨g, j, none⟩ _ (own_cell h (uV_at (by omega))).1
  · rw [set_other e, World.cell?_setCell_other w ⟨g, v, none⟩ ⟨g, j, none⟩ _ (by intro hh; injection hh with _ h2; exact e h2.symm)]
    exact (own_cell h (uV_at (by omega))).1
theorem evF_lt {T : List Nd} {env : List Nat} (hi : ∀ k, k < T.length → 0 ≤ T[k]!.imm) (h : errV T env = 0) : evF T env < 4294967296 := by
  obtain ⟨hv, he⟩ := errV_zero h
  have h1 := (val_zero.1 hv).1
  have h2 := vals_lt hv hi he (T.length - 1) (by omega)
  obtain ⟨-, -, hw, -⟩ := nod_iff.1 ((val_zero.1 hv).2.1 (T.length - 1) (by omega))
  unfold evF
  rw [if_pos h]
  have h3 := pw_mono (show (T[T.length - 1]!.width).toNat ≤ 32 by omega)
  have h4 : pw 32 = 4294967296 := rfl
  omega
theorem put_in {T U : List Nd} {v : Int} (h : putF T U v = 0) : 0 ≤ v ∧ v < 4 := by
  unfold putF at h
  by_cases hv : valF T = 0
  · rw [if_pos hv] at h
    by_cases hu : valF U = 0
    · rw [if_pos hu] at h
      by_cases hb : 0 ≤ v ∧ v < 4
      · exact hb
      · rw [if_neg hb] at h
        exact absurd h (by decide)
    · rw [if_neg hu] at h
      exact absurd h hu
  · rw [if_neg hv] at h
    exact absurd h hv
section
variable {w : World} {A A2 E : Option Addr} {n c n2 c2 m cE : Nat} {T U : List Nd} {env : List Nat}
set_option maxRecDepth 100000 in
set_option maxHeartbeats 8000000 in
/-- The walk of TermMeans. -/
theorem means_walk (h : Term w A n c T) (h2 : Term w A2 n2 c2 U) (hM : Masks w) (hE : Ws w E m cE env) (hu : ∀ j, j < m → env[j]! < 4294967296) (v : Int) : Calls Tryd.prog 7 #[.slice A n c, .agg #[.int .i64 v, .slice A2 n2 c2], .slice E m cE] w fun e w' => e = .returned (.bool true) ∧ Below w.heap.size w w' := by
  have HK := Lib.hid (fun w1 (hb : Below w.heap.size w w1) => known_any (hM.below hb (Nat.le_refl _)))
  have HL := Lib.hid (fun w1 (hb : Below w.heap.size w w1) => long_any (h.below hb))
  have HLU := Lib.hid (fun w1 (hb : Below w.heap.size w w1) => long_any (h2.below hb))
  have HP := Lib.hid (fun w1 (hb : Below w.heap.size w w1) => put_any (h.below hb) (h2.below hb) v)
  have HEU := Lib.hid (fun w1 (hb : Below w.heap.size w w1) => eval_any (h2.below hb) (hM.below hb (Nat.le_refl _)) (hE.below hb) hu)
  have HEV := Lib.hid (fun w1 (hb : Below w.heap.size w w1) A3 n3 c3 (N : List Nd) (hN : Term w1 A3 n3 c3 N) => eval_any hN (hM.below hb (Nat.le_refl _)) (hE.below hb) hu)
  have HEO := Lib.hid (fun w1 (hb : Below w.heap.size w w1) A3 m3 c3 (l : List Nat) (hl : Ws w1 A3 m3 c3 l) (hu : ∀ j, j < m3 → l[j]! < 4294967296) => eval_any (h.below hb) (hM.below hb (Nat.le_refl _)) hl hu)
  have HT := Lib.hid h
  have HU2 := Lib.hid h2
  have HEE := Lib.hid (And.intro hE hu)
  have hEc := hE.2.1
  have hEm := hE.2.2.1
  clear h h2 hM
  cases hT : longB T
  · cases hU : longB U
    · by_cases hm4 : m = 4
      · subst hm4
        rw [hT] at HL
        rw [hU] at HLU
        clear hT hU
        by_cases hp : putF T U v = 0
        · by_cases hg : errV U env = 0
          · obtain ⟨hv0, hv4⟩ := put_in hp
            obtain ⟨k, rfl⟩ : ∃ k : Nat, v = (k : Int) := ⟨v.toNat, by omega⟩
            have hk4 : k < 4 := by omega
            have HIT := Lib.hid (show ∀ q, q < T.length → 0 ≤ T[q]!.imm from fun q hq => (term_imm HT.out q hq).1)
            have HPV := Lib.hid (put_val (env := env) HIT.out hp hg)
            have hy := evF_lt (fun q hq => (term_imm HU2.out q hq).1) hg
            have HSU := Lib.hid (show ∀ j, j < 4 → (env.set k (evF U env))[j]! < 4294967296 from fun j hj => by
              by_cases e : j = k
              · subst e
                rw [set_same (by have := HEE.out.1.1; omega)]
                exact hy
              · rw [set_other e]
                exact HEE.out.2 j hj)
            rw [if_pos hp, hp] at HP
            rw [hg] at HEU
            have e1 : decide ((k : Int) < 0) = false := decide_eq_false (by omega)
            have e2 : decide ((4 : Int) ≤ (k : Int)) = false := decide_eq_false (by omega)
            obtain ⟨b, off, rfl, hbl, -⟩ := hE.at_ (j := 0) (by omega)
            have HEN := Lib.hid (fun w1 A3 n3 c3 (hb : Below w.heap.size w w1) (hN : Term w1 A3 n3 c3 (putN T U (k : Int))) => HEV.out w1 hb A3 n3 c3 (putN T U (k : Int)) hN)
            generalize evF U env = y at HPV hy HSU HEU
            generalize hN : putN T U (k : Int) = N at HP HPV HEN
            clear hN hp hg HEV hE hv0 hv4 HIT HU2
            obtain ⟨i0, hi, hz0, hz1, hz2⟩ := info_parts infoW
            go_enter Tryd.func7, Tryd.ntmps7
            go_upto_region 1 with fail
            have hx := heap_alloc_new w (.cells #[.int .i64 (k : Int), .slice A2 n2 c2] 50)
            have hb0 : Below w.heap.size w (w.alloc (.cells #[.int .i64 (k : Int), .slice A2 n2 c2] 50)) := (Below.refl _ _).alloc (Nat.le_refl _) _
            generalize World.alloc w _ = W1 at hx hb0 ⊢
            have HB0 := Lib.hid hb0
            obtain ⟨X, hXE⟩ : ∃ X, w.heap.size = X := ⟨_, rfl⟩
            rw [hXE] at hx ⊢
            have hxl := lt_of_block hx
            have HX := Lib.hid (show ∀ U, Below W1.heap.size W1 U → U.cell? ⟨X, 0, none⟩ = some (.int .i64 (k : Int)) ∧ U.cell? ⟨X, 1, none⟩ = some (.slice A2 n2 c2) ∧ X < U.heap.size from fun U hU => by
              have h := (hU.block _ hxl).trans hx
              exact ⟨by simp [World.cell?, h], by simp [World.cell?, h], Nat.lt_of_lt_of_le hxl hU.size⟩)
            have HBR := Lib.hid (fun U (hU : Below W1.heap.size W1 U) => hb0.trans (hU.mono hb0.size))
            clear hx hb0 hXE hxl
            obtain ⟨x0, x1, xl⟩ := HX.out _ (Below.refl _ _)
            go_wp2_with fail
            refine (HL.out _ (HBR.out _ (Below.refl _ _))).mono ?_
            rintro e w1 ⟨rfl, hb⟩
            have b1 := hb
            clear hb x0 x1 xl
            obtain ⟨x0, x1, xl⟩ := HX.out _ b1
            go_wp2_with fail
            refine (HLU.out _ (HBR.out _ b1)).mono ?_
            rintro e w2 ⟨rfl, hb⟩
            have b2 := b1.trans (hb.mono b1.size)
            clear hb x0 x1 xl 
            obtain ⟨x0, x1, xl⟩ := HX.out _ b2
            go_wp2_with fail
            refine (HP.out _ (HBR.out _ b2)).mono ?_
            rintro e w3 ⟨na, ava, rfl, hOa, hb⟩
            have b3 := b2.trans (hb.mono b2.size)
            clear hb x0 x1 xl 
            obtain ⟨x0, x1, xl⟩ := HX.out _ b3
            obtain ⟨Aa, ca, rfl, hTa⟩ := own_term hOa
            clear hOa
            go_wp2_with fail
            refine (HEU.out _ (HBR.out _ b3)).mono ?_
            rintro e w4 ⟨rfl, hb⟩
            have b4 := b3.trans (hb.mono b3.size)
            replace hTa := hTa.below hb
            clear hb x0 x1 xl
            obtain ⟨x0, x1, xl⟩ := HX.out _ b4
            have HN := Lib.hid (HEN.out _ _ _ _ (HBR.out _ b4) hTa)
            generalize errV N env = V1 at HN HPV
            generalize evF N env = y1 at HN HPV
            clear hTa HEN
            go_wp2_with fail
            refine HN.out.mono ?_
            rintro e w5 ⟨rfl, hb⟩
            have b5 := b4.trans (hb.mono b4.size)
            clear hb x0 x1 xl HN
            have HBW := Lib.hid (HBR.out _ b5)
            have hE5 := HEE.out.1.below HBW.out
            have HLE := Lib.hid HEE.out.1.1
            have HB5 := Lib.hid b5
            go_wp2_with (at_builtin; refine wpList_append_own_at _ rfl _ _ 33 rfl w5.heap.size 34 i0 (.int .u32 0) 1 4 Tryd.underlying33 hi hz0 hz1 hz2 rfl (by decide) _ 0 [] rfl (World.ownsRow_made w5 #[] 0 (Nat.le_refl _) (Nat.zero_le _) rfl) ⟨b, off, none⟩ 4 cE (uV env) rfl (by have := HLE.out; simp [uV]; omega) ?k1 ?k2 ?k3 ?k4 ?k5 ?_)
            case k1 =>
              intro j u hj
              have hj4 : j < env.length := by
                have h1 := (List.getElem?_eq_some_iff.1 hj).1
                simpa [uV] using h1
              rw [uV_at hj4] at hj
              injection hj with hj
              subst hj
              have hle := HLE.out
              obtain ⟨b', off', q1, hbl2, hc⟩ := hE5.at_ (j := j) (by omega)
              injection q1 with q1
              injection q1 with q1 q2 _
              subst q1 q2
              rw [Addr.add_lit]
              exact ((Below.refl w5.heap.size w5).alloc (Nat.le_refl _) _).cell (p := ⟨b, off + j, none⟩) hbl2 |>.trans hc
            case k2 =>
              intro u hu
              obtain ⟨x, _, rfl⟩ := List.mem_map.1 hu
              rfl
            case k3 => unfold maxLen; omega
            case k4 => omega
            case k5 => simp
            intro v6 w6 hown6 hg6 _ _
            try rw [Nat.zero_add, List.nil_append] at hown6
            have hbn : Below w5.heap.size w5 w6 := by
              have h1 : Below w5.heap.size w5 (w5.alloc (.cells #[] 34)) := (Below.refl _ _).alloc (Nat.le_refl _) _
              exact h1.grown hg6 h1.size (fun q hq => by
                simp [Value.ownBlock] at hq
                omega)
            have b6 := HB5.out.trans (hbn.mono HB5.out.size)
            obtain ⟨x0, x1, xl⟩ := HX.out _ b6
            rcases hown6.2 with ⟨rfl, h0⟩ | ⟨g, cap, cur, rfl, hgb, hgh, -⟩
            · omega
            have hgl := lt_of_block hgh
            have hcap6 : 4 ≤ cap ∧ cap ≤ 9223372036854775807 := by
              have h1 := hown6.2
              rcases h1 with ⟨q1, -⟩ | ⟨g', cap', cur', q1, -, -, q2, q3, -⟩
              · cases q1
              · injection q1 with _ _ q4
                subst q4
                exact ⟨q2, by unfold maxLen at q3; omega⟩
            have hstore := own_cell hown6 (i := k) (uV_at (by have := HLE.out; omega))
            obtain ⟨hc6, hf6⟩ := hstore
            have HWS := Lib.hid (own_put (y := y) hown6 hcap6.2 HLE.out hcap6.1 hgl hk4)
            have HBS := Lib.hid (show Below W1.heap.size W1 (w6.setCell ⟨g, k, none⟩ (.int .u32 (y : Int))) from b6.setCell (p := ⟨g, k, none⟩) (Nat.le_trans HB5.out.size (show w5.heap.size ≤ g from own_base hown6 g rfl)) _)
            obtain ⟨hcapA, hcapB⟩ := hcap6
            clear hown6 hg6 hgb hgh hbn hE5 b5 b6
            go_upto_region 10 with fail
            have hws := HWS.out
            have hbs7 := HBS.out
            generalize World.setCell w6 _ _ = w7 at hws hbs7 ⊢
            clear x0 x1 xl HWS HBS
            have HO := Lib.hid (HEO.out _ (HBR.out _ hbs7) _ _ _ _ hws HSU.out)
            generalize errV T (env.set k y) = V2 at HO HPV
            generalize evF T (env.set k y) = y2 at HO HPV
            clear hws HEO
            go_wp2_with fail
            refine HO.out.mono ?_
            rintro e w8 ⟨rfl, hb⟩
            have b8 := hbs7.trans (hb.mono hbs7.size)
            clear hb hbs7
            by_cases hv1 : V1 = 0
            · by_cases hv2 : V2 = 0
              · subst hv1 hv2
                obtain rfl : y1 = y2 := HPV.out rfl rfl
                have e3 : ((y1 : Int) == (y1 : Int)) = true := beq_self_eq_true _
                go_wp2_with fail
                refine (HK.out _ (HBR.out _ b8)).mono ?_
                rintro e w9 ⟨rfl, hb⟩
                have b9 := b8.trans (hb.mono b8.size)
                go_wp2
                go_ret
                exact ⟨rfl, HBR.out _ b9⟩
              · have e3 : (V2 != 0) = true := bne_iff_ne.2 hv2
                subst hv1
                clear hv2 HPV
                go_wp2_with fail
                refine (HK.out _ (HBR.out _ b8)).mono ?_
                rintro e w9 ⟨rfl, hb⟩
                have b9 := b8.trans (hb.mono b8.size)
                go_wp2
                go_ret
                exact ⟨rfl, HBR.out _ b9⟩
            · have e3 : (V1 != 0) = true := bne_iff_ne.2 hv1
              clear hv1 HPV
              go_wp2_with fail
              refine (HK.out _ (HBR.out _ b8)).mono ?_
              rintro e w9 ⟨rfl, hb⟩
              have b9 := b8.trans (hb.mono b8.size)
              go_wp2
              go_ret
              exact ⟨rfl, HBR.out _ b9⟩
          · have e1 : (errV U env != 0) = true := bne_iff_ne.2 hg
            rw [hp] at HP
            generalize errV U env = V at HEU e1
            generalize evF U env = y at HEU
            generalize (if (0 : Int) = 0 then putN T U v else []) = N at HP
            clear hp hg HEV HEO hE
            go_enter Tryd.func7, Tryd.ntmps7
            go_upto_region 1 with fail
            have hx := heap_alloc_new w (.cells #[.int .i64 v, .slice A2 n2 c2] 50)
            have hb0 : Below w.heap.size w (w.alloc (.cells #[.int .i64 v, .slice A2 n2 c2] 50)) := (Below.refl _ _).alloc (Nat.le_refl _) _
            generalize World.alloc w _ = W1 at hx hb0 ⊢
            have HB0 := Lib.hid hb0
            obtain ⟨X, hXE⟩ : ∃ X, w.heap.size = X := ⟨_, rfl⟩
            rw [hXE] at hx ⊢
            have hxl := lt_of_block hx
            have HX := Lib.hid (show ∀ U, Below W1.heap.size W1 U → U.cell? ⟨X, 0, none⟩ = some (.int .i64 v) ∧ U.cell? ⟨X, 1, none⟩ = some (.slice A2 n2 c2) ∧ X < U.heap.size from fun U hU => by
              have h := (hU.block _ hxl).trans hx
              exact ⟨by simp [World.cell?, h], by simp [World.cell?, h], Nat.lt_of_lt_of_le hxl hU.size⟩)
            have HBR := Lib.hid (fun U (hU : Below W1.heap.size W1 U) => hb0.trans (hU.mono hb0.size))
            clear hx hb0 hXE hxl
            obtain ⟨x0, x1, xl⟩ := HX.out _ (Below.refl _ _)
            go_wp2_with fail
            refine (HL.out _ (HBR.out _ (Below.refl _ _))).mono ?_
            rintro e w1 ⟨rfl, hb⟩
            have b1 := hb
            clear hb x0 x1 xl
            obtain ⟨x0, x1, xl⟩ := HX.out _ b1
            go_wp2_with fail
            refine (HLU.out _ (HBR.out _ b1)).mono ?_
            rintro e w2 ⟨rfl, hb⟩
            have b2 := b1.trans (hb.mono b1.size)
            clear hb x0 x1 xl 
            obtain ⟨x0, x1, xl⟩ := HX.out _ b2
            go_wp2_with fail
            refine (HP.out _ (HBR.out _ b2)).mono ?_
            rintro e w3 ⟨na, ava, rfl, hOa, hb⟩
            have b3 := b2.trans (hb.mono b2.size)
            clear hb x0 x1 xl 
            obtain ⟨x0, x1, xl⟩ := HX.out _ b3
            obtain ⟨Aa, ca, rfl, -⟩ := own_term hOa
            clear hOa
            go_wp2_with fail
            refine (HEU.out _ (HBR.out _ b3)).mono ?_
            rintro e w4 ⟨rfl, hb⟩
            have b4 := b3.trans (hb.mono b3.size)
            clear hb x0 x1 xl 
            obtain ⟨x0, x1, xl⟩ := HX.out _ b4
            go_wp2_with fail
            refine (HK.out _ (HBR.out _ b4)).mono ?_
            rintro e w5 ⟨rfl, hb⟩
            have b5 := b4.trans (hb.mono b4.size)
            clear hb x0 x1 xl 
            obtain ⟨x0, x1, xl⟩ := HX.out _ b5
            go_wp2
            go_ret
            exact ⟨rfl, HBR.out _ b5⟩
        · have e1 : (putF T U v != 0) = true := bne_iff_ne.2 hp
          rw [if_neg hp] at HP
          generalize putF T U v = V at HP e1
          generalize errV U env = V2 at HEU
          generalize evF U env = y at HEU
          clear hp HEV HEO hE
          go_enter Tryd.func7, Tryd.ntmps7
          go_upto_region 1 with fail
          have hx := heap_alloc_new w (.cells #[.int .i64 v, .slice A2 n2 c2] 50)
          have hb0 : Below w.heap.size w (w.alloc (.cells #[.int .i64 v, .slice A2 n2 c2] 50)) := (Below.refl _ _).alloc (Nat.le_refl _) _
          generalize World.alloc w _ = W1 at hx hb0 ⊢
          have HB0 := Lib.hid hb0
          obtain ⟨X, hXE⟩ : ∃ X, w.heap.size = X := ⟨_, rfl⟩
          rw [hXE] at hx ⊢
          have hxl := lt_of_block hx
          have HX := Lib.hid (show ∀ U, Below W1.heap.size W1 U → U.cell? ⟨X, 0, none⟩ = some (.int .i64 v) ∧ U.cell? ⟨X, 1, none⟩ = some (.slice A2 n2 c2) ∧ X < U.heap.size from fun U hU => by
            have h := (hU.block _ hxl).trans hx
            exact ⟨by simp [World.cell?, h], by simp [World.cell?, h], Nat.lt_of_lt_of_le hxl hU.size⟩)
          have HBR := Lib.hid (fun U (hU : Below W1.heap.size W1 U) => hb0.trans (hU.mono hb0.size))
          clear hx hb0 hXE hxl
          obtain ⟨x0, x1, xl⟩ := HX.out _ (Below.refl _ _)
          go_wp2_with fail
          refine (HL.out _ (HBR.out _ (Below.refl _ _))).mono ?_
          rintro e w1 ⟨rfl, hb⟩
          have b1 := hb
          clear hb x0 x1 xl
          obtain ⟨x0, x1, xl⟩ := HX.out _ b1
          go_wp2_with fail
          refine (HLU.out _ (HBR.out _ b1)).mono ?_
          rintro e w2 ⟨rfl, hb⟩
          have b2 := b1.trans (hb.mono b1.size)
          clear hb x0 x1 xl 
          obtain ⟨x0, x1, xl⟩ := HX.out _ b2
          go_wp2_with fail
          refine (HP.out _ (HBR.out _ b2)).mono ?_
          rintro e w3 ⟨na, ava, rfl, hOa, hb⟩
          have b3 := b2.trans (hb.mono b2.size)
          clear hb x0 x1 xl 
          obtain ⟨x0, x1, xl⟩ := HX.out _ b3
          obtain ⟨Aa, ca, rfl, -⟩ := own_term hOa
          clear hOa
          go_wp2_with fail
          refine (HEU.out _ (HBR.out _ b3)).mono ?_
          rintro e w4 ⟨rfl, hb⟩
          have b4 := b3.trans (hb.mono b3.size)
          clear hb x0 x1 xl 
          obtain ⟨x0, x1, xl⟩ := HX.out _ b4
          go_wp2_with fail
          refine (HK.out _ (HBR.out _ b4)).mono ?_
          rintro e w5 ⟨rfl, hb⟩
          have b5 := b4.trans (hb.mono b4.size)
          clear hb x0 x1 xl 
          obtain ⟨x0, x1, xl⟩ := HX.out _ b5
          go_wp2
          go_ret
          exact ⟨rfl, HBR.out _ b5⟩
      · have e1 : ((m : Int) != 4) = true := by rw [bne_iff_ne]; omega
        rw [hT] at HL
        rw [hU] at HLU
        clear hT hU HP HEU HEV HEO hE hm4
        go_enter Tryd.func7, Tryd.ntmps7
        go_upto_region 1 with fail
        have hx := heap_alloc_new w (.cells #[.int .i64 v, .slice A2 n2 c2] 50)
        have hb0 : Below w.heap.size w (w.alloc (.cells #[.int .i64 v, .slice A2 n2 c2] 50)) := (Below.refl _ _).alloc (Nat.le_refl _) _
        generalize World.alloc w _ = W1 at hx hb0 ⊢
        have HB0 := Lib.hid hb0
        obtain ⟨X, hXE⟩ : ∃ X, w.heap.size = X := ⟨_, rfl⟩
        rw [hXE] at hx ⊢
        have hxl := lt_of_block hx
        have HX := Lib.hid (show ∀ U, Below W1.heap.size W1 U → U.cell? ⟨X, 0, none⟩ = some (.int .i64 v) ∧ U.cell? ⟨X, 1, none⟩ = some (.slice A2 n2 c2) ∧ X < U.heap.size from fun U hU => by
          have h := (hU.block _ hxl).trans hx
          exact ⟨by simp [World.cell?, h], by simp [World.cell?, h], Nat.lt_of_lt_of_le hxl hU.size⟩)
        have HBR := Lib.hid (fun U (hU : Below W1.heap.size W1 U) => hb0.trans (hU.mono hb0.size))
        clear hx hb0 hXE hxl
        obtain ⟨x0, x1, xl⟩ := HX.out _ (Below.refl _ _)
        go_wp2_with fail
        refine (HL.out _ (HBR.out _ (Below.refl _ _))).mono ?_
        rintro e w1 ⟨rfl, hb⟩
        have b1 := hb
        clear hb x0 x1 xl
        obtain ⟨x0, x1, xl⟩ := HX.out _ b1
        go_wp2_with fail
        refine (HLU.out _ (HBR.out _ b1)).mono ?_
        rintro e w2 ⟨rfl, hb⟩
        have b2 := b1.trans (hb.mono b1.size)
        clear hb x0 x1 xl 
        obtain ⟨x0, x1, xl⟩ := HX.out _ b2
        go_wp2_with fail
        refine (HK.out _ (HBR.out _ b2)).mono ?_
        rintro e w3 ⟨rfl, hb⟩
        have b3 := b2.trans (hb.mono b2.size)
        clear hb x0 x1 xl 
        obtain ⟨x0, x1, xl⟩ := HX.out _ b3
        go_wp2
        go_ret
        exact ⟨rfl, HBR.out _ b3⟩
    · rw [hT] at HL
      rw [hU] at HLU
      clear hT hU HP HEU HEV HEO hE
      go_enter Tryd.func7, Tryd.ntmps7
      go_upto_region 1 with fail
      have hx := heap_alloc_new w (.cells #[.int .i64 v, .slice A2 n2 c2] 50)
      have hb0 : Below w.heap.size w (w.alloc (.cells #[.int .i64 v, .slice A2 n2 c2] 50)) := (Below.refl _ _).alloc (Nat.le_refl _) _
      generalize World.alloc w _ = W1 at hx hb0 ⊢
      have HB0 := Lib.hid hb0
      obtain ⟨X, hXE⟩ : ∃ X, w.heap.size = X := ⟨_, rfl⟩
      rw [hXE] at hx ⊢
      have hxl := lt_of_block hx
      have HX := Lib.hid (show ∀ U, Below W1.heap.size W1 U → U.cell? ⟨X, 0, none⟩ = some (.int .i64 v) ∧ U.cell? ⟨X, 1, none⟩ = some (.slice A2 n2 c2) ∧ X < U.heap.size from fun U hU => by
        have h := (hU.block _ hxl).trans hx
        exact ⟨by simp [World.cell?, h], by simp [World.cell?, h], Nat.lt_of_lt_of_le hxl hU.size⟩)
      have HBR := Lib.hid (fun U (hU : Below W1.heap.size W1 U) => hb0.trans (hU.mono hb0.size))
      clear hx hb0 hXE hxl
      obtain ⟨x0, x1, xl⟩ := HX.out _ (Below.refl _ _)
      go_wp2_with fail
      refine (HL.out _ (HBR.out _ (Below.refl _ _))).mono ?_
      rintro e w1 ⟨rfl, hb⟩
      have b1 := hb
      clear hb x0 x1 xl
      obtain ⟨x0, x1, xl⟩ := HX.out _ b1
      go_wp2_with fail
      refine (HLU.out _ (HBR.out _ b1)).mono ?_
      rintro e w2 ⟨rfl, hb⟩
      have b2 := b1.trans (hb.mono b1.size)
      clear hb x0 x1 xl 
      obtain ⟨x0, x1, xl⟩ := HX.out _ b2
      go_wp2_with fail
      refine (HK.out _ (HBR.out _ b2)).mono ?_
      rintro e w3 ⟨rfl, hb⟩
      have b3 := b2.trans (hb.mono b2.size)
      clear hb x0 x1 xl 
      obtain ⟨x0, x1, xl⟩ := HX.out _ b3
      go_wp2
      go_ret
      exact ⟨rfl, HBR.out _ b3⟩
  · rw [hT] at HL
    clear hT HP HEU HEV HEO HLU hE
    go_enter Tryd.func7, Tryd.ntmps7
    go_upto_region 1 with fail
    have hx := heap_alloc_new w (.cells #[.int .i64 v, .slice A2 n2 c2] 50)
    have hb0 : Below w.heap.size w (w.alloc (.cells #[.int .i64 v, .slice A2 n2 c2] 50)) := (Below.refl _ _).alloc (Nat.le_refl _) _
    generalize World.alloc w _ = W1 at hx hb0 ⊢
    have HB0 := Lib.hid hb0
    obtain ⟨X, hXE⟩ : ∃ X, w.heap.size = X := ⟨_, rfl⟩
    rw [hXE] at hx ⊢
    have hxl := lt_of_block hx
    have HX := Lib.hid (show ∀ U, Below W1.heap.size W1 U → U.cell? ⟨X, 0, none⟩ = some (.int .i64 v) ∧ U.cell? ⟨X, 1, none⟩ = some (.slice A2 n2 c2) ∧ X < U.heap.size from fun U hU => by
      have h := (hU.block _ hxl).trans hx
      exact ⟨by simp [World.cell?, h], by simp [World.cell?, h], Nat.lt_of_lt_of_le hxl hU.size⟩)
    have HBR := Lib.hid (fun U (hU : Below W1.heap.size W1 U) => hb0.trans (hU.mono hb0.size))
    clear hx hb0 hXE hxl
    obtain ⟨x0, x1, xl⟩ := HX.out _ (Below.refl _ _)
    go_wp2_with fail
    refine (HL.out _ (HBR.out _ (Below.refl _ _))).mono ?_
    rintro e w1 ⟨rfl, hb⟩
    have b1 := hb
    clear hb x0 x1 xl
    obtain ⟨x0, x1, xl⟩ := HX.out _ b1
    go_wp2_with fail
    refine (HK.out _ (HBR.out _ b1)).mono ?_
    rintro e w2 ⟨rfl, hb⟩
    have b2 := b1.trans (hb.mono b1.size)
    clear hb x0 x1 xl 
    obtain ⟨x0, x1, xl⟩ := HX.out _ b2
    go_wp2
    go_ret
    exact ⟨rfl, HBR.out _ b2⟩
end
end Go.Proofs.YtbohigjfdnnomaaDoor
