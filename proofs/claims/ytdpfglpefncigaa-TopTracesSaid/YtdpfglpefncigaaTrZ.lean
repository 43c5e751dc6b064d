/-
  Bytes as strings; tables compared.
-/
import Derived.Test.YtdpfglpefncigaaTrX
import Derived.Test.YtdpfglpefncigaaTrU
namespace Go.Proofs.Ytdpfglpefncigaa
open Go.RowKit

/-- Bytes as a string's. -/
def strB (l : List Nat) : ByteArray := ⟨(l.map UInt8.ofNat).toArray⟩
theorem strB_inj {a b : List Nat} (ha : ∀ x ∈ a, x < 256) (hb : ∀ x ∈ b, x < 256) (h : strB a = strB b) : a = b := by
  unfold strB at h
  injection h with h
  have h1 : a.map UInt8.ofNat = b.map UInt8.ofNat := by simpa using h
  have h2 := congrArg (List.map UInt8.toNat) h1
  rw [List.map_map, List.map_map] at h2
  have e : ∀ l : List Nat, (∀ x ∈ l, x < 256) → l.map (UInt8.toNat ∘ UInt8.ofNat) = l := by
    intro l hl
    conv => rhs; rw [← List.map_id l]
    apply List.map_congr_left
    intro x hx
    have := hl x hx
    simp
    omega
  rw [e a ha, e b hb] at h2
  exact h2
theorem str_conv {w : World} {D : Nat} {v : Value} {l : List Nat} (h : BytesAt w D v l) : (convert 39 9 v).run Try.prog w = .ok (.string (strB l)) w := by
  rcases h with ⟨rfl, A, c, rfl⟩ | ⟨h0, g, off, c, rfl, hc, hg, hj⟩
  · rw [run_convert_bytes_string w 39 9 5 _ 0 c Try.underlying39 Try.underlying5 Try.underlying9]
    cases A <;> simp [Conv.bytesToString, loadCells]
    all_goals rfl
  · have := run_convert_bytes_back (P := Try.prog) w 39 9 5 ⟨g, off, none⟩ c (l.map UInt8.ofNat) Try.underlying39 Try.underlying5 Try.underlying9 (fun j hjl => by
      have hjl2 : j < l.length := by simpa using hjl
      obtain ⟨h1, h2⟩ := hj j hjl2
      have e : (⟨g, off, none⟩ : Addr).add j = ⟨g, off + j, none⟩ := by
        unfold Addr.add
        split
        · rename_i h0
          simp [h0]
        · rfl
      rw [e, h2]
      have el : l[j]! = l[j] := by simp [hjl2]
      rw [el] at h1 ⊢
      simp
      omega)
    rw [List.length_map] at this
    exact this
theorem grpF_byte : ∀ (f n : Nat), ∀ x ∈ grpF f n, x < 256
  | 0, _, x, h => by simp [grpF] at h
  | f + 1, n, x, h => by
    have h : x ∈ (if n < 128 then [n] else (n % 128 + 128) :: grpF f (n / 128)) := h
    split at h
    · have : x = n := by simpa using h
      omega
    · rcases List.mem_cons.1 h with rfl | h
      · omega
      · exact grpF_byte f _ x h
theorem encF_byte (zs : List Plc) : ∀ x ∈ encF zs, x < 256 := by
  intro x hx
  rw [encF_tail] at hx
  rcases List.mem_append.1 hx with h | h
  · exact grpF_byte _ _ x h
  · unfold tailB at h
    obtain ⟨j, _, h⟩ := List.mem_flatMap.1 h
    unfold grpAll at h
    obtain ⟨m, _, h⟩ := List.mem_flatMap.1 h
    exact grpF_byte _ _ x h
theorem bytes_own {w : World} {base : Nat} {v : Value} {l : List Nat} (h : w.ownsRow base 5 1 v l.length (bytesV l)) (hl : ∀ x ∈ l, x < 256) : BytesAt w w.heap.size v l := by
  have h0 := h
  rcases h.2 with ⟨rfl, h1⟩ | ⟨g, cap, cur, rfl, _, hh, h2, h3, _⟩
  · exact .inl ⟨List.eq_nil_of_length_eq_zero h1, none, 0, rfl⟩
  · by_cases he : l.length = 0
    · have : l = [] := List.eq_nil_of_length_eq_zero he
      subst this
      exact .inl ⟨rfl, _, cap, rfl⟩
    · refine .inr ⟨by omega, g, 0, cap, rfl, h2, lt_of_block hh, fun j hj => ?_⟩
      have e : l[j]! = l[j] := by simp [hj]
      have := h0.cells (g := g) rfl j (.int .u8 (l[j]! : Int)) (by simp [bytesV, hj])
      have e2 : (⟨g, 0, none⟩ : Addr).add j = ⟨g, 0 + j, none⟩ := by
        unfold Addr.add
        split
        · rename_i h0
          simp [h0]
        · simp
      rw [e2] at this
      refine ⟨?_, this⟩
      rw [e]
      exact hl _ (List.getElem_mem hj)
theorem BytesAt.more {w w' : World} {v : Value} {l : List Nat} (h : BytesAt w w.heap.size v l) (hb : Below w.heap.size w w') : BytesAt w' w'.heap.size v l := by
  rcases h.below hb with h | ⟨h0, g, off, c, rfl, hc, hg, hj⟩
  · exact .inl h
  · exact .inr ⟨h0, g, off, c, rfl, hc, Nat.lt_of_lt_of_le hg hb.size, hj⟩
theorem bytes_nil (w : World) : BytesAt w w.heap.size (.slice none 0 0) [] := .inl ⟨rfl, none, 0, rfl⟩
/-- What Encode writes. -/
def encL (zs : List Plc) : List Nat := if valF zs = 0 then encF zs else []
theorem encL_byte (zs : List Plc) : ∀ x ∈ encL zs, x < 256 := by
  unfold encL
  split
  · exact encF_byte zs
  · simp
section
variable {w : World} {A : Option Addr} {n c : Nat} {zs : List Plc}
theorem Encode_tab (h : Tab w A n c zs) : Calls Try.prog 25 #[.slice A n c] w fun e w' => ∃ v, e = .returned (.tuple #[v, .int .i64 (valF zs)]) ∧ BytesAt w' w'.heap.size v (encL zs) ∧ Below w.heap.size w w' := by
  by_cases hv : valF zs = 0
  · have e : encL zs = encF zs := if_pos hv
    rw [hv, e]
    exact (encode_tab h hv).mono fun _ _ ⟨v, h1, h2, h3⟩ => ⟨v, h1, bytes_own h3 (encF_byte zs), h2⟩
  · have e : encL zs = [] := if_neg hv
    rw [e]
    exact (encode_tab_bad h hv).mono fun _ _ ⟨h1, h2⟩ => ⟨_, h1, bytes_nil _, h2⟩
theorem RefEncode_tab (h : Tab w A n c zs) : Calls Try.prog 26 #[.slice A n c] w fun e w' => ∃ v, e = .returned (.tuple #[v, .int .i64 (valF zs)]) ∧ BytesAt w' w'.heap.size v (encL zs) ∧ Below w.heap.size w w' := by
  by_cases hv : valF zs = 0
  · have e : encL zs = encF zs := if_pos hv
    rw [hv, e]
    exact (refEncode_tab h hv).mono fun _ _ ⟨v, h1, h2, h3⟩ => ⟨v, h1, bytes_own h3 (encF_byte zs), h2⟩
  · have e : encL zs = [] := if_neg hv
    rw [e]
    exact (refEncode_tab_bad h hv).mono fun _ _ ⟨h1, h2⟩ => ⟨_, h1, bytes_nil _, h2⟩
end
theorem tab_nil (w : World) : Tab w none 0 0 [] := ⟨rfl, Nat.le_refl _, by omega, .inl rfl⟩
/-- Decode, in one form. -/
theorem Decode_tab {w : World} {v : Value} {l : List Nat} (h : BytesAt w w.heap.size v l) : Calls Try.prog 27 #[v] w fun e w' => ∃ A n c, e = .returned (.tuple #[.slice A n c, .int .i64 (if (decP l).isSome then 0 else 2)]) ∧ Tab w' A n c ((decP l).getD []) ∧ Below w.heap.size w w' := by
  refine (decode_any v l w h).mono ?_
  rintro e w' ⟨hb, hm⟩
  cases hd : decP l with
  | none =>
    rw [hd] at hm
    exact ⟨none, 0, 0, hm, tab_nil _, hb⟩
  | some ps =>
    rw [hd] at hm
    obtain ⟨v', he, ho⟩ := hm
    obtain ⟨A, c, rfl, hT⟩ := tab_own ho
    exact ⟨A, _, c, he, hT, hb⟩

set_option maxRecDepth 100000 in
set_option maxHeartbeats 4000000 in
theorem same_any {w : World} {A1 A2 : Option Addr} {n1 n2 c1 c2 : Nat} {zs1 zs2 : List Plc} (h1 : Tab w A1 n1 c1 zs1) (h2 : Tab w A2 n2 c2 zs2) (hl : zs1.length ≤ 1000) :
    Calls Try.prog 28 #[.slice A1 n1 c1, .slice A2 n2 c2] w fun e w' => e = .returned (.bool (decide (zs1 = zs2))) ∧ Below w.heap.size w w' := by
  have e1 := h1.shape
  have e2 := h2.shape
  by_cases hn : n1 = n2
  · subst hn
    by_cases h0 : n1 = 0
    · subst h0
      have hr : zs1 = zs2 := by rw [List.eq_nil_of_length_eq_zero e1.symm, List.eq_nil_of_length_eq_zero e2.symm]
      rw [decide_eq_true hr]
      clear h1 h2 e1 e2 hr hl
      go_enter Try.func28, Try.ntmps28
      go_wp2
      go_loopw [5] (fun zi wr => zi = .int .i64 0 ∧ wr = w) (fun _ _ => 0)
      case atStart => exact ⟨rfl, rfl⟩
      case round =>
        obtain ⟨rfl, rfl⟩ := hrel
        go_wp2
        go_ret
        exact ⟨rfl, Below.refl _ _⟩
    · rcases h1.parts with ⟨h, _⟩ | ⟨_, hc1, hm1, b1, o1, rfl, hL1⟩
      · exact absurd h h0
      rcases h2.parts with ⟨h, _⟩ | ⟨_, hc2, hm2, b2, o2, rfl, hL2⟩
      · exact absurd h h0
      have hll : n1 ≤ 1000 := by omega
      have H1 := Lib.hid (And.intro hL1 e1)
      have H2 := Lib.hid (And.intro hL2 e2)
      obtain ⟨B, hB⟩ : ∃ B, B = decide (zs1 = zs2) := ⟨_, rfl⟩
      rw [← hB]
      have HB := Lib.hid hB
      clear h1 h2 hL1 hL2 e1 e2 hB hl h0
      go_enter Try.func28, Try.ntmps28
      go_wp2
      go_loopw [5] (fun zi wr => ∃ i : Nat, i ≤ n1 ∧ zi = .int .i64 (i : Int) ∧ Below w.heap.size w wr ∧ Hid (∀ j, j < i → zs1[j]! = zs2[j]!)) (fun zi _ => n1 - (intOf zi).toNat)
      case atStart => exact ⟨0, by omega, rfl, Below.refl _ _, fun j hj => absurd hj (by omega)⟩
      case round =>
        obtain ⟨i, hi, rfl, hb, HJ⟩ := hrel
        by_cases hlt : i < n1
        · have HNo := Lib.hid (show zs1[i]! ≠ zs2[i]! → B = false from fun h => by rw [HB.out]; exact decide_eq_false (fun h' => h (by rw [h'])))
          have HYes := Lib.hid (show zs1[i]! = zs2[i]! → Hid (∀ j, j < i + 1 → zs1[j]! = zs2[j]!) from fun h j hj => by
            by_cases hji : j = i
            · rw [hji]; exact h
            · exact HJ.out j (by omega))
          have t1 := (H1.out.1.below hb).at_ (j := i) (by have := H1.out.2; omega)
          have t2 := (H2.out.1.below hb).at_ (j := i) (by have := H2.out.2; omega)
          generalize zs1[i]! = p at t1 HNo HYes
          generalize zs2[i]! = q at t2 HNo HYes
          obtain ⟨pa, pz, pv, pk, pn⟩ := p
          obtain ⟨qa, qz, qv, qk, qn⟩ := q
          obtain ⟨x0, x1, x2, x3, x4⟩ := t1
          obtain ⟨y0, y1, y2, y3, y4⟩ := t2
          simp only at x0 x1 x2 x3 x4 y0 y1 y2 y3 y4
          have hol1 : i < c1 := by omega
          have hol2 : i < c2 := by omega
          by_cases ha : pa = qa
          · subst ha
            by_cases hz : pz = qz
            · subst hz
              by_cases hv : pv = qv
              · subst hv
                by_cases hk : pk = qk
                · subst hk
                  by_cases hn : pn = qn
                  · subst hn
                    have HN := HYes.out rfl
                    clear HNo HYes
                    go_wp2
                    go_region
                    go_wp2
                    go_roundw
                    case rel => exact ⟨i + 1, by omega, by go_num, drewR hb, HN⟩
                    case measure => simp [intOf]; omega
                  · have HN := HNo.out (fun h => by injection h; exact hn (by assumption))
                    clear HNo HYes
                    go_wp2
                    go_region
                    go_wp2
                    go_ret
                    exact ⟨ret_b HN.symm, drewR hb⟩
                · have HN := HNo.out (fun h => by injection h; exact hk (by assumption))
                  clear HNo HYes
                  go_wp2
                  go_region
                  go_wp2
                  go_ret
                  exact ⟨ret_b HN.symm, drewR hb⟩
              · have HN := HNo.out (fun h => by injection h; exact hv (by assumption))
                clear HNo HYes
                go_wp2
                go_region
                go_wp2
                go_ret
                exact ⟨ret_b HN.symm, drewR hb⟩
            · have HN := HNo.out (fun h => by injection h; exact hz (by assumption))
              clear HNo HYes
              go_wp2
              go_region
              go_wp2
              go_ret
              exact ⟨ret_b HN.symm, drewR hb⟩
          · have HN := HNo.out (fun h => by injection h; exact ha (by assumption))
            clear HNo HYes
            go_wp2
            go_region
            go_wp2
            go_ret
            exact ⟨ret_b HN.symm, drewR hb⟩
        · obtain rfl : i = n1 := by omega
          have hB : B = true := by
            rw [HB.out]
            apply decide_eq_true
            apply List.ext_getElem
            · rw [← H1.out.2, ← H2.out.2]
            · intro j hj1 hj2
              have := HJ.out j (by have := H1.out.2; omega)
              simpa [hj1, hj2] using this
          go_wp2
          go_ret
          exact ⟨ret_b hB.symm, hb⟩
  · have hr : decide (zs1 = zs2) = false := decide_eq_false (fun h => hn (by rw [e1, e2, h]))
    rw [hr]
    have hl1 : n1 ≤ 1000 := by omega
    clear h1 h2 e1 e2 hr hl
    have hne : ¬ (n1 : Int) = (n2 : Int) := by omega
    go_enter Try.func28, Try.ntmps28
    go_wp2
    go_ret
    exact ⟨rfl, Below.refl _ _⟩
end Go.Proofs.Ytdpfglpefncigaa
