/-
  before of the program.
-/
import Derived.Test.YtchkckflpmepkaaFwD
namespace Go.Proofs.Ytchkckflpmepkaa
open Go.RowKit

/-- The nodes before v that are found so far. -/
def befP (G : List (List Nat)) (v i k : Nat) : NS := fun a => decide (a < i ∧ v ∈ suc G a ∨ a = i ∧ v ∈ (suc G i).take k)
theorem befP_zero (G : List (List Nat)) (v j : Nat) : non j = befP G v 0 0 j := by
  refine (decide_eq_false ?_).symm
  rintro (⟨h, _⟩ | ⟨_, h⟩)
  · omega
  · rw [List.take_zero] at h
    cases h
theorem befP_hit {G : List (List Nat)} {v i k : Nat} (hk : k < (suc G i).length) (h : (suc G i)[k]! = v) (j : Nat) : put (befP G v i k) i j = befP G v i (k + 1) j := by
  unfold put befP
  rw [take_succ hk, h]
  split
  · rename_i e
    exact (decide_eq_true (.inr ⟨e, by simp⟩)).symm
  · rename_i e
    rw [decide_eq_decide]
    constructor
    · rintro (h | h)
      · exact .inl h
      · exact absurd h.1 e
    · rintro (h | h)
      · exact .inl h
      · exact absurd h.1 e
theorem befP_miss {G : List (List Nat)} {v i k : Nat} (hk : k < (suc G i).length) (h : (suc G i)[k]! ≠ v) (j : Nat) : befP G v i k j = befP G v i (k + 1) j := by
  unfold befP
  rw [take_succ hk, decide_eq_decide]
  have : v ∈ (suc G i).take k ++ [(suc G i)[k]!] ↔ v ∈ (suc G i).take k := by
    rw [List.mem_append, List.mem_singleton]
    exact ⟨fun hh => hh.elim id (fun e => absurd e.symm h), .inl⟩
  rw [this]
theorem befP_next {G : List (List Nat)} {v i : Nat} (j : Nat) : befP G v i (suc G i).length j = befP G v (i + 1) 0 j := by
  unfold befP
  rw [List.take_length, List.take_zero, decide_eq_decide]
  constructor
  · rintro (⟨h, h2⟩ | ⟨rfl, h⟩)
    · exact .inl ⟨by omega, h2⟩
    · exact .inl ⟨by omega, h⟩
  · rintro (⟨h, h2⟩ | ⟨rfl, h⟩)
    · by_cases e : j = i
      · subst e
        exact .inr ⟨rfl, h2⟩
      · exact .inl ⟨by omega, h2⟩
    · cases h
theorem befP_end {G : List (List Nat)} {v : Nat} (j : Nat) : befP G v G.length 0 j = befS G v j := by
  unfold befP befS
  rw [decide_eq_decide, List.take_zero]
  constructor
  · rintro (⟨h, h2⟩ | ⟨rfl, h⟩)
    · exact h2
    · cases h
  · intro h
    refine .inl ⟨befS_lt (decide_eq_true h), h⟩
abbrev zV : Array Value := #[.bool false, .bool false, .bool false, .bool false, .bool false, .bool false, .bool false, .bool false, .bool false, .bool false]
theorem MG.get {w wr : World} {A : Option Addr} {n c : Nat} {G : List (List Nat)} (h : MG w A n c G) (hb : Below w.heap.size w wr) {j : Nat} (hj : j < n) : ∃ b off A' n' c', A = some ⟨b, off, none⟩ ∧ b < wr.heap.size ∧ wr.cell? ⟨b, off + j, none⟩ = some (.slice A' n' c') ∧ Nats w A' n' c' (suc G j) := by
  obtain ⟨b, off, A', n', c', h1, h2, h3, h4⟩ := h.at_ hj
  exact ⟨b, off, A', n', c', h1, Nat.lt_of_lt_of_le h2 hb.size, (hb.cell (p := ⟨b, off + j, none⟩) h2).trans h3, h4⟩
theorem Nats.get {w wr : World} {A : Option Addr} {n c : Nat} {l : List Nat} (h : Nats w A n c l) (hb : Below w.heap.size w wr) {j : Nat} (hj : j < n) : ∃ b off, A = some ⟨b, off, none⟩ ∧ b < wr.heap.size ∧ wr.cell? ⟨b, off + j, none⟩ = some (.int .i64 ((l[j]! : Nat) : Int)) := (h.below hb).at_ hj
section
variable {w : World} {A : Option Addr} {n c : Nat} {G : List (List Nat)}
set_option maxRecDepth 100000 in
set_option maxHeartbeats 4000000 in
theorem before_any (hG : okG G) (h : MG w A n c G) (v : Nat) : Calls Try.prog 46 #[.slice A n c, .int .i64 (v : Int)] w fun e w' => e = .returned (.agg (setA (befS G v))) ∧ Below w.heap.size w w' := by
  have hcap := h.2.1
  have hmax := h.2.2.1
  have hn10 : n ≤ 10 := by rw [h.1]; exact hG.2.1
  have H := Lib.hid h
  have HN := Lib.hid h.1
  have HT := Lib.hid (show ∀ j, befS G v j = befP G v n 0 j from fun j => by rw [h.1, befP_end])
  generalize befS G v = T at HT ⊢
  clear h hG
  go_enter Try.func46, Try.ntmps46
  go_wp2_with fail
  have hb0 : Below w.heap.size w ((w.alloc (.cells zV 52)).alloc (.cells zV 52)) := ((Below.refl _ _).alloc (Nat.le_refl _) _).alloc (by simp) _
  have hR := (SetB.zero w).below (((Below.refl (w.alloc (.cells zV 52)).heap.size _)).alloc (Nat.le_refl _) (.cells zV 52))
  have hS := SetB.zero (w.alloc (.cells zV 52))
  generalize World.alloc (World.alloc w _) _ = W0 at hb0 hR hS ⊢
  rw [show (w.alloc (.cells zV 52)).heap.size = w.heap.size + 1 by simp] at hS
  go_loopw [12] (fun zi wr => ∃ i : Nat, i ≤ n ∧ zi = .int .i64 (i : Int) ∧ Below w.heap.size w wr ∧ SetB wr w.heap.size non ∧ SetB wr (w.heap.size + 1) (befP G v i 0)) (fun zi _ => n - (intOf zi).toNat)
  case atStart => exact ⟨0, by omega, rfl, hb0, hR, hS.congr (fun j _ => befP_zero G v j)⟩
  case round =>
    obtain ⟨i, hi, rfl, hb, hR, hS⟩ := hrel
    by_cases hlt : i < n
    · obtain ⟨b0, off, A', n', c', rfl, hbs, hc, hr⟩ := H.out.get hb hlt
      have hr1 := hr.1
      have hcap' := hr.2.1
      have hmax' := hr.2.2.1
      have HH := Lib.hid (fun k (hk : k < n') (e : (suc G i)[k]! = v) j => befP_hit (G := G) (v := v) (i := i) (k := k) (by rw [← hr1]; exact hk) e j)
      have HM := Lib.hid (fun k (hk : k < n') (e : (suc G i)[k]! ≠ v) j => befP_miss (G := G) (v := v) (i := i) (k := k) (by rw [← hr1]; exact hk) e j)
      have HX := Lib.hid (fun j => hr1 ▸ befP_next (G := G) (v := v) (i := i) j)
      have HR := Lib.hid hr
      clear hr hr1
      go_wp2
      go_loopw [19] (fun zi wr => ∃ k : Nat, k ≤ n' ∧ zi = .int .i64 (k : Int) ∧ Below w.heap.size w wr ∧ SetB wr w.heap.size non ∧ SetB wr (w.heap.size + 1) (befP G v i k)) (fun zi _ => n' - (intOf zi).toNat)
      case atStart => exact ⟨0, by omega, rfl, hb, hR, hS⟩
      case round =>
        clear hb hR hS hc hbs
        obtain ⟨k, hk, rfl, hb, hR, hS⟩ := hrel
        by_cases hkl : k < n'
        · obtain ⟨b', off', rfl, hbs', hc'⟩ := HR.out.get hb hkl
          by_cases hv : (suc G i)[k]! = v
          · have hS2 := Lib.hid ((hS.put (show i < 10 by omega)).congr (fun j _ => HH.out k hkl hv j))
            have hR2 := Lib.hid (hR.ne (P := w.heap.size + 1) (o := i) (u := .bool true) (by omega))
            have hb2 := Lib.hid (hb.setCell (p := ⟨w.heap.size + 1, i, none⟩) (show w.heap.size ≤ w.heap.size + 1 by omega) (.bool true))
            obtain ⟨hcell, hfree⟩ := hS.cell (show i < 10 by omega)
            generalize befP G v i k i = cb at hcell
            rw [hv] at hc'
            have e1 : ((v : Int) == (v : Int)) = true := beq_self_eq_true _
            clear hS hR hb hv
            go_wp2
            go_roundw
            case rel => exact ⟨k + 1, by omega, by go_num, hb2.out, hR2.out, hS2.out⟩
            case measure => simp [intOf]; omega
          · have hS2 := Lib.hid (hS.congr (fun j _ => HM.out k hkl hv j))
            have hR2 := Lib.hid hR
            have e1 : ((((suc G i)[k]! : Nat) : Int) == (v : Int)) = false := beq_false_of_ne (fun e => hv (by omega))
            generalize (suc G i)[k]! = p at hc' e1
            clear hS hR hv
            go_wp2
            go_roundw
            case rel => exact ⟨k + 1, by omega, by go_num, hb, hR2.out, hS2.out⟩
            case measure => simp [intOf]; omega
        · obtain rfl : k = n' := by omega
          have hS2 := Lib.hid (hS.congr (fun j _ => HX.out j))
          have hR2 := Lib.hid hR
          clear hS hR
          go_wp2
          go_roundw
          case rel => exact ⟨i + 1, by omega, by go_num, hb, hR2.out, hS2.out⟩
          case measure => simp [intOf]; omega
    · obtain rfl : i = n := by omega
      have hS := hS.congr (fun j _ => (HT.out j).symm)
      unfold SetB at hS hR
      go_wp2_with (first | (refine wpList_load_row rfl 52 (.tmp 5) rfl (w.heap.size + 1) rfl 52 (setA T) (0, 0) _ hS Try.underlying52 rfl (setA_info T) ?_) | (refine wpList_store_row rfl _ _ _ rfl w.heap.size (setA T) rfl rfl 52 _ hR (setA_info T) (by rw [setA_size, setA_size]) (setA_one T) ?_))
      exact bodyPost_ret (results_cell_row rfl _ _ w.heap.size 52 (setA T) (0, 0) _ rfl (setRow_get _ _ _ _ _ hR) Try.underlying52 rfl (setA_info T)) rfl ⟨rfl, setRow_below hb (Nat.le_refl _) _⟩
end
end Go.Proofs.Ytchkckflpmepkaa
