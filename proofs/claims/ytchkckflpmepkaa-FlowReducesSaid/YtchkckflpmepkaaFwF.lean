/-
  The search of without: its closure, without, reached.
-/
import Derived.Test.YtchkckflpmepkaaFwE
namespace Go.Proofs.Ytchkckflpmepkaa
open Go.RowKit

/-- All but one block is as it was. -/
structure KeepS (I : Nat) (w w' : World) : Prop where
  os : w'.os = w.os
  tape : w'.tape = w.tape
  output : w'.output = w.output
  size : w.heap.size ≤ w'.heap.size
  block : ∀ k, k < w.heap.size → k ≠ I → w'.heap[k]? = w.heap[k]?
theorem KeepS.refl (I : Nat) (w : World) : KeepS I w w := ⟨rfl, rfl, rfl, Nat.le_refl _, fun _ _ _ => rfl⟩
theorem KeepS.trans {I : Nat} {a b c : World} (h : KeepS I a b) (h2 : KeepS I b c) : KeepS I a c :=
  ⟨h2.os.trans h.os, h2.tape.trans h.tape, h2.output.trans h.output, Nat.le_trans h.size h2.size, fun k hk hn => (h2.block k (Nat.lt_of_lt_of_le hk h.size) hn).trans (h.block k hk hn)⟩
theorem KeepS.of_below {I : Nat} {a b : World} (h : Below a.heap.size a b) : KeepS I a b := ⟨h.os, h.tape, h.output, h.size, fun k hk _ => h.block k hk⟩
theorem KeepS.below {I B : Nat} {a b : World} (h : KeepS I a b) (h1 : B ≤ I) (h2 : B ≤ a.heap.size) : Below B a b := ⟨h.os, h.tape, h.output, h.size, fun k hk => h.block k (by omega) (by omega)⟩
theorem KeepS.set {I : Nat} {a b : World} (h : KeepS I a b) (o : Nat) (v : Value) : KeepS I a (b.setCell ⟨I, o, none⟩ v) :=
  ⟨h.os, h.tape, h.output, by simpa using h.size, fun k hk hn => (heap_setCell_other b ⟨I, o, none⟩ k v hn).trans (h.block k hk hn)⟩
theorem KeepS.get {I : Nat} {a b : World} (h : KeepS I a b) {k : Nat} {o : Obj} (hk : a.heap[k]? = some o) (hn : k ≠ I) : b.heap[k]? = some o := (h.block k (lt_of_block hk) hn).trans hk
abbrev fnV (g : Nat) (lb : Array Value) : Value := .func (.func g) #[] lb
abbrev ptr (B : Nat) : Value := .pointer (some ⟨B, 0, none⟩)
theorem vis_stop {G : List (List Nat)} {x : Int} {f v : Nat} {s : NS} (h : (v : Int) = x ∨ s v = true) : visF G x (f + 1) v s = s := by
  unfold visF
  rw [if_pos h]
theorem vis_go {G : List (List Nat)} {x : Int} {f v : Nat} {s : NS} (h : ¬ ((v : Int) = x ∨ s v = true)) : visF G x (f + 1) v s = (suc G v).foldl (fun s u => visF G x f u s) (put s v) := by
  conv => lhs; unfold visF
  rw [if_neg h]
/-- The nodes seen behind some successors. -/
def upto (G : List (List Nat)) (x : Int) (f : Nat) (s : NS) (l : List Nat) (i : Nat) : NS := (l.take i).foldl (fun s u => visF G x f u s) s
theorem upto_succ {G : List (List Nat)} {x : Int} {f : Nat} {s : NS} {l : List Nat} {i : Nat} (h : i < l.length) : upto G x f s l (i + 1) = visF G x f l[i]! (upto G x f s l i) := by
  unfold upto
  rw [take_succ h, List.foldl_append]
  rfl
section
variable {w0 : World} {A : Option Addr} {n c : Nat} {G : List (List Nat)}
set_option maxRecDepth 100000 in
set_option maxHeartbeats 4000000 in
theorem visit_any (hG : okG G) (h0 : MG w0 A n c G) {S Gb X V : Nat} (hS0 : w0.heap.size ≤ S) (hg : Gb ≠ S) (hx : X ≠ S) (hv : V ≠ S) (x : Int) :
    ∀ (f v : Nat) (s : NS) (w : World), v < n → free s n < f → Below w0.heap.size w0 w → SetB w S s → w.heap[Gb]? = some (.cells #[.slice A n c] 22 (0, 0)) → w.heap[X]? = some (.cells #[.int .i64 x] 3 (0, 0)) →
      w.heap[V]? = some (.cells #[fnV 65 #[ptr X, ptr S, ptr Gb, ptr V]] 60 (0, 0)) →
      Calls Try.prog 65 #[.int .i64 (v : Int), ptr X, ptr S, ptr Gb, ptr V] w fun e w' => e = .returned (.tuple #[]) ∧ KeepS S w w' ∧ SetB w' S (visF G x f v s)
  | 0, _, _, _, _, h, _, _, _, _, _ => absurd h (by omega)
  | f + 1, v, s, w, hvn, hf, hb, hS, hGb, hX, hV => by
    have hn10 : n ≤ 10 := by rw [h0.1]; exact hG.2.1
    have hcap := h0.2.1
    have hmax := h0.2.2.1
    have hX0 := cell_of_one hX
    have hG0 := cell_of_one hGb
    obtain ⟨hs0, hs1⟩ := hS.cell (show v < 10 by omega)
    by_cases e1 : (v : Int) = x
    · have HR := Lib.hid (show SetB w S (visF G x (f + 1) v s) by rw [vis_stop (.inl e1)]; exact hS)
      have d1 : ((v : Int) == x) = true := by rw [e1]; exact beq_self_eq_true x
      clear e1 hS hGb hX hV hs0 hs1 hG0
      go_enter Try.func65, Try.ntmps65
      go_wp2
      exact bodyPost_ret (by simp [results, Try.results65, go_sem]) rfl ⟨rfl, KeepS.refl _ _, HR.out⟩
    · have d1 : ((v : Int) == x) = false := beq_false_of_ne e1
      cases e2 : s v
      · have HF := Lib.hid (show visF G x (f + 1) v s = upto G x f (put s v) (suc G v) (suc G v).length by
          rw [vis_go (by rw [e2]; simp [e1])]
          unfold upto
          rw [List.take_length])
        have hfr := free_put e2 n hvn
        rw [e2] at hs0
        have hS1 := hS.put (show v < 10 by omega)
        have hK1 := (KeepS.refl S w).set v (.bool true)
        have hG1 := (heap_setCell_other w ⟨S, v, none⟩ Gb (.bool true) hg).trans hGb
        have hX1 := (heap_setCell_other w ⟨S, v, none⟩ X (.bool true) hx).trans hX
        have hV1 := (heap_setCell_other w ⟨S, v, none⟩ V (.bool true) hv).trans hV
        have hb1 := hb.setCell (p := ⟨S, v, none⟩) hS0 (.bool true)
        have hfl : ∀ q, q < (suc G v).length → (suc G v)[q]! < n := fun q hq => by
          rw [h0.1]
          exact hG.2.2.2 v _ (at_get hq)
        have hmono : ∀ i, free (upto G x f (put s v) (suc G v) i) n < f := fun i => Nat.lt_of_le_of_lt (free_mono (fun j hj => fold_mono f j _ _ hj) n) (by omega)
        have IH := Lib.hid (visit_any hG h0 hS0 hg hx hv x f)
        have HQ := Lib.hid hfl
        have HM := Lib.hid hmono
        have H0 := Lib.hid h0
        generalize visF G x (f + 1) v s = T at HF ⊢
        clear hS hGb hX hV e1 e2 hfl hmono hfr hf
        go_enter Try.func65, Try.ntmps65
        go_upto_region 2 with fail
        generalize World.setCell w _ _ = W1 at hS1 hK1 hG1 hX1 hV1 hb1 ⊢
        clear hs0 hs1 hX0 hG0 hb
        have hG2 := cell_of_one hG1
        obtain ⟨b0, off, A', n', c', rfl, hbs, hc, hr⟩ := H0.out.get hb1 hvn
        have hr1 := hr.1
        have hcap' := hr.2.1
        have hmax' := hr.2.2.1
        have HR := Lib.hid hr
        rw [← hr1] at HF HQ
        have HN := Lib.hid hr1
        clear hr hr1
        go_wp2
        go_loopw [23] (fun zi wr => ∃ i : Nat, i ≤ n' ∧ zi = .int .i64 (i : Int) ∧ KeepS S w wr ∧ Below w0.heap.size w0 wr ∧ SetB wr S (upto G x f (put s v) (suc G v) i) ∧
          wr.heap[Gb]? = some (.cells #[.slice (some ⟨b0, off, none⟩) n c] 22 (0, 0)) ∧ wr.heap[X]? = some (.cells #[.int .i64 x] 3 (0, 0)) ∧
          wr.heap[V]? = some (.cells #[fnV 65 #[ptr X, ptr S, ptr Gb, ptr V]] 60 (0, 0))) (fun zi _ => n' - (intOf zi).toNat)
        case atStart => exact ⟨0, by omega, rfl, hK1, hb1, hS1, hG1, hX1, hV1⟩
        case round =>
          clear hK1 hb1 hS1 hG1 hX1 hV1 hG2 hc hbs
          obtain ⟨i, hi, rfl, hK, hb, hS, hGb, hX, hV⟩ := hrel
          by_cases hlt : i < n'
          · obtain ⟨b', off', rfl, hbs', hc'⟩ := HR.out.get hb hlt
            have HC := Lib.hid (IH.out _ _ wr (HQ.out i hlt) (HM.out i) hb hS hGb hX hV)
            have HU := Lib.hid (upto_succ (G := G) (x := x) (f := f) (s := put s v) (l := suc G v) (i := i) (by rw [← HN.out]; exact hlt))
            rw [← HU.out] at HC
            generalize (suc G v)[i]! = u at hc' HC
            have hV0 := cell_of_one hV
            have hGb := Lib.hid hGb
            have hX := Lib.hid hX
            have hV := Lib.hid hV
            clear HU hS
            go_wp2_with fail
            refine HC.out.mono ?_
            rintro e w2 ⟨rfl, hK2, hS2⟩
            have hK3 := hK.trans hK2
            have hb3 := hb.trans (hK2.below hS0 hb.size)
            have hG3 := hK2.get hGb.out hg
            have hX3 := hK2.get hX.out hx
            have hV3 := hK2.get hV.out hv
            clear hK hb hK2 hGb hX hV hV0 hc'
            go_wp2
            go_roundw
            case rel => exact ⟨i + 1, by omega, by go_num, hK3, hb3, hS2, hG3, hX3, hV3⟩
            case measure => simp [intOf]; omega
          · obtain rfl : i = n' := by omega
            rw [← HF.out] at hS
            clear hGb hX hV
            go_wp2
            exact bodyPost_end (results_none rfl _ _ _) rfl ⟨rfl, hK, hS⟩
      · have HR := Lib.hid (show SetB w S (visF G x (f + 1) v s) by rw [vis_stop (.inr e2)]; exact hS)
        rw [e2] at hs0
        clear e1 hS hGb hX hV hG0 e2
        go_enter Try.func65, Try.ntmps65
        go_wp2
        exact bodyPost_ret (by simp [results, Try.results65, go_sem]) rfl ⟨rfl, KeepS.refl _ _, HR.out⟩
end
end Go.Proofs.Ytchkckflpmepkaa
