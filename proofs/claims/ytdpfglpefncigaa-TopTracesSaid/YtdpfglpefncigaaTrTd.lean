/-
  One table appended to another, the call's own.
-/
import Derived.Test.YtdpfglpefncigaaTrTb
import Derived.Laws.AppendOwnNone
namespace Go.Proofs.Ytdpfglpefncigaa
open Go.RowKit

theorem append_tab {w : World} {ops : Array Oper} {rest : List Oper} {o : Oper} {a : Act} {Q : Exit → Act → World → Prop} (hgd : o.guard = none) (s x : Operand)
    (ho : o.op = .call { callee := .builtin .append, args := #[s, x], argTypes := #[22, 22] })
    {base base2 : Nat} {v V : Value} {n : Nat} {ps qs : List Plc} (hs : a.eval s = v) (hown : w.ownsRow base 33 5 v n (placesV ps)) (hx : a.eval x = V) (hsrc : w.ownsRow base2 33 5 V qs.length (placesV qs))
    (hn : n ≤ 1000) (hq : qs.length ≤ 1000) (hbase : base ≤ w.heap.size)
    (h : ∀ v' w', w'.ownsRow base 33 5 v' (n + qs.length) (placesV (ps ++ qs)) → w.grownBy w' v.ownBlock → wpList Try.prog ops Q rest (a.put o.dst v') w') : wpList Try.prog ops Q (o :: rest) a w := by
  obtain ⟨i0, hi, hz0, hz1, hz2⟩ := info_parts infoPl
  have hsrc0 := hsrc
  rcases hsrc.2 with ⟨rfl, h0⟩ | ⟨g, cap, cur, rfl, -, hh, hc, hm, -, -⟩
  · have hq0 : qs = [] := List.eq_nil_of_length_eq_zero h0
    subst hq0
    refine wpList_append_own_none hgd s x 22 ho base 33 i0 5 Try.underlying22 hi v n _ hs hown hx (h v w ?_ ?_)
    · simpa using hown
    · exact ⟨rfl, rfl, rfl, Nat.le_refl _, fun _ _ _ => rfl⟩
  · refine wpList_append_own _ hgd s x 22 ho base 33 i0 (.agg #[.int .i64 0, .int .i64 0, .int .i64 0, .int .i64 0, .int .i64 0]) 5 40 Try.underlying22 hi hz0 hz1 hz2 rfl (by decide) v n _ hs hown ⟨g, 0, none⟩ qs.length cap (placesV qs) hx (by rw [placesV_length]) (fun j u hj => hsrc0.cells (g := g) rfl j u hj) ?_ (by unfold maxLen; omega) (by omega) hbase (fun v' w' h1 h2 _ => h v' w' (by rw [placesV_append]; exact h1) h2)
    intro u hu
    unfold placesV at hu
    obtain ⟨p, -, hp⟩ := List.mem_flatMap.1 hu
    simp [encP] at hp
    rcases hp with rfl | rfl | rfl | rfl | rfl <;> rfl
theorem own_zero (w : World) (base : Nat) (hb : base ≤ w.heap.size) : (w.alloc (.cells #[] 33)).ownsRow base 33 5 (.slice (some ⟨w.heap.size, 0, none⟩) 0 0) 0 (placesV []) :=
  ⟨rfl, .inr ⟨w.heap.size, 0, #[], rfl, hb, heap_alloc_new w _, Nat.le_refl _, by unfold maxLen; omega, rfl, rfl⟩⟩
theorem at_mod (a : Int) : ∃ U : Nat, U ≤ 32768 ∧ wrap64 ((IntKind.u64.wrap a).tmod 32769) = (U : Int) := by
  rw [IntKind.wrap_u64]
  obtain ⟨m, hm⟩ : ∃ m : Nat, a % 18446744073709551616 = (m : Int) := ⟨(a % 18446744073709551616).toNat, by omega⟩
  refine ⟨m % 32769, by have := Nat.mod_lt m (show 0 < 32769 by omega); omega, ?_⟩
  rw [hm, show (32769 : Int) = ((32769 : Nat) : Int) from rfl, ← Int.ofNat_tmod]
  have := Nat.mod_lt m (show 0 < 32769 by omega)
  unfold wrap64
  omega
/-- What is told of the place where the machine is, in the part where it lies. -/
theorem part_low {zs : List Plc} (hv : valF zs = 0) {t x v : Int} (h0 : 0 ≤ x) (hx : x < t) (ht : t ≤ 32768) : knd (fnd (srt (cutL zs 0 t)) v x) = knd (fnd zs v x) :=
  knd_of (val_disj (cut_val hv (Int.le_refl _) ht)) (val_disj hv) fun k n => by
    rw [cut_tells]
    exact ⟨fun h => h.1, fun h => ⟨h, h0, hx⟩⟩
theorem part_high {zs : List Plc} (hv : valF zs = 0) {t x v : Int} (h0 : 0 ≤ t) (hx : t ≤ x) : knd (fnd (srt (cutL zs t 32768)) v x) = knd (fnd zs v x) :=
  knd_of (val_disj (cut_val hv h0 (Int.le_refl _))) (val_disj hv) fun k n => by
    rw [cut_tells]
    refine ⟨fun h => h.1, fun h => ⟨h, hx, ?_⟩⟩
    obtain ⟨p, hp, -, -, -, e4, e5⟩ := h
    have := pl_lt (val_isPl hv hp)
    omega
theorem part_mrg {zs : List Plc} (hv : valF zs = 0) {x v : Int} : knd (fnd (srt (mrgL zs)) v x) = knd (fnd zs v x) :=
  knd_of (val_disj (mrg_val hv)) (val_disj hv) fun k n => mrg_tells hv v k n x
theorem chk_var {zs : List Plc} (hv : valF zs = 0) {v : Int} (h0 : 0 ≤ v) (h1 : v ≤ 63) : chkF zs v 0 0 = 0 := chk_yes hv (by
  rw [show inB v 0 63 = true from inB_iff.2 ⟨h0, h1⟩]
  rfl)
end Go.Proofs.Ytdpfglpefncigaa
