/-
  known of the laws of trace.
-/
import Derived.Test.YtdpfglpefncigaaTrMd
import Derived.Laws.IdiomStrings
namespace Go.Proofs.Ytdpfglpefncigaa
open Go.RowKit

theorem enc_known : encF [⟨0, 200, 1, 0, 5⟩] = [1, 0, 200, 1, 1, 0, 5] := by decide
theorem val_known : valF [⟨0, 200, 1, 0, 5⟩] = 0 := by decide
theorem dec_known : decP [1, 128, 0, 1, 1, 0, 0] = none := by decide
theorem val_known2 : valF [⟨0, 4, 0, 0, 3⟩, ⟨4, 8, 0, 0, 3⟩] = 0 := by decide
theorem goes_known : goesOn ⟨4, 8, 0, 0, 3⟩ ⟨0, 4, 0, 0, 3⟩ = true := by decide
theorem lies_block {W : World} {B : Nat} {cs : Array Value} {t : TypeId} {fr : Nat × Nat} {ps : List Plc} (h : W.heap[B]? = some (.cells cs t fr)) (hc : cs.toList = placesV ps) : Lies W B 0 ps := by
  refine ⟨lt_of_block h, fun j hj i v hv => ?_⟩
  have := placesV_at ps j i v hj hv
  rw [← hc] at this
  simpa [World.cell?, h] using this
theorem bytes_block {W : World} {B : Nat} {cs : Array Value} {t : TypeId} {fr : Nat × Nat} {l : List Nat} {n c : Nat} (h : W.heap[B]? = some (.cells cs t fr)) (hn : n = l.length) (h0 : 0 < n) (hc : n ≤ c) (hl : ∀ x ∈ l, x < 256) (hs : cs.toList = bytesV l) : BytesAt W W.heap.size (.slice (some ⟨B, 0, none⟩) n c) l := by
  subst hn
  refine .inr ⟨h0, B, 0, c, rfl, hc, lt_of_block h, fun j hj => ?_⟩
  have e : l[j]! = l[j] := by simp [hj]
  rw [e]
  refine ⟨hl _ (List.getElem_mem hj), ?_⟩
  have : cs.toList[j]? = some (.int .u8 (l[j] : Int)) := by
    rw [hs]
    simp [bytesV, hj]
  simpa [World.cell?, h] using this
set_option maxRecDepth 100000 in
theorem known_any (w : World) : Calls Try.prog 15 #[] w fun e w' => e = .returned (.bool true) ∧ Below w.heap.size w w' := by
  go_enter Try.func15, Try.ntmps15
  go_wp2_with fail
  have hA : (w.alloc (.cells #[.int .i64 0, .int .i64 200, .int .i64 1, .int .i64 0, .int .i64 5] 33)).heap[w.heap.size]? = some (.cells #[.int .i64 0, .int .i64 200, .int .i64 1, .int .i64 0, .int .i64 5] 33 (0, 0)) := heap_alloc_new w _
  have hb0 : Below w.heap.size w (w.alloc (.cells #[.int .i64 0, .int .i64 200, .int .i64 1, .int .i64 0, .int .i64 5] 33)) := (Below.refl _ _).alloc (Nat.le_refl _) _
  have hL := lies_block (ps := [⟨0, 200, 1, 0, 5⟩]) hA rfl
  generalize World.alloc w _ = W0 at hL hb0 ⊢
  refine (encode_good w.heap.size 0 1 1 [⟨0, 200, 1, 0, 5⟩] W0 hL rfl (by omega) (by omega) val_known).mono ?_
  rintro e w1 ⟨v1, rfl, hb1, hown1⟩
  rw [enc_known] at hown1
  obtain ⟨g1, cap1, rfl⟩ := own_shape (k := 6) hown1
  have hc1 := hb0.trans (hb1.mono hb0.size)
  have HO1 := Lib.hid hown1
  clear hA hL hb0 hb1 hown1
  go_wp2_with fail
  have hA : (w1.alloc (.cells #[.int .u8 1, .int .u8 128, .int .u8 0, .int .u8 1, .int .u8 1, .int .u8 0, .int .u8 0] 5)).heap[w1.heap.size]? = some (.cells #[.int .u8 1, .int .u8 128, .int .u8 0, .int .u8 1, .int .u8 1, .int .u8 0, .int .u8 0] 5 (0, 0)) := heap_alloc_new w1 _
  have hb2 : Below w1.heap.size w1 (w1.alloc (.cells #[.int .u8 1, .int .u8 128, .int .u8 0, .int .u8 1, .int .u8 1, .int .u8 0, .int .u8 0] 5)) := (Below.refl _ _).alloc (Nat.le_refl _) _
  have hB := bytes_block (l := [1, 128, 0, 1, 1, 0, 0]) (n := 7) (c := 7) hA rfl (by decide) (by decide) (by decide) rfl
  generalize World.alloc w1 _ = W1 at hB hb2 ⊢
  refine (decode_any _ [1, 128, 0, 1, 1, 0, 0] W1 hB).mono ?_
  rw [dec_known]
  rintro e w2 ⟨hb3, rfl⟩
  have hd := hb2.trans (hb3.mono hb2.size)
  have HO2 := Lib.hid (own_below HO1.out hd)
  have hc2 := hc1.trans (hd.mono hc1.size)
  clear hA hB hb2 hb3 hd hc1 HO1
  go_wp2_with fail
  have hA : (w2.alloc (.cells #[.int .i64 0, .int .i64 4, .int .i64 0, .int .i64 0, .int .i64 3, .int .i64 4, .int .i64 8, .int .i64 0, .int .i64 0, .int .i64 3] 33)).heap[w2.heap.size]? = some (.cells #[.int .i64 0, .int .i64 4, .int .i64 0, .int .i64 0, .int .i64 3, .int .i64 4, .int .i64 8, .int .i64 0, .int .i64 0, .int .i64 3] 33 (0, 0)) := heap_alloc_new w2 _
  have hb2 : Below w2.heap.size w2 (w2.alloc (.cells #[.int .i64 0, .int .i64 4, .int .i64 0, .int .i64 0, .int .i64 3, .int .i64 4, .int .i64 8, .int .i64 0, .int .i64 0, .int .i64 3] 33)) := (Below.refl _ _).alloc (Nat.le_refl _) _
  have hL := lies_block (ps := [⟨0, 4, 0, 0, 3⟩, ⟨4, 8, 0, 0, 3⟩]) hA rfl
  generalize World.alloc w2 _ = W2 at hL hb2 ⊢
  refine (merge_two ⟨0, 4, 0, 0, 3⟩ ⟨4, 8, 0, 0, 3⟩ w2.heap.size 0 2 W2 hL (by omega) (by omega) val_known2 goes_known).mono ?_
  rintro e w3 ⟨v3, rfl, hb3, hown3⟩
  obtain ⟨g3, cap3, rfl⟩ := own_shape (k := 0) hown3
  have hd := hb2.trans (hb3.mono hb2.size)
  have HO3 := Lib.hid hown3
  have HO4 := Lib.hid (own_below HO2.out hd)
  have hc3 := hc2.trans (hd.mono hc2.size)
  clear hA hL hb2 hb3 hd hc2 HO2 hown3
  have r0 : w3.cell? ⟨g3, 0, none⟩ = some (.int .i64 0) := HO3.out.cells rfl 0 _ rfl
  have r1 : w3.cell? ⟨g3, 1, none⟩ = some (.int .i64 8) := HO3.out.cells rfl 1 _ rfl
  have r2 : w3.cell? ⟨g3, 2, none⟩ = some (.int .i64 0) := HO3.out.cells rfl 2 _ rfl
  have r3 : w3.cell? ⟨g3, 3, none⟩ = some (.int .i64 0) := HO3.out.cells rfl 3 _ rfl
  have r4 : w3.cell? ⟨g3, 4, none⟩ = some (.int .i64 3) := HO3.out.cells rfl 4 _ rfl
  have s0 : w3.cell? ⟨g1, 0, none⟩ = some (.int .u8 1) := HO4.out.cells rfl 0 _ rfl
  have s1 : w3.cell? ⟨g1, 1, none⟩ = some (.int .u8 0) := HO4.out.cells rfl 1 _ rfl
  have s2 : w3.cell? ⟨g1, 2, none⟩ = some (.int .u8 200) := HO4.out.cells rfl 2 _ rfl
  have s3 : w3.cell? ⟨g1, 3, none⟩ = some (.int .u8 1) := HO4.out.cells rfl 3 _ rfl
  have s4 : w3.cell? ⟨g1, 4, none⟩ = some (.int .u8 1) := HO4.out.cells rfl 4 _ rfl
  have s5 : w3.cell? ⟨g1, 5, none⟩ = some (.int .u8 0) := HO4.out.cells rfl 5 _ rfl
  have s6 : w3.cell? ⟨g1, 6, none⟩ = some (.int .u8 5) := HO4.out.cells rfl 6 _ rfl
  have hcv : (convert 39 9 (.slice (some ⟨g1, 0, none⟩) 7 cap1)).run Try.prog w3 = .ok (.string ⟨#[1, 0, 200, 1, 1, 0, 5]⟩) w3 := by
    refine run_convert_bytes_back w3 _ _ 5 ⟨g1, 0, none⟩ cap1 [1, 0, 200, 1, 1, 0, 5] Try.underlying39 Try.underlying5 Try.underlying9 (fun j hj => ?_)
    match j, hj with
    | 0, _ => exact s0
    | 1, _ => exact s1
    | 2, _ => exact s2
    | 3, _ => exact s3
    | 4, _ => exact s4
    | 5, _ => exact s5
    | 6, _ => exact s6
    | n + 7, h => exact absurd h (by simp)
  clear s0 s1 s2 s3 s4 s5 s6
  go_wp2
  go_ret
  exact ⟨rfl, hc3⟩
end Go.Proofs.Ytdpfglpefncigaa
