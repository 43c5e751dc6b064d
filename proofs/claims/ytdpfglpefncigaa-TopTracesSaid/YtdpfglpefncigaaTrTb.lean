/-
  Value of package trace, by what the table tells.
-/
import Derived.Test.YtdpfglpefncigaaTrTa
import Derived.Test.YtdpfglpefncigaaTrVd
namespace Go.Proofs.Ytdpfglpefncigaa
open Go.RowKit

/-- What Value answers of what is told: the word, whether there is one, the error. -/
def valR (R : Nat → Int) (l : List Nat) (nm : Nat) : Option (Int × Int) → Int × Bool × Int
  | none => (0, false, 0)
  | some (k, n) => if k = 0 then (R n.toNat, true, 0) else if k = 2 then (n, true, 0) else if nm < n.toNat + 4 then (0, false, 4) else ((wordAt l n.toNat : Int), true, 0)
section
variable {w : World} {A : Option Addr} {n c : Nat} {zs : List Plc} {MC : Array Value} {R : Nat → Int} {at_ : Int} {Am : Option Addr} {nm cm : Nat} {l : List Nat}
theorem value_is (h : Tab w A n c zs) (hm : Mach w MC R at_ Am nm cm l) (v : Int) (hX : chkF zs v 0 0 = 0) {o : Option (Int × Int)} (ho : knd (fnd zs v at_) = o) :
    Calls Try.prog 23 #[.slice A n c, .agg MC, .int .i64 v] w fun e w' => e = .returned (.tuple #[.int .u32 (valR R l nm o).1, .bool (valR R l nm o).2.1, .int .i64 (valR R l nm o).2.2]) ∧ Below w.heap.size w w' := by
  subst ho
  cases hf : fnd zs v at_ with
  | none => exact value_none h hm v hX (by rw [hf]; rfl)
  | some p =>
    obtain ⟨hp, -⟩ := fnd_mem hf
    have hpl := val_isPl (chk_ok hX).1 hp
    obtain ⟨hz, N, hn, hcase⟩ := kind_of hpl
    obtain ⟨P, Z, V, K, q⟩ := p
    simp only at hz hn hcase
    subst hn
    show Calls Try.prog 23 #[.slice A n c, .agg MC, .int .i64 v] w fun e w' => e = .returned (.tuple #[.int .u32 (valR R l nm (some (K, (N : Int)))).1, .bool (valR R l nm (some (K, (N : Int)))).2.1, .int .i64 (valR R l nm (some (K, (N : Int)))).2.2]) ∧ Below w.heap.size w w'
    rcases hcase with ⟨rfl, hN⟩ | ⟨rfl, hN⟩ | ⟨rfl, hN⟩
    · have e : valR R l nm (some (0, (N : Int))) = (R N, true, 0) := by simp [valR]
      rw [e]
      exact value_reg h hm v hX P Z V N hz hN (by rw [hf]; rfl)
    · by_cases hs : nm < N + 4
      · have e : valR R l nm (some (1, (N : Int))) = (0, false, 4) := by simp [valR, hs]
        rw [e]
        exact value_short h hm v hX P Z V N hz hN hs (by rw [hf]; rfl)
      · have e : valR R l nm (some (1, (N : Int))) = ((wordAt l N : Int), true, 0) := by simp [valR, hs]
        rw [e]
        exact value_mem h hm v hX P Z V N hz hN (by omega) (by rw [hf]; rfl)
    · have e : valR R l nm (some (2, (N : Int))) = ((N : Int), true, 0) := by simp [valR]
      rw [e]
      exact value_num h hm v hX P Z V N hz hN (by rw [hf]; rfl)
end
/-- The machine at address 8. -/
def mach8 : Array Value := #[.int .u32 0, .int .u32 0, .int .u32 0, .int .u32 0, .int .u32 0, .int .u32 0, .int .u32 0, .int .u32 0, .int .u32 0, .int .u32 0, .int .u32 0, .int .u32 0, .int .u32 0, .int .u32 0, .int .u32 0, .int .u32 0, .int .u32 0, .int .u32 0, .int .u32 0, .int .u32 0, .int .u32 0, .int .u32 0, .int .u32 0, .int .u32 0, .int .u32 0, .int .u32 0, .int .u32 0, .int .u32 0, .int .u32 0, .int .u32 0, .int .u32 0, .int .u32 0, .int .i64 0, .int .u32 8, .slice none 0 0, .int .i64 0]
theorem mach8_eq : mach8 = (Array.replicate 32 (Value.int .u32 0)) ++ #[.int .i64 0, .int .u32 8, .slice none 0 0, .int .i64 0] := rfl
theorem mach8_is (w : World) : Mach w mach8 (fun _ => 0) 8 none 0 0 [] := by
  refine ⟨fun j hj => ?_, rfl, rfl, rfl, .inl ⟨rfl, _, _, rfl⟩, by omega, by omega, rfl⟩
  rw [mach8_eq, Array.getElem?_append_left (by simp; omega)]
  simp [hj]
theorem one_tab : valF [⟨0, 9, 3, 2, 77⟩] = 0 := by decide
theorem one_knd : knd (fnd [⟨0, 9, 3, 2, 77⟩] 3 8) = some (2, 77) := by decide
end Go.Proofs.Ytdpfglpefncigaa
