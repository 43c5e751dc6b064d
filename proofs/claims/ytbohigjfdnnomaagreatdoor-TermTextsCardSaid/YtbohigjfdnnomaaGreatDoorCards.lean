/-
  DERIVED. GIVEN WITH THE SEED: THE CARDS: each row of YtbohigjfdnnomaaGreatDoorRows.lean that lists a variable, with what it lists TIED to the program's text (the seventh form; the later family's looks); each row that meets fmt, with fmt's text TOLD by the authors' own Lean function (tested against real Go, not proved from fmt's source: count such statements apart). THE CARD IS WHAT COUNTS. Prove the row's statement (the work); the ties are given (YtbohigjfdnnomaaGreatDoorTie.lean); close each card by the builder's one call (the guide's Derived/Test/ToyasCard.lean, 'card_holds'). Laid BY PROGRAM, IN A SANDBOX (cutbox-door.mjs). By AI agents, Wed Nov 11 2026. No macro, syntax, notation, axiom, sorry.
-/
import Derived.Test.YtbohigjfdnnomaaGreatDoorRows
import GoSem.ClaimSeven
namespace Go.Proofs.YtbohigjfdnnomaaGreatDoor
namespace Rows

/-- THE TIED CARD OF 'backstaylaw07.TermTexts'. -/
def termTextsCard : Claim7 := { stood := { row := termTextsRow, standIns := [], harness := (true, "b853214e465ec63140f242bee0b74e4b6f3d87578c97aeaf5bd7a35dda1778b7"), looks := false }, kinds := [], alts := [], laidByText := true, laidKinds := [.data, .data, .data, .data], laidTests := true, laidLooks := .later }
def TermTextsCardSaid : Prop := Claim7.holds Tryz.pinned (.plain (OpenSpec.ofChange termTextsSpec)) termTextsCard

/-- THE TIED CARD OF 'backstaylaw07.TermSimplifies'. -/
def termSimplifiesCard : Claim7 := { stood := { row := termSimplifiesRow, standIns := [], harness := (true, "b853214e465ec63140f242bee0b74e4b6f3d87578c97aeaf5bd7a35dda1778b7"), looks := false }, kinds := [], alts := [], laidByText := true, laidKinds := [.data], laidTests := true, laidLooks := .later }
def TermSimplifiesCardSaid : Prop := Claim7.holds Tryz.pinned (.plain (OpenSpec.ofChange termSimplifiesSpec)) termSimplifiesCard

/-- THE SECOND FORM's CARD OF 'backstaylaw07.TermTexts'. -/
def termTextsUptoCard : Claim7 := { stood := { row := termTextsUptoRow, standIns := [], harness := (true, "b853214e465ec63140f242bee0b74e4b6f3d87578c97aeaf5bd7a35dda1778b7"), looks := false }, kinds := [], alts := [], laidByText := true, laidKinds := [.data, .data, .data, .data], laidTests := true, laidLooks := .later }
def TermTextsUptoCardSaid : Prop := Claim7.holds Tryz.pinned (.plain (OpenSpec.upto termTextsSpec)) termTextsUptoCard

/-- THE SECOND FORM's CARD OF 'backstaylaw07.TermSimplifies'. -/
def termSimplifiesUptoCard : Claim7 := { stood := { row := termSimplifiesUptoRow, standIns := [], harness := (true, "b853214e465ec63140f242bee0b74e4b6f3d87578c97aeaf5bd7a35dda1778b7"), looks := false }, kinds := [], alts := [], laidByText := true, laidKinds := [.data], laidTests := true, laidLooks := .later }
def TermSimplifiesUptoCardSaid : Prop := Claim7.holds Tryz.pinned (.plain (OpenSpec.upto termSimplifiesSpec)) termSimplifiesUptoCard
end Rows
end Go.Proofs.YtbohigjfdnnomaaGreatDoor
