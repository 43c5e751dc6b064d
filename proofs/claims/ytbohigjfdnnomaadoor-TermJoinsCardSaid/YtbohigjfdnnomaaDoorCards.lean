/-
  DERIVED. GIVEN WITH THE SEED: THE CARDS: each row of YtbohigjfdnnomaaDoorRows.lean that lists a variable, with what it lists TIED to the program's text (the seventh form; the later family's looks); each row that meets fmt, with fmt's text TOLD by the authors' own Lean function (tested against real Go, not proved from fmt's source: count such statements apart). THE CARD IS WHAT COUNTS. Prove the row's statement (the work); the ties are given (YtbohigjfdnnomaaDoorTie.lean); close each card by the builder's one call (the guide's Derived/Test/ToyasCard.lean, 'card_holds'). Laid BY PROGRAM, IN A SANDBOX (cutbox-door.mjs). By AI agents, Wed Nov 11 2026. No macro, syntax, notation, axiom, sorry.
-/
import Derived.Test.YtbohigjfdnnomaaDoorRows
import GoSem.ClaimSeven
namespace Go.Proofs.YtbohigjfdnnomaaDoor
namespace Rows

/-- THE TIED CARD OF 'backstaylaw07.TermValidates'. -/
def termValidatesCard : Claim7 := { stood := { row := termValidatesRow, standIns := [], harness := (true, "fa89c12f4b49c910d9932ecf76b19dca0d9acced1c46702d376359ed4baafc57"), looks := false }, kinds := [], alts := [], laidByText := true, laidKinds := [.data], laidTests := true, laidLooks := .later }
def TermValidatesCardSaid : Prop := Claim7.holds Tryd.pinned (.plain (OpenSpec.ofChange termValidatesSpec)) termValidatesCard

/-- THE TIED CARD OF 'backstaylaw07.TermValues'. -/
def termValuesCard : Claim7 := { stood := { row := termValuesRow, standIns := [], harness := (true, "fa89c12f4b49c910d9932ecf76b19dca0d9acced1c46702d376359ed4baafc57"), looks := false }, kinds := [], alts := [], laidByText := true, laidKinds := [.data], laidTests := true, laidLooks := .later }
def TermValuesCardSaid : Prop := Claim7.holds Tryd.pinned (.plain (OpenSpec.ofChange termValuesSpec)) termValuesCard

/-- THE TIED CARD OF 'backstaylaw07.TermShares'. -/
def termSharesCard : Claim7 := { stood := { row := termSharesRow, standIns := [], harness := (true, "fa89c12f4b49c910d9932ecf76b19dca0d9acced1c46702d376359ed4baafc57"), looks := false }, kinds := [], alts := [], laidByText := true, laidKinds := [.data], laidTests := true, laidLooks := .later }
def TermSharesCardSaid : Prop := Claim7.holds Tryd.pinned (.plain (OpenSpec.ofChange termSharesSpec)) termSharesCard

/-- THE TIED CARD OF 'backstaylaw07.TermPuts'. -/
def termPutsCard : Claim7 := { stood := { row := termPutsRow, standIns := [], harness := (true, "fa89c12f4b49c910d9932ecf76b19dca0d9acced1c46702d376359ed4baafc57"), looks := false }, kinds := [], alts := [], laidByText := true, laidKinds := [.data], laidTests := true, laidLooks := .later }
def TermPutsCardSaid : Prop := Claim7.holds Tryd.pinned (.plain (OpenSpec.ofChange termPutsSpec)) termPutsCard

/-- THE TIED CARD OF 'backstaylaw07.TermMeans'. -/
def termMeansCard : Claim7 := { stood := { row := termMeansRow, standIns := [], harness := (true, "fa89c12f4b49c910d9932ecf76b19dca0d9acced1c46702d376359ed4baafc57"), looks := false }, kinds := [], alts := [], laidByText := true, laidKinds := [.data], laidTests := true, laidLooks := .later }
def TermMeansCardSaid : Prop := Claim7.holds Tryd.pinned (.plain (OpenSpec.ofChange termMeansSpec)) termMeansCard

/-- THE TIED CARD OF 'backstaylaw07.TermJoins'. -/
def termJoinsCard : Claim7 := { stood := { row := termJoinsRow, standIns := [], harness := (true, "fa89c12f4b49c910d9932ecf76b19dca0d9acced1c46702d376359ed4baafc57"), looks := false }, kinds := [], alts := [], laidByText := true, laidKinds := [.data], laidTests := true, laidLooks := .later }
def TermJoinsCardSaid : Prop := Claim7.holds Tryd.pinned (.plain (OpenSpec.ofChange termJoinsSpec)) termJoinsCard

/-- THE SECOND FORM's CARD OF 'backstaylaw07.TermValidates'. -/
def termValidatesUptoCard : Claim7 := { stood := { row := termValidatesUptoRow, standIns := [], harness := (true, "fa89c12f4b49c910d9932ecf76b19dca0d9acced1c46702d376359ed4baafc57"), looks := false }, kinds := [], alts := [], laidByText := true, laidKinds := [.data], laidTests := true, laidLooks := .later }
def TermValidatesUptoCardSaid : Prop := Claim7.holds Tryd.pinned (.plain (OpenSpec.upto termValidatesSpec)) termValidatesUptoCard

/-- THE SECOND FORM's CARD OF 'backstaylaw07.TermValues'. -/
def termValuesUptoCard : Claim7 := { stood := { row := termValuesUptoRow, standIns := [], harness := (true, "fa89c12f4b49c910d9932ecf76b19dca0d9acced1c46702d376359ed4baafc57"), looks := false }, kinds := [], alts := [], laidByText := true, laidKinds := [.data], laidTests := true, laidLooks := .later }
def TermValuesUptoCardSaid : Prop := Claim7.holds Tryd.pinned (.plain (OpenSpec.upto termValuesSpec)) termValuesUptoCard

/-- THE SECOND FORM's CARD OF 'backstaylaw07.TermShares'. -/
def termSharesUptoCard : Claim7 := { stood := { row := termSharesUptoRow, standIns := [], harness := (true, "fa89c12f4b49c910d9932ecf76b19dca0d9acced1c46702d376359ed4baafc57"), looks := false }, kinds := [], alts := [], laidByText := true, laidKinds := [.data], laidTests := true, laidLooks := .later }
def TermSharesUptoCardSaid : Prop := Claim7.holds Tryd.pinned (.plain (OpenSpec.upto termSharesSpec)) termSharesUptoCard

/-- THE SECOND FORM's CARD OF 'backstaylaw07.TermPuts'. -/
def termPutsUptoCard : Claim7 := { stood := { row := termPutsUptoRow, standIns := [], harness := (true, "fa89c12f4b49c910d9932ecf76b19dca0d9acced1c46702d376359ed4baafc57"), looks := false }, kinds := [], alts := [], laidByText := true, laidKinds := [.data], laidTests := true, laidLooks := .later }
def TermPutsUptoCardSaid : Prop := Claim7.holds Tryd.pinned (.plain (OpenSpec.upto termPutsSpec)) termPutsUptoCard

/-- THE SECOND FORM's CARD OF 'backstaylaw07.TermMeans'. -/
def termMeansUptoCard : Claim7 := { stood := { row := termMeansUptoRow, standIns := [], harness := (true, "fa89c12f4b49c910d9932ecf76b19dca0d9acced1c46702d376359ed4baafc57"), looks := false }, kinds := [], alts := [], laidByText := true, laidKinds := [.data], laidTests := true, laidLooks := .later }
def TermMeansUptoCardSaid : Prop := Claim7.holds Tryd.pinned (.plain (OpenSpec.upto termMeansSpec)) termMeansUptoCard

/-- THE SECOND FORM's CARD OF 'backstaylaw07.TermJoins'. -/
def termJoinsUptoCard : Claim7 := { stood := { row := termJoinsUptoRow, standIns := [], harness := (true, "fa89c12f4b49c910d9932ecf76b19dca0d9acced1c46702d376359ed4baafc57"), looks := false }, kinds := [], alts := [], laidByText := true, laidKinds := [.data], laidTests := true, laidLooks := .later }
def TermJoinsUptoCardSaid : Prop := Claim7.holds Tryd.pinned (.plain (OpenSpec.upto termJoinsSpec)) termJoinsUptoCard
end Rows
end Go.Proofs.YtbohigjfdnnomaaDoor
