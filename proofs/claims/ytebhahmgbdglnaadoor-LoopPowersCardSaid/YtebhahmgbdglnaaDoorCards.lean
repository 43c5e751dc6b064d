/-
  DERIVED. GIVEN WITH THE SEED: THE CARDS: each row of YtebhahmgbdglnaaDoorRows.lean that lists a variable, with what it lists TIED to the program's text (the seventh form; the later family's looks); each row that meets fmt, with fmt's text TOLD by the authors' own Lean function (tested against real Go, not proved from fmt's source: count such statements apart). THE CARD IS WHAT COUNTS. Prove the row's statement (the work); the ties are given (YtebhahmgbdglnaaDoorTie.lean); close each card by the builder's one call (the guide's Derived/Test/ToyasCard.lean, 'card_holds'). Laid BY PROGRAM, IN A SANDBOX (cutbox-door.mjs). By AI agents, Wed Nov 11 2026. No macro, syntax, notation, axiom, sorry.
-/
import Derived.Test.YtebhahmgbdglnaaDoorRows
import GoSem.ClaimSeven
namespace Go.Proofs.YtebhahmgbdglnaaDoor
namespace Rows

/-- THE TIED CARD OF 'backstaylaw01.BitsWords'. -/
def bitsWordsCard : Claim7 := { stood := { row := bitsWordsRow, standIns := [], harness := (true, "8141801da8f1bd0bff8601661548cf7c87fee28b0e91335c40cebd828bfdd6a3"), looks := false }, kinds := [], alts := [], laidByText := true, laidKinds := [.data], laidTests := true, laidLooks := .later }
def BitsWordsCardSaid : Prop := Claim7.holds Tryd.pinned (.plain (OpenSpec.ofChange bitsWordsSpec)) bitsWordsCard

/-- THE TIED CARD OF 'backstaylaw01.BitsDoes'. -/
def bitsDoesCard : Claim7 := { stood := { row := bitsDoesRow, standIns := [], harness := (true, "8141801da8f1bd0bff8601661548cf7c87fee28b0e91335c40cebd828bfdd6a3"), looks := false }, kinds := [], alts := [], laidByText := true, laidKinds := [.data], laidTests := true, laidLooks := .later }
def BitsDoesCardSaid : Prop := Claim7.holds Tryd.pinned (.plain (OpenSpec.ofChange bitsDoesSpec)) bitsDoesCard

/-- THE TIED CARD OF 'backstaylaw01.BitsTotals'. -/
def bitsTotalsCard : Claim7 := { stood := { row := bitsTotalsRow, standIns := [], harness := (true, "8141801da8f1bd0bff8601661548cf7c87fee28b0e91335c40cebd828bfdd6a3"), looks := false }, kinds := [], alts := [], laidByText := true, laidKinds := [.data], laidTests := true, laidLooks := .later }
def BitsTotalsCardSaid : Prop := Claim7.holds Tryd.pinned (.plain (OpenSpec.ofChange bitsTotalsSpec)) bitsTotalsCard

/-- THE TIED CARD OF 'backstaylaw01.BitsBreaks'. -/
def bitsBreaksCard : Claim7 := { stood := { row := bitsBreaksRow, standIns := [], harness := (true, "8141801da8f1bd0bff8601661548cf7c87fee28b0e91335c40cebd828bfdd6a3"), looks := false }, kinds := [], alts := [], laidByText := true, laidKinds := [.data], laidTests := true, laidLooks := .later }
def BitsBreaksCardSaid : Prop := Claim7.holds Tryd.pinned (.plain (OpenSpec.ofChange bitsBreaksSpec)) bitsBreaksCard

/-- THE TIED CARD OF 'backstaylaw01.BitsCompares'. -/
def bitsComparesCard : Claim7 := { stood := { row := bitsComparesRow, standIns := [], harness := (true, "8141801da8f1bd0bff8601661548cf7c87fee28b0e91335c40cebd828bfdd6a3"), looks := false }, kinds := [], alts := [], laidByText := true, laidKinds := [.data, .data, .data], laidTests := true, laidLooks := .later }
def BitsComparesCardSaid : Prop := Claim7.holds Tryd.pinned (.plain (OpenSpec.ofChange bitsComparesSpec)) bitsComparesCard

/-- THE TIED CARD OF 'backstaylaw01.BitsExtends'. -/
def bitsExtendsCard : Claim7 := { stood := { row := bitsExtendsRow, standIns := [], harness := (true, "8141801da8f1bd0bff8601661548cf7c87fee28b0e91335c40cebd828bfdd6a3"), looks := false }, kinds := [], alts := [], laidByText := true, laidKinds := [.data], laidTests := true, laidLooks := .later }
def BitsExtendsCardSaid : Prop := Claim7.holds Tryd.pinned (.plain (OpenSpec.ofChange bitsExtendsSpec)) bitsExtendsCard

/-- THE TIED CARD OF 'backstaylaw01.BitsLanes'. -/
def bitsLanesCard : Claim7 := { stood := { row := bitsLanesRow, standIns := [], harness := (true, "8141801da8f1bd0bff8601661548cf7c87fee28b0e91335c40cebd828bfdd6a3"), looks := false }, kinds := [], alts := [], laidByText := true, laidKinds := [.data], laidTests := true, laidLooks := .later }
def BitsLanesCardSaid : Prop := Claim7.holds Tryd.pinned (.plain (OpenSpec.ofChange bitsLanesSpec)) bitsLanesCard

/-- THE TIED CARD OF 'backstaylaw01.BitsCounts'. -/
def bitsCountsCard : Claim7 := { stood := { row := bitsCountsRow, standIns := [], harness := (true, "8141801da8f1bd0bff8601661548cf7c87fee28b0e91335c40cebd828bfdd6a3"), looks := false }, kinds := [], alts := [], laidByText := true, laidKinds := [.data], laidTests := true, laidLooks := .later }
def BitsCountsCardSaid : Prop := Claim7.holds Tryd.pinned (.plain (OpenSpec.ofChange bitsCountsSpec)) bitsCountsCard

/-- THE TIED CARD OF 'backstaylaw01.BitsRing'. -/
def bitsRingCard : Claim7 := { stood := { row := bitsRingRow, standIns := [], harness := (true, "8141801da8f1bd0bff8601661548cf7c87fee28b0e91335c40cebd828bfdd6a3"), looks := false }, kinds := [], alts := [], laidByText := true, laidKinds := [.data], laidTests := true, laidLooks := .later }
def BitsRingCardSaid : Prop := Claim7.holds Tryd.pinned (.plain (OpenSpec.ofChange bitsRingSpec)) bitsRingCard

/-- THE TIED CARD OF 'backstaylaw16.LoopSums'. -/
def loopSumsCard : Claim7 := { stood := { row := loopSumsRow, standIns := [], harness := (true, "8141801da8f1bd0bff8601661548cf7c87fee28b0e91335c40cebd828bfdd6a3"), looks := false }, kinds := [], alts := [], laidByText := true, laidKinds := [.data], laidTests := true, laidLooks := .later }
def LoopSumsCardSaid : Prop := Claim7.holds Tryd.pinned (.plain (OpenSpec.ofChange loopSumsSpec)) loopSumsCard

/-- THE TIED CARD OF 'backstaylaw16.LoopPowers'. -/
def loopPowersCard : Claim7 := { stood := { row := loopPowersRow, standIns := [], harness := (true, "8141801da8f1bd0bff8601661548cf7c87fee28b0e91335c40cebd828bfdd6a3"), looks := false }, kinds := [], alts := [], laidByText := true, laidKinds := [.data], laidTests := true, laidLooks := .later }
def LoopPowersCardSaid : Prop := Claim7.holds Tryd.pinned (.plain (OpenSpec.ofChange loopPowersSpec)) loopPowersCard

/-- THE TIED CARD OF 'backstaytop.TopWords'. -/
def topWordsCard : Claim7 := { stood := { row := topWordsRow, standIns := [], harness := (true, "8141801da8f1bd0bff8601661548cf7c87fee28b0e91335c40cebd828bfdd6a3"), looks := false }, kinds := [], alts := [], laidByText := true, laidKinds := [.data], laidTests := true, laidLooks := .later }
def TopWordsCardSaid : Prop := Claim7.holds Tryd.pinned (.plain (OpenSpec.ofChange topWordsSpec)) topWordsCard

/-- THE SECOND FORM's CARD OF 'backstaylaw01.BitsWords'. -/
def bitsWordsUptoCard : Claim7 := { stood := { row := bitsWordsUptoRow, standIns := [], harness := (true, "8141801da8f1bd0bff8601661548cf7c87fee28b0e91335c40cebd828bfdd6a3"), looks := false }, kinds := [], alts := [], laidByText := true, laidKinds := [.data], laidTests := true, laidLooks := .later }
def BitsWordsUptoCardSaid : Prop := Claim7.holds Tryd.pinned (.plain (OpenSpec.upto bitsWordsSpec)) bitsWordsUptoCard

/-- THE SECOND FORM's CARD OF 'backstaylaw01.BitsDoes'. -/
def bitsDoesUptoCard : Claim7 := { stood := { row := bitsDoesUptoRow, standIns := [], harness := (true, "8141801da8f1bd0bff8601661548cf7c87fee28b0e91335c40cebd828bfdd6a3"), looks := false }, kinds := [], alts := [], laidByText := true, laidKinds := [.data], laidTests := true, laidLooks := .later }
def BitsDoesUptoCardSaid : Prop := Claim7.holds Tryd.pinned (.plain (OpenSpec.upto bitsDoesSpec)) bitsDoesUptoCard

/-- THE SECOND FORM's CARD OF 'backstaylaw01.BitsTotals'. -/
def bitsTotalsUptoCard : Claim7 := { stood := { row := bitsTotalsUptoRow, standIns := [], harness := (true, "8141801da8f1bd0bff8601661548cf7c87fee28b0e91335c40cebd828bfdd6a3"), looks := false }, kinds := [], alts := [], laidByText := true, laidKinds := [.data], laidTests := true, laidLooks := .later }
def BitsTotalsUptoCardSaid : Prop := Claim7.holds Tryd.pinned (.plain (OpenSpec.upto bitsTotalsSpec)) bitsTotalsUptoCard

/-- THE SECOND FORM's CARD OF 'backstaylaw01.BitsBreaks'. -/
def bitsBreaksUptoCard : Claim7 := { stood := { row := bitsBreaksUptoRow, standIns := [], harness := (true, "8141801da8f1bd0bff8601661548cf7c87fee28b0e91335c40cebd828bfdd6a3"), looks := false }, kinds := [], alts := [], laidByText := true, laidKinds := [.data], laidTests := true, laidLooks := .later }
def BitsBreaksUptoCardSaid : Prop := Claim7.holds Tryd.pinned (.plain (OpenSpec.upto bitsBreaksSpec)) bitsBreaksUptoCard

/-- THE SECOND FORM's CARD OF 'backstaylaw01.BitsCompares'. -/
def bitsComparesUptoCard : Claim7 := { stood := { row := bitsComparesUptoRow, standIns := [], harness := (true, "8141801da8f1bd0bff8601661548cf7c87fee28b0e91335c40cebd828bfdd6a3"), looks := false }, kinds := [], alts := [], laidByText := true, laidKinds := [.data, .data, .data], laidTests := true, laidLooks := .later }
def BitsComparesUptoCardSaid : Prop := Claim7.holds Tryd.pinned (.plain (OpenSpec.upto bitsComparesSpec)) bitsComparesUptoCard

/-- THE SECOND FORM's CARD OF 'backstaylaw01.BitsExtends'. -/
def bitsExtendsUptoCard : Claim7 := { stood := { row := bitsExtendsUptoRow, standIns := [], harness := (true, "8141801da8f1bd0bff8601661548cf7c87fee28b0e91335c40cebd828bfdd6a3"), looks := false }, kinds := [], alts := [], laidByText := true, laidKinds := [.data], laidTests := true, laidLooks := .later }
def BitsExtendsUptoCardSaid : Prop := Claim7.holds Tryd.pinned (.plain (OpenSpec.upto bitsExtendsSpec)) bitsExtendsUptoCard

/-- THE SECOND FORM's CARD OF 'backstaylaw01.BitsLanes'. -/
def bitsLanesUptoCard : Claim7 := { stood := { row := bitsLanesUptoRow, standIns := [], harness := (true, "8141801da8f1bd0bff8601661548cf7c87fee28b0e91335c40cebd828bfdd6a3"), looks := false }, kinds := [], alts := [], laidByText := true, laidKinds := [.data], laidTests := true, laidLooks := .later }
def BitsLanesUptoCardSaid : Prop := Claim7.holds Tryd.pinned (.plain (OpenSpec.upto bitsLanesSpec)) bitsLanesUptoCard

/-- THE SECOND FORM's CARD OF 'backstaylaw01.BitsCounts'. -/
def bitsCountsUptoCard : Claim7 := { stood := { row := bitsCountsUptoRow, standIns := [], harness := (true, "8141801da8f1bd0bff8601661548cf7c87fee28b0e91335c40cebd828bfdd6a3"), looks := false }, kinds := [], alts := [], laidByText := true, laidKinds := [.data], laidTests := true, laidLooks := .later }
def BitsCountsUptoCardSaid : Prop := Claim7.holds Tryd.pinned (.plain (OpenSpec.upto bitsCountsSpec)) bitsCountsUptoCard

/-- THE SECOND FORM's CARD OF 'backstaylaw01.BitsRing'. -/
def bitsRingUptoCard : Claim7 := { stood := { row := bitsRingUptoRow, standIns := [], harness := (true, "8141801da8f1bd0bff8601661548cf7c87fee28b0e91335c40cebd828bfdd6a3"), looks := false }, kinds := [], alts := [], laidByText := true, laidKinds := [.data], laidTests := true, laidLooks := .later }
def BitsRingUptoCardSaid : Prop := Claim7.holds Tryd.pinned (.plain (OpenSpec.upto bitsRingSpec)) bitsRingUptoCard

/-- THE SECOND FORM's CARD OF 'backstaylaw16.LoopSums'. -/
def loopSumsUptoCard : Claim7 := { stood := { row := loopSumsUptoRow, standIns := [], harness := (true, "8141801da8f1bd0bff8601661548cf7c87fee28b0e91335c40cebd828bfdd6a3"), looks := false }, kinds := [], alts := [], laidByText := true, laidKinds := [.data], laidTests := true, laidLooks := .later }
def LoopSumsUptoCardSaid : Prop := Claim7.holds Tryd.pinned (.plain (OpenSpec.upto loopSumsSpec)) loopSumsUptoCard

/-- THE SECOND FORM's CARD OF 'backstaylaw16.LoopPowers'. -/
def loopPowersUptoCard : Claim7 := { stood := { row := loopPowersUptoRow, standIns := [], harness := (true, "8141801da8f1bd0bff8601661548cf7c87fee28b0e91335c40cebd828bfdd6a3"), looks := false }, kinds := [], alts := [], laidByText := true, laidKinds := [.data], laidTests := true, laidLooks := .later }
def LoopPowersUptoCardSaid : Prop := Claim7.holds Tryd.pinned (.plain (OpenSpec.upto loopPowersSpec)) loopPowersUptoCard

/-- THE SECOND FORM's CARD OF 'backstaytop.TopWords'. -/
def topWordsUptoCard : Claim7 := { stood := { row := topWordsUptoRow, standIns := [], harness := (true, "8141801da8f1bd0bff8601661548cf7c87fee28b0e91335c40cebd828bfdd6a3"), looks := false }, kinds := [], alts := [], laidByText := true, laidKinds := [.data], laidTests := true, laidLooks := .later }
def TopWordsUptoCardSaid : Prop := Claim7.holds Tryd.pinned (.plain (OpenSpec.upto topWordsSpec)) topWordsUptoCard
end Rows
end Go.Proofs.YtebhahmgbdglnaaDoor
