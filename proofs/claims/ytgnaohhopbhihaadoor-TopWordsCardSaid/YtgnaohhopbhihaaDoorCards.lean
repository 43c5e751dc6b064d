/-
  DERIVED. GIVEN WITH THE SEED: THE CARDS: each row of YtgnaohhopbhihaaDoorRows.lean that lists a variable, with what it lists TIED to the program's text (the seventh form; the later family's looks); each row that meets fmt, with fmt's text TOLD by the authors' own Lean function (tested against real Go, not proved from fmt's source: count such statements apart). THE CARD IS WHAT COUNTS. Prove the row's statement (the work); the ties are given (YtgnaohhopbhihaaDoorTie.lean); close each card by the builder's one call (the guide's Derived/Test/ToyasCard.lean, 'card_holds'). Laid BY PROGRAM, IN A SANDBOX (cutbox-door.mjs). By AI agents, Wed Nov 11 2026. No macro, syntax, notation, axiom, sorry.
-/
import Derived.Test.YtgnaohhopbhihaaDoorRows
import GoSem.ClaimSeven
namespace Go.Proofs.YtgnaohhopbhihaaDoor
namespace Rows

/-- THE TIED CARD OF 'backstaytop.TopWords'. -/
def topWordsCard : Claim7 := { stood := { row := topWordsRow, standIns := [], harness := (true, "d22c8e1e58963e3692b8acfe3bfe7b0e21c1e7223de69bd659aebf0a486e95fe"), looks := true }, kinds := [], alts := [], laidByText := true, laidKinds := [.data], laidTests := true, laidLooks := .later }
def TopWordsCardSaid : Prop := Claim7.holds Tryd.pinned (.plain (OpenSpec.ofChange topWordsSpec)) topWordsCard

/-- THE TIED CARD OF 'backstaylaw16.LoopTrips'. -/
def loopTripsCard : Claim7 := { stood := { row := loopTripsRow, standIns := [], harness := (true, "d22c8e1e58963e3692b8acfe3bfe7b0e21c1e7223de69bd659aebf0a486e95fe"), looks := true }, kinds := [], alts := [], laidByText := true, laidKinds := [.data], laidTests := true, laidLooks := .later }
def LoopTripsCardSaid : Prop := Claim7.holds Tryd.pinned (.plain (OpenSpec.ofChange loopTripsSpec)) loopTripsCard

/-- THE TIED CARD OF 'backstaylaw16.LoopEnds'. -/
def loopEndsCard : Claim7 := { stood := { row := loopEndsRow, standIns := [], harness := (true, "d22c8e1e58963e3692b8acfe3bfe7b0e21c1e7223de69bd659aebf0a486e95fe"), looks := true }, kinds := [], alts := [], laidByText := true, laidKinds := [.data], laidTests := true, laidLooks := .later }
def LoopEndsCardSaid : Prop := Claim7.holds Tryd.pinned (.plain (OpenSpec.ofChange loopEndsSpec)) loopEndsCard

/-- THE TIED CARD OF 'backstaylaw18.RvEncodes'. -/
def rvEncodesCard : Claim7 := { stood := { row := rvEncodesRow, standIns := [], harness := (true, "d22c8e1e58963e3692b8acfe3bfe7b0e21c1e7223de69bd659aebf0a486e95fe"), looks := true }, kinds := [], alts := [], laidByText := true, laidKinds := [.data, .data, .data, .data, .data, .data], laidTests := true, laidLooks := .later }
def RvEncodesCardSaid : Prop := Claim7.holds Tryd.pinned (.plain (OpenSpec.ofChange rvEncodesSpec)) rvEncodesCard

/-- THE TIED CARD OF 'backstaylaw18.RvDecodes'. -/
def rvDecodesCard : Claim7 := { stood := { row := rvDecodesRow, standIns := [], harness := (true, "d22c8e1e58963e3692b8acfe3bfe7b0e21c1e7223de69bd659aebf0a486e95fe"), looks := true }, kinds := [], alts := [], laidByText := true, laidKinds := [.data, .data, .data, .data, .data, .data], laidTests := true, laidLooks := .later }
def RvDecodesCardSaid : Prop := Claim7.holds Tryd.pinned (.plain (OpenSpec.ofChange rvDecodesSpec)) rvDecodesCard

/-- THE TIED CARD OF 'backstaylaw18.RvTexts'. -/
def rvTextsCard : Claim7 := { stood := { row := rvTextsRow, standIns := [], harness := (true, "d22c8e1e58963e3692b8acfe3bfe7b0e21c1e7223de69bd659aebf0a486e95fe"), looks := true }, kinds := [], alts := [], laidByText := true, laidKinds := [.data, .data, .data, .data, .sentinel, .sentinel, .data, .data, .data, .pinned], laidTests := true, laidLooks := .later }
def RvTextsCardSaid : Prop := Claim7.holds Tryd.pinned (.plain (OpenSpec.ofChange rvTextsSpec)) rvTextsCard

/-- THE TIED CARD OF 'backstaylaw18.RvParses'. -/
def rvParsesCard : Claim7 := { stood := { row := rvParsesRow, standIns := [], harness := (true, "d22c8e1e58963e3692b8acfe3bfe7b0e21c1e7223de69bd659aebf0a486e95fe"), looks := true }, kinds := [], alts := [], laidByText := true, laidKinds := [.data, .data, .data, .data, .sentinel, .sentinel, .data, .data, .data, .pinned], laidTests := true, laidLooks := .later }
def RvParsesCardSaid : Prop := Claim7.holds Tryd.pinned (.plain (OpenSpec.ofChange rvParsesSpec)) rvParsesCard

/-- THE TIED CARD OF 'backstaylaw18.RvBytes'. -/
def rvBytesCard : Claim7 := { stood := { row := rvBytesRow, standIns := [], harness := (true, "d22c8e1e58963e3692b8acfe3bfe7b0e21c1e7223de69bd659aebf0a486e95fe"), looks := true }, kinds := [], alts := [], laidByText := true, laidKinds := [.data, .data, .data, .data, .data, .data], laidTests := true, laidLooks := .later }
def RvBytesCardSaid : Prop := Claim7.holds Tryd.pinned (.plain (OpenSpec.ofChange rvBytesSpec)) rvBytesCard

/-- THE TIED CARD OF 'backstaylaw18.RvLists'. -/
def rvListsCard : Claim7 := { stood := { row := rvListsRow, standIns := [], harness := (true, "d22c8e1e58963e3692b8acfe3bfe7b0e21c1e7223de69bd659aebf0a486e95fe"), looks := true }, kinds := [], alts := [], laidByText := true, laidKinds := [.data, .data, .data, .data, .data, .data], laidTests := true, laidLooks := .later }
def RvListsCardSaid : Prop := Claim7.holds Tryd.pinned (.plain (OpenSpec.ofChange rvListsSpec)) rvListsCard

/-- THE TIED CARD OF 'backstaylaw18.RvZeros'. -/
def rvZerosCard : Claim7 := { stood := { row := rvZerosRow, standIns := [], harness := (true, "d22c8e1e58963e3692b8acfe3bfe7b0e21c1e7223de69bd659aebf0a486e95fe"), looks := true }, kinds := [], alts := [], laidByText := true, laidKinds := [.data, .data, .data, .data, .data, .data], laidTests := true, laidLooks := .later }
def RvZerosCardSaid : Prop := Claim7.holds Tryd.pinned (.plain (OpenSpec.ofChange rvZerosSpec)) rvZerosCard

/-- THE SECOND FORM's CARD OF 'backstaytop.TopWords'. -/
def topWordsUptoCard : Claim7 := { stood := { row := topWordsUptoRow, standIns := [], harness := (true, "d22c8e1e58963e3692b8acfe3bfe7b0e21c1e7223de69bd659aebf0a486e95fe"), looks := true }, kinds := [], alts := [], laidByText := true, laidKinds := [.data], laidTests := true, laidLooks := .later }
def TopWordsUptoCardSaid : Prop := Claim7.holds Tryd.pinned (.plain (OpenSpec.upto topWordsSpec)) topWordsUptoCard

/-- THE SECOND FORM's CARD OF 'backstaylaw16.LoopTrips'. -/
def loopTripsUptoCard : Claim7 := { stood := { row := loopTripsUptoRow, standIns := [], harness := (true, "d22c8e1e58963e3692b8acfe3bfe7b0e21c1e7223de69bd659aebf0a486e95fe"), looks := true }, kinds := [], alts := [], laidByText := true, laidKinds := [.data], laidTests := true, laidLooks := .later }
def LoopTripsUptoCardSaid : Prop := Claim7.holds Tryd.pinned (.plain (OpenSpec.upto loopTripsSpec)) loopTripsUptoCard

/-- THE SECOND FORM's CARD OF 'backstaylaw16.LoopEnds'. -/
def loopEndsUptoCard : Claim7 := { stood := { row := loopEndsUptoRow, standIns := [], harness := (true, "d22c8e1e58963e3692b8acfe3bfe7b0e21c1e7223de69bd659aebf0a486e95fe"), looks := true }, kinds := [], alts := [], laidByText := true, laidKinds := [.data], laidTests := true, laidLooks := .later }
def LoopEndsUptoCardSaid : Prop := Claim7.holds Tryd.pinned (.plain (OpenSpec.upto loopEndsSpec)) loopEndsUptoCard

/-- THE SECOND FORM's CARD OF 'backstaylaw18.RvEncodes'. -/
def rvEncodesUptoCard : Claim7 := { stood := { row := rvEncodesUptoRow, standIns := [], harness := (true, "d22c8e1e58963e3692b8acfe3bfe7b0e21c1e7223de69bd659aebf0a486e95fe"), looks := true }, kinds := [], alts := [], laidByText := true, laidKinds := [.data, .data, .data, .data, .data, .data], laidTests := true, laidLooks := .later }
def RvEncodesUptoCardSaid : Prop := Claim7.holds Tryd.pinned (.plain (OpenSpec.upto rvEncodesSpec)) rvEncodesUptoCard

/-- THE SECOND FORM's CARD OF 'backstaylaw18.RvDecodes'. -/
def rvDecodesUptoCard : Claim7 := { stood := { row := rvDecodesUptoRow, standIns := [], harness := (true, "d22c8e1e58963e3692b8acfe3bfe7b0e21c1e7223de69bd659aebf0a486e95fe"), looks := true }, kinds := [], alts := [], laidByText := true, laidKinds := [.data, .data, .data, .data, .data, .data], laidTests := true, laidLooks := .later }
def RvDecodesUptoCardSaid : Prop := Claim7.holds Tryd.pinned (.plain (OpenSpec.upto rvDecodesSpec)) rvDecodesUptoCard

/-- THE SECOND FORM's CARD OF 'backstaylaw18.RvTexts'. -/
def rvTextsUptoCard : Claim7 := { stood := { row := rvTextsUptoRow, standIns := [], harness := (true, "d22c8e1e58963e3692b8acfe3bfe7b0e21c1e7223de69bd659aebf0a486e95fe"), looks := true }, kinds := [], alts := [], laidByText := true, laidKinds := [.data, .data, .data, .data, .sentinel, .sentinel, .data, .data, .data, .pinned], laidTests := true, laidLooks := .later }
def RvTextsUptoCardSaid : Prop := Claim7.holds Tryd.pinned (.plain (OpenSpec.upto rvTextsSpec)) rvTextsUptoCard

/-- THE SECOND FORM's CARD OF 'backstaylaw18.RvParses'. -/
def rvParsesUptoCard : Claim7 := { stood := { row := rvParsesUptoRow, standIns := [], harness := (true, "d22c8e1e58963e3692b8acfe3bfe7b0e21c1e7223de69bd659aebf0a486e95fe"), looks := true }, kinds := [], alts := [], laidByText := true, laidKinds := [.data, .data, .data, .data, .sentinel, .sentinel, .data, .data, .data, .pinned], laidTests := true, laidLooks := .later }
def RvParsesUptoCardSaid : Prop := Claim7.holds Tryd.pinned (.plain (OpenSpec.upto rvParsesSpec)) rvParsesUptoCard

/-- THE SECOND FORM's CARD OF 'backstaylaw18.RvBytes'. -/
def rvBytesUptoCard : Claim7 := { stood := { row := rvBytesUptoRow, standIns := [], harness := (true, "d22c8e1e58963e3692b8acfe3bfe7b0e21c1e7223de69bd659aebf0a486e95fe"), looks := true }, kinds := [], alts := [], laidByText := true, laidKinds := [.data, .data, .data, .data, .data, .data], laidTests := true, laidLooks := .later }
def RvBytesUptoCardSaid : Prop := Claim7.holds Tryd.pinned (.plain (OpenSpec.upto rvBytesSpec)) rvBytesUptoCard

/-- THE SECOND FORM's CARD OF 'backstaylaw18.RvLists'. -/
def rvListsUptoCard : Claim7 := { stood := { row := rvListsUptoRow, standIns := [], harness := (true, "d22c8e1e58963e3692b8acfe3bfe7b0e21c1e7223de69bd659aebf0a486e95fe"), looks := true }, kinds := [], alts := [], laidByText := true, laidKinds := [.data, .data, .data, .data, .data, .data], laidTests := true, laidLooks := .later }
def RvListsUptoCardSaid : Prop := Claim7.holds Tryd.pinned (.plain (OpenSpec.upto rvListsSpec)) rvListsUptoCard

/-- THE SECOND FORM's CARD OF 'backstaylaw18.RvZeros'. -/
def rvZerosUptoCard : Claim7 := { stood := { row := rvZerosUptoRow, standIns := [], harness := (true, "d22c8e1e58963e3692b8acfe3bfe7b0e21c1e7223de69bd659aebf0a486e95fe"), looks := true }, kinds := [], alts := [], laidByText := true, laidKinds := [.data, .data, .data, .data, .data, .data], laidTests := true, laidLooks := .later }
def RvZerosUptoCardSaid : Prop := Claim7.holds Tryd.pinned (.plain (OpenSpec.upto rvZerosSpec)) rvZerosUptoCard
end Rows
end Go.Proofs.YtgnaohhopbhihaaDoor
