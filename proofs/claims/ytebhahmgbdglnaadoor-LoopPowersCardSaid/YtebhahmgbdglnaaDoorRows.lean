/-
  NARROWER THAN 'FOR EVERY INPUT', by the rows' own cells (each row's printed sentence says how): BitsWords: laid · BitsDoes: laid · BitsTotals: laid · BitsBreaks: laid · BitsCompares: laid · BitsExtends: laid · BitsLanes: laid · BitsCounts: laid · BitsRing: laid · LoopSums: laid · LoopPowers: laid · TopWords: laid.
  DERIVED. THE GIVEN ROWS OF THIS SEAT. 12 by the template 'for every input the law returns true; each argument reads behind the call as it read before'; 0 by the template 'total and deterministic' (their statements: YtebhahmgbdglnaaDoorTotals.lean).
  GIVEN WITH THE SEED: the statements are not yours to turn. If you find one false, say at which input.
  Laid BY PROGRAM, IN A SANDBOX (cutbox-rows.mjs): the forced cells as the released guide's own fill.sh prints them over the translation 879c3543fe63ce76… (all of the seat's roots in one cut). By AI agents, Wed Nov 11 2026. No macro, syntax, notation, axiom, sorry.
-/
import Derived.Test.YtebhahmgbdglnaaDoorChecked
import GoSem.Claim
import GoSem.ClaimJoined
import GoSem.ClaimMapViews
import Derived.JoinedTies
import Derived.KernelRfl
namespace Go.Proofs.YtebhahmgbdglnaaDoor
/- THE CELL 'sum', in the pinned program and in every row, IS THE sha256 OF THE DUMP (.gsa) THAT YtebhahmgbdglnaaDoorProg.lean LOADS. Nothing in Lean hashes anything: it is a label: what it is worth is what the hold of that sum in a sandbox is worth. -/
noncomputable def Tryd.pinned : Pinned := { name := "ytebhahmgbdglnaadoor", sum := "879c3543fe63ce766303e233286c2f271e2fd6ef0a2542b50aa4ae043abc59db", checked := Tryd.checked }
namespace Rows
def none {H : Type} : Left H := { results := [], args := [] }

/- WHAT THE LISTED PACKAGE-LEVEL VARIABLES READ AS WHEN THE CALL BEGINS. Each datum BY PROGRAM (the guide's laid-datum.mjs) off the statement by which the dump's own 'gosem.cut.vars' lays the variable. In a bare row this is a premise. The card (YtebhahmgbdglnaaDoorCards.lean) ties it to the program's text. -/
def laid_backstay_bits_masks {H : Type} : DataW H := .agg [.lit (.int .u32 0), .lit (.int .u32 1), .lit (.int .u32 3), .lit (.int .u32 7), .lit (.int .u32 15), .lit (.int .u32 31), .lit (.int .u32 63), .lit (.int .u32 127), .lit (.int .u32 255), .lit (.int .u32 511), .lit (.int .u32 1023), .lit (.int .u32 2047), .lit (.int .u32 4095), .lit (.int .u32 8191), .lit (.int .u32 16383), .lit (.int .u32 32767), .lit (.int .u32 65535), .lit (.int .u32 131071), .lit (.int .u32 262143), .lit (.int .u32 524287), .lit (.int .u32 1048575), .lit (.int .u32 2097151), .lit (.int .u32 4194303), .lit (.int .u32 8388607), .lit (.int .u32 16777215), .lit (.int .u32 33554431), .lit (.int .u32 67108863), .lit (.int .u32 134217727), .lit (.int .u32 268435455), .lit (.int .u32 536870911), .lit (.int .u32 1073741823), .lit (.int .u32 2147483647), .lit (.int .u32 4294967295)]
def laid_backstay_bits_opposites {H : Type} : DataW H := .agg [.lit (.int .i64 1), .lit (.int .i64 0), .lit (.int .i64 5), .lit (.int .i64 4), .lit (.int .i64 3), .lit (.int .i64 2), .lit (.int .i64 9), .lit (.int .i64 8), .lit (.int .i64 7), .lit (.int .i64 6)]
def laid_backstay_bits_mirrors {H : Type} : DataW H := .agg [.lit (.int .i64 0), .lit (.int .i64 1), .lit (.int .i64 4), .lit (.int .i64 5), .lit (.int .i64 2), .lit (.int .i64 3), .lit (.int .i64 8), .lit (.int .i64 9), .lit (.int .i64 6), .lit (.int .i64 7)]

/-- 'backstaylaw01.BitsWords': WHATEVER THE INPUT: true; the input reads as it did. -/
def bitsWordsSpec : ChangeSpec := { name := "bitsWords", fn := fun _ => fun
  | [d1, d2, d3] => { results := [.lit (.bool true)], args := [d1, d2, d3] }
  | _ => none }
def bitsWordsRow : OpenClaim := { program := "ytebhahmgbdglnaadoor", sum := "879c3543fe63ce766303e233286c2f271e2fd6ef0a2542b50aa4ae043abc59db", func := "backstay/backstaylaw01.BitsWords", spec := "bitsWords", unfollowed := true, recurses := true, named := ["backstay/bits.masks"], apart := false, laid := [("backstay/bits.masks", laid_backstay_bits_masks)] }
def BitsWordsSaid : Prop := bitsWordsRow.holds Tryd.pinned (OpenSpec.ofChange bitsWordsSpec)

/-- ITS FALSE NEIGHBOUR: 'it returns false'. Refute it at one input. -/
def bitsWordsWrong : ChangeSpec := { name := "bitsWords", fn := fun _ => fun
  | [d1, d2, d3] => { results := [.lit (.bool false)], args := [d1, d2, d3] }
  | _ => none }
def BitsWordsWrongFalsely : Prop := bitsWordsRow.holds Tryd.pinned (OpenSpec.ofChange bitsWordsWrong)

/-- 'backstaylaw01.BitsDoes': WHATEVER THE INPUT: true; the input reads as it did. -/
def bitsDoesSpec : ChangeSpec := { name := "bitsDoes", fn := fun _ => fun
  | [d1, d2, d3] => { results := [.lit (.bool true)], args := [d1, d2, d3] }
  | _ => none }
def bitsDoesRow : OpenClaim := { program := "ytebhahmgbdglnaadoor", sum := "879c3543fe63ce766303e233286c2f271e2fd6ef0a2542b50aa4ae043abc59db", func := "backstay/backstaylaw01.BitsDoes", spec := "bitsDoes", unfollowed := true, recurses := true, named := ["backstay/bits.masks"], apart := false, laid := [("backstay/bits.masks", laid_backstay_bits_masks)] }
def BitsDoesSaid : Prop := bitsDoesRow.holds Tryd.pinned (OpenSpec.ofChange bitsDoesSpec)

/-- ITS FALSE NEIGHBOUR: 'it returns false'. Refute it at one input. -/
def bitsDoesWrong : ChangeSpec := { name := "bitsDoes", fn := fun _ => fun
  | [d1, d2, d3] => { results := [.lit (.bool false)], args := [d1, d2, d3] }
  | _ => none }
def BitsDoesWrongFalsely : Prop := bitsDoesRow.holds Tryd.pinned (OpenSpec.ofChange bitsDoesWrong)

/-- 'backstaylaw01.BitsTotals': WHATEVER THE INPUT: true; the input reads as it did. -/
def bitsTotalsSpec : ChangeSpec := { name := "bitsTotals", fn := fun _ => fun
  | [d1, d2, d3] => { results := [.lit (.bool true)], args := [d1, d2, d3] }
  | _ => none }
def bitsTotalsRow : OpenClaim := { program := "ytebhahmgbdglnaadoor", sum := "879c3543fe63ce766303e233286c2f271e2fd6ef0a2542b50aa4ae043abc59db", func := "backstay/backstaylaw01.BitsTotals", spec := "bitsTotals", unfollowed := true, recurses := true, named := ["backstay/bits.masks"], apart := false, laid := [("backstay/bits.masks", laid_backstay_bits_masks)] }
def BitsTotalsSaid : Prop := bitsTotalsRow.holds Tryd.pinned (OpenSpec.ofChange bitsTotalsSpec)

/-- ITS FALSE NEIGHBOUR: 'it returns false'. Refute it at one input. -/
def bitsTotalsWrong : ChangeSpec := { name := "bitsTotals", fn := fun _ => fun
  | [d1, d2, d3] => { results := [.lit (.bool false)], args := [d1, d2, d3] }
  | _ => none }
def BitsTotalsWrongFalsely : Prop := bitsTotalsRow.holds Tryd.pinned (OpenSpec.ofChange bitsTotalsWrong)

/-- 'backstaylaw01.BitsBreaks': WHATEVER THE INPUT: true; the input reads as it did. -/
def bitsBreaksSpec : ChangeSpec := { name := "bitsBreaks", fn := fun _ => fun
  | [d1, d2, d3] => { results := [.lit (.bool true)], args := [d1, d2, d3] }
  | _ => none }
def bitsBreaksRow : OpenClaim := { program := "ytebhahmgbdglnaadoor", sum := "879c3543fe63ce766303e233286c2f271e2fd6ef0a2542b50aa4ae043abc59db", func := "backstay/backstaylaw01.BitsBreaks", spec := "bitsBreaks", unfollowed := true, recurses := true, named := ["backstay/bits.masks"], apart := false, laid := [("backstay/bits.masks", laid_backstay_bits_masks)] }
def BitsBreaksSaid : Prop := bitsBreaksRow.holds Tryd.pinned (OpenSpec.ofChange bitsBreaksSpec)

/-- ITS FALSE NEIGHBOUR: 'it returns false'. Refute it at one input. -/
def bitsBreaksWrong : ChangeSpec := { name := "bitsBreaks", fn := fun _ => fun
  | [d1, d2, d3] => { results := [.lit (.bool false)], args := [d1, d2, d3] }
  | _ => none }
def BitsBreaksWrongFalsely : Prop := bitsBreaksRow.holds Tryd.pinned (OpenSpec.ofChange bitsBreaksWrong)

/-- 'backstaylaw01.BitsCompares': WHATEVER THE INPUT: true; the input reads as it did. -/
def bitsComparesSpec : ChangeSpec := { name := "bitsCompares", fn := fun _ => fun
  | [d1, d2, d3] => { results := [.lit (.bool true)], args := [d1, d2, d3] }
  | _ => none }
def bitsComparesRow : OpenClaim := { program := "ytebhahmgbdglnaadoor", sum := "879c3543fe63ce766303e233286c2f271e2fd6ef0a2542b50aa4ae043abc59db", func := "backstay/backstaylaw01.BitsCompares", spec := "bitsCompares", unfollowed := true, recurses := true, named := ["backstay/bits.masks", "backstay/bits.opposites", "backstay/bits.mirrors"], apart := false, laid := [("backstay/bits.masks", laid_backstay_bits_masks), ("backstay/bits.opposites", laid_backstay_bits_opposites), ("backstay/bits.mirrors", laid_backstay_bits_mirrors)] }
def BitsComparesSaid : Prop := bitsComparesRow.holds Tryd.pinned (OpenSpec.ofChange bitsComparesSpec)

/-- ITS FALSE NEIGHBOUR: 'it returns false'. Refute it at one input. -/
def bitsComparesWrong : ChangeSpec := { name := "bitsCompares", fn := fun _ => fun
  | [d1, d2, d3] => { results := [.lit (.bool false)], args := [d1, d2, d3] }
  | _ => none }
def BitsComparesWrongFalsely : Prop := bitsComparesRow.holds Tryd.pinned (OpenSpec.ofChange bitsComparesWrong)

/-- 'backstaylaw01.BitsExtends': WHATEVER THE INPUT: true; the input reads as it did. -/
def bitsExtendsSpec : ChangeSpec := { name := "bitsExtends", fn := fun _ => fun
  | [d1, d2, d3] => { results := [.lit (.bool true)], args := [d1, d2, d3] }
  | _ => none }
def bitsExtendsRow : OpenClaim := { program := "ytebhahmgbdglnaadoor", sum := "879c3543fe63ce766303e233286c2f271e2fd6ef0a2542b50aa4ae043abc59db", func := "backstay/backstaylaw01.BitsExtends", spec := "bitsExtends", unfollowed := true, recurses := true, named := ["backstay/bits.masks"], apart := false, laid := [("backstay/bits.masks", laid_backstay_bits_masks)] }
def BitsExtendsSaid : Prop := bitsExtendsRow.holds Tryd.pinned (OpenSpec.ofChange bitsExtendsSpec)

/-- ITS FALSE NEIGHBOUR: 'it returns false'. Refute it at one input. -/
def bitsExtendsWrong : ChangeSpec := { name := "bitsExtends", fn := fun _ => fun
  | [d1, d2, d3] => { results := [.lit (.bool false)], args := [d1, d2, d3] }
  | _ => none }
def BitsExtendsWrongFalsely : Prop := bitsExtendsRow.holds Tryd.pinned (OpenSpec.ofChange bitsExtendsWrong)

/-- 'backstaylaw01.BitsLanes': WHATEVER THE INPUT: true; the input reads as it did. -/
def bitsLanesSpec : ChangeSpec := { name := "bitsLanes", fn := fun _ => fun
  | [d1, d2, d3] => { results := [.lit (.bool true)], args := [d1, d2, d3] }
  | _ => none }
def bitsLanesRow : OpenClaim := { program := "ytebhahmgbdglnaadoor", sum := "879c3543fe63ce766303e233286c2f271e2fd6ef0a2542b50aa4ae043abc59db", func := "backstay/backstaylaw01.BitsLanes", spec := "bitsLanes", unfollowed := true, recurses := true, named := ["backstay/bits.masks"], apart := false, laid := [("backstay/bits.masks", laid_backstay_bits_masks)] }
def BitsLanesSaid : Prop := bitsLanesRow.holds Tryd.pinned (OpenSpec.ofChange bitsLanesSpec)

/-- ITS FALSE NEIGHBOUR: 'it returns false'. Refute it at one input. -/
def bitsLanesWrong : ChangeSpec := { name := "bitsLanes", fn := fun _ => fun
  | [d1, d2, d3] => { results := [.lit (.bool false)], args := [d1, d2, d3] }
  | _ => none }
def BitsLanesWrongFalsely : Prop := bitsLanesRow.holds Tryd.pinned (OpenSpec.ofChange bitsLanesWrong)

/-- 'backstaylaw01.BitsCounts': WHATEVER THE INPUT: true; the input reads as it did. -/
def bitsCountsSpec : ChangeSpec := { name := "bitsCounts", fn := fun _ => fun
  | [d1, d2] => { results := [.lit (.bool true)], args := [d1, d2] }
  | _ => none }
def bitsCountsRow : OpenClaim := { program := "ytebhahmgbdglnaadoor", sum := "879c3543fe63ce766303e233286c2f271e2fd6ef0a2542b50aa4ae043abc59db", func := "backstay/backstaylaw01.BitsCounts", spec := "bitsCounts", unfollowed := true, recurses := true, named := ["backstay/bits.masks"], apart := false, laid := [("backstay/bits.masks", laid_backstay_bits_masks)] }
def BitsCountsSaid : Prop := bitsCountsRow.holds Tryd.pinned (OpenSpec.ofChange bitsCountsSpec)

/-- ITS FALSE NEIGHBOUR: 'it returns false'. Refute it at one input. -/
def bitsCountsWrong : ChangeSpec := { name := "bitsCounts", fn := fun _ => fun
  | [d1, d2] => { results := [.lit (.bool false)], args := [d1, d2] }
  | _ => none }
def BitsCountsWrongFalsely : Prop := bitsCountsRow.holds Tryd.pinned (OpenSpec.ofChange bitsCountsWrong)

/-- 'backstaylaw01.BitsRing': WHATEVER THE INPUT: true; the input reads as it did. -/
def bitsRingSpec : ChangeSpec := { name := "bitsRing", fn := fun _ => fun
  | [d1, d2, d3] => { results := [.lit (.bool true)], args := [d1, d2, d3] }
  | _ => none }
def bitsRingRow : OpenClaim := { program := "ytebhahmgbdglnaadoor", sum := "879c3543fe63ce766303e233286c2f271e2fd6ef0a2542b50aa4ae043abc59db", func := "backstay/backstaylaw01.BitsRing", spec := "bitsRing", unfollowed := true, recurses := true, named := ["backstay/bits.masks"], apart := false, laid := [("backstay/bits.masks", laid_backstay_bits_masks)] }
def BitsRingSaid : Prop := bitsRingRow.holds Tryd.pinned (OpenSpec.ofChange bitsRingSpec)

/-- ITS FALSE NEIGHBOUR: 'it returns false'. Refute it at one input. -/
def bitsRingWrong : ChangeSpec := { name := "bitsRing", fn := fun _ => fun
  | [d1, d2, d3] => { results := [.lit (.bool false)], args := [d1, d2, d3] }
  | _ => none }
def BitsRingWrongFalsely : Prop := bitsRingRow.holds Tryd.pinned (OpenSpec.ofChange bitsRingWrong)

/-- 'backstaylaw16.LoopSums': WHATEVER THE INPUT: true; the input reads as it did. -/
def loopSumsSpec : ChangeSpec := { name := "loopSums", fn := fun _ => fun
  | [d1, d2] => { results := [.lit (.bool true)], args := [d1, d2] }
  | _ => none }
def loopSumsRow : OpenClaim := { program := "ytebhahmgbdglnaadoor", sum := "879c3543fe63ce766303e233286c2f271e2fd6ef0a2542b50aa4ae043abc59db", func := "backstay/backstaylaw16.LoopSums", spec := "loopSums", recurses := true, named := ["backstay/bits.masks"], apart := false, laid := [("backstay/bits.masks", laid_backstay_bits_masks)] }
def LoopSumsSaid : Prop := loopSumsRow.holds Tryd.pinned (OpenSpec.ofChange loopSumsSpec)

/-- ITS FALSE NEIGHBOUR: 'it returns false'. Refute it at one input. -/
def loopSumsWrong : ChangeSpec := { name := "loopSums", fn := fun _ => fun
  | [d1, d2] => { results := [.lit (.bool false)], args := [d1, d2] }
  | _ => none }
def LoopSumsWrongFalsely : Prop := loopSumsRow.holds Tryd.pinned (OpenSpec.ofChange loopSumsWrong)

/-- 'backstaylaw16.LoopPowers': WHATEVER THE INPUT: true; the input reads as it did. -/
def loopPowersSpec : ChangeSpec := { name := "loopPowers", fn := fun _ => fun
  | [d1, d2, d3] => { results := [.lit (.bool true)], args := [d1, d2, d3] }
  | _ => none }
def loopPowersRow : OpenClaim := { program := "ytebhahmgbdglnaadoor", sum := "879c3543fe63ce766303e233286c2f271e2fd6ef0a2542b50aa4ae043abc59db", func := "backstay/backstaylaw16.LoopPowers", spec := "loopPowers", recurses := true, named := ["backstay/bits.masks"], apart := false, laid := [("backstay/bits.masks", laid_backstay_bits_masks)] }
def LoopPowersSaid : Prop := loopPowersRow.holds Tryd.pinned (OpenSpec.ofChange loopPowersSpec)

/-- ITS FALSE NEIGHBOUR: 'it returns false'. Refute it at one input. -/
def loopPowersWrong : ChangeSpec := { name := "loopPowers", fn := fun _ => fun
  | [d1, d2, d3] => { results := [.lit (.bool false)], args := [d1, d2, d3] }
  | _ => none }
def LoopPowersWrongFalsely : Prop := loopPowersRow.holds Tryd.pinned (OpenSpec.ofChange loopPowersWrong)

/-- 'backstaytop.TopWords': WHATEVER THE INPUT: true; the input reads as it did. -/
def topWordsSpec : ChangeSpec := { name := "topWords", fn := fun _ => fun
  | [d1, d2] => { results := [.lit (.bool true)], args := [d1, d2] }
  | _ => none }
def topWordsRow : OpenClaim := { program := "ytebhahmgbdglnaadoor", sum := "879c3543fe63ce766303e233286c2f271e2fd6ef0a2542b50aa4ae043abc59db", func := "backstay/backstaytop.TopWords", spec := "topWords", unfollowed := true, recurses := true, named := ["backstay/bits.masks"], apart := false, laid := [("backstay/bits.masks", laid_backstay_bits_masks)] }
def TopWordsSaid : Prop := topWordsRow.holds Tryd.pinned (OpenSpec.ofChange topWordsSpec)

/-- ITS FALSE NEIGHBOUR: 'it returns false'. Refute it at one input. -/
def topWordsWrong : ChangeSpec := { name := "topWords", fn := fun _ => fun
  | [d1, d2] => { results := [.lit (.bool false)], args := [d1, d2] }
  | _ => none }
def TopWordsWrongFalsely : Prop := topWordsRow.holds Tryd.pinned (OpenSpec.ofChange topWordsWrong)

/- THE SECOND FORM. 'bulk': how many values and letters a reading holds, each counted each time it is reached (what is shared counts as often as it is met; a slice's spare places count too). A statement '..UptoSaid' is the law's where the arguments, and the package variables that the reading takes, are together of bulk at most 1048576: NARROWER than '..Said'. Prove '..Said' where nothing that the law and all that it calls make is longer than what came in: it says more and counts as full. Else prove '..UptoSaid'. A law counts once. -/
mutual
def uptoBulk {H : Type} : DataW H → Nat
  | .lit (.string bytes) => bytes.length + 1
  | .lit _ => 1
  | .nil => 1
  | .ptr d => uptoBulk d + 1
  | .slice elems spare => uptoBulkAll elems + uptoBulkAll spare + 1
  | .agg parts => uptoBulkAll parts + 1
  | .iface _ d => uptoBulk d + 1
  | .map entries => uptoBulkEntries entries + 1
  | .held _ => 1
def uptoBulkAll {H : Type} : List (DataW H) → Nat
  | [] => 0
  | d :: r => uptoBulk d + uptoBulkAll r
def uptoBulkEntries {H : Type} : List (Lit × DataW H) → Nat
  | [] => 0
  | x :: r => uptoBulkEntry x + uptoBulkEntries r
def uptoBulkEntry {H : Type} : Lit × DataW H → Nat
  | (.string bytes, d) => bytes.length + uptoBulk d + 1
  | (_, d) => uptoBulk d + 1
 end
def uptoSmall : (H : Type) → List (DataW H) → Bool := fun _ ds => decide (uptoBulkAll ds ≤ 1048576)
def OpenSpec.upto (s : _root_.Go.ChangeSpec) : _root_.Go.OpenSpec := { _root_.Go.OpenSpec.ofChange s with cond := some uptoSmall }

/-- 'backstaylaw01.BitsWords', WHERE WHAT IT READS IS OF BULK AT MOST 1048576: true; the input reads as it did. -/
def bitsWordsUptoRow : OpenClaim := { program := "ytebhahmgbdglnaadoor", sum := "879c3543fe63ce766303e233286c2f271e2fd6ef0a2542b50aa4ae043abc59db", func := "backstay/backstaylaw01.BitsWords", spec := "bitsWords", unfollowed := true, recurses := true, named := ["backstay/bits.masks"], apart := false, laid := [("backstay/bits.masks", laid_backstay_bits_masks)], narrowed := true }
def BitsWordsUptoSaid : Prop := bitsWordsUptoRow.holds Tryd.pinned (OpenSpec.upto bitsWordsSpec)

/-- 'backstaylaw01.BitsDoes', WHERE WHAT IT READS IS OF BULK AT MOST 1048576: true; the input reads as it did. -/
def bitsDoesUptoRow : OpenClaim := { program := "ytebhahmgbdglnaadoor", sum := "879c3543fe63ce766303e233286c2f271e2fd6ef0a2542b50aa4ae043abc59db", func := "backstay/backstaylaw01.BitsDoes", spec := "bitsDoes", unfollowed := true, recurses := true, named := ["backstay/bits.masks"], apart := false, laid := [("backstay/bits.masks", laid_backstay_bits_masks)], narrowed := true }
def BitsDoesUptoSaid : Prop := bitsDoesUptoRow.holds Tryd.pinned (OpenSpec.upto bitsDoesSpec)

/-- 'backstaylaw01.BitsTotals', WHERE WHAT IT READS IS OF BULK AT MOST 1048576: true; the input reads as it did. -/
def bitsTotalsUptoRow : OpenClaim := { program := "ytebhahmgbdglnaadoor", sum := "879c3543fe63ce766303e233286c2f271e2fd6ef0a2542b50aa4ae043abc59db", func := "backstay/backstaylaw01.BitsTotals", spec := "bitsTotals", unfollowed := true, recurses := true, named := ["backstay/bits.masks"], apart := false, laid := [("backstay/bits.masks", laid_backstay_bits_masks)], narrowed := true }
def BitsTotalsUptoSaid : Prop := bitsTotalsUptoRow.holds Tryd.pinned (OpenSpec.upto bitsTotalsSpec)

/-- 'backstaylaw01.BitsBreaks', WHERE WHAT IT READS IS OF BULK AT MOST 1048576: true; the input reads as it did. -/
def bitsBreaksUptoRow : OpenClaim := { program := "ytebhahmgbdglnaadoor", sum := "879c3543fe63ce766303e233286c2f271e2fd6ef0a2542b50aa4ae043abc59db", func := "backstay/backstaylaw01.BitsBreaks", spec := "bitsBreaks", unfollowed := true, recurses := true, named := ["backstay/bits.masks"], apart := false, laid := [("backstay/bits.masks", laid_backstay_bits_masks)], narrowed := true }
def BitsBreaksUptoSaid : Prop := bitsBreaksUptoRow.holds Tryd.pinned (OpenSpec.upto bitsBreaksSpec)

/-- 'backstaylaw01.BitsCompares', WHERE WHAT IT READS IS OF BULK AT MOST 1048576: true; the input reads as it did. -/
def bitsComparesUptoRow : OpenClaim := { program := "ytebhahmgbdglnaadoor", sum := "879c3543fe63ce766303e233286c2f271e2fd6ef0a2542b50aa4ae043abc59db", func := "backstay/backstaylaw01.BitsCompares", spec := "bitsCompares", unfollowed := true, recurses := true, named := ["backstay/bits.masks", "backstay/bits.opposites", "backstay/bits.mirrors"], apart := false, laid := [("backstay/bits.masks", laid_backstay_bits_masks), ("backstay/bits.opposites", laid_backstay_bits_opposites), ("backstay/bits.mirrors", laid_backstay_bits_mirrors)], narrowed := true }
def BitsComparesUptoSaid : Prop := bitsComparesUptoRow.holds Tryd.pinned (OpenSpec.upto bitsComparesSpec)

/-- 'backstaylaw01.BitsExtends', WHERE WHAT IT READS IS OF BULK AT MOST 1048576: true; the input reads as it did. -/
def bitsExtendsUptoRow : OpenClaim := { program := "ytebhahmgbdglnaadoor", sum := "879c3543fe63ce766303e233286c2f271e2fd6ef0a2542b50aa4ae043abc59db", func := "backstay/backstaylaw01.BitsExtends", spec := "bitsExtends", unfollowed := true, recurses := true, named := ["backstay/bits.masks"], apart := false, laid := [("backstay/bits.masks", laid_backstay_bits_masks)], narrowed := true }
def BitsExtendsUptoSaid : Prop := bitsExtendsUptoRow.holds Tryd.pinned (OpenSpec.upto bitsExtendsSpec)

/-- 'backstaylaw01.BitsLanes', WHERE WHAT IT READS IS OF BULK AT MOST 1048576: true; the input reads as it did. -/
def bitsLanesUptoRow : OpenClaim := { program := "ytebhahmgbdglnaadoor", sum := "879c3543fe63ce766303e233286c2f271e2fd6ef0a2542b50aa4ae043abc59db", func := "backstay/backstaylaw01.BitsLanes", spec := "bitsLanes", unfollowed := true, recurses := true, named := ["backstay/bits.masks"], apart := false, laid := [("backstay/bits.masks", laid_backstay_bits_masks)], narrowed := true }
def BitsLanesUptoSaid : Prop := bitsLanesUptoRow.holds Tryd.pinned (OpenSpec.upto bitsLanesSpec)

/-- 'backstaylaw01.BitsCounts', WHERE WHAT IT READS IS OF BULK AT MOST 1048576: true; the input reads as it did. -/
def bitsCountsUptoRow : OpenClaim := { program := "ytebhahmgbdglnaadoor", sum := "879c3543fe63ce766303e233286c2f271e2fd6ef0a2542b50aa4ae043abc59db", func := "backstay/backstaylaw01.BitsCounts", spec := "bitsCounts", unfollowed := true, recurses := true, named := ["backstay/bits.masks"], apart := false, laid := [("backstay/bits.masks", laid_backstay_bits_masks)], narrowed := true }
def BitsCountsUptoSaid : Prop := bitsCountsUptoRow.holds Tryd.pinned (OpenSpec.upto bitsCountsSpec)

/-- 'backstaylaw01.BitsRing', WHERE WHAT IT READS IS OF BULK AT MOST 1048576: true; the input reads as it did. -/
def bitsRingUptoRow : OpenClaim := { program := "ytebhahmgbdglnaadoor", sum := "879c3543fe63ce766303e233286c2f271e2fd6ef0a2542b50aa4ae043abc59db", func := "backstay/backstaylaw01.BitsRing", spec := "bitsRing", unfollowed := true, recurses := true, named := ["backstay/bits.masks"], apart := false, laid := [("backstay/bits.masks", laid_backstay_bits_masks)], narrowed := true }
def BitsRingUptoSaid : Prop := bitsRingUptoRow.holds Tryd.pinned (OpenSpec.upto bitsRingSpec)

/-- 'backstaylaw16.LoopSums', WHERE WHAT IT READS IS OF BULK AT MOST 1048576: true; the input reads as it did. -/
def loopSumsUptoRow : OpenClaim := { program := "ytebhahmgbdglnaadoor", sum := "879c3543fe63ce766303e233286c2f271e2fd6ef0a2542b50aa4ae043abc59db", func := "backstay/backstaylaw16.LoopSums", spec := "loopSums", recurses := true, named := ["backstay/bits.masks"], apart := false, laid := [("backstay/bits.masks", laid_backstay_bits_masks)], narrowed := true }
def LoopSumsUptoSaid : Prop := loopSumsUptoRow.holds Tryd.pinned (OpenSpec.upto loopSumsSpec)

/-- 'backstaylaw16.LoopPowers', WHERE WHAT IT READS IS OF BULK AT MOST 1048576: true; the input reads as it did. -/
def loopPowersUptoRow : OpenClaim := { program := "ytebhahmgbdglnaadoor", sum := "879c3543fe63ce766303e233286c2f271e2fd6ef0a2542b50aa4ae043abc59db", func := "backstay/backstaylaw16.LoopPowers", spec := "loopPowers", recurses := true, named := ["backstay/bits.masks"], apart := false, laid := [("backstay/bits.masks", laid_backstay_bits_masks)], narrowed := true }
def LoopPowersUptoSaid : Prop := loopPowersUptoRow.holds Tryd.pinned (OpenSpec.upto loopPowersSpec)

/-- 'backstaytop.TopWords', WHERE WHAT IT READS IS OF BULK AT MOST 1048576: true; the input reads as it did. -/
def topWordsUptoRow : OpenClaim := { program := "ytebhahmgbdglnaadoor", sum := "879c3543fe63ce766303e233286c2f271e2fd6ef0a2542b50aa4ae043abc59db", func := "backstay/backstaytop.TopWords", spec := "topWords", unfollowed := true, recurses := true, named := ["backstay/bits.masks"], apart := false, laid := [("backstay/bits.masks", laid_backstay_bits_masks)], narrowed := true }
def TopWordsUptoSaid : Prop := topWordsUptoRow.holds Tryd.pinned (OpenSpec.upto topWordsSpec)

end Rows
end Go.Proofs.YtebhahmgbdglnaaDoor
