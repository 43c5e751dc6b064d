/-
  NARROWER THAN 'FOR EVERY INPUT', by the rows' own cells (each row's printed sentence says how): TermValidates: laid · TermValues: laid · TermShares: laid · TermPuts: laid · TermMeans: laid · TermJoins: laid.
  DERIVED. THE GIVEN ROWS OF THIS SEAT. 6 by the template 'for every input the law returns true; each argument reads behind the call as it read before'; 0 by the template 'total and deterministic' (their statements: YtbohigjfdnnomaaDoorTotals.lean).
  GIVEN WITH THE SEED: the statements are not yours to turn. If you find one false, say at which input.
  Laid BY PROGRAM, IN A SANDBOX (cutbox-rows.mjs): the forced cells as the released guide's own fill.sh prints them over the translation 4bc5f2e17fb2b80a… (all of the seat's roots in one cut). By AI agents, Wed Nov 11 2026. No macro, syntax, notation, axiom, sorry.
-/
import Derived.Test.YtbohigjfdnnomaaDoorChecked
import GoSem.Claim
import GoSem.ClaimJoined
import GoSem.ClaimMapViews
import Derived.JoinedTies
import Derived.KernelRfl
namespace Go.Proofs.YtbohigjfdnnomaaDoor
/- THE CELL 'sum', in the pinned program and in every row, IS THE sha256 OF THE DUMP (.gsa) THAT YtbohigjfdnnomaaDoorProg.lean LOADS. Nothing in Lean hashes anything: it is a label: what it is worth is what the hold of that sum in a sandbox is worth. -/
noncomputable def Tryd.pinned : Pinned := { name := "ytbohigjfdnnomaadoor", sum := "4bc5f2e17fb2b80a35e516dcfc7ffb0bb3b2d351656777fb8b42a0659fa0281f", checked := Tryd.checked }
namespace Rows
def none {H : Type} : Left H := { results := [], args := [] }

/- WHAT THE LISTED PACKAGE-LEVEL VARIABLES READ AS WHEN THE CALL BEGINS. Each datum BY PROGRAM (the guide's laid-datum.mjs) off the statement by which the dump's own 'gosem.cut.vars' lays the variable. In a bare row this is a premise. The card (YtbohigjfdnnomaaDoorCards.lean) ties it to the program's text. -/
def laid_backstay_bits_masks {H : Type} : DataW H := .agg [.lit (.int .u32 0), .lit (.int .u32 1), .lit (.int .u32 3), .lit (.int .u32 7), .lit (.int .u32 15), .lit (.int .u32 31), .lit (.int .u32 63), .lit (.int .u32 127), .lit (.int .u32 255), .lit (.int .u32 511), .lit (.int .u32 1023), .lit (.int .u32 2047), .lit (.int .u32 4095), .lit (.int .u32 8191), .lit (.int .u32 16383), .lit (.int .u32 32767), .lit (.int .u32 65535), .lit (.int .u32 131071), .lit (.int .u32 262143), .lit (.int .u32 524287), .lit (.int .u32 1048575), .lit (.int .u32 2097151), .lit (.int .u32 4194303), .lit (.int .u32 8388607), .lit (.int .u32 16777215), .lit (.int .u32 33554431), .lit (.int .u32 67108863), .lit (.int .u32 134217727), .lit (.int .u32 268435455), .lit (.int .u32 536870911), .lit (.int .u32 1073741823), .lit (.int .u32 2147483647), .lit (.int .u32 4294967295)]

/-- 'backstaylaw07.TermValidates': WHATEVER THE INPUT: true; the input reads as it did. -/
def termValidatesSpec : ChangeSpec := { name := "termValidates", fn := fun _ => fun
  | [d] => { results := [.lit (.bool true)], args := [d] }
  | _ => none }
def termValidatesRow : OpenClaim := { program := "ytbohigjfdnnomaadoor", sum := "4bc5f2e17fb2b80a35e516dcfc7ffb0bb3b2d351656777fb8b42a0659fa0281f", func := "backstay/backstaylaw07.TermValidates", spec := "termValidates", unfollowed := true, recurses := true, named := ["backstay/bits.masks"], plainKeys := false, apart := false, laid := [("backstay/bits.masks", laid_backstay_bits_masks)] }
def TermValidatesSaid : Prop := termValidatesRow.holds Tryd.pinned (OpenSpec.ofChange termValidatesSpec)

/-- ITS FALSE NEIGHBOUR: 'it returns false'. Refute it at one input. -/
def termValidatesWrong : ChangeSpec := { name := "termValidates", fn := fun _ => fun
  | [d] => { results := [.lit (.bool false)], args := [d] }
  | _ => none }
def TermValidatesWrongFalsely : Prop := termValidatesRow.holds Tryd.pinned (OpenSpec.ofChange termValidatesWrong)

/-- 'backstaylaw07.TermValues': WHATEVER THE INPUT: true; the input reads as it did. -/
def termValuesSpec : ChangeSpec := { name := "termValues", fn := fun _ => fun
  | [d1, d2] => { results := [.lit (.bool true)], args := [d1, d2] }
  | _ => none }
def termValuesRow : OpenClaim := { program := "ytbohigjfdnnomaadoor", sum := "4bc5f2e17fb2b80a35e516dcfc7ffb0bb3b2d351656777fb8b42a0659fa0281f", func := "backstay/backstaylaw07.TermValues", spec := "termValues", unfollowed := true, recurses := true, named := ["backstay/bits.masks"], plainKeys := false, apart := false, laid := [("backstay/bits.masks", laid_backstay_bits_masks)] }
def TermValuesSaid : Prop := termValuesRow.holds Tryd.pinned (OpenSpec.ofChange termValuesSpec)

/-- ITS FALSE NEIGHBOUR: 'it returns false'. Refute it at one input. -/
def termValuesWrong : ChangeSpec := { name := "termValues", fn := fun _ => fun
  | [d1, d2] => { results := [.lit (.bool false)], args := [d1, d2] }
  | _ => none }
def TermValuesWrongFalsely : Prop := termValuesRow.holds Tryd.pinned (OpenSpec.ofChange termValuesWrong)

/-- 'backstaylaw07.TermShares': WHATEVER THE INPUT: true; the input reads as it did. -/
def termSharesSpec : ChangeSpec := { name := "termShares", fn := fun _ => fun
  | [d1, d2] => { results := [.lit (.bool true)], args := [d1, d2] }
  | _ => none }
def termSharesRow : OpenClaim := { program := "ytbohigjfdnnomaadoor", sum := "4bc5f2e17fb2b80a35e516dcfc7ffb0bb3b2d351656777fb8b42a0659fa0281f", func := "backstay/backstaylaw07.TermShares", spec := "termShares", unfollowed := true, recurses := true, named := ["backstay/bits.masks"], plainKeys := false, apart := false, laid := [("backstay/bits.masks", laid_backstay_bits_masks)] }
def TermSharesSaid : Prop := termSharesRow.holds Tryd.pinned (OpenSpec.ofChange termSharesSpec)

/-- ITS FALSE NEIGHBOUR: 'it returns false'. Refute it at one input. -/
def termSharesWrong : ChangeSpec := { name := "termShares", fn := fun _ => fun
  | [d1, d2] => { results := [.lit (.bool false)], args := [d1, d2] }
  | _ => none }
def TermSharesWrongFalsely : Prop := termSharesRow.holds Tryd.pinned (OpenSpec.ofChange termSharesWrong)

/-- 'backstaylaw07.TermPuts': WHATEVER THE INPUT: true; the input reads as it did. -/
def termPutsSpec : ChangeSpec := { name := "termPuts", fn := fun _ => fun
  | [d1, d2] => { results := [.lit (.bool true)], args := [d1, d2] }
  | _ => none }
def termPutsRow : OpenClaim := { program := "ytbohigjfdnnomaadoor", sum := "4bc5f2e17fb2b80a35e516dcfc7ffb0bb3b2d351656777fb8b42a0659fa0281f", func := "backstay/backstaylaw07.TermPuts", spec := "termPuts", unfollowed := true, recurses := true, named := ["backstay/bits.masks"], plainKeys := false, apart := false, laid := [("backstay/bits.masks", laid_backstay_bits_masks)] }
def TermPutsSaid : Prop := termPutsRow.holds Tryd.pinned (OpenSpec.ofChange termPutsSpec)

/-- ITS FALSE NEIGHBOUR: 'it returns false'. Refute it at one input. -/
def termPutsWrong : ChangeSpec := { name := "termPuts", fn := fun _ => fun
  | [d1, d2] => { results := [.lit (.bool false)], args := [d1, d2] }
  | _ => none }
def TermPutsWrongFalsely : Prop := termPutsRow.holds Tryd.pinned (OpenSpec.ofChange termPutsWrong)

/-- 'backstaylaw07.TermMeans': WHATEVER THE INPUT: true; the input reads as it did. -/
def termMeansSpec : ChangeSpec := { name := "termMeans", fn := fun _ => fun
  | [d1, d2, d3] => { results := [.lit (.bool true)], args := [d1, d2, d3] }
  | _ => none }
def termMeansRow : OpenClaim := { program := "ytbohigjfdnnomaadoor", sum := "4bc5f2e17fb2b80a35e516dcfc7ffb0bb3b2d351656777fb8b42a0659fa0281f", func := "backstay/backstaylaw07.TermMeans", spec := "termMeans", unfollowed := true, recurses := true, named := ["backstay/bits.masks"], plainKeys := false, apart := false, laid := [("backstay/bits.masks", laid_backstay_bits_masks)] }
def TermMeansSaid : Prop := termMeansRow.holds Tryd.pinned (OpenSpec.ofChange termMeansSpec)

/-- ITS FALSE NEIGHBOUR: 'it returns false'. Refute it at one input. -/
def termMeansWrong : ChangeSpec := { name := "termMeans", fn := fun _ => fun
  | [d1, d2, d3] => { results := [.lit (.bool false)], args := [d1, d2, d3] }
  | _ => none }
def TermMeansWrongFalsely : Prop := termMeansRow.holds Tryd.pinned (OpenSpec.ofChange termMeansWrong)

/-- 'backstaylaw07.TermJoins': WHATEVER THE INPUT: true; the input reads as it did. -/
def termJoinsSpec : ChangeSpec := { name := "termJoins", fn := fun _ => fun
  | [d1, d2] => { results := [.lit (.bool true)], args := [d1, d2] }
  | _ => none }
def termJoinsRow : OpenClaim := { program := "ytbohigjfdnnomaadoor", sum := "4bc5f2e17fb2b80a35e516dcfc7ffb0bb3b2d351656777fb8b42a0659fa0281f", func := "backstay/backstaylaw07.TermJoins", spec := "termJoins", unfollowed := true, recurses := true, named := ["backstay/bits.masks"], plainKeys := false, apart := false, laid := [("backstay/bits.masks", laid_backstay_bits_masks)] }
def TermJoinsSaid : Prop := termJoinsRow.holds Tryd.pinned (OpenSpec.ofChange termJoinsSpec)

/-- ITS FALSE NEIGHBOUR: 'it returns false'. Refute it at one input. -/
def termJoinsWrong : ChangeSpec := { name := "termJoins", fn := fun _ => fun
  | [d1, d2] => { results := [.lit (.bool false)], args := [d1, d2] }
  | _ => none }
def TermJoinsWrongFalsely : Prop := termJoinsRow.holds Tryd.pinned (OpenSpec.ofChange termJoinsWrong)

/- THE SECOND FORM. 'bulk': how many values and letters a reading holds, each counted each time it is reached (what is shared counts as often as it is met; a slice's spare places count too). A statement '..UptoSaid' is the law's where the arguments, and the package variables that the reading takes, are together of bulk at most 1048576: NARROWER than '..Said'. Prove '..Said' where nothing that the law and all that it calls make is longer than what came in: it says more and counts as full. Else prove '..UptoSaid'. A law counts once. -/
mutual
def uptoBulk {H : Type} : DataW H → Nat
  | .lit (.string bytes) => bytes.length + 1
  | .lit _ => 1
  | .nil => 1
  | .ptr d => uptoBulk d + 1
  | .slice elems spare => uptoBulkAll elems + uptoBulkAll spare + 1
  | .agg parts => uptoBulkAll parts + 1
  | .iface _ d => uptoBulk d + 1
  | .map entries => uptoBulkEntries entries + 1
  | .held _ => 1
def uptoBulkAll {H : Type} : List (DataW H) → Nat
  | [] => 0
  | d :: r => uptoBulk d + uptoBulkAll r
def uptoBulkEntries {H : Type} : List (Lit × DataW H) → Nat
  | [] => 0
  | x :: r => uptoBulkEntry x + uptoBulkEntries r
def uptoBulkEntry {H : Type} : Lit × DataW H → Nat
  | (.string bytes, d) => bytes.length + uptoBulk d + 1
  | (_, d) => uptoBulk d + 1
 end
def uptoSmall : (H : Type) → List (DataW H) → Bool := fun _ ds => decide (uptoBulkAll ds ≤ 1048576)
def OpenSpec.upto (s : _root_.Go.ChangeSpec) : _root_.Go.OpenSpec := { _root_.Go.OpenSpec.ofChange s with cond := some uptoSmall }

/-- 'backstaylaw07.TermValidates', WHERE WHAT IT READS IS OF BULK AT MOST 1048576: true; the input reads as it did. -/
def termValidatesUptoRow : OpenClaim := { program := "ytbohigjfdnnomaadoor", sum := "4bc5f2e17fb2b80a35e516dcfc7ffb0bb3b2d351656777fb8b42a0659fa0281f", func := "backstay/backstaylaw07.TermValidates", spec := "termValidates", unfollowed := true, recurses := true, named := ["backstay/bits.masks"], plainKeys := false, apart := false, laid := [("backstay/bits.masks", laid_backstay_bits_masks)], narrowed := true }
def TermValidatesUptoSaid : Prop := termValidatesUptoRow.holds Tryd.pinned (OpenSpec.upto termValidatesSpec)

/-- 'backstaylaw07.TermValues', WHERE WHAT IT READS IS OF BULK AT MOST 1048576: true; the input reads as it did. -/
def termValuesUptoRow : OpenClaim := { program := "ytbohigjfdnnomaadoor", sum := "4bc5f2e17fb2b80a35e516dcfc7ffb0bb3b2d351656777fb8b42a0659fa0281f", func := "backstay/backstaylaw07.TermValues", spec := "termValues", unfollowed := true, recurses := true, named := ["backstay/bits.masks"], plainKeys := false, apart := false, laid := [("backstay/bits.masks", laid_backstay_bits_masks)], narrowed := true }
def TermValuesUptoSaid : Prop := termValuesUptoRow.holds Tryd.pinned (OpenSpec.upto termValuesSpec)

/-- 'backstaylaw07.TermShares', WHERE WHAT IT READS IS OF BULK AT MOST 1048576: true; the input reads as it did. -/
def termSharesUptoRow : OpenClaim := { program := "ytbohigjfdnnomaadoor", sum := "4bc5f2e17fb2b80a35e516dcfc7ffb0bb3b2d351656777fb8b42a0659fa0281f", func := "backstay/backstaylaw07.TermShares", spec := "termShares", unfollowed := true, recurses := true, named := ["backstay/bits.masks"], plainKeys := false, apart := false, laid := [("backstay/bits.masks", laid_backstay_bits_masks)], narrowed := true }
def TermSharesUptoSaid : Prop := termSharesUptoRow.holds Tryd.pinned (OpenSpec.upto termSharesSpec)

/-- 'backstaylaw07.TermPuts', WHERE WHAT IT READS IS OF BULK AT MOST 1048576: true; the input reads as it did. -/
def termPutsUptoRow : OpenClaim := { program := "ytbohigjfdnnomaadoor", sum := "4bc5f2e17fb2b80a35e516dcfc7ffb0bb3b2d351656777fb8b42a0659fa0281f", func := "backstay/backstaylaw07.TermPuts", spec := "termPuts", unfollowed := true, recurses := true, named := ["backstay/bits.masks"], plainKeys := false, apart := false, laid := [("backstay/bits.masks", laid_backstay_bits_masks)], narrowed := true }
def TermPutsUptoSaid : Prop := termPutsUptoRow.holds Tryd.pinned (OpenSpec.upto termPutsSpec)

/-- 'backstaylaw07.TermMeans', WHERE WHAT IT READS IS OF BULK AT MOST 1048576: true; the input reads as it did. -/
def termMeansUptoRow : OpenClaim := { program := "ytbohigjfdnnomaadoor", sum := "4bc5f2e17fb2b80a35e516dcfc7ffb0bb3b2d351656777fb8b42a0659fa0281f", func := "backstay/backstaylaw07.TermMeans", spec := "termMeans", unfollowed := true, recurses := true, named := ["backstay/bits.masks"], plainKeys := false, apart := false, laid := [("backstay/bits.masks", laid_backstay_bits_masks)], narrowed := true }
def TermMeansUptoSaid : Prop := termMeansUptoRow.holds Tryd.pinned (OpenSpec.upto termMeansSpec)

/-- 'backstaylaw07.TermJoins', WHERE WHAT IT READS IS OF BULK AT MOST 1048576: true; the input reads as it did. -/
def termJoinsUptoRow : OpenClaim := { program := "ytbohigjfdnnomaadoor", sum := "4bc5f2e17fb2b80a35e516dcfc7ffb0bb3b2d351656777fb8b42a0659fa0281f", func := "backstay/backstaylaw07.TermJoins", spec := "termJoins", unfollowed := true, recurses := true, named := ["backstay/bits.masks"], plainKeys := false, apart := false, laid := [("backstay/bits.masks", laid_backstay_bits_masks)], narrowed := true }
def TermJoinsUptoSaid : Prop := termJoinsUptoRow.holds Tryd.pinned (OpenSpec.upto termJoinsSpec)

end Rows
end Go.Proofs.YtbohigjfdnnomaaDoor
