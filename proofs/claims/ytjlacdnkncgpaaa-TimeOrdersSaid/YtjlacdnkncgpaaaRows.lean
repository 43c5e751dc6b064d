/-
  No cell of these rows narrows 'for every input' (looked for: loops, veiled, ifaces, maps, wideKeys, modest, calm, conditions, laid).
  DERIVED. THE GIVEN ROWS OF THIS SEAT. 4 by the template 'for every input the law returns true; each argument reads behind the call as it read before'; 0 by the template 'total and deterministic' (their statements: YtjlacdnkncgpaaaTotals.lean).
  GIVEN WITH THE SEED: the statements are not yours to turn. If you find one false, say at which input.
  Laid BY PROGRAM, IN A SANDBOX (cutbox-rows.mjs): the forced cells as the released guide's own fill.sh prints them over the translation 6ba83790583afd1c… (all of the seat's roots in one cut). By AI agents, Wed Nov 11 2026. No macro, syntax, notation, axiom, sorry.
-/
import Derived.Test.YtjlacdnkncgpaaaChecked
import GoSem.Claim
import GoSem.ClaimJoined
import GoSem.ClaimMapViews
import Derived.JoinedTies
import Derived.KernelRfl
namespace Go.Proofs.Ytjlacdnkncgpaaa
/- THE CELL 'sum', in the pinned program and in every row, IS THE sha256 OF THE DUMP (.gsa) THAT YtjlacdnkncgpaaaProg.lean LOADS. Nothing in Lean hashes anything: it is a label: what it is worth is what the hold of that sum in a sandbox is worth. -/
noncomputable def Try.pinned : Pinned := { name := "ytjlacdnkncgpaaa", sum := "6ba83790583afd1c28dee050acb393c0ca89895e75b4ac51afce3388849d29a7", checked := Try.checked }
namespace Rows
def none {H : Type} : Left H := { results := [], args := [] }

/-- 'backstaylaw23.TimeIssues': WHATEVER THE INPUT: true; the input reads as it did. -/
def timeIssuesSpec : ChangeSpec := { name := "timeIssues", fn := fun _ => fun
  | [d1, d2] => { results := [.lit (.bool true)], args := [d1, d2] }
  | _ => none }
def timeIssuesRow : OpenClaim := { program := "ytjlacdnkncgpaaa", sum := "6ba83790583afd1c28dee050acb393c0ca89895e75b4ac51afce3388849d29a7", func := "backstay/backstaylaw23.TimeIssues", spec := "timeIssues", recurses := true, apart := false }
def TimeIssuesSaid : Prop := timeIssuesRow.holds Try.pinned (OpenSpec.ofChange timeIssuesSpec)

/-- ITS FALSE NEIGHBOUR: 'it returns false'. Refute it at one input. -/
def timeIssuesWrong : ChangeSpec := { name := "timeIssues", fn := fun _ => fun
  | [d1, d2] => { results := [.lit (.bool false)], args := [d1, d2] }
  | _ => none }
def TimeIssuesWrongFalsely : Prop := timeIssuesRow.holds Try.pinned (OpenSpec.ofChange timeIssuesWrong)

/-- 'backstaylaw23.TimeDepends': WHATEVER THE INPUT: true; the input reads as it did. -/
def timeDependsSpec : ChangeSpec := { name := "timeDepends", fn := fun _ => fun
  | [d] => { results := [.lit (.bool true)], args := [d] }
  | _ => none }
def timeDependsRow : OpenClaim := { program := "ytjlacdnkncgpaaa", sum := "6ba83790583afd1c28dee050acb393c0ca89895e75b4ac51afce3388849d29a7", func := "backstay/backstaylaw23.TimeDepends", spec := "timeDepends", recurses := true, apart := false }
def TimeDependsSaid : Prop := timeDependsRow.holds Try.pinned (OpenSpec.ofChange timeDependsSpec)

/-- ITS FALSE NEIGHBOUR: 'it returns false'. Refute it at one input. -/
def timeDependsWrong : ChangeSpec := { name := "timeDepends", fn := fun _ => fun
  | [d] => { results := [.lit (.bool false)], args := [d] }
  | _ => none }
def TimeDependsWrongFalsely : Prop := timeDependsRow.holds Try.pinned (OpenSpec.ofChange timeDependsWrong)

/-- 'backstaylaw23.TimeOrders': WHATEVER THE INPUT: true; the input reads as it did. -/
def timeOrdersSpec : ChangeSpec := { name := "timeOrders", fn := fun _ => fun
  | [d1, d2] => { results := [.lit (.bool true)], args := [d1, d2] }
  | _ => none }
def timeOrdersRow : OpenClaim := { program := "ytjlacdnkncgpaaa", sum := "6ba83790583afd1c28dee050acb393c0ca89895e75b4ac51afce3388849d29a7", func := "backstay/backstaylaw23.TimeOrders", spec := "timeOrders", recurses := true, apart := false }
def TimeOrdersSaid : Prop := timeOrdersRow.holds Try.pinned (OpenSpec.ofChange timeOrdersSpec)

/-- ITS FALSE NEIGHBOUR: 'it returns false'. Refute it at one input. -/
def timeOrdersWrong : ChangeSpec := { name := "timeOrders", fn := fun _ => fun
  | [d1, d2] => { results := [.lit (.bool false)], args := [d1, d2] }
  | _ => none }
def TimeOrdersWrongFalsely : Prop := timeOrdersRow.holds Try.pinned (OpenSpec.ofChange timeOrdersWrong)

/-- 'backstaylaw23.TimeBounds': WHATEVER THE INPUT: true; the input reads as it did. -/
def timeBoundsSpec : ChangeSpec := { name := "timeBounds", fn := fun _ => fun
  | [d1, d2] => { results := [.lit (.bool true)], args := [d1, d2] }
  | _ => none }
def timeBoundsRow : OpenClaim := { program := "ytjlacdnkncgpaaa", sum := "6ba83790583afd1c28dee050acb393c0ca89895e75b4ac51afce3388849d29a7", func := "backstay/backstaylaw23.TimeBounds", spec := "timeBounds", recurses := true, apart := false }
def TimeBoundsSaid : Prop := timeBoundsRow.holds Try.pinned (OpenSpec.ofChange timeBoundsSpec)

/-- ITS FALSE NEIGHBOUR: 'it returns false'. Refute it at one input. -/
def timeBoundsWrong : ChangeSpec := { name := "timeBounds", fn := fun _ => fun
  | [d1, d2] => { results := [.lit (.bool false)], args := [d1, d2] }
  | _ => none }
def TimeBoundsWrongFalsely : Prop := timeBoundsRow.holds Try.pinned (OpenSpec.ofChange timeBoundsWrong)

/- THE SECOND FORM. 'bulk': how many values and letters a reading holds, each counted each time it is reached (what is shared counts as often as it is met; a slice's spare places count too). A statement '..UptoSaid' is the law's where the arguments, and the package variables that the reading takes, are together of bulk at most 1048576: NARROWER than '..Said'. Prove '..Said' where nothing that the law and all that it calls make is longer than what came in: it says more and counts as full. Else prove '..UptoSaid'. A law counts once. -/
mutual
def uptoBulk {H : Type} : DataW H → Nat
  | .lit (.string bytes) => bytes.length + 1
  | .lit _ => 1
  | .nil => 1
  | .ptr d => uptoBulk d + 1
  | .slice elems spare => uptoBulkAll elems + uptoBulkAll spare + 1
  | .agg parts => uptoBulkAll parts + 1
  | .iface _ d => uptoBulk d + 1
  | .map entries => uptoBulkEntries entries + 1
  | .held _ => 1
def uptoBulkAll {H : Type} : List (DataW H) → Nat
  | [] => 0
  | d :: r => uptoBulk d + uptoBulkAll r
def uptoBulkEntries {H : Type} : List (Lit × DataW H) → Nat
  | [] => 0
  | x :: r => uptoBulkEntry x + uptoBulkEntries r
def uptoBulkEntry {H : Type} : Lit × DataW H → Nat
  | (.string bytes, d) => bytes.length + uptoBulk d + 1
  | (_, d) => uptoBulk d + 1
 end
def uptoSmall : (H : Type) → List (DataW H) → Bool := fun _ ds => decide (uptoBulkAll ds ≤ 1048576)
def OpenSpec.upto (s : _root_.Go.ChangeSpec) : _root_.Go.OpenSpec := { _root_.Go.OpenSpec.ofChange s with cond := some uptoSmall }

/-- 'backstaylaw23.TimeIssues', WHERE WHAT IT READS IS OF BULK AT MOST 1048576: true; the input reads as it did. -/
def timeIssuesUptoRow : OpenClaim := { program := "ytjlacdnkncgpaaa", sum := "6ba83790583afd1c28dee050acb393c0ca89895e75b4ac51afce3388849d29a7", func := "backstay/backstaylaw23.TimeIssues", spec := "timeIssues", recurses := true, apart := false, narrowed := true }
def TimeIssuesUptoSaid : Prop := timeIssuesUptoRow.holds Try.pinned (OpenSpec.upto timeIssuesSpec)

/-- 'backstaylaw23.TimeDepends', WHERE WHAT IT READS IS OF BULK AT MOST 1048576: true; the input reads as it did. -/
def timeDependsUptoRow : OpenClaim := { program := "ytjlacdnkncgpaaa", sum := "6ba83790583afd1c28dee050acb393c0ca89895e75b4ac51afce3388849d29a7", func := "backstay/backstaylaw23.TimeDepends", spec := "timeDepends", recurses := true, apart := false, narrowed := true }
def TimeDependsUptoSaid : Prop := timeDependsUptoRow.holds Try.pinned (OpenSpec.upto timeDependsSpec)

/-- 'backstaylaw23.TimeOrders', WHERE WHAT IT READS IS OF BULK AT MOST 1048576: true; the input reads as it did. -/
def timeOrdersUptoRow : OpenClaim := { program := "ytjlacdnkncgpaaa", sum := "6ba83790583afd1c28dee050acb393c0ca89895e75b4ac51afce3388849d29a7", func := "backstay/backstaylaw23.TimeOrders", spec := "timeOrders", recurses := true, apart := false, narrowed := true }
def TimeOrdersUptoSaid : Prop := timeOrdersUptoRow.holds Try.pinned (OpenSpec.upto timeOrdersSpec)

/-- 'backstaylaw23.TimeBounds', WHERE WHAT IT READS IS OF BULK AT MOST 1048576: true; the input reads as it did. -/
def timeBoundsUptoRow : OpenClaim := { program := "ytjlacdnkncgpaaa", sum := "6ba83790583afd1c28dee050acb393c0ca89895e75b4ac51afce3388849d29a7", func := "backstay/backstaylaw23.TimeBounds", spec := "timeBounds", recurses := true, apart := false, narrowed := true }
def TimeBoundsUptoSaid : Prop := timeBoundsUptoRow.holds Try.pinned (OpenSpec.upto timeBoundsSpec)

end Rows
end Go.Proofs.Ytjlacdnkncgpaaa
