/-
  NARROWER THAN 'FOR EVERY INPUT', by the rows' own cells (each row's printed sentence says how): RvEncodes: laid · RvDecodes: laid · RvBytes: laid · RvLists: laid · RvTexts: laid · RvParses: laid · RvSteps: laid · RvRuns: laid · RvZeros: laid.
  DERIVED. THE GIVEN ROWS OF THIS SEAT. 9 by the template 'for every input the law returns true; each argument reads behind the call as it read before'; 0 by the template 'total and deterministic' (their statements: YthkaclmnbahieaaDoorTotals.lean).
  GIVEN WITH THE SEED: the statements are not yours to turn. If you find one false, say at which input.
  Laid BY PROGRAM, IN A SANDBOX (cutbox-rows.mjs): the forced cells as the released guide's own fill.sh prints them over the translation 8b8c25b71b9d55e1… (all of the seat's roots in one cut). By AI agents, Wed Nov 11 2026. No macro, syntax, notation, axiom, sorry.
-/
import Derived.Test.YthkaclmnbahieaaDoorChecked
import GoSem.PinnedTables
import GoSem.Claim
import GoSem.ClaimJoined
import GoSem.ClaimMapViews
import Derived.JoinedTies
import Derived.KernelRfl
namespace Go.Proofs.YthkaclmnbahieaaDoor
/- THE CELL 'sum', in the pinned program and in every row, IS THE sha256 OF THE DUMP (.gsa) THAT YthkaclmnbahieaaDoorProg.lean LOADS. Nothing in Lean hashes anything: it is a label: what it is worth is what the hold of that sum in a sandbox is worth. -/
noncomputable def Tryd.pinned : Pinned := { name := "ythkaclmnbahieaadoor", sum := "8b8c25b71b9d55e1228bc1b8e23c72afc1c87fe70dfef2a8e5181aea7c8d944d", checked := Tryd.checked }
namespace Rows
def none {H : Type} : Left H := { results := [], args := [] }

/- WHAT THE LISTED PACKAGE-LEVEL VARIABLES READ AS WHEN THE CALL BEGINS. Each datum BY PROGRAM (the guide's laid-datum.mjs) off the statement by which the dump's own 'gosem.cut.vars' lays the variable. In a bare row this is a premise. The card (YthkaclmnbahieaaDoorCards.lean) ties it to the program's text. -/
def laid_math_bits_deBruijn32tab {H : Type} : DataW H := .agg [.lit (.int .u8 0), .lit (.int .u8 1), .lit (.int .u8 28), .lit (.int .u8 2), .lit (.int .u8 29), .lit (.int .u8 14), .lit (.int .u8 24), .lit (.int .u8 3), .lit (.int .u8 30), .lit (.int .u8 22), .lit (.int .u8 20), .lit (.int .u8 15), .lit (.int .u8 25), .lit (.int .u8 17), .lit (.int .u8 4), .lit (.int .u8 8), .lit (.int .u8 31), .lit (.int .u8 27), .lit (.int .u8 13), .lit (.int .u8 23), .lit (.int .u8 21), .lit (.int .u8 19), .lit (.int .u8 16), .lit (.int .u8 7), .lit (.int .u8 26), .lit (.int .u8 12), .lit (.int .u8 18), .lit (.int .u8 6), .lit (.int .u8 11), .lit (.int .u8 5), .lit (.int .u8 10), .lit (.int .u8 9)]
def laid_math_bits_deBruijn64tab {H : Type} : DataW H := .agg [.lit (.int .u8 0), .lit (.int .u8 1), .lit (.int .u8 56), .lit (.int .u8 2), .lit (.int .u8 57), .lit (.int .u8 49), .lit (.int .u8 28), .lit (.int .u8 3), .lit (.int .u8 61), .lit (.int .u8 58), .lit (.int .u8 42), .lit (.int .u8 50), .lit (.int .u8 38), .lit (.int .u8 29), .lit (.int .u8 17), .lit (.int .u8 4), .lit (.int .u8 62), .lit (.int .u8 47), .lit (.int .u8 59), .lit (.int .u8 36), .lit (.int .u8 45), .lit (.int .u8 43), .lit (.int .u8 51), .lit (.int .u8 22), .lit (.int .u8 53), .lit (.int .u8 39), .lit (.int .u8 33), .lit (.int .u8 30), .lit (.int .u8 24), .lit (.int .u8 18), .lit (.int .u8 12), .lit (.int .u8 5), .lit (.int .u8 63), .lit (.int .u8 55), .lit (.int .u8 48), .lit (.int .u8 27), .lit (.int .u8 60), .lit (.int .u8 41), .lit (.int .u8 37), .lit (.int .u8 16), .lit (.int .u8 46), .lit (.int .u8 35), .lit (.int .u8 44), .lit (.int .u8 21), .lit (.int .u8 52), .lit (.int .u8 32), .lit (.int .u8 23), .lit (.int .u8 11), .lit (.int .u8 54), .lit (.int .u8 26), .lit (.int .u8 40), .lit (.int .u8 15), .lit (.int .u8 34), .lit (.int .u8 20), .lit (.int .u8 31), .lit (.int .u8 10), .lit (.int .u8 25), .lit (.int .u8 14), .lit (.int .u8 19), .lit (.int .u8 9), .lit (.int .u8 13), .lit (.int .u8 8), .lit (.int .u8 7), .lit (.int .u8 6)]
def laid_internal_strconv_uint64pow10 {H : Type} : DataW H := .agg [.lit (.int .u64 1), .lit (.int .u64 10), .lit (.int .u64 100), .lit (.int .u64 1000), .lit (.int .u64 10000), .lit (.int .u64 100000), .lit (.int .u64 1000000), .lit (.int .u64 10000000), .lit (.int .u64 100000000), .lit (.int .u64 1000000000), .lit (.int .u64 10000000000), .lit (.int .u64 100000000000), .lit (.int .u64 1000000000000), .lit (.int .u64 10000000000000), .lit (.int .u64 100000000000000), .lit (.int .u64 1000000000000000), .lit (.int .u64 10000000000000000), .lit (.int .u64 100000000000000000), .lit (.int .u64 1000000000000000000), .lit (.int .u64 10000000000000000000)]
def laid_backstay_rv_formats {H : Type} : DataW H := .agg [.agg [.lit (.int .u32 0), .lit (.int .u32 51), .lit (.int .u32 0), .lit (.int .u32 0)], .agg [.lit (.int .u32 0), .lit (.int .u32 51), .lit (.int .u32 0), .lit (.int .u32 32)], .agg [.lit (.int .u32 0), .lit (.int .u32 51), .lit (.int .u32 1), .lit (.int .u32 0)], .agg [.lit (.int .u32 0), .lit (.int .u32 51), .lit (.int .u32 2), .lit (.int .u32 0)], .agg [.lit (.int .u32 0), .lit (.int .u32 51), .lit (.int .u32 3), .lit (.int .u32 0)], .agg [.lit (.int .u32 0), .lit (.int .u32 51), .lit (.int .u32 4), .lit (.int .u32 0)], .agg [.lit (.int .u32 0), .lit (.int .u32 51), .lit (.int .u32 5), .lit (.int .u32 0)], .agg [.lit (.int .u32 0), .lit (.int .u32 51), .lit (.int .u32 5), .lit (.int .u32 32)], .agg [.lit (.int .u32 0), .lit (.int .u32 51), .lit (.int .u32 6), .lit (.int .u32 0)], .agg [.lit (.int .u32 0), .lit (.int .u32 51), .lit (.int .u32 7), .lit (.int .u32 0)], .agg [.lit (.int .u32 0), .lit (.int .u32 51), .lit (.int .u32 0), .lit (.int .u32 1)], .agg [.lit (.int .u32 0), .lit (.int .u32 51), .lit (.int .u32 4), .lit (.int .u32 1)], .agg [.lit (.int .u32 0), .lit (.int .u32 51), .lit (.int .u32 5), .lit (.int .u32 1)], .agg [.lit (.int .u32 0), .lit (.int .u32 51), .lit (.int .u32 6), .lit (.int .u32 1)], .agg [.lit (.int .u32 0), .lit (.int .u32 51), .lit (.int .u32 7), .lit (.int .u32 1)], .agg [.lit (.int .u32 1), .lit (.int .u32 19), .lit (.int .u32 0), .lit (.int .u32 0)], .agg [.lit (.int .u32 1), .lit (.int .u32 19), .lit (.int .u32 2), .lit (.int .u32 0)], .agg [.lit (.int .u32 1), .lit (.int .u32 19), .lit (.int .u32 3), .lit (.int .u32 0)], .agg [.lit (.int .u32 1), .lit (.int .u32 19), .lit (.int .u32 4), .lit (.int .u32 0)], .agg [.lit (.int .u32 1), .lit (.int .u32 19), .lit (.int .u32 6), .lit (.int .u32 0)], .agg [.lit (.int .u32 1), .lit (.int .u32 19), .lit (.int .u32 7), .lit (.int .u32 0)], .agg [.lit (.int .u32 2), .lit (.int .u32 19), .lit (.int .u32 1), .lit (.int .u32 0)], .agg [.lit (.int .u32 2), .lit (.int .u32 19), .lit (.int .u32 5), .lit (.int .u32 0)], .agg [.lit (.int .u32 2), .lit (.int .u32 19), .lit (.int .u32 5), .lit (.int .u32 32)], .agg [.lit (.int .u32 3), .lit (.int .u32 55), .lit (.int .u32 0), .lit (.int .u32 0)], .agg [.lit (.int .u32 1), .lit (.int .u32 3), .lit (.int .u32 4), .lit (.int .u32 0)], .agg [.lit (.int .u32 1), .lit (.int .u32 3), .lit (.int .u32 5), .lit (.int .u32 0)], .agg [.lit (.int .u32 1), .lit (.int .u32 3), .lit (.int .u32 2), .lit (.int .u32 0)], .agg [.lit (.int .u32 4), .lit (.int .u32 35), .lit (.int .u32 0), .lit (.int .u32 0)], .agg [.lit (.int .u32 4), .lit (.int .u32 35), .lit (.int .u32 1), .lit (.int .u32 0)], .agg [.lit (.int .u32 4), .lit (.int .u32 35), .lit (.int .u32 2), .lit (.int .u32 0)], .agg [.lit (.int .u32 5), .lit (.int .u32 99), .lit (.int .u32 0), .lit (.int .u32 0)], .agg [.lit (.int .u32 5), .lit (.int .u32 99), .lit (.int .u32 1), .lit (.int .u32 0)], .agg [.lit (.int .u32 5), .lit (.int .u32 99), .lit (.int .u32 4), .lit (.int .u32 0)], .agg [.lit (.int .u32 5), .lit (.int .u32 99), .lit (.int .u32 5), .lit (.int .u32 0)], .agg [.lit (.int .u32 5), .lit (.int .u32 99), .lit (.int .u32 6), .lit (.int .u32 0)], .agg [.lit (.int .u32 5), .lit (.int .u32 99), .lit (.int .u32 7), .lit (.int .u32 0)], .agg [.lit (.int .u32 6), .lit (.int .u32 111), .lit (.int .u32 0), .lit (.int .u32 0)], .agg [.lit (.int .u32 1), .lit (.int .u32 103), .lit (.int .u32 0), .lit (.int .u32 0)], .agg [.lit (.int .u32 7), .lit (.int .u32 115), .lit (.int .u32 0), .lit (.int .u32 0)], .agg [.lit (.int .u32 7), .lit (.int .u32 115), .lit (.int .u32 0), .lit (.int .u32 8192)]]
def laid_backstay_rv_shapes {H : Type} : DataW H := .agg [.agg [.lit (.bool true), .lit (.bool true), .lit (.bool true), .lit (.bool false), .lit (.int .i64 0), .lit (.int .i64 0), .lit (.bool false)], .agg [.lit (.bool true), .lit (.bool true), .lit (.bool false), .lit (.bool true), .lit (.int .i64 (-2048)), .lit (.int .i64 2047), .lit (.bool false)], .agg [.lit (.bool true), .lit (.bool true), .lit (.bool false), .lit (.bool true), .lit (.int .i64 0), .lit (.int .i64 31), .lit (.bool false)], .agg [.lit (.bool true), .lit (.bool false), .lit (.bool false), .lit (.bool true), .lit (.int .i64 0), .lit (.int .i64 1048575), .lit (.bool false)], .agg [.lit (.bool false), .lit (.bool true), .lit (.bool true), .lit (.bool true), .lit (.int .i64 (-2048)), .lit (.int .i64 2047), .lit (.bool false)], .agg [.lit (.bool false), .lit (.bool true), .lit (.bool true), .lit (.bool true), .lit (.int .i64 (-4096)), .lit (.int .i64 4094), .lit (.bool true)], .agg [.lit (.bool true), .lit (.bool false), .lit (.bool false), .lit (.bool true), .lit (.int .i64 (-1048576)), .lit (.int .i64 1048574), .lit (.bool true)], .agg [.lit (.bool false), .lit (.bool false), .lit (.bool false), .lit (.bool false), .lit (.int .i64 0), .lit (.int .i64 0), .lit (.bool false)]]
def laid_backstay_rv_names {H : Type} : DataW H := .agg [.lit (.string [97, 100, 100]), .lit (.string [115, 117, 98]), .lit (.string [115, 108, 108]), .lit (.string [115, 108, 116]), .lit (.string [115, 108, 116, 117]), .lit (.string [120, 111, 114]), .lit (.string [115, 114, 108]), .lit (.string [115, 114, 97]), .lit (.string [111, 114]), .lit (.string [97, 110, 100]), .lit (.string [109, 117, 108]), .lit (.string [100, 105, 118]), .lit (.string [100, 105, 118, 117]), .lit (.string [114, 101, 109]), .lit (.string [114, 101, 109, 117]), .lit (.string [97, 100, 100, 105]), .lit (.string [115, 108, 116, 105]), .lit (.string [115, 108, 116, 105, 117]), .lit (.string [120, 111, 114, 105]), .lit (.string [111, 114, 105]), .lit (.string [97, 110, 100, 105]), .lit (.string [115, 108, 108, 105]), .lit (.string [115, 114, 108, 105]), .lit (.string [115, 114, 97, 105]), .lit (.string [108, 117, 105]), .lit (.string [108, 98, 117]), .lit (.string [108, 104, 117]), .lit (.string [108, 119]), .lit (.string [115, 98]), .lit (.string [115, 104]), .lit (.string [115, 119]), .lit (.string [98, 101, 113]), .lit (.string [98, 110, 101]), .lit (.string [98, 108, 116]), .lit (.string [98, 103, 101]), .lit (.string [98, 108, 116, 117]), .lit (.string [98, 103, 101, 117]), .lit (.string [106, 97, 108]), .lit (.string [106, 97, 108, 114]), .lit (.string [101, 99, 97, 108, 108]), .lit (.string [101, 98, 114, 101, 97, 107])]
def laid_unicode_utf8_acceptRanges {H : Type} : DataW H := .agg [.agg [.lit (.int .u8 128), .lit (.int .u8 191)], .agg [.lit (.int .u8 160), .lit (.int .u8 191)], .agg [.lit (.int .u8 128), .lit (.int .u8 159)], .agg [.lit (.int .u8 144), .lit (.int .u8 191)], .agg [.lit (.int .u8 128), .lit (.int .u8 143)], .agg [.lit (.int .u8 0), .lit (.int .u8 0)], .agg [.lit (.int .u8 0), .lit (.int .u8 0)], .agg [.lit (.int .u8 0), .lit (.int .u8 0)], .agg [.lit (.int .u8 0), .lit (.int .u8 0)], .agg [.lit (.int .u8 0), .lit (.int .u8 0)], .agg [.lit (.int .u8 0), .lit (.int .u8 0)], .agg [.lit (.int .u8 0), .lit (.int .u8 0)], .agg [.lit (.int .u8 0), .lit (.int .u8 0)], .agg [.lit (.int .u8 0), .lit (.int .u8 0)], .agg [.lit (.int .u8 0), .lit (.int .u8 0)], .agg [.lit (.int .u8 0), .lit (.int .u8 0)]]
def laid_strconv_ErrRange {H : Type} : DataW H := .iface "*errors.errorString" (.ptr (.agg [.lit (.string [118, 97, 108, 117, 101, 32, 111, 117, 116, 32, 111, 102, 32, 114, 97, 110, 103, 101])]))
def laid_strconv_ErrSyntax {H : Type} : DataW H := .iface "*errors.errorString" (.ptr (.agg [.lit (.string [105, 110, 118, 97, 108, 105, 100, 32, 115, 121, 110, 116, 97, 120])]))
/-- One of Go's own tables, pinned by name: the form's constant. -/
def laid_unicode_utf8_first : DataW Unit := Go.Pinned.utf8First

/-- 'backstaylaw18.RvEncodes': WHATEVER THE INPUT: true; the input reads as it did. -/
def rvEncodesSpec : ChangeSpec := { name := "rvEncodes", fn := fun _ => fun
  | [d] => { results := [.lit (.bool true)], args := [d] }
  | _ => none }
def rvEncodesRow : OpenClaim := { program := "ythkaclmnbahieaadoor", sum := "8b8c25b71b9d55e1228bc1b8e23c72afc1c87fe70dfef2a8e5181aea7c8d944d", func := "backstay/backstaylaw18.RvEncodes", spec := "rvEncodes", named := ["backstay/rv.formats", "backstay/rv.shapes", "backstay/rv.names", "internal/strconv.uint64pow10", "math/bits.deBruijn32tab", "math/bits.deBruijn64tab"], plainKeys := false, apart := false, laid := [("math/bits.deBruijn32tab", laid_math_bits_deBruijn32tab), ("math/bits.deBruijn64tab", laid_math_bits_deBruijn64tab), ("internal/strconv.uint64pow10", laid_internal_strconv_uint64pow10), ("backstay/rv.formats", laid_backstay_rv_formats), ("backstay/rv.shapes", laid_backstay_rv_shapes), ("backstay/rv.names", laid_backstay_rv_names)] }
def RvEncodesSaid : Prop := rvEncodesRow.holds Tryd.pinned (OpenSpec.ofChange rvEncodesSpec)

/-- ITS FALSE NEIGHBOUR: 'it returns false'. Refute it at one input. -/
def rvEncodesWrong : ChangeSpec := { name := "rvEncodes", fn := fun _ => fun
  | [d] => { results := [.lit (.bool false)], args := [d] }
  | _ => none }
def RvEncodesWrongFalsely : Prop := rvEncodesRow.holds Tryd.pinned (OpenSpec.ofChange rvEncodesWrong)

/-- 'backstaylaw18.RvDecodes': WHATEVER THE INPUT: true; the input reads as it did. -/
def rvDecodesSpec : ChangeSpec := { name := "rvDecodes", fn := fun _ => fun
  | [d] => { results := [.lit (.bool true)], args := [d] }
  | _ => none }
def rvDecodesRow : OpenClaim := { program := "ythkaclmnbahieaadoor", sum := "8b8c25b71b9d55e1228bc1b8e23c72afc1c87fe70dfef2a8e5181aea7c8d944d", func := "backstay/backstaylaw18.RvDecodes", spec := "rvDecodes", named := ["backstay/rv.formats", "backstay/rv.shapes", "backstay/rv.names", "internal/strconv.uint64pow10", "math/bits.deBruijn32tab", "math/bits.deBruijn64tab"], plainKeys := false, apart := false, laid := [("math/bits.deBruijn32tab", laid_math_bits_deBruijn32tab), ("math/bits.deBruijn64tab", laid_math_bits_deBruijn64tab), ("internal/strconv.uint64pow10", laid_internal_strconv_uint64pow10), ("backstay/rv.formats", laid_backstay_rv_formats), ("backstay/rv.shapes", laid_backstay_rv_shapes), ("backstay/rv.names", laid_backstay_rv_names)] }
def RvDecodesSaid : Prop := rvDecodesRow.holds Tryd.pinned (OpenSpec.ofChange rvDecodesSpec)

/-- ITS FALSE NEIGHBOUR: 'it returns false'. Refute it at one input. -/
def rvDecodesWrong : ChangeSpec := { name := "rvDecodes", fn := fun _ => fun
  | [d] => { results := [.lit (.bool false)], args := [d] }
  | _ => none }
def RvDecodesWrongFalsely : Prop := rvDecodesRow.holds Tryd.pinned (OpenSpec.ofChange rvDecodesWrong)

/-- 'backstaylaw18.RvBytes': WHATEVER THE INPUT: true; the input reads as it did. -/
def rvBytesSpec : ChangeSpec := { name := "rvBytes", fn := fun _ => fun
  | [d] => { results := [.lit (.bool true)], args := [d] }
  | _ => none }
def rvBytesRow : OpenClaim := { program := "ythkaclmnbahieaadoor", sum := "8b8c25b71b9d55e1228bc1b8e23c72afc1c87fe70dfef2a8e5181aea7c8d944d", func := "backstay/backstaylaw18.RvBytes", spec := "rvBytes", named := ["backstay/rv.formats", "backstay/rv.shapes", "backstay/rv.names", "internal/strconv.uint64pow10", "math/bits.deBruijn32tab", "math/bits.deBruijn64tab"], plainKeys := false, apart := false, laid := [("math/bits.deBruijn32tab", laid_math_bits_deBruijn32tab), ("math/bits.deBruijn64tab", laid_math_bits_deBruijn64tab), ("internal/strconv.uint64pow10", laid_internal_strconv_uint64pow10), ("backstay/rv.formats", laid_backstay_rv_formats), ("backstay/rv.shapes", laid_backstay_rv_shapes), ("backstay/rv.names", laid_backstay_rv_names)] }
def RvBytesSaid : Prop := rvBytesRow.holds Tryd.pinned (OpenSpec.ofChange rvBytesSpec)

/-- ITS FALSE NEIGHBOUR: 'it returns false'. Refute it at one input. -/
def rvBytesWrong : ChangeSpec := { name := "rvBytes", fn := fun _ => fun
  | [d] => { results := [.lit (.bool false)], args := [d] }
  | _ => none }
def RvBytesWrongFalsely : Prop := rvBytesRow.holds Tryd.pinned (OpenSpec.ofChange rvBytesWrong)

/-- 'backstaylaw18.RvLists': WHATEVER THE INPUT: true; the input reads as it did. -/
def rvListsSpec : ChangeSpec := { name := "rvLists", fn := fun _ => fun
  | [d] => { results := [.lit (.bool true)], args := [d] }
  | _ => none }
def rvListsRow : OpenClaim := { program := "ythkaclmnbahieaadoor", sum := "8b8c25b71b9d55e1228bc1b8e23c72afc1c87fe70dfef2a8e5181aea7c8d944d", func := "backstay/backstaylaw18.RvLists", spec := "rvLists", named := ["backstay/rv.formats", "backstay/rv.shapes", "backstay/rv.names", "internal/strconv.uint64pow10", "math/bits.deBruijn32tab", "math/bits.deBruijn64tab"], plainKeys := false, apart := false, laid := [("math/bits.deBruijn32tab", laid_math_bits_deBruijn32tab), ("math/bits.deBruijn64tab", laid_math_bits_deBruijn64tab), ("internal/strconv.uint64pow10", laid_internal_strconv_uint64pow10), ("backstay/rv.formats", laid_backstay_rv_formats), ("backstay/rv.shapes", laid_backstay_rv_shapes), ("backstay/rv.names", laid_backstay_rv_names)] }
def RvListsSaid : Prop := rvListsRow.holds Tryd.pinned (OpenSpec.ofChange rvListsSpec)

/-- ITS FALSE NEIGHBOUR: 'it returns false'. Refute it at one input. -/
def rvListsWrong : ChangeSpec := { name := "rvLists", fn := fun _ => fun
  | [d] => { results := [.lit (.bool false)], args := [d] }
  | _ => none }
def RvListsWrongFalsely : Prop := rvListsRow.holds Tryd.pinned (OpenSpec.ofChange rvListsWrong)

/-- 'backstaylaw18.RvTexts': WHATEVER THE INPUT: true; the input reads as it did. -/
def rvTextsSpec : ChangeSpec := { name := "rvTexts", fn := fun _ => fun
  | [d] => { results := [.lit (.bool true)], args := [d] }
  | _ => none }
def rvTextsRow : OpenClaim := { program := "ythkaclmnbahieaadoor", sum := "8b8c25b71b9d55e1228bc1b8e23c72afc1c87fe70dfef2a8e5181aea7c8d944d", func := "backstay/backstaylaw18.RvTexts", spec := "rvTexts", inPlace := ["internal/bytealg.CountString", "internal/bytealg.IndexByteString", "internal/bytealg.IndexString"], unfollowed := true, recurses := true, named := ["backstay/rv.formats", "backstay/rv.shapes", "backstay/rv.names", "internal/strconv.uint64pow10", "math/bits.deBruijn32tab", "math/bits.deBruijn64tab", "unicode/utf8.first", "unicode/utf8.acceptRanges", "internal/bytealg.MaxLen", "strconv.ErrSyntax", "strconv.ErrRange"], plainKeys := false, apart := false, laid := [("math/bits.deBruijn32tab", laid_math_bits_deBruijn32tab), ("math/bits.deBruijn64tab", laid_math_bits_deBruijn64tab), ("internal/strconv.uint64pow10", laid_internal_strconv_uint64pow10), ("unicode/utf8.acceptRanges", laid_unicode_utf8_acceptRanges), ("strconv.ErrRange", laid_strconv_ErrRange), ("strconv.ErrSyntax", laid_strconv_ErrSyntax), ("backstay/rv.formats", laid_backstay_rv_formats), ("backstay/rv.shapes", laid_backstay_rv_shapes), ("backstay/rv.names", laid_backstay_rv_names), ("unicode/utf8.first", laid_unicode_utf8_first)] }
def RvTextsSaid : Prop := rvTextsRow.holds Tryd.pinned (OpenSpec.ofChange rvTextsSpec)

/-- ITS FALSE NEIGHBOUR: 'it returns false'. Refute it at one input. -/
def rvTextsWrong : ChangeSpec := { name := "rvTexts", fn := fun _ => fun
  | [d] => { results := [.lit (.bool false)], args := [d] }
  | _ => none }
def RvTextsWrongFalsely : Prop := rvTextsRow.holds Tryd.pinned (OpenSpec.ofChange rvTextsWrong)

/-- 'backstaylaw18.RvParses': WHATEVER THE INPUT: true; the input reads as it did. -/
def rvParsesSpec : ChangeSpec := { name := "rvParses", fn := fun _ => fun
  | [d] => { results := [.lit (.bool true)], args := [d] }
  | _ => none }
def rvParsesRow : OpenClaim := { program := "ythkaclmnbahieaadoor", sum := "8b8c25b71b9d55e1228bc1b8e23c72afc1c87fe70dfef2a8e5181aea7c8d944d", func := "backstay/backstaylaw18.RvParses", spec := "rvParses", inPlace := ["internal/bytealg.CountString", "internal/bytealg.IndexByteString", "internal/bytealg.IndexString"], unfollowed := true, recurses := true, named := ["backstay/rv.formats", "backstay/rv.shapes", "backstay/rv.names", "internal/strconv.uint64pow10", "math/bits.deBruijn32tab", "math/bits.deBruijn64tab", "unicode/utf8.first", "unicode/utf8.acceptRanges", "internal/bytealg.MaxLen", "strconv.ErrSyntax", "strconv.ErrRange"], plainKeys := false, apart := false, laid := [("math/bits.deBruijn32tab", laid_math_bits_deBruijn32tab), ("math/bits.deBruijn64tab", laid_math_bits_deBruijn64tab), ("internal/strconv.uint64pow10", laid_internal_strconv_uint64pow10), ("unicode/utf8.acceptRanges", laid_unicode_utf8_acceptRanges), ("strconv.ErrRange", laid_strconv_ErrRange), ("strconv.ErrSyntax", laid_strconv_ErrSyntax), ("backstay/rv.formats", laid_backstay_rv_formats), ("backstay/rv.shapes", laid_backstay_rv_shapes), ("backstay/rv.names", laid_backstay_rv_names), ("unicode/utf8.first", laid_unicode_utf8_first)] }
def RvParsesSaid : Prop := rvParsesRow.holds Tryd.pinned (OpenSpec.ofChange rvParsesSpec)

/-- ITS FALSE NEIGHBOUR: 'it returns false'. Refute it at one input. -/
def rvParsesWrong : ChangeSpec := { name := "rvParses", fn := fun _ => fun
  | [d] => { results := [.lit (.bool false)], args := [d] }
  | _ => none }
def RvParsesWrongFalsely : Prop := rvParsesRow.holds Tryd.pinned (OpenSpec.ofChange rvParsesWrong)

/-- 'backstaylaw18.RvSteps': WHATEVER THE INPUT: true; the input reads as it did. -/
def rvStepsSpec : ChangeSpec := { name := "rvSteps", fn := fun _ => fun
  | [d] => { results := [.lit (.bool true)], args := [d] }
  | _ => none }
def rvStepsRow : OpenClaim := { program := "ythkaclmnbahieaadoor", sum := "8b8c25b71b9d55e1228bc1b8e23c72afc1c87fe70dfef2a8e5181aea7c8d944d", func := "backstay/backstaylaw18.RvSteps", spec := "rvSteps", named := ["backstay/rv.formats", "backstay/rv.shapes", "backstay/rv.names", "internal/strconv.uint64pow10", "math/bits.deBruijn32tab", "math/bits.deBruijn64tab"], plainKeys := false, apart := false, laid := [("math/bits.deBruijn32tab", laid_math_bits_deBruijn32tab), ("math/bits.deBruijn64tab", laid_math_bits_deBruijn64tab), ("internal/strconv.uint64pow10", laid_internal_strconv_uint64pow10), ("backstay/rv.formats", laid_backstay_rv_formats), ("backstay/rv.shapes", laid_backstay_rv_shapes), ("backstay/rv.names", laid_backstay_rv_names)] }
def RvStepsSaid : Prop := rvStepsRow.holds Tryd.pinned (OpenSpec.ofChange rvStepsSpec)

/-- ITS FALSE NEIGHBOUR: 'it returns false'. Refute it at one input. -/
def rvStepsWrong : ChangeSpec := { name := "rvSteps", fn := fun _ => fun
  | [d] => { results := [.lit (.bool false)], args := [d] }
  | _ => none }
def RvStepsWrongFalsely : Prop := rvStepsRow.holds Tryd.pinned (OpenSpec.ofChange rvStepsWrong)

/-- 'backstaylaw18.RvRuns': WHATEVER THE INPUT: true; the input reads as it did. -/
def rvRunsSpec : ChangeSpec := { name := "rvRuns", fn := fun _ => fun
  | [d1, d2, d3] => { results := [.lit (.bool true)], args := [d1, d2, d3] }
  | _ => none }
def rvRunsRow : OpenClaim := { program := "ythkaclmnbahieaadoor", sum := "8b8c25b71b9d55e1228bc1b8e23c72afc1c87fe70dfef2a8e5181aea7c8d944d", func := "backstay/backstaylaw18.RvRuns", spec := "rvRuns", named := ["backstay/rv.formats", "backstay/rv.shapes", "backstay/rv.names", "internal/strconv.uint64pow10", "math/bits.deBruijn32tab", "math/bits.deBruijn64tab"], plainKeys := false, apart := false, laid := [("math/bits.deBruijn32tab", laid_math_bits_deBruijn32tab), ("math/bits.deBruijn64tab", laid_math_bits_deBruijn64tab), ("internal/strconv.uint64pow10", laid_internal_strconv_uint64pow10), ("backstay/rv.formats", laid_backstay_rv_formats), ("backstay/rv.shapes", laid_backstay_rv_shapes), ("backstay/rv.names", laid_backstay_rv_names)] }
def RvRunsSaid : Prop := rvRunsRow.holds Tryd.pinned (OpenSpec.ofChange rvRunsSpec)

/-- ITS FALSE NEIGHBOUR: 'it returns false'. Refute it at one input. -/
def rvRunsWrong : ChangeSpec := { name := "rvRuns", fn := fun _ => fun
  | [d1, d2, d3] => { results := [.lit (.bool false)], args := [d1, d2, d3] }
  | _ => none }
def RvRunsWrongFalsely : Prop := rvRunsRow.holds Tryd.pinned (OpenSpec.ofChange rvRunsWrong)

/-- 'backstaylaw18.RvZeros': WHATEVER THE INPUT: true; the input reads as it did. -/
def rvZerosSpec : ChangeSpec := { name := "rvZeros", fn := fun _ => fun
  | [d] => { results := [.lit (.bool true)], args := [d] }
  | _ => none }
def rvZerosRow : OpenClaim := { program := "ythkaclmnbahieaadoor", sum := "8b8c25b71b9d55e1228bc1b8e23c72afc1c87fe70dfef2a8e5181aea7c8d944d", func := "backstay/backstaylaw18.RvZeros", spec := "rvZeros", named := ["backstay/rv.formats", "backstay/rv.shapes", "backstay/rv.names", "internal/strconv.uint64pow10", "math/bits.deBruijn32tab", "math/bits.deBruijn64tab"], plainKeys := false, apart := false, laid := [("math/bits.deBruijn32tab", laid_math_bits_deBruijn32tab), ("math/bits.deBruijn64tab", laid_math_bits_deBruijn64tab), ("internal/strconv.uint64pow10", laid_internal_strconv_uint64pow10), ("backstay/rv.formats", laid_backstay_rv_formats), ("backstay/rv.shapes", laid_backstay_rv_shapes), ("backstay/rv.names", laid_backstay_rv_names)] }
def RvZerosSaid : Prop := rvZerosRow.holds Tryd.pinned (OpenSpec.ofChange rvZerosSpec)

/-- ITS FALSE NEIGHBOUR: 'it returns false'. Refute it at one input. -/
def rvZerosWrong : ChangeSpec := { name := "rvZeros", fn := fun _ => fun
  | [d] => { results := [.lit (.bool false)], args := [d] }
  | _ => none }
def RvZerosWrongFalsely : Prop := rvZerosRow.holds Tryd.pinned (OpenSpec.ofChange rvZerosWrong)

/- THE SECOND FORM. 'bulk': how many values and letters a reading holds, each counted each time it is reached (what is shared counts as often as it is met; a slice's spare places count too). A statement '..UptoSaid' is the law's where the arguments, and the package variables that the reading takes, are together of bulk at most 1048576: NARROWER than '..Said'. Prove '..Said' where nothing that the law and all that it calls make is longer than what came in: it says more and counts as full. Else prove '..UptoSaid'. A law counts once. -/
mutual
def uptoBulk {H : Type} : DataW H → Nat
  | .lit (.string bytes) => bytes.length + 1
  | .lit _ => 1
  | .nil => 1
  | .ptr d => uptoBulk d + 1
  | .slice elems spare => uptoBulkAll elems + uptoBulkAll spare + 1
  | .agg parts => uptoBulkAll parts + 1
  | .iface _ d => uptoBulk d + 1
  | .map entries => uptoBulkEntries entries + 1
  | .held _ => 1
def uptoBulkAll {H : Type} : List (DataW H) → Nat
  | [] => 0
  | d :: r => uptoBulk d + uptoBulkAll r
def uptoBulkEntries {H : Type} : List (Lit × DataW H) → Nat
  | [] => 0
  | x :: r => uptoBulkEntry x + uptoBulkEntries r
def uptoBulkEntry {H : Type} : Lit × DataW H → Nat
  | (.string bytes, d) => bytes.length + uptoBulk d + 1
  | (_, d) => uptoBulk d + 1
 end
def uptoSmall : (H : Type) → List (DataW H) → Bool := fun _ ds => decide (uptoBulkAll ds ≤ 1048576)
def OpenSpec.upto (s : _root_.Go.ChangeSpec) : _root_.Go.OpenSpec := { _root_.Go.OpenSpec.ofChange s with cond := some uptoSmall }

/-- 'backstaylaw18.RvEncodes', WHERE WHAT IT READS IS OF BULK AT MOST 1048576: true; the input reads as it did. -/
def rvEncodesUptoRow : OpenClaim := { program := "ythkaclmnbahieaadoor", sum := "8b8c25b71b9d55e1228bc1b8e23c72afc1c87fe70dfef2a8e5181aea7c8d944d", func := "backstay/backstaylaw18.RvEncodes", spec := "rvEncodes", named := ["backstay/rv.formats", "backstay/rv.shapes", "backstay/rv.names", "internal/strconv.uint64pow10", "math/bits.deBruijn32tab", "math/bits.deBruijn64tab"], plainKeys := false, apart := false, laid := [("math/bits.deBruijn32tab", laid_math_bits_deBruijn32tab), ("math/bits.deBruijn64tab", laid_math_bits_deBruijn64tab), ("internal/strconv.uint64pow10", laid_internal_strconv_uint64pow10), ("backstay/rv.formats", laid_backstay_rv_formats), ("backstay/rv.shapes", laid_backstay_rv_shapes), ("backstay/rv.names", laid_backstay_rv_names)], narrowed := true }
def RvEncodesUptoSaid : Prop := rvEncodesUptoRow.holds Tryd.pinned (OpenSpec.upto rvEncodesSpec)

/-- 'backstaylaw18.RvDecodes', WHERE WHAT IT READS IS OF BULK AT MOST 1048576: true; the input reads as it did. -/
def rvDecodesUptoRow : OpenClaim := { program := "ythkaclmnbahieaadoor", sum := "8b8c25b71b9d55e1228bc1b8e23c72afc1c87fe70dfef2a8e5181aea7c8d944d", func := "backstay/backstaylaw18.RvDecodes", spec := "rvDecodes", named := ["backstay/rv.formats", "backstay/rv.shapes", "backstay/rv.names", "internal/strconv.uint64pow10", "math/bits.deBruijn32tab", "math/bits.deBruijn64tab"], plainKeys := false, apart := false, laid := [("math/bits.deBruijn32tab", laid_math_bits_deBruijn32tab), ("math/bits.deBruijn64tab", laid_math_bits_deBruijn64tab), ("internal/strconv.uint64pow10", laid_internal_strconv_uint64pow10), ("backstay/rv.formats", laid_backstay_rv_formats), ("backstay/rv.shapes", laid_backstay_rv_shapes), ("backstay/rv.names", laid_backstay_rv_names)], narrowed := true }
def RvDecodesUptoSaid : Prop := rvDecodesUptoRow.holds Tryd.pinned (OpenSpec.upto rvDecodesSpec)

/-- 'backstaylaw18.RvBytes', WHERE WHAT IT READS IS OF BULK AT MOST 1048576: true; the input reads as it did. -/
def rvBytesUptoRow : OpenClaim := { program := "ythkaclmnbahieaadoor", sum := "8b8c25b71b9d55e1228bc1b8e23c72afc1c87fe70dfef2a8e5181aea7c8d944d", func := "backstay/backstaylaw18.RvBytes", spec := "rvBytes", named := ["backstay/rv.formats", "backstay/rv.shapes", "backstay/rv.names", "internal/strconv.uint64pow10", "math/bits.deBruijn32tab", "math/bits.deBruijn64tab"], plainKeys := false, apart := false, laid := [("math/bits.deBruijn32tab", laid_math_bits_deBruijn32tab), ("math/bits.deBruijn64tab", laid_math_bits_deBruijn64tab), ("internal/strconv.uint64pow10", laid_internal_strconv_uint64pow10), ("backstay/rv.formats", laid_backstay_rv_formats), ("backstay/rv.shapes", laid_backstay_rv_shapes), ("backstay/rv.names", laid_backstay_rv_names)], narrowed := true }
def RvBytesUptoSaid : Prop := rvBytesUptoRow.holds Tryd.pinned (OpenSpec.upto rvBytesSpec)

/-- 'backstaylaw18.RvLists', WHERE WHAT IT READS IS OF BULK AT MOST 1048576: true; the input reads as it did. -/
def rvListsUptoRow : OpenClaim := { program := "ythkaclmnbahieaadoor", sum := "8b8c25b71b9d55e1228bc1b8e23c72afc1c87fe70dfef2a8e5181aea7c8d944d", func := "backstay/backstaylaw18.RvLists", spec := "rvLists", named := ["backstay/rv.formats", "backstay/rv.shapes", "backstay/rv.names", "internal/strconv.uint64pow10", "math/bits.deBruijn32tab", "math/bits.deBruijn64tab"], plainKeys := false, apart := false, laid := [("math/bits.deBruijn32tab", laid_math_bits_deBruijn32tab), ("math/bits.deBruijn64tab", laid_math_bits_deBruijn64tab), ("internal/strconv.uint64pow10", laid_internal_strconv_uint64pow10), ("backstay/rv.formats", laid_backstay_rv_formats), ("backstay/rv.shapes", laid_backstay_rv_shapes), ("backstay/rv.names", laid_backstay_rv_names)], narrowed := true }
def RvListsUptoSaid : Prop := rvListsUptoRow.holds Tryd.pinned (OpenSpec.upto rvListsSpec)

/-- 'backstaylaw18.RvTexts', WHERE WHAT IT READS IS OF BULK AT MOST 1048576: true; the input reads as it did. -/
def rvTextsUptoRow : OpenClaim := { program := "ythkaclmnbahieaadoor", sum := "8b8c25b71b9d55e1228bc1b8e23c72afc1c87fe70dfef2a8e5181aea7c8d944d", func := "backstay/backstaylaw18.RvTexts", spec := "rvTexts", inPlace := ["internal/bytealg.CountString", "internal/bytealg.IndexByteString", "internal/bytealg.IndexString"], unfollowed := true, recurses := true, named := ["backstay/rv.formats", "backstay/rv.shapes", "backstay/rv.names", "internal/strconv.uint64pow10", "math/bits.deBruijn32tab", "math/bits.deBruijn64tab", "unicode/utf8.first", "unicode/utf8.acceptRanges", "internal/bytealg.MaxLen", "strconv.ErrSyntax", "strconv.ErrRange"], plainKeys := false, apart := false, laid := [("math/bits.deBruijn32tab", laid_math_bits_deBruijn32tab), ("math/bits.deBruijn64tab", laid_math_bits_deBruijn64tab), ("internal/strconv.uint64pow10", laid_internal_strconv_uint64pow10), ("unicode/utf8.acceptRanges", laid_unicode_utf8_acceptRanges), ("strconv.ErrRange", laid_strconv_ErrRange), ("strconv.ErrSyntax", laid_strconv_ErrSyntax), ("backstay/rv.formats", laid_backstay_rv_formats), ("backstay/rv.shapes", laid_backstay_rv_shapes), ("backstay/rv.names", laid_backstay_rv_names), ("unicode/utf8.first", laid_unicode_utf8_first)], narrowed := true }
def RvTextsUptoSaid : Prop := rvTextsUptoRow.holds Tryd.pinned (OpenSpec.upto rvTextsSpec)

/-- 'backstaylaw18.RvParses', WHERE WHAT IT READS IS OF BULK AT MOST 1048576: true; the input reads as it did. -/
def rvParsesUptoRow : OpenClaim := { program := "ythkaclmnbahieaadoor", sum := "8b8c25b71b9d55e1228bc1b8e23c72afc1c87fe70dfef2a8e5181aea7c8d944d", func := "backstay/backstaylaw18.RvParses", spec := "rvParses", inPlace := ["internal/bytealg.CountString", "internal/bytealg.IndexByteString", "internal/bytealg.IndexString"], unfollowed := true, recurses := true, named := ["backstay/rv.formats", "backstay/rv.shapes", "backstay/rv.names", "internal/strconv.uint64pow10", "math/bits.deBruijn32tab", "math/bits.deBruijn64tab", "unicode/utf8.first", "unicode/utf8.acceptRanges", "internal/bytealg.MaxLen", "strconv.ErrSyntax", "strconv.ErrRange"], plainKeys := false, apart := false, laid := [("math/bits.deBruijn32tab", laid_math_bits_deBruijn32tab), ("math/bits.deBruijn64tab", laid_math_bits_deBruijn64tab), ("internal/strconv.uint64pow10", laid_internal_strconv_uint64pow10), ("unicode/utf8.acceptRanges", laid_unicode_utf8_acceptRanges), ("strconv.ErrRange", laid_strconv_ErrRange), ("strconv.ErrSyntax", laid_strconv_ErrSyntax), ("backstay/rv.formats", laid_backstay_rv_formats), ("backstay/rv.shapes", laid_backstay_rv_shapes), ("backstay/rv.names", laid_backstay_rv_names), ("unicode/utf8.first", laid_unicode_utf8_first)], narrowed := true }
def RvParsesUptoSaid : Prop := rvParsesUptoRow.holds Tryd.pinned (OpenSpec.upto rvParsesSpec)

/-- 'backstaylaw18.RvSteps', WHERE WHAT IT READS IS OF BULK AT MOST 1048576: true; the input reads as it did. -/
def rvStepsUptoRow : OpenClaim := { program := "ythkaclmnbahieaadoor", sum := "8b8c25b71b9d55e1228bc1b8e23c72afc1c87fe70dfef2a8e5181aea7c8d944d", func := "backstay/backstaylaw18.RvSteps", spec := "rvSteps", named := ["backstay/rv.formats", "backstay/rv.shapes", "backstay/rv.names", "internal/strconv.uint64pow10", "math/bits.deBruijn32tab", "math/bits.deBruijn64tab"], plainKeys := false, apart := false, laid := [("math/bits.deBruijn32tab", laid_math_bits_deBruijn32tab), ("math/bits.deBruijn64tab", laid_math_bits_deBruijn64tab), ("internal/strconv.uint64pow10", laid_internal_strconv_uint64pow10), ("backstay/rv.formats", laid_backstay_rv_formats), ("backstay/rv.shapes", laid_backstay_rv_shapes), ("backstay/rv.names", laid_backstay_rv_names)], narrowed := true }
def RvStepsUptoSaid : Prop := rvStepsUptoRow.holds Tryd.pinned (OpenSpec.upto rvStepsSpec)

/-- 'backstaylaw18.RvRuns', WHERE WHAT IT READS IS OF BULK AT MOST 1048576: true; the input reads as it did. -/
def rvRunsUptoRow : OpenClaim := { program := "ythkaclmnbahieaadoor", sum := "8b8c25b71b9d55e1228bc1b8e23c72afc1c87fe70dfef2a8e5181aea7c8d944d", func := "backstay/backstaylaw18.RvRuns", spec := "rvRuns", named := ["backstay/rv.formats", "backstay/rv.shapes", "backstay/rv.names", "internal/strconv.uint64pow10", "math/bits.deBruijn32tab", "math/bits.deBruijn64tab"], plainKeys := false, apart := false, laid := [("math/bits.deBruijn32tab", laid_math_bits_deBruijn32tab), ("math/bits.deBruijn64tab", laid_math_bits_deBruijn64tab), ("internal/strconv.uint64pow10", laid_internal_strconv_uint64pow10), ("backstay/rv.formats", laid_backstay_rv_formats), ("backstay/rv.shapes", laid_backstay_rv_shapes), ("backstay/rv.names", laid_backstay_rv_names)], narrowed := true }
def RvRunsUptoSaid : Prop := rvRunsUptoRow.holds Tryd.pinned (OpenSpec.upto rvRunsSpec)

/-- 'backstaylaw18.RvZeros', WHERE WHAT IT READS IS OF BULK AT MOST 1048576: true; the input reads as it did. -/
def rvZerosUptoRow : OpenClaim := { program := "ythkaclmnbahieaadoor", sum := "8b8c25b71b9d55e1228bc1b8e23c72afc1c87fe70dfef2a8e5181aea7c8d944d", func := "backstay/backstaylaw18.RvZeros", spec := "rvZeros", named := ["backstay/rv.formats", "backstay/rv.shapes", "backstay/rv.names", "internal/strconv.uint64pow10", "math/bits.deBruijn32tab", "math/bits.deBruijn64tab"], plainKeys := false, apart := false, laid := [("math/bits.deBruijn32tab", laid_math_bits_deBruijn32tab), ("math/bits.deBruijn64tab", laid_math_bits_deBruijn64tab), ("internal/strconv.uint64pow10", laid_internal_strconv_uint64pow10), ("backstay/rv.formats", laid_backstay_rv_formats), ("backstay/rv.shapes", laid_backstay_rv_shapes), ("backstay/rv.names", laid_backstay_rv_names)], narrowed := true }
def RvZerosUptoSaid : Prop := rvZerosUptoRow.holds Tryd.pinned (OpenSpec.upto rvZerosSpec)

end Rows
end Go.Proofs.YthkaclmnbahieaaDoor
