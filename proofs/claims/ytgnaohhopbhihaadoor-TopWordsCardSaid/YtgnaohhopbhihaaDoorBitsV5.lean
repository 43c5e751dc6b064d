/-
  Breaks of the reference at quotients, remainders, bits and shifts to the right.
-/
import Derived.Test.YtgnaohhopbhihaaDoorBitsV1
namespace Go.Proofs.YtgnaohhopbhihaaDoor
open Go.RowKit

end Go.Proofs.YtgnaohhopbhihaaDoor
