/-
  Breaks of the reference at sums and differences.
-/
import Derived.Test.YtgnaohhopbhihaaDoorBitsV1
namespace Go.Proofs.YtgnaohhopbhihaaDoor
open Go.RowKit

end Go.Proofs.YtgnaohhopbhihaaDoor
