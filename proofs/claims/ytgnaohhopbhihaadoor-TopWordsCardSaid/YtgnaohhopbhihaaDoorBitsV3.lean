/-
  Breaks of the reference at products.
-/
import Derived.Test.YtgnaohhopbhihaaDoorBitsV1
namespace Go.Proofs.YtgnaohhopbhihaaDoor
open Go.RowKit

end Go.Proofs.YtgnaohhopbhihaaDoor
