/-
  vec.Leq, vec.Order.
-/
import Derived.Test.YtnbaaccodgohoaaVec1
import Derived.Laws.Rows
namespace Go.Proofs.Ytnbaaccodgohoaa
open Go.RowKit
set_option maxRecDepth 100000

end Go.Proofs.Ytnbaaccodgohoaa
