/-
  vec.Leq, vec.Order.
-/
import Derived.Test.YtnehoabeameioaaVec1
import Derived.Laws.Rows
namespace Go.Proofs.Ytnehoabeameioaa
open Go.RowKit
set_option maxRecDepth 100000

end Go.Proofs.Ytnehoabeameioaa
