/-
  vec.Less, vec.Total, vec.Next.
-/
import Derived.Test.YtnokdbblmgggaaaDoorVec4
namespace Go.Proofs.YtnokdbblmgggaaaDoor
open Go.RowKit
set_option maxRecDepth 100000

end Go.Proofs.YtnokdbblmgggaaaDoor
