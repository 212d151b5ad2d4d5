/-
  What the walks of layer 6 share.
-/
import Derived.Test.YtnokdbblmgggaaaDoorVecBase
import Derived.Test.YtnokdbblmgggaaaDoorVecLives
import Derived.Test.YtnokdbblmgggaaaDoorVec4
namespace Go.Proofs.YtnokdbblmgggaaaDoor
open Go.RowKit
set_option maxRecDepth 100000

end Go.Proofs.YtnokdbblmgggaaaDoor
