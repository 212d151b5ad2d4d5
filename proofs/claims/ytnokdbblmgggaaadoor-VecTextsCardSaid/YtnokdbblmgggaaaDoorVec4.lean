/-
  vec.Has.
-/
import Derived.Test.YtnokdbblmgggaaaDoorVec3
import Derived.Test.YtnokdbblmgggaaaDoorRegions
namespace Go.Proofs.YtnokdbblmgggaaaDoor
open Go.RowKit
set_option maxRecDepth 100000

/-- An event's number as a value. -/
def idv (r : Int) (s : Nat) : Value := .agg #[.int .i64 r, .int .u32 (s : Int)]

end Go.Proofs.YtnokdbblmgggaaaDoor
