/-
  Paths: numbers and tags, parts, what any text is split to. Mathematics alone.
-/
import Derived.WalkKit
import Derived.Lib.IndexBytes
import Derived.Lib.ParseIntB
import Derived.Lib.SplitLaws
import Derived.Lib.ItoaNum
import Derived.Lib.Join
namespace Go.Proofs.YtcpjgohclncbkaaDoor
set_option maxRecDepth 100000

/-! ### The first place of a byte -/
/-! ### Numbers in digits -/
/-! ### Parts -/
/-- A tag, and the name with it. -/
def tagB (r q : Nat) : List UInt8 := Lib.decDigits r ++ 46 :: Lib.decDigits q
def tagT (name : List UInt8) (r q : Nat) : List UInt8 := name ++ 126 :: tagB r q
/-! ### Splitting -/
end Go.Proofs.YtcpjgohclncbkaaDoor
