/-
  Names: which texts are some. Mathematics alone.
-/
import Derived.WalkKit
namespace Go.Proofs.YtgebodibamgipaaGreatDoor

/-- The letters of names. -/
def letterN (c : Nat) : Bool := (decide (97 ≤ c) && decide (c ≤ 122)) || (decide (65 ≤ c) && decide (c ≤ 90)) || (decide (48 ≤ c) && decide (c ≤ 57)) || decide (c = 46) || decide (c = 95) || decide (c = 45)
def nameB (s : List UInt8) : Bool := !s.isEmpty && decide (s.length ≤ 12) && !(s == [46]) && !(s == [46, 46]) && s.all fun c => letterN c.toNat
end Go.Proofs.YtgebodibamgipaaGreatDoor
