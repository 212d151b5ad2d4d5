/-
  vec.Join, vec.Meet.
-/
import Derived.Test.YtnehoabeameioaaVec2
namespace Go.Proofs.Ytnehoabeameioaa
open Go.RowKit
set_option maxRecDepth 100000

/-- The first numbers are of one vector, the others of another one. -/
def mixV (F A : Nat → Nat) (k : Nat) : Nat → Nat := fun i => if i < k then F i else A i
theorem mixV_succ (F A : Nat → Nat) (k : Nat) : updV (mixV F A k) k (F k) = mixV F A (k + 1) := by
  funext i
  unfold updV mixV
  by_cases h : i = k
  · rw [if_pos h, if_pos (by omega), h]
  · rw [if_neg h]
    by_cases h2 : i < k
    · rw [if_pos h2, if_pos (by omega)]
    · rw [if_neg h2, if_neg (by omega)]
theorem mixV_at (F A : Nat → Nat) (k : Nat) : mixV F A k k = A k := by unfold mixV; rw [if_neg (by omega)]
theorem mixV_zero (F A : Nat → Nat) : mixV F A 0 = A := by funext i; unfold mixV; rw [if_neg (by omega)]
theorem mixV_all (F A : Nat → Nat) : av (mixV F A 8) = av F := av_congr fun i hi => by unfold mixV; rw [if_pos hi]

end Go.Proofs.Ytnehoabeameioaa
