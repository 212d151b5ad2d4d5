/-
  entry.Gone, the document's Gone, Alive and Head.
-/
import Derived.Test.YtcpjgohclncbkaaDoorVeGone
import Derived.Test.YtcpjgohclncbkaaDoorVeOne
import Derived.Test.YtcpjgohclncbkaaDoorEnOne
namespace Go.Proofs.YtcpjgohclncbkaaDoor
open Go.RowKit
set_option maxRecDepth 100000

theorem erefhead_any (v : Ent) (w : World) :
    Calls Tryd.prog 20 #[.agg (entC v)] w fun e w' => e = .returned (.bool (headE v)) ∧ Below w.heap.size w w' :=
  refalive_any (entC v) v.by_ (fun k hk => by rcases lt8 hk with rfl | rfl | rfl | rfl | rfl | rfl | rfl | rfl <;> rfl) w
end Go.Proofs.YtcpjgohclncbkaaDoor
