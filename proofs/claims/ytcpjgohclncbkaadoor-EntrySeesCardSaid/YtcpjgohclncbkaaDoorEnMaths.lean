/-
  Versions with one more, in the place of some: mathematics; slices.Insert at any place.
  What VersionHeads asks of lists of versions, as mathematics: one that comes in the place of all latest ones; two of them, in either order.
  Entries: one more, one that went, all of two, as lists and as what is at a number: mathematics.
-/
import Derived.Test.YtcpjgohclncbkaaDoorVeInsert
import Derived.Test.YtcpjgohclncbkaaDoorEnInsert
import Derived.Test.YtcpjgohclncbkaaDoorVeFind
import Derived.Test.YtcpjgohclncbkaaDoorEnFinds
import Derived.Test.YtcpjgohclncbkaaDoorVeHeadsMath
import Derived.Test.YtcpjgohclncbkaaDoorVeGone
namespace Go.Proofs.YtcpjgohclncbkaaDoor
open Go.RowKit
set_option maxRecDepth 100000

theorem insE_end (L : List Ent) (X : Ent) : insE L L.length X = L ++ [X] := by unfold insE; rw [List.take_length, List.drop_length]
theorem einsert_any (base : Nat) (u : Value) (L : List Ent) (X : Ent) (hX : EntOk X) (i vb : Nat) (w : World) (hown : OwnE w base u L) (hb : Blk w vb 29 (entC X)) (hvb : ∀ g, u.ownBlock = some g → vb ≠ g) (hl : L.length ≤ 1000) (hbase : base ≤ w.heap.size) (hi : i ≤ L.length) :
    Calls Tryd.prog 38 #[u, .int .i64 (i : Int), .slice (some ⟨vb, 0, none⟩) 1 1] w fun e w' => (∃ u', e = .returned u' ∧ OwnE w' base u' (insE L i X)) ∧ Below base w w' := by
  by_cases h : i = L.length
  · subst h
    rw [insE_end]
    exact einsert_end base u L X hX vb w hown hb hl hbase
  · obtain ⟨g, cap, hv, hc1, _, _, _, _, _⟩ := hown.elem (k := i) (by omega)
    subst hv
    have hne := hvb g rfl
    by_cases hr : L.length + 1 ≤ cap
    · exact einsert_shift base g cap i L X hX vb w hown hb hne hl hbase (by omega) hr
    · obtain rfl : cap = L.length := by omega
      exact einsert_grow base g i L X hX vb w hown hb hl hbase (by omega)
end Go.Proofs.YtcpjgohclncbkaaDoor

namespace Go.Proofs.YtcpjgohclncbkaaDoor
open Go.RowKit
set_option maxRecDepth 100000

theorem sortedE_iff {L : List Ent} : SortedE L ↔ L.Pairwise (fun x y => lessV x.rep x.seq y.rep y.seq = true) := by
  unfold SortedE
  rw [List.pairwise_iff_getElem]
end Go.Proofs.YtcpjgohclncbkaaDoor

namespace Go.Proofs.YtcpjgohclncbkaaDoor
open Go.RowKit
set_option maxRecDepth 100000

/-- With one more: one that is there stays. -/
def addE (L : List Ent) (X : Ent) : List Ent := if thereE L X.rep X.seq = true then L else insE L (posE L X.rep X.seq) X
end Go.Proofs.YtcpjgohclncbkaaDoor
