/-
  Small words on worlds that have only grown, or drawn: for regions that draw their order.
  bytes.Clone and bytes.Equal.
  bytes.Equal.
-/
import Derived.Test.YtgebodibamgipaaGreatDoorWordsB
import Derived.Deep.QuietTactic
import Derived.Test.YtgebodibamgipaaGreatDoorShelf
namespace Go.Proofs.YtgebodibamgipaaGreatDoor
open Go.RowKit

theorem below_drewN {B : Nat} {a w : World} (h : Below B a w) (n : Nat) : Below B a (w.drewN n) := ⟨h.os, h.tape, h.output, h.size, h.block⟩
theorem below_call {w u w' : World} (hS : Below w.heap.size w u) (hb : Below u.heap.size u w') : Below w.heap.size w w' := hS.trans (hb.mono hS.size)
theorem below_drew_then {w w' : World} (h : Below w.drew.heap.size w.drew w') : Below w.heap.size w w' := (Below.refl _ _).drew.trans h
theorem below_then_drew {B : Nat} {w w' : World} (h : Below B w w') : Below B w w'.drew := h.drew
theorem IsB.drewN {w : World} {ok : Nat → Prop} {v : Value} {l : List UInt8} (h : IsB w ok v l) (n : Nat) : IsB (w.drewN n) ok v l := h
/-- A callee that leaves the world alone, within a quiet region. -/
theorem quiet_same {P : Program} {f : FuncId} {args : Array Value} {w : World} {n : Nat} {v : Value}
    (h : Calls P f args (w.drewN n) fun e w' => e = .returned v ∧ w.drewN n = w') : Calls P f args (w.drewN n) fun e w'' => e = .returned v ∧ ∃ m, w'' = w.drewN m :=
  h.mono fun _ _ ⟨he, hm⟩ => ⟨he, n, hm.symm⟩
end Go.Proofs.YtgebodibamgipaaGreatDoor

namespace Go.Proofs.YtgebodibamgipaaGreatDoor
open Go.RowKit Go.Shelf

end Go.Proofs.YtgebodibamgipaaGreatDoor

namespace Go.Proofs.YtgebodibamgipaaGreatDoor
open Go.RowKit Go.Shelf

end Go.Proofs.YtgebodibamgipaaGreatDoor
