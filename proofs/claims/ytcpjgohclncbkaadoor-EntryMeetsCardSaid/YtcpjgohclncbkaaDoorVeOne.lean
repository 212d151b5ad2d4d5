/-
  One version: strings.Clone, version.copied, version.Head, the document's Head, Gone of either side.
-/
import Derived.Test.YtcpjgohclncbkaaDoorVeBase
import Derived.Test.YtcpjgohclncbkaaDoorVeKit
import Derived.Test.YtcpjgohclncbkaaDoorShelf
import Derived.Deep.Cut
import Derived.Deep.DeepCutAuto
import Derived.Deep.DeepMust
namespace Go.Proofs.YtcpjgohclncbkaaDoor
open Go.RowKit
set_option maxRecDepth 100000

def headV (v : Ver) : Bool := eqV v.by_ zeroV
def goneV (A B : Nat → Nat) : Bool := (List.range 8).any fun i => decide (0 < A i ∧ A i ≤ B i)
def zeroC : Array Value := #[.int .i64 0, .int .u32 0, .string ⟨#[]⟩, .int .u32 0, .int .u32 0, .int .u32 0, .int .u32 0, .int .u32 0, .int .u32 0, .int .u32 0, .int .u32 0]
/-- The parts of a version that lies there. -/
structure VerCells (W : World) (g o : Nat) (v : Ver) : Prop where
  id : W.rangeAt g o (idC v.rep v.seq).toList
  data : W.cell? ⟨g, o + 2, none⟩ = some (str v.data)
  by_ : W.rangeAt g (o + 3) (av v.by_).toList
  all : W.rangeAt g o (verC v).toList
theorem verCells {W : World} {g o : Nat} {v : Ver} (h : W.rangeAt g o (verC v).toList) : VerCells W g o v :=
  ⟨fun j u hu => by
      have hj : j < 2 := (List.getElem?_eq_some_iff.1 hu).1
      refine h j u ?_
      rw [← hu]
      rcases (by omega : j = 0 ∨ j = 1) with rfl | rfl <;> rfl,
   h 2 _ rfl,
   fun j u hu => by
      have hj : j < 8 := (List.getElem?_eq_some_iff.1 hu).1
      rw [Nat.add_assoc]
      refine h (3 + j) u ?_
      rw [← hu]
      rcases lt8 hj with rfl | rfl | rfl | rfl | rfl | rfl | rfl | rfl <;> rfl,
   h⟩
theorem Blk.ver {W : World} {g : Nat} {t : TypeId} {v : Ver} (h : Blk W g t (verC v)) : VerCells W g 0 v := verCells (h.range _ _ fun j u hu => by rw [Nat.zero_add, ← Array.getElem?_toList]; exact hu)
theorem VerCells.ext {W W' : World} {g o : Nat} {v : Ver} (h : VerCells W g o v) (hb : Below W.heap.size W W') : VerCells W' g o v := verCells (range_ext h.all hb)

theorem strclone_any (s : List UInt8) (hs : s.length ≤ 1000) (w : World) : Calls Tryd.prog 52 #[.string ⟨s.toArray⟩] w fun e w' => e = .returned (.string ⟨s.toArray⟩) ∧ Below w.heap.size w w' := by
  have hsz : (⟨s.toArray⟩ : ByteArray).size ≤ 1000 := by show s.toArray.size ≤ _; simp; omega
  have hc := fun z => Tryd.stringslite_Clone ⟨s.toArray⟩ z (by omega)
  have Hc := Lib.hid hc
  clear hc hsz
  go_enter Tryd.func52, Tryd.ntmps52
  go_wp2_with fail
  refine (Hc.out _).mono ?_
  rintro e w1 ⟨rfl, hb1⟩
  go_wp2_with fail
  go_ret
  exact ⟨rfl, hb1⟩

end Go.Proofs.YtcpjgohclncbkaaDoor
