/-
  What the walks of layer 6 share.
-/
import Derived.Test.YtjakgmidhpddoaaDoorVecLives
import Derived.Test.YtjakgmidhpddoaaDoorVec4
namespace Go.Proofs.YtjakgmidhpddoaaDoor
open Go.RowKit
set_option maxRecDepth 100000

theorem eql_same (V : Nat → Nat) (w : World) : (binOp .eql 24 (.agg (av V)) (.agg (av V))).run Tryd.prog w = .ok (.bool true) w := by
  have := eql_run V V w
  rwa [show eqV V V = true from eqV_iff.2 fun _ _ => rfl] at this
/-- Two vectors in boxes of their own. -/
theorem boxes2 (A B : Nat → Nat) (w : World) : Blk ((w.alloc (.cells (av A) 24)).alloc (.cells (av B) 24)) w.heap.size 24 (av A) ∧ Blk ((w.alloc (.cells (av A) 24)).alloc (.cells (av B) 24)) (w.heap.size + 1) 24 (av B) ∧ Below w.heap.size w ((w.alloc (.cells (av A) 24)).alloc (.cells (av B) 24)) := by
  refine ⟨(Blk.new w _ _).alloc _, ?_, ((Below.refl _ _).alloc (Nat.le_refl _) _).alloc (by simp) _⟩
  have := Blk.new (w.alloc (.cells (av A) 24)) 24 (av B)
  rw [World.size_alloc] at this
  exact this
theorem Blk.reads {W : World} {g : Nat} {V : Nat → Nat} (h : Blk W g 24 (av V)) : ∀ (y : Ext W) (i : Nat), i < 8 → y.now.cell? ⟨g, i, none⟩ = some (.int .u32 (V i : Int)) := fun y i hi => by rw [(h.grow y.out).cell, av_get V hi]

theorem boxes3 (A B C : Nat → Nat) (w : World) : Blk (((w.alloc (.cells (av A) 24)).alloc (.cells (av B) 24)).alloc (.cells (av C) 24)) w.heap.size 24 (av A) ∧ Blk (((w.alloc (.cells (av A) 24)).alloc (.cells (av B) 24)).alloc (.cells (av C) 24)) (w.heap.size + 1) 24 (av B) ∧ Blk (((w.alloc (.cells (av A) 24)).alloc (.cells (av B) 24)).alloc (.cells (av C) 24)) (w.heap.size + 1 + 1) 24 (av C) ∧ Below w.heap.size w (((w.alloc (.cells (av A) 24)).alloc (.cells (av B) 24)).alloc (.cells (av C) 24)) := by
  obtain ⟨h1, h2, h3⟩ := boxes2 A B w
  refine ⟨h1.alloc _, h2.alloc _, ?_, h3.alloc (by simp; omega) _⟩
  have := Blk.new ((w.alloc (.cells (av A) 24)).alloc (.cells (av B) 24)) 24 (av C)
  rw [World.size_alloc, World.size_alloc] at this
  exact this
end Go.Proofs.YtjakgmidhpddoaaDoor
