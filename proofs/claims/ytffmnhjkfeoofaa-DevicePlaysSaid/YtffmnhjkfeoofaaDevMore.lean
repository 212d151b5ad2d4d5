/-
  What the laws of layer 3 share.
-/
import Derived.Test.YtffmnhjkfeoofaaLives03
import Derived.Test.YtffmnhjkfeoofaaDevOpen
namespace Go.Proofs.Ytffmnhjkfeoofaa
open Go.RowKit
set_option maxRecDepth 100000

theorem DevAt.size {w : World} {base : Nat} {F : Nat → Prop} {g : Nat} {D : Dev} (h : DevAt w base F g D) : base ≤ w.heap.size := by
  obtain ⟨gs, gl, vl, vp, m, hin, _⟩ := h
  have := hin.low _ hin.fg
  omega
theorem DevAt.base_le {w : World} {base : Nat} {F : Nat → Prop} {g : Nat} {D : Dev} (h : DevAt w base F g D) : base ≤ g ∧ F g := by
  obtain ⟨gs, gl, vl, vp, m, hin, _⟩ := h
  exact ⟨(hin.low _ hin.fg).1, hin.fg⟩
/-- What a call of the device leaves, below. -/
theorem below_dev {w u w' : World} {base B : Nat} {F F' : Nat → Prop} {g : Nat} {D : Dev} (hb : Below B w u) (hd : DevAt u base F g D) (hB : B ≤ base) (hf : Fr F F' u w') : Below B w w' :=
  hb.trans (hf.below (fun k hk => Nat.le_trans hB (hd.low k hk).1) (Nat.le_trans hB hd.size))
theorem u8_nat (k : Nat) (h : k < 256) : u8 (UInt8.ofNat k) = .int .u8 (k : Int) := by
  unfold u8
  congr 1
  simp
  omega
end Go.Proofs.Ytffmnhjkfeoofaa
