/-
  What the cases of wardshiplaw03.step share.
-/
import Derived.Test.YtffmnhjkfeoofaaRefBarrier
namespace Go.Proofs.Ytffmnhjkfeoofaa
open Go.RowKit
set_option maxRecDepth 100000

theorem DevAt.left_le {w : World} {base : Nat} {F : Nat → Prop} {g : Nat} {D : Dev} (h : DevAt w base F g D) : D.left ≤ 9223372036854775807 := by
  obtain ⟨gs, gl, vl, vp, m, hin, _⟩ := h
  rcases hin.plan with ⟨h, _⟩ | ⟨_, h, _⟩ <;> omega
theorem Fr.then_below {F F' : Nat → Prop} {w w1 w' : World} (h : Fr F F' w w1) (hb : Below w.heap.size w1 w') : Fr F F' w w' :=
  ⟨hb.os.trans h.os, hb.tape.trans h.tape, hb.output.trans h.output, Nat.le_trans h.size hb.size, fun k hk hF => ⟨(h.block k hk hF).1, (hb.block k hk).trans (h.block k hk hF).2⟩⟩
/-- Behind the device's call: nothing of the device is written, and nothing that was there. -/
theorem step_end {base g res : Nat} {D : Dev} {G G' : Nat → Prop} {w w4 u w9 : World} (hd4 : DevAt w4 base G' g D) (hF : Fr G G' w w4) (hres : w.heap.size ≤ res) (hnot : ¬ G' res)
    (hb : Below w.heap.size w4 u) (hk : ∀ q, G' q → q < w4.heap.size → u.heap[q]? = w4.heap[q]?) (h9 : Fr (· = res) (· = res) u w9) : DevAt w9 base G' g D ∧ Fr G G' w w9 := by
  have hs4 := hF.size
  refine ⟨hd4.keep (fun q hq => ?_) (Nat.le_trans hb.size h9.size), hF.then_below (hb.trans (h9.below (fun k (hk : k = res) => by omega) (by have := hb.size; omega)))⟩
  have hlt := (hd4.low q hq).2
  exact ((h9.block q (Nat.lt_of_lt_of_le hlt hb.size) (fun (e : q = res) => hnot (e ▸ hq))).2).trans (hk q hq hlt)
end Go.Proofs.Ytffmnhjkfeoofaa
