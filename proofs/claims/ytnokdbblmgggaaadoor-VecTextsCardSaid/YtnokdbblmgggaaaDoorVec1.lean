/-
  vec.isReplica, vec.Get, vec.Leq.
-/
import Derived.Test.YtnokdbblmgggaaaDoorVecBase
namespace Go.Proofs.YtnokdbblmgggaaaDoor
open Go.RowKit
set_option maxRecDepth 100000

theorem isrep_any (r : Int) (w : World) : Calls Tryd.prog 27 #[.int .i64 r] w fun e w' => e = .returned (.bool (repV r)) ∧ w = w' := by
  obtain ⟨b, hb⟩ : ∃ b, b = repV r := ⟨_, rfl⟩
  rw [← hb]
  by_cases h1 : 1 ≤ r
  · have hb2 : b = decide (r ≤ 8) := by rw [hb]; unfold repV; simp [h1]
    clear hb
    have Hb := Lib.hid hb2
    clear hb2
    go_enter Tryd.func27, Tryd.ntmps27
    go_wp2
    all_goals go_ret
    all_goals exact ⟨by rw [Hb.out]; rfl, rfl⟩
  · have hb2 : b = false := by rw [hb]; unfold repV; simp [h1]
    have hd : decide (1 ≤ r) = false := by simpa using h1
    clear hb
    have Hb := Lib.hid hb2
    clear hb2
    go_enter Tryd.func27, Tryd.ntmps27
    go_wp2
    all_goals go_ret
    all_goals exact ⟨by rw [Hb.out]; rfl, rfl⟩

end Go.Proofs.YtnokdbblmgggaaaDoor
