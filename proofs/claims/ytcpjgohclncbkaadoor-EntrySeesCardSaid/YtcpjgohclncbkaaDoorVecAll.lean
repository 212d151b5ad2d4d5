/-
  vec.isReplica, vec.Get, vec.Leq.
  vec.Leq, vec.Order.
  vec.Join, vec.Meet.
  vec.Has.
  vec.Less, vec.Total, vec.Next.
  vec.With.
  The document's vectors: Get, Order, Leq.
  The document's vectors: Join, Meet.
  The document's vectors: Next, Has, One, With, Less.
  The document's vectors: One, With.
-/
import Derived.Test.YtcpjgohclncbkaaDoorVecBase
import Derived.Laws.Rows
import Derived.Test.YtcpjgohclncbkaaDoorRegions
import Derived.BigRegion
import Derived.Deep.RegionWith
namespace Go.Proofs.YtcpjgohclncbkaaDoor
open Go.RowKit
set_option maxRecDepth 100000

end Go.Proofs.YtcpjgohclncbkaaDoor

namespace Go.Proofs.YtcpjgohclncbkaaDoor
open Go.RowKit
set_option maxRecDepth 100000

end Go.Proofs.YtcpjgohclncbkaaDoor

namespace Go.Proofs.YtcpjgohclncbkaaDoor
open Go.RowKit
set_option maxRecDepth 100000

end Go.Proofs.YtcpjgohclncbkaaDoor

namespace Go.Proofs.YtcpjgohclncbkaaDoor
open Go.RowKit
set_option maxRecDepth 100000

/-- An event's number as a value. -/
def idv (r : Int) (s : Nat) : Value := .agg #[.int .i64 r, .int .u32 (s : Int)]

end Go.Proofs.YtcpjgohclncbkaaDoor

namespace Go.Proofs.YtcpjgohclncbkaaDoor
open Go.RowKit
set_option maxRecDepth 100000

theorem less_any (r : Int) (s : Nat) (r' : Int) (s' : Nat) (w : World) :
    Calls Tryd.prog 44 #[idv r s, idv r' s'] w fun e w' => e = .returned (.bool (lessV r s r' s')) ∧ Below w.heap.size w w' := by
  obtain ⟨b, hb⟩ : ∃ b, b = lessV r s r' s' := ⟨_, rfl⟩
  rw [← hb]
  have hbel : Below w.heap.size w ((w.alloc (.cells #[.int .i64 r, .int .u32 (s : Int)] 25)).alloc (.cells #[.int .i64 r', .int .u32 (s' : Int)] 25)) := ((Below.refl _ _).alloc (Nat.le_refl _) _).alloc (by simp) _
  unfold idv
  by_cases he : s = s'
  · subst he
    have hb2 : b = decide (r < r') := by rw [hb]; unfold lessV; simp
    have Hb := Lib.hid hb2
    clear hb hb2
    go_enter Tryd.func44, Tryd.ntmps44
    go_wp2
    go_ret
    exact ⟨by rw [Hb.out]; rfl, hbel⟩
  · have hb2 : b = decide (s < s') := by rw [hb]; unfold lessV; simp [he]
    have hne : ((s : Int) == (s' : Int)) = false := by rw [beq_eq_false_iff_ne]; omega
    have Hb := Lib.hid hb2
    clear hb hb2
    go_enter Tryd.func44, Tryd.ntmps44
    go_wp2
    all_goals go_ret
    all_goals exact ⟨by rw [Hb.out]; rfl, hbel⟩

end Go.Proofs.YtcpjgohclncbkaaDoor

namespace Go.Proofs.YtcpjgohclncbkaaDoor
open Go.RowKit
set_option maxRecDepth 100000

end Go.Proofs.YtcpjgohclncbkaaDoor

namespace Go.Proofs.YtcpjgohclncbkaaDoor
open Go.RowKit
set_option maxRecDepth 100000

end Go.Proofs.YtcpjgohclncbkaaDoor

namespace Go.Proofs.YtcpjgohclncbkaaDoor
open Go.RowKit
set_option maxRecDepth 100000

end Go.Proofs.YtcpjgohclncbkaaDoor

namespace Go.Proofs.YtcpjgohclncbkaaDoor
open Go.RowKit
set_option maxRecDepth 100000

theorem refless_any (r : Int) (s : Nat) (r' : Int) (s' : Nat) (w : World) :
    Calls Tryd.prog 57 #[idv r s, idv r' s'] w fun e w' => e = .returned (.bool (lessV r s r' s')) ∧ Below w.heap.size w w' := by
  obtain ⟨b, hb⟩ : ∃ b, b = lessV r s r' s' := ⟨_, rfl⟩
  rw [← hb]
  have hbel : Below w.heap.size w ((w.alloc (.cells #[.int .i64 r, .int .u32 (s : Int)] 25)).alloc (.cells #[.int .i64 r', .int .u32 (s' : Int)] 25)) := ((Below.refl _ _).alloc (Nat.le_refl _) _).alloc (by simp) _
  unfold idv
  by_cases he : s < s'
  · have hb2 : b = true := by rw [hb]; unfold lessV; simp [he]
    have hd : decide ((s : Int) < (s' : Int)) = true := by simpa using he
    have Hb := Lib.hid hb2
    clear hb hb2
    go_enter Tryd.func57, Tryd.ntmps57
    go_wp2
    go_ret
    exact ⟨by rw [Hb.out]; rfl, hbel⟩
  · have hd : decide ((s : Int) < (s' : Int)) = false := by simpa using he
    by_cases he2 : s = s'
    · subst he2
      have hb2 : b = decide (r < r') := by rw [hb]; unfold lessV; simp
      have Hb := Lib.hid hb2
      clear hb hb2
      go_enter Tryd.func57, Tryd.ntmps57
      go_wp2
      go_ret
      exact ⟨by rw [Hb.out]; rfl, hbel⟩
    · have hb2 : b = false := by rw [hb]; unfold lessV; simp [he, he2]
      have hne : ((s : Int) == (s' : Int)) = false := by rw [beq_eq_false_iff_ne]; omega
      have Hb := Lib.hid hb2
      clear hb hb2
      go_enter Tryd.func57, Tryd.ntmps57
      go_wp2
      go_ret
      exact ⟨by rw [Hb.out]; rfl, hbel⟩
end Go.Proofs.YtcpjgohclncbkaaDoor

namespace Go.Proofs.YtcpjgohclncbkaaDoor
open Go.RowKit
set_option maxRecDepth 100000

end Go.Proofs.YtcpjgohclncbkaaDoor
