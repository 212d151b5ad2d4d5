/-
  vec.Less, vec.Total, vec.Next.
-/
import Derived.Test.YtnehoabeameioaaVec4
namespace Go.Proofs.Ytnehoabeameioaa
open Go.RowKit
set_option maxRecDepth 100000

theorem less_any (r : Int) (s : Nat) (r' : Int) (s' : Nat) (w : World) :
    Calls Try.prog 52 #[idv r s, idv r' s'] w fun e w' => e = .returned (.bool (lessV r s r' s')) ∧ Below w.heap.size w w' := by
  obtain ⟨b, hb⟩ : ∃ b, b = lessV r s r' s' := ⟨_, rfl⟩
  rw [← hb]
  have hbel : Below w.heap.size w ((w.alloc (.cells #[.int .i64 r, .int .u32 (s : Int)] 35)).alloc (.cells #[.int .i64 r', .int .u32 (s' : Int)] 35)) := ((Below.refl _ _).alloc (Nat.le_refl _) _).alloc (by simp) _
  unfold idv
  by_cases he : s = s'
  · subst he
    have hb2 : b = decide (r < r') := by rw [hb]; unfold lessV; simp
    have Hb := Lib.hid hb2
    clear hb hb2
    go_enter Try.func52, Try.ntmps52
    go_wp2
    go_ret
    exact ⟨by rw [Hb.out]; rfl, hbel⟩
  · have hb2 : b = decide (s < s') := by rw [hb]; unfold lessV; simp [he]
    have hne : ((s : Int) == (s' : Int)) = false := by rw [beq_eq_false_iff_ne]; omega
    have Hb := Lib.hid hb2
    clear hb hb2
    go_enter Try.func52, Try.ntmps52
    go_wp2
    all_goals go_ret
    all_goals exact ⟨by rw [Hb.out]; rfl, hbel⟩

end Go.Proofs.Ytnehoabeameioaa
