/-
  A plain region, with guards: what each slot's value is like is said of each world that comes; what is left out leaves nothing.
-/
import Derived.Test.YtcpjgohclncbkaaDoorVeGood
namespace Go.Proofs.YtcpjgohclncbkaaDoor
open Go.RowKit
set_option maxRecDepth 100000

theorem not_wanted {l : Array Oper} {o : Oper} {a : Act} {j t : Nat} {b : Bool} (hg : o.guard = some (j, b)) (hj : (l[j]?).bind (·.dst) = some t) (h : a.tmps[t]?.getD undef = undef ∨ a.tmps[t]?.getD undef = .bool (!b)) : Region.wanted o (yielded l a.tmps) = false := by
  unfold Region.wanted
  rw [hg]
  show (yielded l a.tmps j == some b) = false
  unfold yielded
  rw [hj]
  cases e : a.tmps[t]? with
  | none => simp [e]
  | some v =>
    rw [e] at h
    simp only [Option.getD_some] at h
    rcases h with h | h
    · subst h; simp [e, undef]
    · subst h; cases b <;> simp [e]
theorem step_left {P : Program} {l : Array Oper} {Q : Exit → Act → World → Prop} {o : Oper} {a : Act} {w : World} {K : Act → World → Prop} (hw : Region.wanted o (yielded l a.tmps) = false) (h : K (a.put o.dst undef) w) :
    if Region.wanted o (yielded l a.tmps) = true then Oper.wp P o a w K Q else K (a.put o.dst undef) w := by
  rw [if_neg (by rw [hw]; simp)]
  exact h
end Go.Proofs.YtcpjgohclncbkaaDoor
