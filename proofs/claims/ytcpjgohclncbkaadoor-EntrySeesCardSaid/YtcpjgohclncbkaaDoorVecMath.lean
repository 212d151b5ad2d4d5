/-
  Version vectors: eight numbers. How they stand, join, meet, what is meant. Mathematics alone.
-/
import Derived.Below
namespace Go.Proofs.YtcpjgohclncbkaaDoor

/-- Eight numbers that fit. -/
def okV (V : Nat → Nat) : Prop := ∀ i, i < 8 → V i < 4294967296
def eqV (A B : Nat → Nat) : Bool := (List.range 8).all fun i => decide (A i = B i)
def zeroV : Nat → Nat := fun _ => 0
def lessV (r : Int) (s : Nat) (r' : Int) (s' : Nat) : Bool := decide (s < s' ∨ (s = s' ∧ r < r'))
theorem eqV_iff {A B : Nat → Nat} : eqV A B = true ↔ ∀ i, i < 8 → A i = B i := by unfold eqV; simp [List.all_eq_true]
theorem eqV_not {A B : Nat → Nat} : eqV A B = false ↔ ∃ i, i < 8 ∧ A i ≠ B i := by
  rw [← Bool.not_eq_true, eqV_iff]
  constructor
  · intro h
    apply Classical.byContradiction
    intro hn
    exact h fun i hi => Classical.byContradiction fun hl => hn ⟨i, hi, hl⟩
  · rintro ⟨i, hi, hl⟩ h
    exact hl (h i hi)
theorem okV_zero : okV zeroV := fun _ _ => by unfold zeroV; omega
/-! ### The laws -/
end Go.Proofs.YtcpjgohclncbkaaDoor
