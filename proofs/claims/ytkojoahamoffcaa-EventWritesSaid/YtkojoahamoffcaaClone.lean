/-
  bytes.Clone and bytes.Equal.
-/
import Derived.Test.YtkojoahamoffcaaBytes
import Derived.Test.YtkojoahamoffcaaShelf
namespace Go.Proofs.Ytkojoahamoffcaa
open Go.RowKit Go.Shelf

theorem clone_any (ok : Nat → Prop) (v : Value) (l : List UInt8) (w : World) (hv : IsB w ok v l) (hl : l.length ≤ 1099511627776) :
    Calls Try.prog 60 #[v] w fun e w' => ∃ v', e = .returned v' ∧ Own1 w' w.heap.size 5 v' (l.map u8) ∧ Below w.heap.size w w' := by
  obtain ⟨A, c, rfl, hlc, hcm, hr⟩ := hv
  cases A with
  | none =>
    have hl0 : l = [] := by
      rcases Classical.em (l = []) with h | h
      · exact h
      · obtain ⟨ad, e, _⟩ := hr (by simpa using h)
        cases e
    subst hl0
    refine (Try.bytes_Clone_nil _ _ _).mono ?_
    rintro e w' ⟨rfl, hw⟩
    rw [hw]
    exact ⟨_, rfl, Own1.nil _ _ _, Below.refl _ _⟩
  | some ad =>
    refine (Try.bytes_Clone_at ad l.length c (l.map (fun b => (b.toNat : Int))) w (by simp) (by omega) ?_).mono ?_
    · intro i hi
      obtain ⟨ad', e, _, _, hc⟩ := hr.at_ (k := i) (by simpa using hi)
      cases e
      rw [hc]
      simp [u8, List.getD, hi]
    · rintro e w' ⟨v', rfl, hown, _, hb⟩
      refine ⟨v', rfl, ?_, hb⟩
      unfold Own1
      rw [u8_eq, List.length_map, List.length_map]
      exact hown
end Go.Proofs.Ytkojoahamoffcaa
