/-
  Stores into rows that the call owns.
-/
import Derived.Test.YtkojoahamoffcaaWords
namespace Go.Proofs.Ytkojoahamoffcaa
open Go.RowKit

/-- A store into an own row. -/
theorem Own1.set_ {w : World} {base : Nat} {e : TypeId} {g n c : Nat} {xs : List Value} (h : Own1 w base e (.slice (some ⟨g, 0, none⟩) n c) xs) (i : Nat) (u : Value) :
    Own1 (w.setCell ⟨g, i, none⟩ u) base e (.slice (some ⟨g, 0, none⟩) n c) (xs.set i u) := by
  unfold Own1 World.ownsRow at *
  rcases h.2 with ⟨h0, _⟩ | ⟨g', cap, cur, hv, h1, h2, h3, h4, h5, h6⟩
  · cases h0
  · cases hv
    refine ⟨by simp, .inr ⟨g, c, cur.setIfInBounds i u, by simp, h1, Blk.set_ h2 i u, by simpa using h3, h4, by simpa using h5, ?_⟩⟩
    rw [Nat.mul_one] at h6 ⊢
    rw [List.length_set, Array.toList_setIfInBounds, List.take_set, h6]
/-- Where something is owned, the block and its cells. -/
theorem Own1.addr {w : World} {base : Nat} {e : TypeId} {A : Option Addr} {n c : Nat} {xs : List Value} (h : Own1 w base e (.slice A n c) xs) (hn : xs ≠ []) :
    ∃ g cur, A = some ⟨g, 0, none⟩ ∧ base ≤ g ∧ Blk w g e cur ∧ ∀ (k : Nat) (hk : k < xs.length), cur[k]? = some xs[k] := by
  unfold Own1 World.ownsRow at h
  rcases h.2 with ⟨h0, h1⟩ | ⟨g, cap, cur, hv, h1, h2, h3, h4, h5, h6⟩
  · exact absurd (List.eq_nil_of_length_eq_zero h1) hn
  · cases hv
    refine ⟨g, cur, rfl, h1, h2, fun k hk => ?_⟩
    rw [Nat.mul_one] at h6
    have : (cur.toList.take xs.length)[k]? = xs[k]? := by rw [h6]
    rw [List.getElem?_take, if_pos hk, List.getElem?_eq_getElem hk] at this
    simpa using this
end Go.Proofs.Ytkojoahamoffcaa
