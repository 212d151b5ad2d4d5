/-
  Joins of entries in any order, of entries of one number that are alike: mathematics.
-/
import Derived.Test.YtckibimganmklaaDoorEnMaths
namespace Go.Proofs.YtckibimganmklaaDoor
open Go.RowKit
set_option maxRecDepth 100000

theorem joinV_swap (A B : Nat → Nat) : joinV A B = joinV B A := by funext i; unfold joinV; omega
theorem joinV_three (A B C : Nat → Nat) : joinV (joinV A B) C = joinV A (joinV B C) := by funext i; unfold joinV; omega
theorem joinV_same (A : Nat → Nat) : joinV A A = A := by funext i; unfold joinV; omega
/-- Alike but for what they were deleted by. -/
def AlikeX (x y : Ent) : Prop := x.rep = y.rep ∧ x.seq = y.seq ∧ x.drep = y.drep ∧ x.dseq = y.dseq ∧ x.data = y.data ∧ x.orep = y.orep ∧ x.oseq = y.oseq
def AlikeE (L : List Ent) : Prop := ∀ x ∈ L, ∀ y ∈ L, sameI x.rep x.seq y.rep y.seq = true → AlikeX x y
theorem melt_swap {x y : Ent} (h : AlikeX x y) : meltE x y = meltE y x := by
  obtain ⟨a1, a2, a3, a4, a5, a6, a7, a8⟩ := x
  obtain ⟨b1, b2, b3, b4, b5, b6, b7, b8⟩ := y
  obtain ⟨h1, h2, h3, h4, h5, h6, h7⟩ := h
  dsimp only at h1 h2 h3 h4 h5 h6 h7
  subst h1 h2 h3 h4 h5 h6 h7
  unfold meltE
  dsimp only
  rw [joinV_swap]
theorem melt_three (x y z : Ent) : meltE (meltE x y) z = meltE x (meltE y z) := by unfold meltE; dsimp only; rw [joinV_three]
theorem melt_same (x : Ent) : meltE x x = x := by unfold meltE; rw [joinV_same]
theorem both_three (a b c : Option Ent) : bothE (bothE a b) c = bothE a (bothE b c) := by
  cases a <;> cases b <;> cases c <;> simp [bothE, melt_three]
theorem both_again (a b : Option Ent) : bothE (bothE a b) b = bothE a b := by
  cases a with
  | none => cases b <;> simp [bothE, melt_same]
  | some x => cases b <;> simp [bothE, melt_three, melt_same]
theorem join_three {L M N : List Ent} (hl : SortedE L) (hm : SortedE M) (hn : SortedE N) : joinE (joinE L M) N = joinE L (joinE M N) :=
  getE_ext (sorted_join _ _ (sorted_join _ _ hl hm) hn) (sorted_join _ _ hl (sorted_join _ _ hm hn)) fun r s => by
    rw [getE_join r s _ _ (sorted_join _ _ hl hm) hn, getE_join r s _ _ hl hm, getE_join r s _ _ hl (sorted_join _ _ hm hn), getE_join r s _ _ hm hn, both_three]
theorem join_again {L M : List Ent} (hl : SortedE L) (hm : SortedE M) : joinE (joinE L M) M = joinE L M :=
  getE_ext (sorted_join _ _ (sorted_join _ _ hl hm) hm) (sorted_join _ _ hl hm) fun r s => by
    rw [getE_join r s _ _ (sorted_join _ _ hl hm) hm, getE_join r s _ _ hl hm, both_again]
theorem both_swap {L M : List Ent} (h : AlikeE (L ++ M)) (r : Int) (s : Nat) : bothE (getE L r s) (getE M r s) = bothE (getE M r s) (getE L r s) := by
  cases hx : getE L r s with
  | none => rw [both_none]; rfl
  | some x =>
    cases hy : getE M r s with
    | none => rfl
    | some y =>
      obtain ⟨h1, h2, h3⟩ := getE_some hx
      obtain ⟨h4, h5, h6⟩ := getE_some hy
      show some _ = some _
      rw [melt_swap (h x (by simp [h1]) y (by simp [h4]) (sameI_eq.2 ⟨h2.trans h5.symm, h3.trans h6.symm⟩))]
theorem join_swap {L M : List Ent} (hl : SortedE L) (hm : SortedE M) (h : AlikeE (L ++ M)) : joinE L M = joinE M L :=
  getE_ext (sorted_join _ _ hl hm) (sorted_join _ _ hm hl) fun r s => by
    rw [getE_join r s _ _ hl hm, getE_join r s _ _ hm hl, both_swap h]
/-- What stands in a join is alike to one of the two. -/
theorem join_from : ∀ (L M : List Ent) (z : Ent), z ∈ joinE L M → ∃ x, (x ∈ L ∨ x ∈ M) ∧ AlikeX z x := by
  intro L M z hz
  have := join_all (p := fun z => ∃ x, (x ∈ L ∨ x ∈ M) ∧ AlikeX z x) (fun x y hx _ => hx) L M (fun x hx => ⟨x, .inl hx, rfl, rfl, rfl, rfl, rfl, rfl, rfl⟩) (fun x hx => ⟨x, .inr hx, rfl, rfl, rfl, rfl, rfl, rfl, rfl⟩) z hz
  exact this
theorem AlikeX.trans {x y z : Ent} (h : AlikeX x y) (g : AlikeX y z) : AlikeX x z := by
  obtain ⟨h1, h2, h3, h4, h5, h6, h7⟩ := h
  obtain ⟨g1, g2, g3, g4, g5, g6, g7⟩ := g
  exact ⟨h1.trans g1, h2.trans g2, h3.trans g3, h4.trans g4, h5.trans g5, h6.trans g6, h7.trans g7⟩
theorem AlikeX.swap {x y : Ent} (h : AlikeX x y) : AlikeX y x := by
  obtain ⟨h1, h2, h3, h4, h5, h6, h7⟩ := h
  exact ⟨h1.symm, h2.symm, h3.symm, h4.symm, h5.symm, h6.symm, h7.symm⟩
/-- The other order of three. -/
theorem join_turned {L M N : List Ent} (hl : SortedE L) (hm : SortedE M) (hn : SortedE N) (h : AlikeE (L ++ M ++ N)) : joinE (joinE N M) L = joinE (joinE L M) N := by
  have h1 : AlikeE (N ++ M) := fun x hx y hy => h x (by simp at hx ⊢; rcases hx with hx | hx <;> simp [hx]) y (by simp at hy ⊢; rcases hy with hy | hy <;> simp [hy])
  have h2 : AlikeE (joinE M N ++ L) := by
    intro x hx y hy e
    have from_ : ∀ z, z ∈ joinE M N ++ L → ∃ x, x ∈ L ++ M ++ N ∧ AlikeX z x := by
      intro z hz
      rcases List.mem_append.1 hz with hz | hz
      · obtain ⟨x, hx, hq⟩ := join_from M N z hz
        exact ⟨x, by rcases hx with hx | hx <;> simp [hx], hq⟩
      · exact ⟨z, by simp [hz], rfl, rfl, rfl, rfl, rfl, rfl, rfl⟩
    obtain ⟨x', hx', hxa⟩ := from_ x hx
    obtain ⟨y', hy', hya⟩ := from_ y hy
    have e' : sameI x'.rep x'.seq y'.rep y'.seq = true := by
      rw [sameI_eq] at e ⊢
      exact ⟨hxa.1.symm.trans (e.1.trans hya.1), hxa.2.1.symm.trans (e.2.trans hya.2.1)⟩
    exact hxa.trans ((h x' hx' y' hy' e').trans hya.swap)
  rw [join_swap hn hm h1, join_swap (sorted_join _ _ hm hn) hl h2, join_three hl hm hn]
end Go.Proofs.YtckibimganmklaaDoor
