/-
  Joins of entries in any order, of entries of one number that are alike: mathematics.
  Entries that come and go by acts, in any order: mathematics.
-/
import Derived.Test.YtcpjgohclncbkaaDoorEnMaths
namespace Go.Proofs.YtcpjgohclncbkaaDoor
open Go.RowKit
set_option maxRecDepth 100000

theorem joinV_swap (A B : Nat → Nat) : joinV A B = joinV B A := by funext i; unfold joinV; omega
theorem joinV_three (A B C : Nat → Nat) : joinV (joinV A B) C = joinV A (joinV B C) := by funext i; unfold joinV; omega
theorem joinV_same (A : Nat → Nat) : joinV A A = A := by funext i; unfold joinV; omega
/-- Alike but for what they were deleted by. -/
def AlikeX (x y : Ent) : Prop := x.rep = y.rep ∧ x.seq = y.seq ∧ x.drep = y.drep ∧ x.dseq = y.dseq ∧ x.data = y.data ∧ x.orep = y.orep ∧ x.oseq = y.oseq
def AlikeE (L : List Ent) : Prop := ∀ x ∈ L, ∀ y ∈ L, sameI x.rep x.seq y.rep y.seq = true → AlikeX x y
theorem melt_swap {x y : Ent} (h : AlikeX x y) : meltE x y = meltE y x := by
  obtain ⟨a1, a2, a3, a4, a5, a6, a7, a8⟩ := x
  obtain ⟨b1, b2, b3, b4, b5, b6, b7, b8⟩ := y
  obtain ⟨h1, h2, h3, h4, h5, h6, h7⟩ := h
  dsimp only at h1 h2 h3 h4 h5 h6 h7
  subst h1 h2 h3 h4 h5 h6 h7
  unfold meltE
  dsimp only
  rw [joinV_swap]
theorem melt_three (x y z : Ent) : meltE (meltE x y) z = meltE x (meltE y z) := by unfold meltE; dsimp only; rw [joinV_three]
theorem melt_same (x : Ent) : meltE x x = x := by unfold meltE; rw [joinV_same]
theorem both_three (a b c : Option Ent) : bothE (bothE a b) c = bothE a (bothE b c) := by
  cases a <;> cases b <;> cases c <;> simp [bothE, melt_three]
theorem both_again (a b : Option Ent) : bothE (bothE a b) b = bothE a b := by
  cases a with
  | none => cases b <;> simp [bothE, melt_same]
  | some x => cases b <;> simp [bothE, melt_three, melt_same]
theorem join_three {L M N : List Ent} (hl : SortedE L) (hm : SortedE M) (hn : SortedE N) : joinE (joinE L M) N = joinE L (joinE M N) :=
  getE_ext (sorted_join _ _ (sorted_join _ _ hl hm) hn) (sorted_join _ _ hl (sorted_join _ _ hm hn)) fun r s => by
    rw [getE_join r s _ _ (sorted_join _ _ hl hm) hn, getE_join r s _ _ hl hm, getE_join r s _ _ hl (sorted_join _ _ hm hn), getE_join r s _ _ hm hn, both_three]
theorem join_again {L M : List Ent} (hl : SortedE L) (hm : SortedE M) : joinE (joinE L M) M = joinE L M :=
  getE_ext (sorted_join _ _ (sorted_join _ _ hl hm) hm) (sorted_join _ _ hl hm) fun r s => by
    rw [getE_join r s _ _ (sorted_join _ _ hl hm) hm, getE_join r s _ _ hl hm, both_again]
theorem both_swap {L M : List Ent} (h : AlikeE (L ++ M)) (r : Int) (s : Nat) : bothE (getE L r s) (getE M r s) = bothE (getE M r s) (getE L r s) := by
  cases hx : getE L r s with
  | none => rw [both_none]; rfl
  | some x =>
    cases hy : getE M r s with
    | none => rfl
    | some y =>
      obtain ⟨h1, h2, h3⟩ := getE_some hx
      obtain ⟨h4, h5, h6⟩ := getE_some hy
      show some _ = some _
      rw [melt_swap (h x (by simp [h1]) y (by simp [h4]) (sameI_eq.2 ⟨h2.trans h5.symm, h3.trans h6.symm⟩))]
theorem join_swap {L M : List Ent} (hl : SortedE L) (hm : SortedE M) (h : AlikeE (L ++ M)) : joinE L M = joinE M L :=
  getE_ext (sorted_join _ _ hl hm) (sorted_join _ _ hm hl) fun r s => by
    rw [getE_join r s _ _ hl hm, getE_join r s _ _ hm hl, both_swap h]
/-- What stands in a join is alike to one of the two. -/
theorem join_from : ∀ (L M : List Ent) (z : Ent), z ∈ joinE L M → ∃ x, (x ∈ L ∨ x ∈ M) ∧ AlikeX z x := by
  intro L M z hz
  have := join_all (p := fun z => ∃ x, (x ∈ L ∨ x ∈ M) ∧ AlikeX z x) (fun x y hx _ => hx) L M (fun x hx => ⟨x, .inl hx, rfl, rfl, rfl, rfl, rfl, rfl, rfl⟩) (fun x hx => ⟨x, .inr hx, rfl, rfl, rfl, rfl, rfl, rfl, rfl⟩) z hz
  exact this
theorem AlikeX.trans {x y z : Ent} (h : AlikeX x y) (g : AlikeX y z) : AlikeX x z := by
  obtain ⟨h1, h2, h3, h4, h5, h6, h7⟩ := h
  obtain ⟨g1, g2, g3, g4, g5, g6, g7⟩ := g
  exact ⟨h1.trans g1, h2.trans g2, h3.trans g3, h4.trans g4, h5.trans g5, h6.trans g6, h7.trans g7⟩
theorem AlikeX.swap {x y : Ent} (h : AlikeX x y) : AlikeX y x := by
  obtain ⟨h1, h2, h3, h4, h5, h6, h7⟩ := h
  exact ⟨h1.symm, h2.symm, h3.symm, h4.symm, h5.symm, h6.symm, h7.symm⟩
/-- The other order of three. -/
theorem join_turned {L M N : List Ent} (hl : SortedE L) (hm : SortedE M) (hn : SortedE N) (h : AlikeE (L ++ M ++ N)) : joinE (joinE N M) L = joinE (joinE L M) N := by
  have h1 : AlikeE (N ++ M) := fun x hx y hy => h x (by simp at hx ⊢; rcases hx with hx | hx <;> simp [hx]) y (by simp at hy ⊢; rcases hy with hy | hy <;> simp [hy])
  have h2 : AlikeE (joinE M N ++ L) := by
    intro x hx y hy e
    have from_ : ∀ z, z ∈ joinE M N ++ L → ∃ x, x ∈ L ++ M ++ N ∧ AlikeX z x := by
      intro z hz
      rcases List.mem_append.1 hz with hz | hz
      · obtain ⟨x, hx, hq⟩ := join_from M N z hz
        exact ⟨x, by rcases hx with hx | hx <;> simp [hx], hq⟩
      · exact ⟨z, by simp [hz], rfl, rfl, rfl, rfl, rfl, rfl, rfl⟩
    obtain ⟨x', hx', hxa⟩ := from_ x hx
    obtain ⟨y', hy', hya⟩ := from_ y hy
    have e' : sameI x'.rep x'.seq y'.rep y'.seq = true := by
      rw [sameI_eq] at e ⊢
      exact ⟨hxa.1.symm.trans (e.1.trans hya.1), hxa.2.1.symm.trans (e.2.trans hya.2.1)⟩
    exact hxa.trans ((h x' hx' y' hy' e').trans hya.swap)
  rw [join_swap hn hm h1, join_swap (sorted_join _ _ hm hn) hl h2, join_three hl hm hn]
end Go.Proofs.YtcpjgohclncbkaaDoor

namespace Go.Proofs.YtcpjgohclncbkaaDoor
open Go.RowKit
set_option maxRecDepth 100000

structure EAct where
  e : Ent
  goes : Bool
  rep : Int
  seq : Nat
/-- What an act does. -/
def doE (L : List Ent) (x : EAct) : List Ent := if x.goes = true then killE (addE L x.e) x.e.rep x.e.seq x.rep x.seq else addE L x.e
def actE (x : EAct) : Ent := if x.goes = true then diedE x.e x.rep x.seq else x.e
def oneA (x : EAct) (r : Int) (s : Nat) : Option Ent := if sameI x.e.rep x.e.seq r s = true then some (actE x) else none
def AlikeA (A : List EAct) : Prop := ∀ x ∈ A, ∀ y ∈ A, sameI x.e.rep x.e.seq y.e.rep y.e.seq = true → AlikeX x.e y.e
def ZeroA (A : List EAct) : Prop := ∀ x ∈ A, x.e.by_ = zeroV
def doesE (A : List EAct) : List Ent := A.foldl doE []
theorem with_join (V : Nat → Nat) (r : Int) (s : Nat) : joinV V (withV zeroV r s) = withV V r s := by
  funext i
  unfold joinV withV updV zeroV
  by_cases h : repV r = true
  · rw [if_pos h, if_pos h]
    by_cases e : i = (r - 1).toNat
    · rw [if_pos e, if_pos e, e]; omega
    · rw [if_neg e, if_neg e]; omega
  · rw [if_neg h, if_neg h]
    omega
theorem join_zero (V : Nat → Nat) : joinV V zeroV = V := by funext i; unfold joinV zeroV; omega
theorem sorted_do {L : List Ent} (hs : SortedE L) (x : EAct) : SortedE (doE L x) := by
  unfold doE
  split
  · exact sorted_kill (sorted_add hs _) _ _ _ _
  · exact sorted_add hs _
theorem getE_do {L : List Ent} {x : EAct} (hz : x.e.by_ = zeroV) (r : Int) (s : Nat) : getE (doE L x) r s = bothE (getE L r s) (oneA x r s) := by
  unfold doE oneA actE
  by_cases hg : x.goes = true
  · rw [if_pos hg, if_pos hg, getE_kill, getE_add]
    by_cases hs : sameI x.e.rep x.e.seq r s = true
    · rw [if_pos hs, if_pos hs, Option.map_some, if_pos hs]
      cases h : getE L r s with
      | none => rfl
      | some z =>
        show some _ = some _
        unfold meltE diedE
        dsimp only [Option.getD]
        rw [hz, with_join]
    · rw [if_neg hs, if_neg hs, both_none]
      cases h : getE L r s with
      | none => rfl
      | some z => rw [Option.map_some, if_neg hs]
  · rw [if_neg hg, if_neg hg, getE_add]
    by_cases hs : sameI x.e.rep x.e.seq r s = true
    · rw [if_pos hs, if_pos hs]
      cases h : getE L r s with
      | none => rfl
      | some z =>
        show some _ = some _
        unfold meltE
        dsimp only [Option.getD]
        rw [hz, join_zero]
    · rw [if_neg hs, if_neg hs, both_none]
theorem sorted_does_from (A : List EAct) : ∀ {L : List Ent}, SortedE L → SortedE (A.foldl doE L) := by
  induction A with
  | nil => intro L h; exact h
  | cons x A ih => intro L h; exact ih (sorted_do h x)
theorem sorted_does (A : List EAct) : SortedE (doesE A) := sorted_does_from A sorted_nil
theorem getE_does_from (r : Int) (s : Nat) (A : List EAct) (hz : ZeroA A) : ∀ L : List Ent, getE (A.foldl doE L) r s = A.foldl (fun o x => bothE o (oneA x r s)) (getE L r s) := by
  induction A with
  | nil => intro L; rfl
  | cons x A ih =>
    intro L
    rw [List.foldl_cons, List.foldl_cons, ih (fun y hy => hz y (by simp [hy])), getE_do (hz x (by simp))]
theorem fold_both (r : Int) (s : Nat) (A : List EAct) : ∀ o : Option Ent, A.foldl (fun o x => bothE o (oneA x r s)) o = bothE o (A.foldl (fun o x => bothE o (oneA x r s)) none) := by
  induction A with
  | nil => intro o; exact (both_none o).symm
  | cons x A ih =>
    intro o
    rw [List.foldl_cons, List.foldl_cons, ih, ih (bothE none _), ← both_three]
    rfl
theorem getE_does (r : Int) (s : Nat) {A : List EAct} (hz : ZeroA A) : getE (doesE A) r s = A.foldl (fun o x => bothE o (oneA x r s)) none := by
  unfold doesE
  rw [getE_does_from r s A hz]
  rfl
theorem alike_act {x y : EAct} (h : AlikeX x.e y.e) : AlikeX (actE x) (actE y) := by
  unfold actE
  split <;> split <;> exact h
theorem does_perm {A B : List EAct} (hp : A.Perm B) (hz : ZeroA A) (ha : AlikeA A) : doesE A = doesE B := by
  refine getE_ext (sorted_does A) (sorted_does B) fun r s => ?_
  rw [getE_does r s hz, getE_does r s (fun x hx => hz x (hp.mem_iff.2 hx))]
  refine hp.foldl_eq' (fun x hx y hy z => ?_) none
  rw [both_three, both_three]
  congr 1
  unfold oneA
  by_cases h1 : sameI x.e.rep x.e.seq r s = true
  · by_cases h2 : sameI y.e.rep y.e.seq r s = true
    · rw [if_pos h1, if_pos h2]
      show some _ = some _
      rw [melt_swap]
      refine alike_act (ha x hx y hy ?_)
      obtain ⟨a1, a2⟩ := sameI_eq.1 h1
      obtain ⟨b1, b2⟩ := sameI_eq.1 h2
      exact sameI_eq.2 ⟨a1.trans b1.symm, a2.trans b2.symm⟩
    · rw [if_pos h1, if_neg h2]; rfl
  · rw [if_neg h1, both_none]
    rfl
theorem join_does {A B : List EAct} (ha : ZeroA A) (hb : ZeroA B) : joinE (doesE A) (doesE B) = doesE (A ++ B) := by
  have hab : ZeroA (A ++ B) := fun x hx => by
    rcases List.mem_append.1 hx with h | h
    · exact ha x h
    · exact hb x h
  refine getE_ext (sorted_join _ _ (sorted_does A) (sorted_does B)) (sorted_does _) fun r s => ?_
  rw [getE_join r s _ _ (sorted_does A) (sorted_does B), getE_does r s ha, getE_does r s hb, getE_does r s hab, List.foldl_append, fold_both r s B (A.foldl (fun o x => bothE o (oneA x r s)) none)]
theorem doesE_snoc (A : List EAct) (x : EAct) : doesE (A ++ [x]) = doE (doesE A) x := by unfold doesE; rw [List.foldl_append]; rfl
theorem does_take {A : List EAct} {i : Nat} (h : i < A.length) : doesE (A.take (i + 1)) = doE (doesE (A.take i)) A[i] := by rw [List.take_succ_eq_append_getElem h, doesE_snoc]
theorem add_length (L : List Ent) (X : Ent) : (addE L X).length ≤ L.length + 1 := by
  unfold addE
  split
  · omega
  · unfold insE
    rw [List.length_append, List.length_cons, List.length_take, List.length_drop]
    omega
theorem do_length (L : List Ent) (x : EAct) : (doE L x).length ≤ L.length + 1 := by
  unfold doE
  split
  · rw [kill_length]; exact add_length _ _
  · exact add_length _ _
theorem does_length_from (A : List EAct) : ∀ L : List Ent, (A.foldl doE L).length ≤ L.length + A.length := by
  induction A with
  | nil => intro L; exact Nat.le_refl _
  | cons x A ih =>
    intro L
    have h1 := ih (doE L x)
    have h2 := do_length L x
    rw [List.foldl_cons, List.length_cons]
    omega
theorem does_length (A : List EAct) : (doesE A).length ≤ A.length := by
  have := does_length_from A []
  simpa [doesE] using this
theorem add_data {L : List Ent} {X : Ent} {n : Nat} (hl : ∀ x ∈ L, x.data.length ≤ n) (hX : X.data.length ≤ n) : ∀ x ∈ addE L X, x.data.length ≤ n := by
  unfold addE
  split
  · exact hl
  · intro x hx
    rcases mem_insE.1 hx with rfl | h
    · exact hX
    · exact hl x h
theorem kill_data {L : List Ent} {r : Int} {s : Nat} {r' : Int} {s' n : Nat} (hl : ∀ x ∈ L, x.data.length ≤ n) : ∀ x ∈ killE L r s r' s', x.data.length ≤ n := by
  intro x hx
  unfold killE at hx
  obtain ⟨y, hy, rfl⟩ := List.mem_map.1 hx
  split
  · exact hl y hy
  · exact hl y hy
theorem do_data {L : List Ent} {x : EAct} {n : Nat} (hl : ∀ x ∈ L, x.data.length ≤ n) (hX : x.e.data.length ≤ n) : ∀ y ∈ doE L x, y.data.length ≤ n := by
  unfold doE
  split
  · exact kill_data (add_data hl hX)
  · exact add_data hl hX
theorem does_data_from {n : Nat} (A : List EAct) : ∀ L : List Ent, (∀ x ∈ L, x.data.length ≤ n) → (∀ x ∈ A, x.e.data.length ≤ n) → ∀ y ∈ A.foldl doE L, y.data.length ≤ n := by
  induction A with
  | nil => intro L h _; exact h
  | cons x A ih => intro L h h'; exact ih _ (do_data h (h' x (by simp))) fun y hy => h' y (by simp [hy])
theorem does_data {n : Nat} {A : List EAct} (h : ∀ x ∈ A, x.e.data.length ≤ n) : ∀ y ∈ doesE A, y.data.length ≤ n := does_data_from A [] (fun x hx => by simp at hx) h
/-- The acts the other way round, and turned. -/
def turnA (A : List EAct) (k : Nat) : List EAct := A.reverse.drop k ++ A.reverse.take k
theorem turn_perm (A : List EAct) (k : Nat) : A.Perm (turnA A k) := by
  unfold turnA
  refine (List.Perm.trans (List.perm_append_comm) ?_).symm
  rw [List.take_append_drop]
  exact List.reverse_perm A
theorem turn_length (A : List EAct) (k : Nat) : (turnA A k).length = A.length := (turn_perm A k).length_eq.symm
theorem turn_get {A : List EAct} {k i : Nat} (hk : k < A.length) (hi : i < A.length) (h : i < (turnA A k).length) (h2 : A.length - 1 - (i + k) % A.length < A.length) : (turnA A k)[i] = A[A.length - 1 - (i + k) % A.length] := by
  rw [List.getElem_of_eq (show turnA A k = A.reverse.drop k ++ A.reverse.take k from rfl) h]
  by_cases hlt : i + k < A.length
  · rw [List.getElem_append_left (by rw [List.length_drop, List.length_reverse]; omega), List.getElem_drop, List.getElem_reverse]
    congr 1
    rw [Nat.mod_eq_of_lt hlt]
    omega
  · rw [List.getElem_append_right (by rw [List.length_drop, List.length_reverse]; omega), List.getElem_take, List.getElem_reverse]
    congr 1
    have e : (i + k) % A.length = i + k - A.length := by rw [Nat.mod_eq_sub_mod (by omega), Nat.mod_eq_of_lt (by omega)]
    rw [e, List.length_drop, List.length_reverse]
    omega
/-- The same acts in any order, in one set or in two that are joined, come to the same entries. -/
theorem meets (A : List EAct) (k h : Nat) (hz : ZeroA A) (ha : AlikeA A) :
    doesE (turnA A k) = doesE A ∧ joinE (doesE (A.take h)) (doesE (A.drop h)) = doesE A ∧ joinE (doesE (A.drop h)) (doesE (A.take h)) = doesE A ∧ joinE (doesE A) (doesE (A.take h)) = doesE A := by
  have z1 : ZeroA (A.take h) := fun x hx => hz x (List.mem_of_mem_take hx)
  have z2 : ZeroA (A.drop h) := fun x hx => hz x (List.mem_of_mem_drop hx)
  have e1 : joinE (doesE (A.take h)) (doesE (A.drop h)) = doesE A := by rw [join_does z1 z2, List.take_append_drop]
  have e2 : joinE (doesE (A.drop h)) (doesE (A.take h)) = doesE A := by
    rw [join_does z2 z1]
    refine (does_perm ?_ hz ha).symm
    refine List.Perm.trans ?_ List.perm_append_comm
    rw [List.take_append_drop]
  refine ⟨(does_perm (turn_perm A k) hz ha).symm, e1, e2, ?_⟩
  rw [← e2, join_again (sorted_does _) (sorted_does _)]
end Go.Proofs.YtcpjgohclncbkaaDoor
