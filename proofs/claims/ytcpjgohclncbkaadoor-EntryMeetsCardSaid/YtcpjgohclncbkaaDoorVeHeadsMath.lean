/-
  What VersionHeads asks of lists of versions, as mathematics: one that comes in the place of all latest ones; two of them, in either order.
-/
import Derived.Test.YtcpjgohclncbkaaDoorVeAddMath
namespace Go.Proofs.YtcpjgohclncbkaaDoor
open Go.RowKit
set_option maxRecDepth 100000

theorem sortedV_iff {L : List Ver} : SortedV L ↔ L.Pairwise (fun x y => lessV x.rep x.seq y.rep y.seq = true) := by
  unfold SortedV
  rw [List.pairwise_iff_getElem]
theorem lessV_self (r : Int) (s : Nat) : lessV r s r s = false := by unfold lessV; simp
/-- Two rising lists with the same elements are one. -/
theorem sorted_ext : ∀ (L M : List Ver), L.Pairwise (fun x y => lessV x.rep x.seq y.rep y.seq = true) → M.Pairwise (fun x y => lessV x.rep x.seq y.rep y.seq = true) → (∀ x, x ∈ L ↔ x ∈ M) → L = M
  | [], [], _, _, _ => rfl
  | [], y :: M, _, _, h => by have := (h y).2 (by simp); simp at this
  | x :: L, [], _, _, h => by have := (h x).1 (by simp); simp at this
  | x :: L, y :: M, hl, hm, h => by
    have hl' := List.pairwise_cons.1 hl
    have hm' := List.pairwise_cons.1 hm
    have hxy : x = y := by
      rcases List.mem_cons.1 ((h x).1 (by simp)) with e | hx
      · exact e
      rcases List.mem_cons.1 ((h y).2 (by simp)) with e | hy
      · exact e.symm
      have h1 := lessV_asymm (hm'.1 x hx)
      rw [hl'.1 y hy] at h1
      cases h1
    subst hxy
    congr 1
    refine sorted_ext L M hl'.2 hm'.2 fun z => ⟨fun hz => ?_, fun hz => ?_⟩
    · rcases List.mem_cons.1 ((h z).1 (List.mem_cons_of_mem _ hz)) with e | hz'
      · subst e
        have h1 := hl'.1 z hz
        rw [lessV_self] at h1
        cases h1
      · exact hz'
    · rcases List.mem_cons.1 ((h z).2 (List.mem_cons_of_mem _ hz)) with e | hz'
      · subst e
        have h1 := hm'.1 z hz
        rw [lessV_self] at h1
        cases h1
      · exact hz'
theorem mem_insV {M : List Ver} {k : Nat} {X z : Ver} : z ∈ insV M k X ↔ z = X ∨ z ∈ M := by
  unfold insV
  rw [List.mem_append, List.mem_cons]
  have e : z ∈ M ↔ z ∈ M.take k ∨ z ∈ M.drop k := by rw [← List.mem_append, List.take_append_drop]
  rw [e]
  exact ⟨fun h => by rcases h with h | h | h <;> simp [h], fun h => by rcases h with h | h | h <;> simp [h]⟩
theorem map_insV (f : Ver → Ver) (M : List Ver) (k : Nat) (X : Ver) : (insV M k X).map f = insV (M.map f) k (f X) := by
  unfold insV
  rw [List.map_append, List.map_cons, List.map_take, List.map_drop]
theorem filter_insV {M : List Ver} (k : Nat) {X : Ver} (hX : headV X = true) (h : ∀ y ∈ M, headV y = false) : (insV M k X).filter headV = [X] := by
  unfold insV
  have e1 : (M.take k).filter headV = [] := List.filter_eq_nil_iff.2 fun y hy => by rw [h y (List.mem_of_mem_take hy)]; simp
  have e2 : (M.drop k).filter headV = [] := List.filter_eq_nil_iff.2 fun y hy => by rw [h y (List.mem_of_mem_drop hy)]; simp
  rw [List.filter_append, List.filter_cons, if_pos hX, e1, e2]
  rfl
theorem filter_insV_length (M : List Ver) (k : Nat) {X : Ver} (hX : headV X = true) : ((insV M k X).filter headV).length = (M.filter headV).length + 1 := by
  unfold insV
  rw [List.filter_append, List.filter_cons, if_pos hX, List.length_append, List.length_cons]
  have e : (M.filter headV).length = ((M.take k).filter headV).length + ((M.drop k).filter headV).length := by rw [← List.length_append, ← List.filter_append, List.take_append_drop]
  omega

theorem withV_twice (V : Nat → Nat) (r : Int) (s : Nat) : withV (withV V r s) r s = withV V r s := by
  unfold withV
  by_cases h : repV r = true
  · simp only [if_pos h]
    funext i
    unfold updV
    by_cases e : i = (r - 1).toNat
    · simp only [if_pos e, if_true]; omega
    · simp only [if_neg e]
  · simp only [if_neg h]
theorem withV_comm (V : Nat → Nat) (r : Int) (s : Nat) (r' : Int) (s' : Nat) : withV (withV V r s) r' s' = withV (withV V r' s') r s := by
  unfold withV
  by_cases h : repV r = true
  · by_cases h' : repV r' = true
    · simp only [if_pos h, if_pos h']
      funext i
      unfold updV
      by_cases e : i = (r - 1).toNat
      · by_cases e' : i = (r' - 1).toNat
        · simp only [← e, ← e', if_true]; omega
        · have e2 : ¬ (r - 1).toNat = (r' - 1).toNat := by omega
          have e3 : ¬ (r' - 1).toNat = (r - 1).toNat := by omega
          simp only [if_pos e, if_neg e', if_neg e2]
      · by_cases e' : i = (r' - 1).toNat
        · have e3 : ¬ (r' - 1).toNat = (r - 1).toNat := by omega
          simp only [if_neg e, if_pos e', if_neg e3]
        · simp only [if_neg e, if_neg e']
    · simp only [if_pos h, if_neg h']
  · by_cases h' : repV r' = true
    · simp only [if_neg h, if_pos h']
    · simp only [if_neg h, if_neg h']
theorem byV_if (bs : List (Int × Nat)) (x : Ver) (r : Int) (s : Nat) : byV bs x r s = if (bs.any fun p => sameI p.1 p.2 x.rep x.seq) = true then withV x.by_ r s else x.by_ := by
  unfold byV
  generalize x.by_ = V
  induction bs generalizing V with
  | nil => simp
  | cons p bs ih =>
    rw [List.foldl_cons, ih, List.any_cons]
    cases hp : sameI p.1 p.2 x.rep x.seq with
    | true =>
      simp only [if_true, Bool.true_or]
      rw [withV_twice]
      split <;> rfl
    | false =>
      simp only [Bool.false_or]
      rfl
/-- The numbers of the latest ones. -/
def idsH (L : List Ver) : List (Int × Nat) := (L.filter headV).map fun x => (x.rep, x.seq)
theorem withV_head {x : Ver} {r : Int} {s : Nat} (hr : repV r = true) (hs : 1 ≤ s) : headV { x with by_ := withV x.by_ r s } = false := by
  unfold headV
  rw [← Bool.not_eq_true, eqV_iff]
  intro h
  have hb := repV_iff.1 hr
  have := h (r - 1).toNat (by omega)
  dsimp only at this
  unfold withV updV zeroV at this
  rw [if_pos hr, if_pos rfl] at this
  omega
theorem added_none {L : List Ver} {r : Int} {s : Nat} (hr : repV r = true) (hs : 1 ≤ s) : ∀ y ∈ addedV L (idsH L) r s, headV y = false := by
  intro y hy
  unfold addedV at hy
  obtain ⟨x, hx, rfl⟩ := List.mem_map.1 hy
  rw [byV_if]
  by_cases hh : headV x = true
  · have : ((idsH L).any fun p => sameI p.1 p.2 x.rep x.seq) = true := by
      rw [List.any_eq_true]
      exact ⟨(x.rep, x.seq), List.mem_map.2 ⟨x, List.mem_filter.2 ⟨hx, hh⟩, rfl⟩, sameI_eq.2 ⟨rfl, rfl⟩⟩
    rw [if_pos this]
    exact withV_head hr hs
  · split
    · exact withV_head hr hs
    · simpa using hh
theorem pos_before {L : List Ver} {r : Int} {s : Nat} {j : Nat} (hj : j < L.length) : (j < posV L r s → lessV L[j].rep L[j].seq r s = true) ∧ (j = posV L r s → lessV L[j].rep L[j].seq r s = false) := by
  unfold posV
  induction L generalizing j with
  | nil => simp at hj
  | cons a L ih =>
    rw [List.takeWhile_cons]
    by_cases h : lessV a.rep a.seq r s = true
    · rw [if_pos h]
      cases j with
      | zero => exact ⟨fun _ => h, fun e => by simp at e⟩
      | succ j =>
        have := ih (j := j) (by simpa using hj)
        exact ⟨fun e => this.1 (by simpa using e), fun e => this.2 (by simpa using e)⟩
    · rw [if_neg h]
      cases j with
      | zero => exact ⟨fun e => by simp at e, fun _ => by simpa using h⟩
      | succ j => exact ⟨fun e => by simp at e, fun e => by simp at e⟩
theorem sorted_ins {M : List Ver} {X : Ver} (hs : SortedV M) (ht : thereV M X.rep X.seq = false) : SortedV (insV M (posV M X.rep X.seq) X) := by
  have hs' := sortedV_iff.1 hs
  rw [sortedV_iff]
  have hne : ∀ x ∈ M, sameI x.rep x.seq X.rep X.seq = false := by
    unfold thereV at ht
    rw [List.any_eq_false] at ht
    exact fun x hx => by simpa using ht x hx
  have hlt : ∀ x ∈ M.take (posV M X.rep X.seq), lessV x.rep x.seq X.rep X.seq = true := by
    intro x hx
    obtain ⟨i, hi, rfl⟩ := List.getElem_of_mem hx
    rw [List.getElem_take]
    rw [List.length_take] at hi
    exact (pos_before (r := X.rep) (s := X.seq) (by omega)).1 (by omega)
  have hgt : ∀ x ∈ M.drop (posV M X.rep X.seq), lessV X.rep X.seq x.rep x.seq = true := by
    intro x hx
    obtain ⟨i, hi, rfl⟩ := List.getElem_of_mem hx
    rw [List.getElem_drop]
    rw [List.length_drop] at hi
    have hk : posV M X.rep X.seq < M.length := by omega
    have h0 : lessV X.rep X.seq M[posV M X.rep X.seq].rep M[posV M X.rep X.seq].seq = true := by
      have h1 := (pos_before (r := X.rep) (s := X.seq) hk).2 rfl
      have h2 := hne _ (List.getElem_mem hk)
      rw [lessV_same, h1] at h2
      simpa using h2
    cases i with
    | zero => exact h0
    | succ i => exact lessV_trans h0 (hs _ _ hk (by omega) (by omega))
  unfold insV
  rw [List.pairwise_append]
  refine ⟨hs'.sublist (List.take_sublist _ _), List.pairwise_cons.2 ⟨hgt, hs'.sublist (List.drop_sublist _ _)⟩, fun x hx y hy => ?_⟩
  rcases List.mem_cons.1 hy with rfl | hy
  · exact hlt x hx
  · exact lessV_trans (hlt x hx) (hgt y hy)
theorem sorted_added {L : List Ver} (hs : SortedV L) (bs : List (Int × Nat)) (r : Int) (s : Nat) : SortedV (addedV L bs r s) := by
  intro i j hi hj hij
  rw [addedV_length] at hi hj
  rw [addedV_get _ _ _ _ _ _ hi, addedV_get _ _ _ _ _ _ hj]
  exact hs i j hi hj hij
theorem pos_added (L : List Ver) (bs : List (Int × Nat)) (r : Int) (s : Nat) (r' : Int) (s' : Nat) : posV (addedV L bs r s) r' s' = posV L r' s' := by
  unfold posV addedV
  induction L with
  | nil => rfl
  | cons x L ih =>
    rw [List.map_cons, List.takeWhile_cons, List.takeWhile_cons]
    dsimp only
    split
    · rw [List.length_cons, List.length_cons, ih]
    · rfl
theorem there_added (L : List Ver) (bs : List (Int × Nat)) (r : Int) (s : Nat) (r' : Int) (s' : Nat) : thereV (addedV L bs r s) r' s' = thereV L r' s' := by
  unfold thereV addedV
  rw [List.any_map]
  rfl
theorem there_ins {M : List Ver} {k : Nat} {X : Ver} (r : Int) (s : Nat) : thereV (insV M k X) r s = (sameI X.rep X.seq r s || thereV M r s) := by
  rw [Bool.eq_iff_iff, Bool.or_eq_true]
  unfold thereV
  rw [List.any_eq_true, List.any_eq_true]
  constructor
  · rintro ⟨z, hz, h⟩
    rcases mem_insV.1 hz with rfl | hz
    · exact .inl h
    · exact .inr ⟨z, hz, h⟩
  · rintro (h | ⟨z, hz, h⟩)
    · exact ⟨X, mem_insV.2 (.inl rfl), h⟩
    · exact ⟨z, mem_insV.2 (.inr hz), h⟩
theorem ids_there (L : List Ver) : ((idsH L).all fun p => thereV L p.1 p.2) = true := by
  rw [List.all_eq_true]
  intro p hp
  obtain ⟨x, hx, rfl⟩ := List.mem_map.1 hp
  unfold thereV
  rw [List.any_eq_true]
  exact ⟨x, (List.mem_filter.1 hx).1, sameI_eq.2 ⟨rfl, rfl⟩⟩
/-- What one that is new comes to, in the place of all latest ones. -/
def putV (L : List Ver) (H : List (Int × Nat)) (A : Ver) : List Ver := insV (addedV L H A.rep A.seq) (posV L A.rep A.seq) A
theorem add_new {L : List Ver} {H : List (Int × Nat)} {A : Ver} (hH : (H.all fun p => thereV L p.1 p.2) = true) (hA : thereV L A.rep A.seq = false) : addV L H A = (putV L H A, 0) := by
  unfold addV putV
  rw [if_neg (by rw [hH]; simp), if_neg (by rw [hA]; simp)]
theorem one_heads {L : List Ver} {A : Ver} (hr : repV A.rep = true) (hs : 1 ≤ A.seq) (hA : headV A = true) : (putV L (idsH L) A).filter headV = [A] := filter_insV _ hA (added_none hr hs)
theorem one_sorted {L : List Ver} {H : List (Int × Nat)} {A : Ver} (hs : SortedV L) (hA : thereV L A.rep A.seq = false) : SortedV (putV L H A) := by
  have := sorted_ins (M := addedV L H A.rep A.seq) (X := A) (sorted_added hs _ _ _) (by rw [there_added]; exact hA)
  rw [pos_added] at this
  exact this
theorem one_there {L : List Ver} {H : List (Int × Nat)} {A : Ver} (r : Int) (s : Nat) : thereV (putV L H A) r s = (sameI A.rep A.seq r s || thereV L r s) := by
  unfold putV
  rw [there_ins, there_added]
theorem one_length (L : List Ver) (H : List (Int × Nat)) (A : Ver) : (putV L H A).length = L.length + 1 := by
  unfold putV
  rw [insV_length, addedV_length]
/-- The one that came is no version of these numbers. -/
theorem by_out {L : List Ver} {H : List (Int × Nat)} {A : Ver} (hH : (H.all fun p => thereV L p.1 p.2) = true) (hA : thereV L A.rep A.seq = false) (r : Int) (s : Nat) : byV H A r s = A.by_ := by
  rw [byV_if, if_neg]
  intro h
  rw [List.any_eq_true] at h
  obtain ⟨p, hp, h⟩ := h
  rw [List.all_eq_true] at hH
  have := hH p hp
  rw [sameI_eq] at h
  rw [h.1, h.2, hA] at this
  cases this
theorem two_mem {L : List Ver} {H : List (Int × Nat)} {A B : Ver} (hH : (H.all fun p => thereV L p.1 p.2) = true) (hA : thereV L A.rep A.seq = false) (z : Ver) :
    z ∈ putV (putV L H A) H B ↔ z = A ∨ z = B ∨ ∃ x ∈ L, z = { x with by_ := if (H.any fun p => sameI p.1 p.2 x.rep x.seq) = true then withV (withV x.by_ A.rep A.seq) B.rep B.seq else x.by_ } := by
  have e1 : ∀ x : Ver, ({ ({ x with by_ := byV H x A.rep A.seq } : Ver) with by_ := byV H { x with by_ := byV H x A.rep A.seq } B.rep B.seq } : Ver) = { x with by_ := if (H.any fun p => sameI p.1 p.2 x.rep x.seq) = true then withV (withV x.by_ A.rep A.seq) B.rep B.seq else x.by_ } := by
    intro x
    congr 1
    rw [byV_if]
    dsimp only
    rw [byV_if]
    split <;> rfl
  have e2 : ({ A with by_ := byV H A B.rep B.seq } : Ver) = A := by rw [by_out hH hA]
  show z ∈ insV (addedV (putV L H A) H B.rep B.seq) _ B ↔ _
  rw [mem_insV]
  unfold addedV
  rw [List.mem_map]
  constructor
  · rintro (rfl | ⟨y, hy, rfl⟩)
    · exact .inr (.inl rfl)
    · rcases mem_insV.1 hy with rfl | hy
      · exact .inl e2
      · obtain ⟨x, hx, rfl⟩ := List.mem_map.1 hy
        exact .inr (.inr ⟨x, hx, e1 x⟩)
  · rintro (rfl | rfl | ⟨x, hx, rfl⟩)
    · exact .inr ⟨z, mem_insV.2 (.inl rfl), e2⟩
    · exact .inl rfl
    · exact .inr ⟨_, mem_insV.2 (.inr (List.mem_map.2 ⟨x, hx, rfl⟩)), e1 x⟩
/-- Two that come in one's place apart from each other, in either order. -/
theorem two_either {L : List Ver} {H : List (Int × Nat)} {A B : Ver} (hs : SortedV L) (hH : (H.all fun p => thereV L p.1 p.2) = true) (hA : thereV L A.rep A.seq = false) (hB : thereV L B.rep B.seq = false) (hne : sameI A.rep A.seq B.rep B.seq = false) :
    putV (putV L H A) H B = putV (putV L H B) H A := by
  have hne' : sameI B.rep B.seq A.rep A.seq = false := by
    rw [← Bool.not_eq_true, sameI_eq] at hne ⊢
    exact fun h => hne ⟨h.1.symm, h.2.symm⟩
  refine sorted_ext _ _ (sortedV_iff.1 (one_sorted (one_sorted hs hA) (by rw [one_there, hne, hB]; rfl))) (sortedV_iff.1 (one_sorted (one_sorted hs hB) (by rw [one_there, hne', hA]; rfl))) fun z => ?_
  rw [two_mem hH hA, two_mem hH hB]
  constructor
  · rintro (h | h | ⟨x, hx, h⟩)
    · exact .inr (.inl h)
    · exact .inl h
    · refine .inr (.inr ⟨x, hx, ?_⟩)
      rw [h, withV_comm]
  · rintro (h | h | ⟨x, hx, h⟩)
    · exact .inr (.inl h)
    · exact .inl h
    · refine .inr (.inr ⟨x, hx, ?_⟩)
      rw [h, withV_comm]
theorem two_heads {L : List Ver} {A B : Ver} (hrA : repV A.rep = true) (hsA : 1 ≤ A.seq) (hA : headV A = true) (hB : headV B = true) (hrB : repV B.rep = true) (hsB : 1 ≤ B.seq) (htA : thereV L A.rep A.seq = false) :
    ((putV (putV L (idsH L) A) (idsH L) B).filter headV).length = 2 := by
  show ((insV (addedV (putV L (idsH L) A) (idsH L) B.rep B.seq) _ B).filter headV).length = 2
  rw [filter_insV_length _ _ hB]
  have e : addedV (putV L (idsH L) A) (idsH L) B.rep B.seq = insV (addedV (addedV L (idsH L) A.rep A.seq) (idsH L) B.rep B.seq) (posV L A.rep A.seq) A := by
    show (insV (addedV L (idsH L) A.rep A.seq) _ A).map _ = _
    rw [map_insV]
    congr 1
    rw [by_out (ids_there L) htA]
  rw [e, filter_insV _ hA]
  · rfl
  intro y hy
  unfold addedV at hy
  obtain ⟨y1, hy1, rfl⟩ := List.mem_map.1 hy
  have h1 := added_none hrA hsA y1 hy1
  rw [byV_if]
  split
  · exact withV_head hrB hsB
  · exact h1
theorem both_there {L : List Ver} {H : List (Int × Nat)} {A : Ver} (hH : (H.all fun p => thereV L p.1 p.2) = true) : (H.all fun p => thereV (putV L H A) p.1 p.2) = true := by
  rw [List.all_eq_true] at hH ⊢
  intro p hp
  rw [one_there, hH p hp, Bool.or_true]
end Go.Proofs.YtcpjgohclncbkaaDoor
