/-
  Versions with one more, in the place of some: mathematics; slices.Insert at any place.
  What VersionHeads asks of lists of versions, as mathematics: one that comes in the place of all latest ones; two of them, in either order.
  Entries: one more, one that went, all of two, as lists and as what is at a number: mathematics.
-/
import Derived.Test.YtcpjgohclncbkaaDoorVeAddMath
import Derived.Test.YtcpjgohclncbkaaDoorVeInsert
import Derived.Test.YtcpjgohclncbkaaDoorEnInsert
import Derived.Test.YtcpjgohclncbkaaDoorVeFind
import Derived.Test.YtcpjgohclncbkaaDoorEnFinds
import Derived.Test.YtcpjgohclncbkaaDoorVeHeadsMath
import Derived.Test.YtcpjgohclncbkaaDoorVeGone
namespace Go.Proofs.YtcpjgohclncbkaaDoor
open Go.RowKit
set_option maxRecDepth 100000

/-- Where a number that is there lies. -/
theorem ethere_pos {L : List Ent} (hs : SortedE L) {r : Int} {s : Nat} (h : thereE L r s = true) : ∃ hk : posE L r s < L.length, r = L[posE L r s].rep ∧ s = L[posE L r s].seq := by
  unfold thereE at h
  rw [List.any_eq_true] at h
  obtain ⟨x, hx, hsame⟩ := h
  obtain ⟨t, ht, rfl⟩ := List.getElem_of_mem hx
  rw [sameI_eq] at hsame
  have hp : posE L r s = t := by
    refine takeWhile_pos _ L t (by omega) (fun j hj hlt => ?_) (fun _ => ?_)
    · have := hs j t hj ht hlt
      rw [hsame.1, hsame.2] at this
      exact this
    · show lessV L[t].rep L[t].seq r s = false
      rw [hsame.1, hsame.2]
      unfold lessV
      simp
  refine ⟨by rw [hp]; exact ht, ?_⟩
  have e : L[posE L r s]'(by rw [hp]; exact ht) = L[t] := by congr 1
  rw [e]
  exact ⟨hsame.1.symm, hsame.2.symm⟩

theorem insE_end (L : List Ent) (X : Ent) : insE L L.length X = L ++ [X] := by unfold insE; rw [List.take_length, List.drop_length]
theorem einsert_any (base : Nat) (u : Value) (L : List Ent) (X : Ent) (hX : EntOk X) (i vb : Nat) (w : World) (hown : OwnE w base u L) (hb : Blk w vb 29 (entC X)) (hvb : ∀ g, u.ownBlock = some g → vb ≠ g) (hl : L.length ≤ 1000) (hbase : base ≤ w.heap.size) (hi : i ≤ L.length) :
    Calls Tryd.prog 38 #[u, .int .i64 (i : Int), .slice (some ⟨vb, 0, none⟩) 1 1] w fun e w' => (∃ u', e = .returned u' ∧ OwnE w' base u' (insE L i X)) ∧ Below base w w' := by
  by_cases h : i = L.length
  · subst h
    rw [insE_end]
    exact einsert_end base u L X hX vb w hown hb hl hbase
  · obtain ⟨g, cap, hv, hc1, _, _, _, _, _⟩ := hown.elem (k := i) (by omega)
    subst hv
    have hne := hvb g rfl
    by_cases hr : L.length + 1 ≤ cap
    · exact einsert_shift base g cap i L X hX vb w hown hb hne hl hbase (by omega) hr
    · obtain rfl : cap = L.length := by omega
      exact einsert_grow base g i L X hX vb w hown hb hl hbase (by omega)
end Go.Proofs.YtcpjgohclncbkaaDoor

namespace Go.Proofs.YtcpjgohclncbkaaDoor
open Go.RowKit
set_option maxRecDepth 100000

theorem sortedE_iff {L : List Ent} : SortedE L ↔ L.Pairwise (fun x y => lessV x.rep x.seq y.rep y.seq = true) := by
  unfold SortedE
  rw [List.pairwise_iff_getElem]
/-- Two rising lists with the same elements are one. -/
theorem esorted_ext : ∀ (L M : List Ent), L.Pairwise (fun x y => lessV x.rep x.seq y.rep y.seq = true) → M.Pairwise (fun x y => lessV x.rep x.seq y.rep y.seq = true) → (∀ x, x ∈ L ↔ x ∈ M) → L = M
  | [], [], _, _, _ => rfl
  | [], y :: M, _, _, h => by have := (h y).2 (by simp); simp at this
  | x :: L, [], _, _, h => by have := (h x).1 (by simp); simp at this
  | x :: L, y :: M, hl, hm, h => by
    have hl' := List.pairwise_cons.1 hl
    have hm' := List.pairwise_cons.1 hm
    have hxy : x = y := by
      rcases List.mem_cons.1 ((h x).1 (by simp)) with e | hx
      · exact e
      rcases List.mem_cons.1 ((h y).2 (by simp)) with e | hy
      · exact e.symm
      have h1 := lessV_asymm (hm'.1 x hx)
      rw [hl'.1 y hy] at h1
      cases h1
    subst hxy
    congr 1
    refine esorted_ext L M hl'.2 hm'.2 fun z => ⟨fun hz => ?_, fun hz => ?_⟩
    · rcases List.mem_cons.1 ((h z).1 (List.mem_cons_of_mem _ hz)) with e | hz'
      · subst e
        have h1 := hl'.1 z hz
        rw [lessV_self] at h1
        cases h1
      · exact hz'
    · rcases List.mem_cons.1 ((h z).2 (List.mem_cons_of_mem _ hz)) with e | hz'
      · subst e
        have h1 := hm'.1 z hz
        rw [lessV_self] at h1
        cases h1
      · exact hz'
theorem mem_insE {M : List Ent} {k : Nat} {X z : Ent} : z ∈ insE M k X ↔ z = X ∨ z ∈ M := by
  unfold insE
  rw [List.mem_append, List.mem_cons]
  have e : z ∈ M ↔ z ∈ M.take k ∨ z ∈ M.drop k := by rw [← List.mem_append, List.take_append_drop]
  rw [e]
  exact ⟨fun h => by rcases h with h | h | h <;> simp [h], fun h => by rcases h with h | h | h <;> simp [h]⟩
theorem map_insE (f : Ent → Ent) (M : List Ent) (k : Nat) (X : Ent) : (insE M k X).map f = insE (M.map f) k (f X) := by
  unfold insE
  rw [List.map_append, List.map_cons, List.map_take, List.map_drop]
theorem epos_before {L : List Ent} {r : Int} {s : Nat} {j : Nat} (hj : j < L.length) : (j < posE L r s → lessV L[j].rep L[j].seq r s = true) ∧ (j = posE L r s → lessV L[j].rep L[j].seq r s = false) := by
  unfold posE
  induction L generalizing j with
  | nil => simp at hj
  | cons a L ih =>
    rw [List.takeWhile_cons]
    by_cases h : lessV a.rep a.seq r s = true
    · rw [if_pos h]
      cases j with
      | zero => exact ⟨fun _ => h, fun e => by simp at e⟩
      | succ j =>
        have := ih (j := j) (by simpa using hj)
        exact ⟨fun e => this.1 (by simpa using e), fun e => this.2 (by simpa using e)⟩
    · rw [if_neg h]
      cases j with
      | zero => exact ⟨fun e => by simp at e, fun _ => by simpa using h⟩
      | succ j => exact ⟨fun e => by simp at e, fun e => by simp at e⟩
theorem esorted_ins {M : List Ent} {X : Ent} (hs : SortedE M) (ht : thereE M X.rep X.seq = false) : SortedE (insE M (posE M X.rep X.seq) X) := by
  have hs' := sortedE_iff.1 hs
  rw [sortedE_iff]
  have hne : ∀ x ∈ M, sameI x.rep x.seq X.rep X.seq = false := by
    unfold thereE at ht
    rw [List.any_eq_false] at ht
    exact fun x hx => by simpa using ht x hx
  have hlt : ∀ x ∈ M.take (posE M X.rep X.seq), lessV x.rep x.seq X.rep X.seq = true := by
    intro x hx
    obtain ⟨i, hi, rfl⟩ := List.getElem_of_mem hx
    rw [List.getElem_take]
    rw [List.length_take] at hi
    exact (epos_before (r := X.rep) (s := X.seq) (by omega)).1 (by omega)
  have hgt : ∀ x ∈ M.drop (posE M X.rep X.seq), lessV X.rep X.seq x.rep x.seq = true := by
    intro x hx
    obtain ⟨i, hi, rfl⟩ := List.getElem_of_mem hx
    rw [List.getElem_drop]
    rw [List.length_drop] at hi
    have hk : posE M X.rep X.seq < M.length := by omega
    have h0 : lessV X.rep X.seq M[posE M X.rep X.seq].rep M[posE M X.rep X.seq].seq = true := by
      have h1 := (epos_before (r := X.rep) (s := X.seq) hk).2 rfl
      have h2 := hne _ (List.getElem_mem hk)
      rw [lessV_same, h1] at h2
      simpa using h2
    cases i with
    | zero => exact h0
    | succ i => exact lessV_trans h0 (hs _ _ hk (by omega) (by omega))
  unfold insE
  rw [List.pairwise_append]
  refine ⟨hs'.sublist (List.take_sublist _ _), List.pairwise_cons.2 ⟨hgt, hs'.sublist (List.drop_sublist _ _)⟩, fun x hx y hy => ?_⟩
  rcases List.mem_cons.1 hy with rfl | hy
  · exact hlt x hx
  · exact lessV_trans (hlt x hx) (hgt y hy)
theorem ethere_ins {M : List Ent} {k : Nat} {X : Ent} (r : Int) (s : Nat) : thereE (insE M k X) r s = (sameI X.rep X.seq r s || thereE M r s) := by
  rw [Bool.eq_iff_iff, Bool.or_eq_true]
  unfold thereE
  rw [List.any_eq_true, List.any_eq_true]
  constructor
  · rintro ⟨z, hz, h⟩
    rcases mem_insE.1 hz with rfl | hz
    · exact .inl h
    · exact .inr ⟨z, hz, h⟩
  · rintro (h | ⟨z, hz, h⟩)
    · exact ⟨X, mem_insE.2 (.inl rfl), h⟩
    · exact ⟨z, mem_insE.2 (.inr hz), h⟩
end Go.Proofs.YtcpjgohclncbkaaDoor

namespace Go.Proofs.YtcpjgohclncbkaaDoor
open Go.RowKit
set_option maxRecDepth 100000

/-- With one more: one that is there stays. -/
def addE (L : List Ent) (X : Ent) : List Ent := if thereE L X.rep X.seq = true then L else insE L (posE L X.rep X.seq) X
def diedE (x : Ent) (r : Int) (s : Nat) : Ent := { x with by_ := withV x.by_ r s }
/-- One went. -/
def killE (L : List Ent) (r : Int) (s : Nat) (r' : Int) (s' : Nat) : List Ent := L.map fun x => if sameI x.rep x.seq r s = true then diedE x r' s' else x
def meltE (x y : Ent) : Ent := { x with by_ := joinV x.by_ y.by_ }
/-- All of two. -/
def joinE : List Ent → List Ent → List Ent
  | [], M => M
  | x :: L, [] => x :: L
  | x :: L, y :: M => if lessV x.rep x.seq y.rep y.seq = true then x :: joinE L (y :: M) else if lessV y.rep y.seq x.rep x.seq = true then y :: joinE (x :: L) M else meltE x y :: joinE L M
termination_by L M => L.length + M.length
/-- The entry with a number. -/
def getE (L : List Ent) (r : Int) (s : Nat) : Option Ent := L.find? fun x => sameI x.rep x.seq r s

theorem sameI_self (r : Int) (s : Nat) : sameI r s r s = true := sameI_eq.2 ⟨rfl, rfl⟩
theorem getE_some {L : List Ent} {r : Int} {s : Nat} {x : Ent} (h : getE L r s = some x) : x ∈ L ∧ x.rep = r ∧ x.seq = s := by
  unfold getE at h
  have h1 := List.find?_some h
  exact ⟨List.mem_of_find?_eq_some h, sameI_eq.1 h1⟩
theorem getE_mem {L : List Ent} (hs : SortedE L) {x : Ent} (hx : x ∈ L) : getE L x.rep x.seq = some x := by
  have hs' := sortedE_iff.1 hs
  unfold getE
  clear hs
  induction L with
  | nil => simp at hx
  | cons a L ih =>
    rw [List.find?_cons]
    have hp := List.pairwise_cons.1 hs'
    rcases List.mem_cons.1 hx with rfl | hx
    · rw [sameI_self]
    · have : sameI a.rep a.seq x.rep x.seq = false := by rw [lessV_same, hp.1 x hx]; rfl
      rw [this]
      exact ih hx hp.2
theorem getE_none {L : List Ent} {r : Int} {s : Nat} : getE L r s = none ↔ thereE L r s = false := by
  unfold getE thereE
  rw [List.find?_eq_none, List.any_eq_false]
/-- Two sorted lists with the same entries at each number are one. -/
theorem getE_ext {L M : List Ent} (hl : SortedE L) (hm : SortedE M) (h : ∀ r s, getE L r s = getE M r s) : L = M := by
  refine esorted_ext L M (sortedE_iff.1 hl) (sortedE_iff.1 hm) fun x => ⟨fun hx => ?_, fun hx => ?_⟩
  · have := getE_mem hl hx
    rw [h] at this
    exact (getE_some this).1
  · have := getE_mem hm hx
    rw [← h] at this
    exact (getE_some this).1
theorem find_ins {L : List Ent} {i : Nat} {X : Ent} {r : Int} {s : Nat} (ht : thereE L X.rep X.seq = false) : getE (insE L i X) r s = if sameI X.rep X.seq r s = true then some X else getE L r s := by
  unfold getE insE
  rw [List.find?_append, List.find?_cons]
  by_cases hX : sameI X.rep X.seq r s = true
  · rw [if_pos hX, hX]
    obtain ⟨h1, h2⟩ := sameI_eq.1 hX
    subst h1 h2
    have : (L.take i).find? (fun x => sameI x.rep x.seq X.rep X.seq) = none := by
      rw [List.find?_eq_none]
      intro x hx
      unfold thereE at ht
      rw [List.any_eq_false] at ht
      exact ht x (List.mem_of_mem_take hx)
    rw [this]
    rfl
  · rw [if_neg hX]
    have : sameI X.rep X.seq r s = false := by simpa using hX
    rw [this]
    conv => rhs; rw [← List.take_append_drop i L, List.find?_append]
theorem getE_add {L : List Ent} {X : Ent} {r : Int} {s : Nat} : getE (addE L X) r s = if sameI X.rep X.seq r s = true then some ((getE L r s).getD X) else getE L r s := by
  unfold addE
  by_cases ht : thereE L X.rep X.seq = true
  · rw [if_pos ht]
    by_cases hX : sameI X.rep X.seq r s = true
    · rw [if_pos hX]
      obtain ⟨h1, h2⟩ := sameI_eq.1 hX
      subst h1 h2
      cases hg : getE L X.rep X.seq with
      | none => rw [getE_none.1 hg] at ht; cases ht
      | some x => rfl
    · rw [if_neg hX]
  · rw [if_neg ht]
    have ht' : thereE L X.rep X.seq = false := by simpa using ht
    rw [find_ins ht']
    by_cases hX : sameI X.rep X.seq r s = true
    · rw [if_pos hX, if_pos hX]
      obtain ⟨h1, h2⟩ := sameI_eq.1 hX
      subst h1 h2
      rw [getE_none.2 ht']
      rfl
    · rw [if_neg hX, if_neg hX]
theorem sorted_add {L : List Ent} (hs : SortedE L) (X : Ent) : SortedE (addE L X) := by
  unfold addE
  split
  · exact hs
  · rename_i h
    exact esorted_ins hs (by simpa using h)
theorem kill_id (x : Ent) (r : Int) (s : Nat) (r' : Int) (s' : Nat) : (if sameI x.rep x.seq r s = true then diedE x r' s' else x).rep = x.rep ∧ (if sameI x.rep x.seq r s = true then diedE x r' s' else x).seq = x.seq := by
  split <;> exact ⟨rfl, rfl⟩
theorem kill_length (L : List Ent) (r : Int) (s : Nat) (r' : Int) (s' : Nat) : (killE L r s r' s').length = L.length := by unfold killE; simp
theorem kill_get {L : List Ent} {r : Int} {s : Nat} {r' : Int} {s' : Nat} {j : Nat} (h : j < (killE L r s r' s').length) (h' : j < L.length) : (killE L r s r' s')[j] = if sameI L[j].rep L[j].seq r s = true then diedE L[j] r' s' else L[j] := by simp [killE]
theorem sorted_kill {L : List Ent} (hs : SortedE L) (r : Int) (s : Nat) (r' : Int) (s' : Nat) : SortedE (killE L r s r' s') := by
  intro i j hi hj hij
  rw [kill_length] at hi hj
  rw [kill_get _ hi, kill_get _ hj, (kill_id _ r s r' s').1, (kill_id _ r s r' s').2, (kill_id _ r s r' s').1, (kill_id _ r s r' s').2]
  exact hs i j hi hj hij
theorem getE_kill (L : List Ent) (r : Int) (s : Nat) (r' : Int) (s' : Nat) (a : Int) (b : Nat) : getE (killE L r s r' s') a b = (getE L a b).map fun x => if sameI r s a b = true then diedE x r' s' else x := by
  unfold getE killE
  induction L with
  | nil => rfl
  | cons x L ih =>
    rw [List.map_cons, List.find?_cons, List.find?_cons, (kill_id _ r s r' s').1, (kill_id _ r s r' s').2]
    cases h : sameI x.rep x.seq a b with
    | false => exact ih
    | true =>
      obtain ⟨h1, h2⟩ := sameI_eq.1 h
      subst h1 h2
      have : sameI x.rep x.seq r s = sameI r s x.rep x.seq := by
        rw [Bool.eq_iff_iff, sameI_eq, sameI_eq]
        exact ⟨fun ⟨h, h'⟩ => ⟨h.symm, h'.symm⟩, fun ⟨h, h'⟩ => ⟨h.symm, h'.symm⟩⟩
      rw [this]
      rfl
/-- In its place. -/
theorem kill_set {L : List Ent} (hs : SortedE L) {r : Int} {s : Nat} (r' : Int) (s' : Nat) {k : Nat} (hk : k < L.length) (h : L[k].rep = r ∧ L[k].seq = s) : killE L r s r' s' = L.set k (diedE L[k] r' s') := by
  apply List.ext_getElem
  · rw [List.length_set, kill_length]
  intro j h1 h2
  rw [kill_length] at h1
  rw [kill_get _ h1, List.getElem_set]
  by_cases e : k = j
  · subst e
    rw [if_pos rfl, if_pos (sameI_eq.2 h)]
  · rw [if_neg e, if_neg]
    intro h3
    obtain ⟨h4, h5⟩ := sameI_eq.1 h3
    rcases Nat.lt_or_ge k j with hlt | hge
    · have := hs k j hk h1 hlt
      rw [h.1, h.2, h4, h5, lessV_self] at this
      cases this
    · have := hs j k h1 hk (by omega)
      rw [h.1, h.2, h4, h5, lessV_self] at this
      cases this
theorem kill_none {L : List Ent} {r : Int} {s : Nat} (r' : Int) (s' : Nat) (h : thereE L r s = false) : killE L r s r' s' = L := by
  unfold killE
  unfold thereE at h
  rw [List.any_eq_false] at h
  conv => rhs; rw [← List.map_id L]
  refine List.map_congr_left fun x hx => ?_
  rw [if_neg (h x hx)]
  rfl
theorem died_head {x : Ent} {r : Int} {s : Nat} (hr : repV r = true) (hs : 1 ≤ s) : headE (diedE x r s) = false := by
  unfold headE
  rw [← Bool.not_eq_true, eqV_iff]
  intro h
  have hb := repV_iff.1 hr
  have := h (r - 1).toNat (by omega)
  unfold diedE at this
  dsimp only at this
  unfold withV updV zeroV at this
  rw [if_pos hr, if_pos rfl] at this
  omega
/-- What went by an event is swept by a vector that means just that event's replica so far. -/
theorem died_gone {x : Ent} {r : Int} {s : Nat} (hr : repV r = true) (hs : 1 ≤ s) (h : x.by_ (r - 1).toNat ≤ s) {B : Nat → Nat} (hB : B (r - 1).toNat = s) : goneV (diedE x r s).by_ B = true := by
  have hb := repV_iff.1 hr
  have e : (diedE x r s).by_ (r - 1).toNat = s := by
    unfold diedE
    dsimp only
    unfold withV updV
    rw [if_pos hr, if_pos rfl]
    omega
  exact gone_yes (k := (r - 1).toNat) (by omega) (by omega) (by omega)

/-- One more, joined with the one of its number. -/
def putE (L : List Ent) (X : Ent) : List Ent := if thereE L X.rep X.seq = true then L.map fun y => if sameI y.rep y.seq X.rep X.seq = true then meltE y X else y else insE L (posE L X.rep X.seq) X
theorem melt_id (x : Ent) (X : Ent) : (if sameI x.rep x.seq X.rep X.seq = true then meltE x X else x).rep = x.rep ∧ (if sameI x.rep x.seq X.rep X.seq = true then meltE x X else x).seq = x.seq := by
  split <;> exact ⟨rfl, rfl⟩
theorem melt_get {L : List Ent} {X : Ent} {r : Int} {s : Nat} : getE (L.map fun y => if sameI y.rep y.seq X.rep X.seq = true then meltE y X else y) r s = (getE L r s).map fun y => if sameI X.rep X.seq r s = true then meltE y X else y := by
  unfold getE
  induction L with
  | nil => rfl
  | cons x L ih =>
    rw [List.map_cons, List.find?_cons, List.find?_cons, (melt_id _ X).1, (melt_id _ X).2]
    cases h : sameI x.rep x.seq r s with
    | false => exact ih
    | true =>
      obtain ⟨h1, h2⟩ := sameI_eq.1 h
      subst h1 h2
      have : sameI x.rep x.seq X.rep X.seq = sameI X.rep X.seq x.rep x.seq := by
        rw [Bool.eq_iff_iff, sameI_eq, sameI_eq]
        exact ⟨fun ⟨h, h'⟩ => ⟨h.symm, h'.symm⟩, fun ⟨h, h'⟩ => ⟨h.symm, h'.symm⟩⟩
      rw [this]
      rfl
theorem sorted_put {L : List Ent} (hs : SortedE L) (X : Ent) : SortedE (putE L X) := by
  unfold putE
  split
  · intro i j hi hj hij
    rw [List.length_map] at hi hj
    rw [List.getElem_map, List.getElem_map, (melt_id _ X).1, (melt_id _ X).2, (melt_id _ X).1, (melt_id _ X).2]
    exact hs i j hi hj hij
  · rename_i h
    exact esorted_ins hs (by simpa using h)
/-- What two entries of one number come to. -/
def bothE : Option Ent → Option Ent → Option Ent
  | some x, some y => some (meltE x y)
  | some x, none => some x
  | none, o => o
theorem getE_put {L : List Ent} {X : Ent} {r : Int} {s : Nat} : getE (putE L X) r s = bothE (getE L r s) (if sameI X.rep X.seq r s = true then some X else none) := by
  unfold putE
  by_cases ht : thereE L X.rep X.seq = true
  · rw [if_pos ht, melt_get]
    by_cases hX : sameI X.rep X.seq r s = true
    · obtain ⟨h1, h2⟩ := sameI_eq.1 hX
      subst h1 h2
      cases hg : getE L X.rep X.seq with
      | none => rw [getE_none.1 hg] at ht; cases ht
      | some x => simp [bothE, hX]
    · cases hg : getE L r s <;> simp [bothE, hX]
  · rw [if_neg ht]
    have ht' : thereE L X.rep X.seq = false := by simpa using ht
    rw [find_ins ht']
    by_cases hX : sameI X.rep X.seq r s = true
    · obtain ⟨h1, h2⟩ := sameI_eq.1 hX
      subst h1 h2
      rw [getE_none.2 ht']
      simp [bothE, hX]
    · cases hg : getE L r s <;> simp [bothE, hX]
theorem sorted_nil : SortedE [] := fun i j hi => by simp at hi
theorem getE_low {L : List Ent} {r : Int} {s : Nat} (h : ∀ x ∈ L, lessV r s x.rep x.seq = true) : getE L r s = none := by
  rw [getE_none]
  unfold thereE
  rw [List.any_eq_false]
  intro x hx
  rw [Bool.not_eq_true, lessV_same, h x hx]
  simp
theorem join_mem_low {a : Int} {b : Nat} : ∀ (L M : List Ent), (∀ x ∈ L, lessV a b x.rep x.seq = true) → (∀ x ∈ M, lessV a b x.rep x.seq = true) → ∀ x ∈ joinE L M, lessV a b x.rep x.seq = true
  | [], M, _, hm, x, hx => by unfold joinE at hx; exact hm x hx
  | y :: L, [], hl, _, x, hx => by unfold joinE at hx; exact hl x hx
  | y :: L, z :: M, hl, hm, x, hx => by
    unfold joinE at hx
    split at hx
    · rcases List.mem_cons.1 hx with rfl | hx
      · exact hl x (by simp)
      · exact join_mem_low L (z :: M) (fun t ht => hl t (by simp [ht])) hm x hx
    split at hx
    · rcases List.mem_cons.1 hx with rfl | hx
      · exact hm x (by simp)
      · exact join_mem_low (y :: L) M hl (fun t ht => hm t (by simp [ht])) x hx
    · rcases List.mem_cons.1 hx with rfl | hx
      · exact hl y (by simp)
      · exact join_mem_low L M (fun t ht => hl t (by simp [ht])) (fun t ht => hm t (by simp [ht])) x hx
termination_by L M => L.length + M.length
theorem same_of_not {a : Int} {b : Nat} {c : Int} {d : Nat} (h : ¬ lessV a b c d = true) (h' : ¬ lessV c d a b = true) : a = c ∧ b = d := by
  rw [← sameI_eq, lessV_same]
  simp [h, h']
theorem sorted_join : ∀ (L M : List Ent), SortedE L → SortedE M → SortedE (joinE L M)
  | [], M, _, hm => by unfold joinE; exact hm
  | y :: L, [], hl, _ => by unfold joinE; exact hl
  | y :: L, z :: M, hl, hm => by
    have hl' := List.pairwise_cons.1 (sortedE_iff.1 hl)
    have hm' := List.pairwise_cons.1 (sortedE_iff.1 hm)
    unfold joinE
    split
    · rename_i h
      refine sortedE_iff.2 (List.pairwise_cons.2 ⟨join_mem_low L (z :: M) hl'.1 fun t ht => ?_, sortedE_iff.1 (sorted_join L (z :: M) (sortedE_iff.2 hl'.2) hm)⟩)
      rcases List.mem_cons.1 ht with rfl | ht
      · exact h
      · exact lessV_trans h (hm'.1 t ht)
    split
    · rename_i h
      refine sortedE_iff.2 (List.pairwise_cons.2 ⟨join_mem_low (y :: L) M (fun t ht => ?_) hm'.1, sortedE_iff.1 (sorted_join (y :: L) M hl (sortedE_iff.2 hm'.2))⟩)
      rcases List.mem_cons.1 ht with rfl | ht
      · exact h
      · exact lessV_trans h (hl'.1 t ht)
    · rename_i h1 h2
      obtain ⟨e1, e2⟩ := same_of_not h1 h2
      refine sortedE_iff.2 (List.pairwise_cons.2 ⟨join_mem_low L M hl'.1 fun t ht => ?_, sortedE_iff.1 (sorted_join L M (sortedE_iff.2 hl'.2) (sortedE_iff.2 hm'.2))⟩)
      show lessV y.rep y.seq _ _ = true
      rw [e1, e2]
      exact hm'.1 t ht
termination_by L M => L.length + M.length
theorem get_cons (x : Ent) (L : List Ent) (r : Int) (s : Nat) : getE (x :: L) r s = if sameI x.rep x.seq r s = true then some x else getE L r s := by
  unfold getE
  rw [List.find?_cons]
  cases sameI x.rep x.seq r s <;> rfl
theorem both_none (o : Option Ent) : bothE o none = o := by cases o <;> rfl
theorem getE_join (r : Int) (s : Nat) : ∀ (L M : List Ent), SortedE L → SortedE M → getE (joinE L M) r s = bothE (getE L r s) (getE M r s)
  | [], M, _, _ => by unfold joinE; rfl
  | y :: L, [], _, _ => by unfold joinE; rw [show getE [] r s = none from rfl, both_none]
  | y :: L, z :: M, hl, hm => by
    have hl' := List.pairwise_cons.1 (sortedE_iff.1 hl)
    have hm' := List.pairwise_cons.1 (sortedE_iff.1 hm)
    unfold joinE
    split
    · rename_i h
      rw [get_cons, getE_join r s L (z :: M) (sortedE_iff.2 hl'.2) hm, get_cons y L]
      by_cases e : sameI y.rep y.seq r s = true
      · rw [if_pos e, if_pos e]
        obtain ⟨e1, e2⟩ := sameI_eq.1 e
        subst e1 e2
        rw [getE_low (L := z :: M) fun t ht => ?_]
        · rfl
        · rcases List.mem_cons.1 ht with rfl | ht
          · exact h
          · exact lessV_trans h (hm'.1 t ht)
      · rw [if_neg e, if_neg e]
    split
    · rename_i h
      rw [get_cons, getE_join r s (y :: L) M hl (sortedE_iff.2 hm'.2), get_cons z M]
      by_cases e : sameI z.rep z.seq r s = true
      · rw [if_pos e, if_pos e]
        obtain ⟨e1, e2⟩ := sameI_eq.1 e
        subst e1 e2
        rw [getE_low (L := y :: L) fun t ht => ?_]
        · rfl
        · rcases List.mem_cons.1 ht with rfl | ht
          · exact h
          · exact lessV_trans h (hl'.1 t ht)
      · rw [if_neg e, if_neg e]
    · rename_i h1 h2
      obtain ⟨e1, e2⟩ := same_of_not h1 h2
      rw [get_cons, getE_join r s L M (sortedE_iff.2 hl'.2) (sortedE_iff.2 hm'.2), get_cons y L, get_cons z M]
      have e3 : (meltE y z).rep = y.rep ∧ (meltE y z).seq = y.seq := ⟨rfl, rfl⟩
      rw [e3.1, e3.2, ← e1, ← e2]
      by_cases e : sameI y.rep y.seq r s = true
      · rw [if_pos e, if_pos e, if_pos e]; rfl
      · rw [if_neg e, if_neg e, if_neg e]
termination_by L M => L.length + M.length
/-- The document's way: one after the other. -/
theorem join_fold {M : List Ent} : ∀ {L : List Ent}, SortedE L → SortedE M → M.foldl putE L = joinE L M := by
  intro L hl hm
  have key : ∀ (M : List Ent), SortedE M → ∀ L, SortedE L → SortedE (M.foldl putE L) ∧ ∀ r s, getE (M.foldl putE L) r s = bothE (getE L r s) (getE M r s) := by
    intro M
    induction M with
    | nil => intro _ L hl; exact ⟨hl, fun r s => (both_none _).symm⟩
    | cons x M ih =>
      intro hm L hl
      have hm' := List.pairwise_cons.1 (sortedE_iff.1 hm)
      obtain ⟨h1, h2⟩ := ih (sortedE_iff.2 hm'.2) (putE L x) (sorted_put hl x)
      refine ⟨h1, fun r s => ?_⟩
      rw [List.foldl_cons, h2, getE_put, get_cons]
      by_cases e : sameI x.rep x.seq r s = true
      · rw [if_pos e, if_pos e]
        obtain ⟨e1, e2⟩ := sameI_eq.1 e
        subst e1 e2
        rw [getE_low hm'.1, both_none]
      · rw [if_neg e, if_neg e, both_none]
  obtain ⟨h1, h2⟩ := key M hm L hl
  exact getE_ext h1 (sorted_join L M hl hm) fun r s => by rw [h2, getE_join r s L M hl hm]
theorem join_length : ∀ (L M : List Ent), (joinE L M).length ≤ L.length + M.length
  | [], M => by unfold joinE; simp
  | y :: L, [] => by unfold joinE; simp
  | y :: L, z :: M => by
    unfold joinE
    split
    · have := join_length L (z :: M); simp only [List.length_cons] at *; omega
    split
    · have := join_length (y :: L) M; simp only [List.length_cons] at *; omega
    · have := join_length L M; simp only [List.length_cons] at *; omega
termination_by L M => L.length + M.length
theorem join_all {p : Ent → Prop} (hp : ∀ x y, p x → p y → p (meltE x y)) : ∀ (L M : List Ent), (∀ x ∈ L, p x) → (∀ x ∈ M, p x) → ∀ x ∈ joinE L M, p x
  | [], M, _, hm, x, hx => by unfold joinE at hx; exact hm x hx
  | y :: L, [], hl, _, x, hx => by unfold joinE at hx; exact hl x hx
  | y :: L, z :: M, hl, hm, x, hx => by
    unfold joinE at hx
    split at hx
    · rcases List.mem_cons.1 hx with rfl | hx
      · exact hl x (by simp)
      · exact join_all hp L (z :: M) (fun t ht => hl t (by simp [ht])) hm x hx
    split at hx
    · rcases List.mem_cons.1 hx with rfl | hx
      · exact hm x (by simp)
      · exact join_all hp (y :: L) M hl (fun t ht => hm t (by simp [ht])) x hx
    · rcases List.mem_cons.1 hx with rfl | hx
      · exact hp y z (hl y (by simp)) (hm z (by simp))
      · exact join_all hp L M (fun t ht => hl t (by simp [ht])) (fun t ht => hm t (by simp [ht])) x hx
termination_by L M => L.length + M.length
end Go.Proofs.YtcpjgohclncbkaaDoor
