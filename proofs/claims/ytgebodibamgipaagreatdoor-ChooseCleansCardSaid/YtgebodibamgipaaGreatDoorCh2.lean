/-
  A region that draws its order, of whose operations two turn the world, one behind the other, and which writes slots that it reads (out of XKCuts).
-/
import Derived.Test.YtgebodibamgipaaGreatDoorRegions
import Derived.Test.YtgebodibamgipaaGreatDoorWalk
namespace Go.Proofs.YtgebodibamgipaaGreatDoor
open Go.RowKit
set_option maxRecDepth 100000

inductive Ch2 (b a : Nat) (W0 W1 W2 : World) (d : Nat → Bool) (x : World) : Prop
  | s0 (h : x = W0) (h1 : d b = false) (h2 : d a = false) : Ch2 b a W0 W1 W2 d x
  | s1 (h : x = W1) (h1 : d b = true) (h2 : d a = false) : Ch2 b a W0 W1 W2 d x
  | s2 (h : x = W2) (h1 : d b = true) (h2 : d a = true) : Ch2 b a W0 W1 W2 d x
section
variable {b a : Nat} {W0 W1 W2 : World} {d : Nat → Bool} {x : World}
theorem Ch2.start : Ch2 b a W0 W1 W2 (fun _ => false) W0 := .s0 rfl rfl rfl
theorem also_far {d : Nat → Bool} {i j : Nat} (h : i ≠ j) : also d i j = d j := if_neg (fun e => h e.symm)
theorem also_self {d : Nat → Bool} {i : Nat} : also d i i = true := if_pos rfl
theorem Ch2.more (h : Ch2 b a W0 W1 W2 d x) {i : Nat} (h1 : i ≠ b) (h2 : i ≠ a) : Ch2 b a W0 W1 W2 (also d i) x := by
  rcases h with ⟨e, hb, ha⟩ | ⟨e, hb, ha⟩ | ⟨e, hb, ha⟩
  · exact .s0 e (by rw [also_far h1]; exact hb) (by rw [also_far h2]; exact ha)
  · exact .s1 e (by rw [also_far h1]; exact hb) (by rw [also_far h2]; exact ha)
  · exact .s2 e (by rw [also_far h1]; exact hb) (by rw [also_far h2]; exact ha)
theorem Ch2.all (h : Ch2 b a W0 W1 W2 d x) {p : World → Prop} (p0 : p W0) (p1 : p W1) (p2 : p W2) : p x := by
  rcases h with ⟨e, _⟩ | ⟨e, _⟩ | ⟨e, _⟩
  · rw [e]; exact p0
  · rw [e]; exact p1
  · rw [e]; exact p2
theorem Ch2.first (h : Ch2 b a W0 W1 W2 d x) (hb : d b = false) (hne : b ≠ a) : x = W0 ∧ Ch2 b a W0 W1 W2 (also d b) W1 := by
  rcases h with ⟨e, _, ha⟩ | ⟨_, h, _⟩ | ⟨_, h, _⟩
  · exact ⟨e, .s1 rfl also_self (by rw [also_far hne]; exact ha)⟩
  · rw [h] at hb; cases hb
  · rw [h] at hb; cases hb
theorem Ch2.second (h : Ch2 b a W0 W1 W2 d x) (hb : d b = true) (ha : d a = false) (hne : a ≠ b) : x = W1 ∧ Ch2 b a W0 W1 W2 (also d a) W2 := by
  rcases h with ⟨_, h, _⟩ | ⟨e, _, _⟩ | ⟨_, _, h⟩
  · rw [h] at hb; cases hb
  · exact ⟨e, .s2 rfl (by rw [also_far hne]; exact hb) also_self⟩
  · rw [h] at ha; cases ha
theorem Ch2.done (h : Ch2 b a W0 W1 W2 d x) (ha : d a = true) : x = W2 := by
  rcases h with ⟨_, _, h⟩ | ⟨_, _, h⟩ | ⟨e, _, _⟩
  · rw [h] at ha; cases ha
  · rw [h] at ha; cases ha
  · exact e
end

/-- Only operation w of the region writes slot s. -/
theorem slot_only {l : Array Oper} {s w : Nat} (h : ((List.range l.size).all fun j => decide (slotO l j ≠ some s) || decide (j = w)) = true) : ∀ j, slotO l j = some s → j = w := by
  intro j e
  have hjl : j < l.size := by
    unfold slotO at e
    cases hq : l[j]? with
    | none => rw [hq] at e; cases e
    | some o' => exact (Array.getElem?_eq_some_iff.1 hq).1
  have := List.all_eq_true.1 h j (List.mem_range.2 hjl)
  rw [Bool.or_eq_true, decide_eq_true_iff, decide_eq_true_iff] at this
  exact this.resolve_left (fun h => h e)
/-- wp_region_fix, where an operation may read a slot that a later one of the region writes. -/
theorem wp_region_fix2 {P : Program} {id : Nat} {Q : Exit → Act → World → Prop} {a0 : Act} {w0 : World} {l : Array Oper} (V : Nat → Value) (J : (Nat → Bool) → World → Prop) (N : Nat) (hm : P.follows .mixedOrders = true) (ho : inOrder l = true) (hg : fixRegion l N = true)
    (hs : a0.tmps.size = N) (h0 : J (fun _ => false) w0.drew)
    (hstep : ∀ (i : Nat) (o : Oper), l[i]? = some o → ∀ (d : Nat → Bool) (a : Act) (x : World), J d x → d i = false → (∀ e ∈ o.after, Region.binds .any e = true → d e.on = true) → (∀ j o', l[j]? = some o' → d j = true → ∀ e ∈ o'.after, Region.binds .any e = true → d e.on = true) →
      (∀ s, (∀ j, slotO l j = some s → d j = false) → a.tmps[s]?.getD undef = a0.tmps[s]?.getD undef) →
      (∀ j s, d j = true → slotO l j = some s → a.tmps[s]?.getD undef = V s) → ∀ K : Act → World → Prop, (∀ v x', (∀ s, o.dst = some s → v = V s) → J (also d i) x' → K (a.put o.dst v) x') → o.wp P a x K Q)
    (hend : ∀ (d : Nat → Bool) (a : Act) (x : World), (∀ j, j < l.size → d j = true) → J d x → (∀ s, (∀ j, slotO l j ≠ some s) → a.tmps[s]?.getD undef = a0.tmps[s]?.getD undef) → (∀ j s, j < l.size → slotO l j = some s → a.tmps[s]?.getD undef = V s) → a.tmps.size = N → a.defers = a0.defers → Q .normal a x) :
    (Code.region id l true).wp P Q a0 w0 := by
  refine wp_region_inv (fun d a x => J d x ∧ (∀ s, (∀ j, slotO l j = some s → d j = false) → a.tmps[s]?.getD undef = a0.tmps[s]?.getD undef) ∧ (∀ j s, d j = true → slotO l j = some s → a.tmps[s]?.getD undef = V s) ∧ a.tmps.size = N ∧ a.defers = a0.defers ∧ (∀ j o', l[j]? = some o' → d j = true → ∀ e ∈ o'.after, Region.binds .any e = true → d e.on = true)) hm ho ?_ ?_ ?_
  · exact ⟨h0, fun _ _ => rfl, (fun j s h => by cases h), hs, rfl, fun j o' _ h => by cases h⟩
  · intro i o hi d a x hd hpre ⟨hJ, hsame, hV, hsz, hde, hcl⟩ K hK
    obtain ⟨g1, g2, g3, g4⟩ := fix_at hg hi
    refine step_plain g1 (hstep i o hi d a x hJ hd hpre hcl hsame hV K fun v x' hv hJ' => hK _ _ ⟨hJ', ?_, ?_, ?_, ?_, ?_⟩)
    · intro s hs'
      have hsd : ∀ j, slotO l j = some s → d j = false := fun j hj => by
        have h := hs' j hj
        unfold also at h
        split at h
        · cases h
        · exact h
      cases hq : o.dst with
      | none => exact hsame s hsd
      | some t =>
        have ht : s ≠ t := fun e => by
          have h := hs' i (by rw [g3, hq, e])
          rw [also_self] at h
          cases h
        exact (at_put (a := a) (v := v) ht).trans (hsame s hsd)
    · intro j s hj hjs
      by_cases e : j = i
      · subst e
        rw [g3] at hjs
        have e2 := at_put_self (a := a) (v := v) (s := s) (by rw [hsz]; exact g2 s hjs)
        unfold Act.at_ at e2
        rw [hjs, e2]
        exact hv s hjs
      · have hdj : d j = true := by unfold also at hj; rwa [if_neg e] at hj
        have hne := g4 j s e hjs
        cases hq : o.dst with
        | none => exact hV j s hdj hjs
        | some t =>
          have ht : s ≠ t := fun e => hne (by rw [hq, e])
          exact (at_put (a := a) (v := v) ht).trans (hV j s hdj hjs)
    · cases hq : o.dst with
      | none => exact hsz
      | some t =>
        show (a.tmps.setIfInBounds _ _).size = N
        rw [Array.size_setIfInBounds]
        exact hsz
    · cases hq : o.dst with
      | none => exact hde
      | some t => exact hde
    · intro j o' hj hdj e he hb
      have up : ∀ k, d k = true → also d i k = true := fun k h => by unfold also; split; rfl; exact h
      by_cases eji : j = i
      · subst eji
        rw [hi] at hj
        cases hj
        exact up _ (hpre e he hb)
      · have hdj' : d j = true := by unfold also at hdj; rwa [if_neg eji] at hdj
        exact up _ (hcl j o' hj hdj' e he hb)
  · intro d a x hall ⟨hJ, hsame, hV, hsz, hde, _⟩
    exact hend d a x hall hJ (fun s h => hsame s fun j hj => absurd hj (h j)) (fun j s hj hs => hV j s (hall j hj) hs) hsz hde
end Go.Proofs.YtgebodibamgipaaGreatDoor
