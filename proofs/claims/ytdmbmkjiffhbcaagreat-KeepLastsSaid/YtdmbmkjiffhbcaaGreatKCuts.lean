/-
  A region that draws its order, of whose operations two turn the world, one behind the other (a row of one element is laid, and appended).
  Lists of changes: puts (are they few and short?) and cut (with shorter values), as wardshiplaw05 has them.
  Of changes the last one of a key counts: what KeepLast says, as mathematics.
-/
import Derived.Test.YtdmbmkjiffhbcaaGreatSortA
import Derived.Test.YtdmbmkjiffhbcaaGreatKeepChgs
import Derived.Test.YtdmbmkjiffhbcaaGreatKRecord
namespace Go.Proofs.YtdmbmkjiffhbcaaGreat
open Go.RowKit

inductive Ch2 (b a : Nat) (W0 W1 W2 : World) (d : Nat → Bool) (x : World) : Prop
  | s0 (h : x = W0) (h1 : d b = false) (h2 : d a = false) : Ch2 b a W0 W1 W2 d x
  | s1 (h : x = W1) (h1 : d b = true) (h2 : d a = false) : Ch2 b a W0 W1 W2 d x
  | s2 (h : x = W2) (h1 : d b = true) (h2 : d a = true) : Ch2 b a W0 W1 W2 d x
section
variable {b a : Nat} {W0 W1 W2 : World} {d : Nat → Bool} {x : World}
theorem Ch2.start : Ch2 b a W0 W1 W2 (fun _ => false) W0 := .s0 rfl rfl rfl
theorem also_far {d : Nat → Bool} {i j : Nat} (h : i ≠ j) : also d i j = d j := if_neg (fun e => h e.symm)
theorem also_self {d : Nat → Bool} {i : Nat} : also d i i = true := if_pos rfl
theorem Ch2.more (h : Ch2 b a W0 W1 W2 d x) {i : Nat} (h1 : i ≠ b) (h2 : i ≠ a) : Ch2 b a W0 W1 W2 (also d i) x := by
  rcases h with ⟨e, hb, ha⟩ | ⟨e, hb, ha⟩ | ⟨e, hb, ha⟩
  · exact .s0 e (by rw [also_far h1]; exact hb) (by rw [also_far h2]; exact ha)
  · exact .s1 e (by rw [also_far h1]; exact hb) (by rw [also_far h2]; exact ha)
  · exact .s2 e (by rw [also_far h1]; exact hb) (by rw [also_far h2]; exact ha)
theorem Ch2.all (h : Ch2 b a W0 W1 W2 d x) {p : World → Prop} (p0 : p W0) (p1 : p W1) (p2 : p W2) : p x := by
  rcases h with ⟨e, _⟩ | ⟨e, _⟩ | ⟨e, _⟩
  · rw [e]; exact p0
  · rw [e]; exact p1
  · rw [e]; exact p2
theorem Ch2.first (h : Ch2 b a W0 W1 W2 d x) (hb : d b = false) (hne : b ≠ a) : x = W0 ∧ Ch2 b a W0 W1 W2 (also d b) W1 := by
  rcases h with ⟨e, _, ha⟩ | ⟨_, h, _⟩ | ⟨_, h, _⟩
  · exact ⟨e, .s1 rfl also_self (by rw [also_far hne]; exact ha)⟩
  · rw [h] at hb; cases hb
  · rw [h] at hb; cases hb
theorem Ch2.second (h : Ch2 b a W0 W1 W2 d x) (hb : d b = true) (ha : d a = false) (hne : a ≠ b) : x = W1 ∧ Ch2 b a W0 W1 W2 (also d a) W2 := by
  rcases h with ⟨_, h, _⟩ | ⟨e, _, _⟩ | ⟨_, _, h⟩
  · rw [h] at hb; cases hb
  · exact ⟨e, .s2 rfl (by rw [also_far hne]; exact hb) also_self⟩
  · rw [h] at ha; cases ha
theorem Ch2.done (h : Ch2 b a W0 W1 W2 d x) (ha : d a = true) : x = W2 := by
  rcases h with ⟨_, _, h⟩ | ⟨_, _, h⟩ | ⟨e, _, _⟩
  · rw [h] at ha; cases ha
  · rw [h] at ha; cases ha
  · exact e
end

/-- Only operation w of the region writes slot s. -/
theorem slot_only {l : Array Oper} {s w : Nat} (h : ((List.range l.size).all fun j => decide (slotO l j ≠ some s) || decide (j = w)) = true) : ∀ j, slotO l j = some s → j = w := by
  intro j e
  have hjl : j < l.size := by
    unfold slotO at e
    cases hq : l[j]? with
    | none => rw [hq] at e; cases e
    | some o' => exact (Array.getElem?_eq_some_iff.1 hq).1
  have := List.all_eq_true.1 h j (List.mem_range.2 hjl)
  rw [Bool.or_eq_true, decide_eq_true_iff, decide_eq_true_iff] at this
  exact this.resolve_left (fun h => h e)
/-- wp_region_fix, where an operation may read a slot that a later one of the region writes. -/
theorem wp_region_fix2 {P : Program} {id : Nat} {Q : Exit → Act → World → Prop} {a0 : Act} {w0 : World} {l : Array Oper} (V : Nat → Value) (J : (Nat → Bool) → World → Prop) (N : Nat) (hm : P.follows .mixedOrders = true) (ho : inOrder l = true) (hg : fixRegion l N = true)
    (hs : a0.tmps.size = N) (h0 : J (fun _ => false) w0.drew)
    (hstep : ∀ (i : Nat) (o : Oper), l[i]? = some o → ∀ (d : Nat → Bool) (a : Act) (x : World), J d x → d i = false → (∀ e ∈ o.after, Region.binds .any e = true → d e.on = true) → (∀ j o', l[j]? = some o' → d j = true → ∀ e ∈ o'.after, Region.binds .any e = true → d e.on = true) →
      (∀ s, (∀ j, slotO l j = some s → d j = false) → a.tmps[s]?.getD undef = a0.tmps[s]?.getD undef) →
      (∀ j s, d j = true → slotO l j = some s → a.tmps[s]?.getD undef = V s) → ∀ K : Act → World → Prop, (∀ v x', (∀ s, o.dst = some s → v = V s) → J (also d i) x' → K (a.put o.dst v) x') → o.wp P a x K Q)
    (hend : ∀ (d : Nat → Bool) (a : Act) (x : World), (∀ j, j < l.size → d j = true) → J d x → (∀ s, (∀ j, slotO l j ≠ some s) → a.tmps[s]?.getD undef = a0.tmps[s]?.getD undef) → (∀ j s, j < l.size → slotO l j = some s → a.tmps[s]?.getD undef = V s) → a.tmps.size = N → a.defers = a0.defers → Q .normal a x) :
    (Code.region id l true).wp P Q a0 w0 := by
  refine wp_region_inv (fun d a x => J d x ∧ (∀ s, (∀ j, slotO l j = some s → d j = false) → a.tmps[s]?.getD undef = a0.tmps[s]?.getD undef) ∧ (∀ j s, d j = true → slotO l j = some s → a.tmps[s]?.getD undef = V s) ∧ a.tmps.size = N ∧ a.defers = a0.defers ∧ (∀ j o', l[j]? = some o' → d j = true → ∀ e ∈ o'.after, Region.binds .any e = true → d e.on = true)) hm ho ?_ ?_ ?_
  · exact ⟨h0, fun _ _ => rfl, (fun j s h => by cases h), hs, rfl, fun j o' _ h => by cases h⟩
  · intro i o hi d a x hd hpre ⟨hJ, hsame, hV, hsz, hde, hcl⟩ K hK
    obtain ⟨g1, g2, g3, g4⟩ := fix_at hg hi
    refine step_plain g1 (hstep i o hi d a x hJ hd hpre hcl hsame hV K fun v x' hv hJ' => hK _ _ ⟨hJ', ?_, ?_, ?_, ?_, ?_⟩)
    · intro s hs'
      have hsd : ∀ j, slotO l j = some s → d j = false := fun j hj => by
        have h := hs' j hj
        unfold also at h
        split at h
        · cases h
        · exact h
      cases hq : o.dst with
      | none => exact hsame s hsd
      | some t =>
        have ht : s ≠ t := fun e => by
          have h := hs' i (by rw [g3, hq, e])
          rw [also_self] at h
          cases h
        exact (at_put (a := a) (v := v) ht).trans (hsame s hsd)
    · intro j s hj hjs
      by_cases e : j = i
      · subst e
        rw [g3] at hjs
        have e2 := at_put_self (a := a) (v := v) (s := s) (by rw [hsz]; exact g2 s hjs)
        unfold Act.at_ at e2
        rw [hjs, e2]
        exact hv s hjs
      · have hdj : d j = true := by unfold also at hj; rwa [if_neg e] at hj
        have hne := g4 j s e hjs
        cases hq : o.dst with
        | none => exact hV j s hdj hjs
        | some t =>
          have ht : s ≠ t := fun e => hne (by rw [hq, e])
          exact (at_put (a := a) (v := v) ht).trans (hV j s hdj hjs)
    · cases hq : o.dst with
      | none => exact hsz
      | some t =>
        show (a.tmps.setIfInBounds _ _).size = N
        rw [Array.size_setIfInBounds]
        exact hsz
    · cases hq : o.dst with
      | none => exact hde
      | some t => exact hde
    · intro j o' hj hdj e he hb
      have up : ∀ k, d k = true → also d i k = true := fun k h => by unfold also; split; rfl; exact h
      by_cases eji : j = i
      · subst eji
        rw [hi] at hj
        cases hj
        exact up _ (hpre e he hb)
      · have hdj' : d j = true := by unfold also at hdj; rwa [if_neg eji] at hdj
        exact up _ (hcl j o' hj hdj' e he hb)
  · intro d a x hall ⟨hJ, hsame, hV, hsz, hde, _⟩
    exact hend d a x hall hJ (fun s h => hsame s fun j hj => absurd hj (h j)) (fun j s hj hs => hV j s (hall j hj) hs) hsz hde
theorem wp_region_fixed2 {P : Program} {id : Nat} {Q : Exit → Act → World → Prop} {a0 : Act} {w0 : World} {l : Array Oper} (V : Nat → Value) (J : (Nat → Bool) → World → Prop) (N : Nat) (S : List Nat) (hS : l.toList.filterMap (·.dst) = S) (hm : P.follows .mixedOrders = true) (ho : inOrder l = true) (hg : fixRegion l N = true)
    (hs : a0.tmps.size = N) (h0 : J (fun _ => false) w0.drew)
    (hstep : ∀ (i : Nat) (o : Oper), l[i]? = some o → ∀ (d : Nat → Bool) (a : Act) (x : World), J d x → d i = false → (∀ e ∈ o.after, Region.binds .any e = true → d e.on = true) → (∀ j o', l[j]? = some o' → d j = true → ∀ e ∈ o'.after, Region.binds .any e = true → d e.on = true) →
      (∀ s, (∀ j, slotO l j = some s → d j = false) → a.tmps[s]?.getD undef = a0.tmps[s]?.getD undef) →
      (∀ j s, d j = true → slotO l j = some s → a.tmps[s]?.getD undef = V s) → ∀ K : Act → World → Prop, (∀ v x', (∀ s, o.dst = some s → v = V s) → J (also d i) x' → K (a.put o.dst v) x') → o.wp P a x K Q)
    (hend : ∀ (d : Nat → Bool) (x : World), (∀ j, j < l.size → d j = true) → J d x → Q .normal (putAct V S a0) x) :
    (Code.region id l true).wp P Q a0 w0 := by
  refine wp_region_fix2 V J N hm ho hg hs h0 hstep ?_
  intro d a x hall hJ hsame hV hsz hde
  have hmem : ∀ k, k ∈ S ↔ ∃ j, j < l.size ∧ slotO l j = some k := by
    intro k
    rw [← hS, List.mem_filterMap]
    constructor
    · rintro ⟨o, hmo, ho'⟩
      obtain ⟨j, hj, rfl⟩ := List.getElem_of_mem hmo
      refine ⟨j, by simpa using hj, ?_⟩
      unfold slotO
      rw [← Array.getElem?_toList, List.getElem?_eq_getElem hj]
      exact ho'
    · rintro ⟨j, hj, h⟩
      unfold slotO at h
      rw [Array.getElem?_eq_getElem hj] at h
      exact ⟨l[j], by simp, h⟩
  rw [act_put (V := V) (S := S) (a0 := a0) hs hsz hde (fun k hk => by obtain ⟨j, hj, h⟩ := (hmem k).1 hk; exact hV j k hj h) (fun k hk => hsame k fun j h => hk ((hmem k).2 ⟨j, by
    unfold slotO at h
    cases hq : l[j]? with
    | none => rw [hq] at h; cases h
    | some o' => exact (Array.getElem?_eq_some_iff.1 hq).1, h⟩))]
  exact hend d x hall hJ
theorem many7_ {i n : Nat} (h : i < n) (hn : n = 7) : i = 0 ∨ i = 1 ∨ i = 2 ∨ i = 3 ∨ i = 4 ∨ i = 5 ∨ i = 6 := by omega
theorem many8_ {i n : Nat} (h : i < n) (hn : n = 8) : i = 0 ∨ i = 1 ∨ i = 2 ∨ i = 3 ∨ i = 4 ∨ i = 5 ∨ i = 6 ∨ i = 7 := by omega
theorem many9_ {i n : Nat} (h : i < n) (hn : n = 9) : i = 0 ∨ i = 1 ∨ i = 2 ∨ i = 3 ∨ i = 4 ∨ i = 5 ∨ i = 6 ∨ i = 7 ∨ i = 8 := by omega
theorem many10_ {i n : Nat} (h : i < n) (hn : n = 10) : i = 0 ∨ i = 1 ∨ i = 2 ∨ i = 3 ∨ i = 4 ∨ i = 5 ∨ i = 6 ∨ i = 7 ∨ i = 8 ∨ i = 9 := by omega
theorem many11_ {i n : Nat} (h : i < n) (hn : n = 11) : i = 0 ∨ i = 1 ∨ i = 2 ∨ i = 3 ∨ i = 4 ∨ i = 5 ∨ i = 6 ∨ i = 7 ∨ i = 8 ∨ i = 9 ∨ i = 10 := by omega
theorem many12_ {i n : Nat} (h : i < n) (hn : n = 12) : i = 0 ∨ i = 1 ∨ i = 2 ∨ i = 3 ∨ i = 4 ∨ i = 5 ∨ i = 6 ∨ i = 7 ∨ i = 8 ∨ i = 9 ∨ i = 10 ∨ i = 11 := by omega
theorem many13_ {i n : Nat} (h : i < n) (hn : n = 13) : i = 0 ∨ i = 1 ∨ i = 2 ∨ i = 3 ∨ i = 4 ∨ i = 5 ∨ i = 6 ∨ i = 7 ∨ i = 8 ∨ i = 9 ∨ i = 10 ∨ i = 11 ∨ i = 12 := by omega
theorem many14_ {i n : Nat} (h : i < n) (hn : n = 14) : i = 0 ∨ i = 1 ∨ i = 2 ∨ i = 3 ∨ i = 4 ∨ i = 5 ∨ i = 6 ∨ i = 7 ∨ i = 8 ∨ i = 9 ∨ i = 10 ∨ i = 11 ∨ i = 12 ∨ i = 13 := by omega
theorem many15_ {i n : Nat} (h : i < n) (hn : n = 15) : i = 0 ∨ i = 1 ∨ i = 2 ∨ i = 3 ∨ i = 4 ∨ i = 5 ∨ i = 6 ∨ i = 7 ∨ i = 8 ∨ i = 9 ∨ i = 10 ∨ i = 11 ∨ i = 12 ∨ i = 13 ∨ i = 14 := by omega
theorem many16_ {i n : Nat} (h : i < n) (hn : n = 16) : i = 0 ∨ i = 1 ∨ i = 2 ∨ i = 3 ∨ i = 4 ∨ i = 5 ∨ i = 6 ∨ i = 7 ∨ i = 8 ∨ i = 9 ∨ i = 10 ∨ i = 11 ∨ i = 12 ∨ i = 13 ∨ i = 14 ∨ i = 15 := by omega
theorem many17_ {i n : Nat} (h : i < n) (hn : n = 17) : i = 0 ∨ i = 1 ∨ i = 2 ∨ i = 3 ∨ i = 4 ∨ i = 5 ∨ i = 6 ∨ i = 7 ∨ i = 8 ∨ i = 9 ∨ i = 10 ∨ i = 11 ∨ i = 12 ∨ i = 13 ∨ i = 14 ∨ i = 15 ∨ i = 16 := by omega
theorem many18_ {i n : Nat} (h : i < n) (hn : n = 18) : i = 0 ∨ i = 1 ∨ i = 2 ∨ i = 3 ∨ i = 4 ∨ i = 5 ∨ i = 6 ∨ i = 7 ∨ i = 8 ∨ i = 9 ∨ i = 10 ∨ i = 11 ∨ i = 12 ∨ i = 13 ∨ i = 14 ∨ i = 15 ∨ i = 16 ∨ i = 17 := by omega
theorem many19_ {i n : Nat} (h : i < n) (hn : n = 19) : i = 0 ∨ i = 1 ∨ i = 2 ∨ i = 3 ∨ i = 4 ∨ i = 5 ∨ i = 6 ∨ i = 7 ∨ i = 8 ∨ i = 9 ∨ i = 10 ∨ i = 11 ∨ i = 12 ∨ i = 13 ∨ i = 14 ∨ i = 15 ∨ i = 16 ∨ i = 17 ∨ i = 18 := by omega
theorem many20_ {i n : Nat} (h : i < n) (hn : n = 20) : i = 0 ∨ i = 1 ∨ i = 2 ∨ i = 3 ∨ i = 4 ∨ i = 5 ∨ i = 6 ∨ i = 7 ∨ i = 8 ∨ i = 9 ∨ i = 10 ∨ i = 11 ∨ i = 12 ∨ i = 13 ∨ i = 14 ∨ i = 15 ∨ i = 16 ∨ i = 17 ∨ i = 18 ∨ i = 19 := by omega
theorem many21_ {i n : Nat} (h : i < n) (hn : n = 21) : i = 0 ∨ i = 1 ∨ i = 2 ∨ i = 3 ∨ i = 4 ∨ i = 5 ∨ i = 6 ∨ i = 7 ∨ i = 8 ∨ i = 9 ∨ i = 10 ∨ i = 11 ∨ i = 12 ∨ i = 13 ∨ i = 14 ∨ i = 15 ∨ i = 16 ∨ i = 17 ∨ i = 18 ∨ i = 19 ∨ i = 20 := by omega
theorem many22_ {i n : Nat} (h : i < n) (hn : n = 22) : i = 0 ∨ i = 1 ∨ i = 2 ∨ i = 3 ∨ i = 4 ∨ i = 5 ∨ i = 6 ∨ i = 7 ∨ i = 8 ∨ i = 9 ∨ i = 10 ∨ i = 11 ∨ i = 12 ∨ i = 13 ∨ i = 14 ∨ i = 15 ∨ i = 16 ∨ i = 17 ∨ i = 18 ∨ i = 19 ∨ i = 20 ∨ i = 21 := by omega
theorem many23_ {i n : Nat} (h : i < n) (hn : n = 23) : i = 0 ∨ i = 1 ∨ i = 2 ∨ i = 3 ∨ i = 4 ∨ i = 5 ∨ i = 6 ∨ i = 7 ∨ i = 8 ∨ i = 9 ∨ i = 10 ∨ i = 11 ∨ i = 12 ∨ i = 13 ∨ i = 14 ∨ i = 15 ∨ i = 16 ∨ i = 17 ∨ i = 18 ∨ i = 19 ∨ i = 20 ∨ i = 21 ∨ i = 22 := by omega
theorem many24_ {i n : Nat} (h : i < n) (hn : n = 24) : i = 0 ∨ i = 1 ∨ i = 2 ∨ i = 3 ∨ i = 4 ∨ i = 5 ∨ i = 6 ∨ i = 7 ∨ i = 8 ∨ i = 9 ∨ i = 10 ∨ i = 11 ∨ i = 12 ∨ i = 13 ∨ i = 14 ∨ i = 15 ∨ i = 16 ∨ i = 17 ∨ i = 18 ∨ i = 19 ∨ i = 20 ∨ i = 21 ∨ i = 22 ∨ i = 23 := by omega
theorem many25_ {i n : Nat} (h : i < n) (hn : n = 25) : i = 0 ∨ i = 1 ∨ i = 2 ∨ i = 3 ∨ i = 4 ∨ i = 5 ∨ i = 6 ∨ i = 7 ∨ i = 8 ∨ i = 9 ∨ i = 10 ∨ i = 11 ∨ i = 12 ∨ i = 13 ∨ i = 14 ∨ i = 15 ∨ i = 16 ∨ i = 17 ∨ i = 18 ∨ i = 19 ∨ i = 20 ∨ i = 21 ∨ i = 22 ∨ i = 23 ∨ i = 24 := by omega
theorem many26_ {i n : Nat} (h : i < n) (hn : n = 26) : i = 0 ∨ i = 1 ∨ i = 2 ∨ i = 3 ∨ i = 4 ∨ i = 5 ∨ i = 6 ∨ i = 7 ∨ i = 8 ∨ i = 9 ∨ i = 10 ∨ i = 11 ∨ i = 12 ∨ i = 13 ∨ i = 14 ∨ i = 15 ∨ i = 16 ∨ i = 17 ∨ i = 18 ∨ i = 19 ∨ i = 20 ∨ i = 21 ∨ i = 22 ∨ i = 23 ∨ i = 24 ∨ i = 25 := by omega
theorem many27_ {i n : Nat} (h : i < n) (hn : n = 27) : i = 0 ∨ i = 1 ∨ i = 2 ∨ i = 3 ∨ i = 4 ∨ i = 5 ∨ i = 6 ∨ i = 7 ∨ i = 8 ∨ i = 9 ∨ i = 10 ∨ i = 11 ∨ i = 12 ∨ i = 13 ∨ i = 14 ∨ i = 15 ∨ i = 16 ∨ i = 17 ∨ i = 18 ∨ i = 19 ∨ i = 20 ∨ i = 21 ∨ i = 22 ∨ i = 23 ∨ i = 24 ∨ i = 25 ∨ i = 26 := by omega
theorem many28_ {i n : Nat} (h : i < n) (hn : n = 28) : i = 0 ∨ i = 1 ∨ i = 2 ∨ i = 3 ∨ i = 4 ∨ i = 5 ∨ i = 6 ∨ i = 7 ∨ i = 8 ∨ i = 9 ∨ i = 10 ∨ i = 11 ∨ i = 12 ∨ i = 13 ∨ i = 14 ∨ i = 15 ∨ i = 16 ∨ i = 17 ∨ i = 18 ∨ i = 19 ∨ i = 20 ∨ i = 21 ∨ i = 22 ∨ i = 23 ∨ i = 24 ∨ i = 25 ∨ i = 26 ∨ i = 27 := by omega
theorem many29_ {i n : Nat} (h : i < n) (hn : n = 29) : i = 0 ∨ i = 1 ∨ i = 2 ∨ i = 3 ∨ i = 4 ∨ i = 5 ∨ i = 6 ∨ i = 7 ∨ i = 8 ∨ i = 9 ∨ i = 10 ∨ i = 11 ∨ i = 12 ∨ i = 13 ∨ i = 14 ∨ i = 15 ∨ i = 16 ∨ i = 17 ∨ i = 18 ∨ i = 19 ∨ i = 20 ∨ i = 21 ∨ i = 22 ∨ i = 23 ∨ i = 24 ∨ i = 25 ∨ i = 26 ∨ i = 27 ∨ i = 28 := by omega
theorem many30_ {i n : Nat} (h : i < n) (hn : n = 30) : i = 0 ∨ i = 1 ∨ i = 2 ∨ i = 3 ∨ i = 4 ∨ i = 5 ∨ i = 6 ∨ i = 7 ∨ i = 8 ∨ i = 9 ∨ i = 10 ∨ i = 11 ∨ i = 12 ∨ i = 13 ∨ i = 14 ∨ i = 15 ∨ i = 16 ∨ i = 17 ∨ i = 18 ∨ i = 19 ∨ i = 20 ∨ i = 21 ∨ i = 22 ∨ i = 23 ∨ i = 24 ∨ i = 25 ∨ i = 26 ∨ i = 27 ∨ i = 28 ∨ i = 29 := by omega
end Go.Proofs.YtdmbmkjiffhbcaaGreat

namespace Go.Proofs.YtdmbmkjiffhbcaaGreat
open Go.RowKit
set_option maxRecDepth 100000

def long10 (p : PutM) : Bool := decide (1000 < p.val.length)
def putsB (L : List PutM) : Bool := decide (L.length ≤ 8) && !L.any long10
theorem putsB_all {L : List PutM} (h : putsB L = true) : L.length ≤ 8 ∧ ∀ p ∈ L, p.val.length ≤ 1000 := by
  unfold putsB at h
  simp only [Bool.and_eq_true, decide_eq_true_eq, Bool.not_eq_true', List.any_eq_false] at h
  refine ⟨h.1, fun p hp => ?_⟩
  have := h.2 p hp
  unfold long10 at this
  simp at this
  exact this
theorem puts_any (ok : Nat → Prop) (v : Value) (L : List PutM) (w : World) (hL : IsL kPut w ok v L) :
    Calls Tryz.prog 7 #[v] w fun e w' => e = .returned (.bool (putsB L)) ∧ Below w.heap.size w w' := by
  obtain ⟨A, c, rfl, hLc, hcm, hcells⟩ := put_at hL
  have Hc := Lib.hid hcells
  have hLm : L.length ≤ 9223372036854775807 := by unfold maxLen at hcm; omega
  clear hL hcells
  by_cases h8 : L.length ≤ 8
  · have hR0 : putsB L = !L.any long10 := by unfold putsB; simp [h8]
    rw [hR0]
    clear hR0
    generalize hR : L.any long10 = R
    have HR := Lib.hid hR
    clear hR
    have h8' : ¬ 8 < L.length := by omega
    go_enter Tryz.func7, Tryz.ntmps7
    go_wp2_with fail
    go_loopw [10] (fun i wr => ∃ k : Nat, k ≤ L.length ∧ i = .int .i64 (k : Int) ∧ (L.drop k).any long10 = R ∧ Below w.heap.size w wr) (fun i _ => L.length - (intOf i).toNat)
    case atStart => exact ⟨0, by omega, rfl, HR.out, Below.refl _ _⟩
    case round =>
      obtain ⟨k, hk, rfl, hrec, hbel⟩ := hrel
      have Hbel := Lib.hid hbel
      have Hrec := Lib.hid hrec
      clear hbel hrec
      by_cases hlt : k < L.length
      · obtain ⟨b, off, rfl, hokb, hbl, hcell⟩ := Hc.out (by intro e; subst e; simp at hlt)
        obtain ⟨Ai, ci, c0, c1, c2, hkey, hval⟩ := hcell k hlt
        have c0' := (Hbel.out.cell (p := ⟨b, off + k * 3, none⟩) hbl).trans c0
        have c1' := (Hbel.out.cell (p := ⟨b, off + k * 3 + 1, none⟩) hbl).trans c1
        have c2' := (Hbel.out.cell (p := ⟨b, off + k * 3 + 2, none⟩) hbl).trans c2
        have hrec := Hrec.out
        rw [List.drop_eq_getElem_cons hlt, List.any_cons] at hrec
        have hvm : L[k].val.length ≤ 9223372036854775807 := by
          obtain ⟨A', c', h1, h2, h3, _⟩ := hval
          unfold maxLen at h3
          omega
        generalize L[k] = p at c0' c1' c2' hrec hvm
        obtain ⟨pk, pv, pg⟩ := p
        dsimp only at c0' c1' c2' hvm
        have Hrec2 := Lib.hid hrec
        clear hcell c0 c1 c2 hkey hval hrec Hrec
        by_cases hbig : 1000 < pv.length
        · go_wp2_with fail
          go_ret
          have h := Hrec2.out
          simp [long10, hbig] at h
          subst h
          exact ⟨rfl, Hbel.out.alloc Hbel.out.size _⟩
        · go_wp2_with fail
          go_roundw
          case rel =>
            have h := Hrec2.out
            simp [long10, hbig] at h
            exact ⟨k + 1, by omega, by go_num, by simpa using h, Hbel.out.alloc Hbel.out.size _⟩
          case measure => simp [intOf]; omega
      · obtain rfl : k = L.length := by omega
        have h := Hrec.out
        rw [List.drop_length] at h
        simp at h
        subst h
        go_wp2_with fail
        go_ret
        exact ⟨rfl, Hbel.out⟩
  · have hR0 : putsB L = false := by unfold putsB; simp [h8]
    rw [hR0]
    have h8' : 8 < L.length := by omega
    clear hR0 h8
    go_enter Tryz.func7, Tryz.ntmps7
    go_wp2_with fail
    go_ret
    exact ⟨rfl, Below.refl _ _⟩

def cutP (m : Nat) (p : PutM) : PutM := ⟨p.key, p.val.take m, p.gone⟩
def cutL (m : Nat) (L : List PutM) : List PutM := L.map (cutP m)
theorem cutL_len (m : Nat) (L : List PutM) : (cutL m L).length = L.length := by unfold cutL; rw [List.length_map]
theorem IsB.take_ {w : World} {ok : Nat → Prop} {A : Option Addr} {n c : Nat} {l : List UInt8} (h : IsB w ok (.slice A n c) l) (m : Nat) (hm : m ≤ n) : IsB w ok (.slice A m c) (l.take m) := by
  obtain ⟨A', c', e, h1, h2, h3⟩ := h
  cases e
  refine ⟨A, c, by rw [List.length_take, Nat.min_eq_left hm], by rw [List.length_take, Nat.min_eq_left hm]; omega, h2, ?_⟩
  rw [List.map_take]
  exact h3.take
set_option maxHeartbeats 1000000 in
theorem kcut_any (ok : Nat → Prop) (v : Value) (L : List PutM) (m : Nat) (hm : m ≤ 100000) (w : World) (hL : IsL kPut w ok v L) (hLm : L.length ≤ 100000) :
    Calls Tryz.prog 10 #[v, .int .i64 (m : Int)] w fun e w' => (∃ x, e = .returned x ∧ IsL kPut w' (fun k => ok k ∨ w.heap.size ≤ k) x (cutL m L)) ∧ Below w.heap.size w w' := by
  obtain ⟨A, c, rfl, hLc, hcm, hcells⟩ := put_at hL
  have Hc := Lib.hid hcells
  have hm' : m ≤ 9223372036854775807 := by omega
  clear hL hcells
  go_enter Tryz.func10, Tryz.ntmps10
  go_wp2_with fail
  go_loopw [5, 10] (fun x i wr => ∃ (k : Nat) (xs : List Value), k ≤ L.length ∧ i = .int .i64 (k : Int) ∧ OwnK wr w.heap.size 49 3 x k xs ∧ kMany kPut wr (fun q => ok q ∧ q < w.heap.size) xs (cutL m (L.take k)) ∧ Below w.heap.size w wr) (fun _ i _ => L.length - (intOf i).toNat)
  case atStart => exact ⟨0, [], by omega, rfl, OwnK.nil _ _ _ _, kMany.nil, Below.refl _ _⟩
  case round =>
    obtain ⟨k, xs, hk, rfl, hown, hmany, hbel⟩ := hrel
    have Hbel := Lib.hid hbel
    have Hown := Lib.hid hown
    have Hmany := Lib.hid hmany
    obtain ⟨Ax, cx, rfl, _, _, _⟩ := hown.form
    clear hbel hown hmany
    by_cases hlt : k < L.length
    · obtain ⟨b, off, rfl, hokb, hbl, hcell⟩ := Hc.out (by intro e; subst e; simp at hlt)
      obtain ⟨Ai, ci, c0, c1, c2, hkey, hval⟩ := hcell k hlt
      have c0' := (Hbel.out.cell (p := ⟨b, off + k * 3, none⟩) hbl).trans c0
      have c1' := (Hbel.out.cell (p := ⟨b, off + k * 3 + 1, none⟩) hbl).trans c1
      have c2' := (Hbel.out.cell (p := ⟨b, off + k * 3 + 2, none⟩) hbl).trans c2
      obtain ⟨p, hp⟩ : ∃ p, p = L[k] := ⟨_, rfl⟩
      rw [← hp] at c0' c1' c2' hkey hval
      have hpc : p.val.length ≤ ci ∧ ci ≤ maxLen := by
        obtain ⟨A', c', h1, h2, h3, _⟩ := hval
        cases h1
        exact ⟨h2, h3⟩
      unfold maxLen at hpc
      have Hval := Lib.hid hval
      have Hp := Lib.hid hp
      have Hkey := Lib.hid hkey
      clear hcell c0 c1 c2 hval hp hkey
      obtain ⟨pk, pv, pg⟩ := p
      dsimp only at c0' c1' c2' hpc Hval Hkey
      obtain ⟨pl, hpl⟩ : ∃ pl, pl = pv.length := ⟨_, rfl⟩
      have Hpl := Lib.hid hpl
      rw [← hpl] at c1' hpc Hval
      clear hpl
      obtain ⟨q, hq⟩ : ∃ q, q = min pl m := ⟨_, rfl⟩
      have hqI : min (pl : Int) (m : Int) = (q : Int) := by omega
      have hqle : q ≤ pl := by omega
      have Hq := Lib.hid hq
      clear hq
      go_upto_region 5 with (fail)
      obtain ⟨W, hW⟩ : ∃ W, W = wr.alloc (.cells #[.int .u64 (pk : Int), .slice Ai pl ci, .bool pg] 49) := ⟨_, rfl⟩
      have hbW : Below wr.heap.size wr W := by rw [hW]; exact (Below.refl _ _).alloc (Nat.le_refl _) _
      have hbk : Blk W wr.heap.size 49 #[.int .u64 (pk : Int), .slice Ai pl ci, .bool pg] := by rw [hW]; exact Blk.new _ _ _
      have hbW1 : Below W.heap.size W (W.drew.alloc (.cells #[.int .u64 (pk : Int), .slice Ai q ci, .bool pg] 49)) := ((Below.refl W.heap.size W).drew).alloc (Nat.le_refl _) _
      have hsW := hbW.size
      have hqc : q ≤ ci := Nat.le_trans hqle hpc.1
      have hlW : wr.heap.size < W.heap.size := hbk.lt
      have hwr := Hbel.out.size
      obtain ⟨v2, W2, hrun, hown2, hg2, hat2⟩ := run_appK (P := Tryz.prog) (W.drew.alloc (.cells #[.int .u64 (pk : Int), .slice Ai q ci, .bool pg] 49)) (t := 22) (ty := 22) elemP ((Hown.out.grow hbW).grow hbW1) (ok := fun _ => True) (A := some ⟨W.heap.size, 0, none⟩) (m := 1) (c := 1) (news := [.int .u64 (pk : Int), .slice Ai q ci, .bool pg]) rfl ((Blk.new W.drew 49 #[.int .u64 (pk : Int), .slice Ai q ci, .bool pg]).rd _ trivial) (by intro u hu; simp at hu; rcases hu with rfl | rfl | rfl <;> rfl) (by omega) (by omega) (by have := hbW1.size; omega)
      have hne : ∀ g, (Value.slice Ax k cx).ownBlock = some g → g < wr.heap.size := fun g hg => (Hown.out.lt g hg).2
      have hbk1 := hbk.grow hbW1
      have hbk2 : Blk W2 wr.heap.size 49 #[.int .u64 (pk : Int), .slice Ai pl ci, .bool pg] := hbk1.grown hg2 (fun e => by have := hne _ e; omega)
      have z00 := Lib.hid (hbk.cell 0)
      have z01 := Lib.hid (hbk.cell 1)
      have z02 := Lib.hid (hbk.cell 2)
      have z10 := Lib.hid (hbk1.cell 0)
      have z11 := Lib.hid (hbk1.cell 1)
      have z12 := Lib.hid (hbk1.cell 2)
      have z20 := Lib.hid (hbk2.cell 0)
      have z21 := Lib.hid (hbk2.cell 1)
      have z22 := Lib.hid (hbk2.cell 2)
      simp only [List.getElem?_toArray, List.getElem?_cons_zero, List.getElem?_cons_succ] at z00 z01 z02 z10 z11 z12 z20 z21 z22
      have Hrun := Lib.hid hrun
      have Hown2 := Lib.hid hown2
      have hb2 : Below w.heap.size w W2 := by
        have h1 := Hbel.out.trans ((hbW.trans (hbW1.mono hsW)).mono hwr)
        refine ⟨hg2.os.trans h1.os, hg2.tape.trans h1.tape, hg2.output.trans h1.output, Nat.le_trans h1.size hg2.size, fun j hj => ?_⟩
        have h2 := h1.size
        refine (hg2.block j (by omega) (fun e => ?_)).trans (h1.block j hj)
        have := (Hown.out.lt j e.symm).1
        omega
      have Hb2 := Lib.hid hb2
      have hkeep : ∀ g, g < w.heap.size → W2.heap[g]? = wr.heap[g]? := fun g hg => (hb2.block g hg).trans (Hbel.out.block g hg).symm
      have hel : kPut.R W2 (fun g => ok g ∧ g < w.heap.size) [.int .u64 (pk : Int), .slice Ai q ci, .bool pg] (cutP m L[k]) := by
        rw [← Hp.out]
        refine ⟨.slice Ai q ci, rfl, Hkey.out, ?_⟩
        have h1 := IsB.take_ Hval.out q hqle
        have h2 : pv.take q = pv.take m := by
          rw [Hq.out, Hpl.out]
          rcases Nat.le_total pv.length m with h | h
          · rw [Nat.min_eq_left h, List.take_of_length_le (Nat.le_refl _), List.take_of_length_le h]
          · rw [Nat.min_eq_right h]
        show IsB W2 _ _ (pv.take m)
        rw [← h2]
        exact h1.move_ fun g hg hl => ⟨⟨hg, hl⟩, hb2.block g hl⟩
      have hmany2 : kMany kPut W2 (fun g => ok g ∧ g < w.heap.size) (xs ++ [.int .u64 (pk : Int), .slice Ai q ci, .bool pg]) (cutL m (L.take (k + 1))) := by
        rw [List.take_succ_eq_append_getElem hlt]
        unfold cutL
        rw [List.map_append]
        exact kMany_snoc (Hmany.out.frame fun g hg _ => hkeep g hg.2) hel
      have Hmany2 := Lib.hid hmany2
      rw [← hW]
      clear hrun hown2 hb2 hkeep hel hmany2 hbk hbk1 hbk2 hbW hbW1 hg2 hat2 hne hW c0' c1' c2'
      refine wp_region_fixed2 (fun s => match s with | 14 => .slice Ax k cx | 15 => .pointer (some ⟨wr.heap.size, 0, none⟩) | 16 => .int .u64 (pk : Int) | 17 => .pointer (some ⟨wr.heap.size, 1, none⟩) | 18 => .slice Ai pl ci | 19 => .pointer (some ⟨wr.heap.size, 1, none⟩) | 20 => .slice Ai pl ci | 21 => .int .i64 (pl : Int) | 22 => .int .i64 (m : Int) | 23 => .int .i64 (q : Int) | 24 => .slice Ai q ci | 25 => .pointer (some ⟨wr.heap.size, 2, none⟩) | 26 => .bool pg | 27 => .agg #[.int .u64 (pk : Int), .slice Ai q ci, .bool pg] | 28 => .slice (some ⟨W.heap.size, 0, none⟩) 1 1 | 29 => v2 | 5 => v2 | _ => undef) (Ch2 14 15 W.drew (W.drew.alloc (.cells #[.int .u64 (pk : Int), .slice Ai q ci, .bool pg] 49)) W2) 32 [14, 15, 16, 17, 18, 19, 20, 21, 22, 23, 24, 25, 26, 27, 28, 29, 5] (by kernel_rfl) (by kernel_rfl) (by kernel_rfl) (by kernel_rfl) rfl Ch2.start ?_ ?_
      · intro i0 o0 hi0 dn a0 x hJ hd hpre hcl hsame hV K hK
        have hlt0 := (Array.getElem?_eq_some_iff.1 hi0).1
        rcases many17_ hlt0 rfl with rfl | rfl | rfl | rfl | rfl | rfl | rfl | rfl | rfl | rfl | rfl | rfl | rfl | rfl | rfl | rfl | rfl
        all_goals (have ho0 := Option.some.inj hi0; subst ho0; clear hi0 hlt0)
        · have q5 : a0.tmps[5]?.getD undef = .slice Ax k cx := hsame 5 (fun j hj => by have hj2 := slot_only (w := 16) (by decide +kernel) j hj; subst hj2; exact Bool.eq_false_iff.2 (fun h => by have h2 := hcl 16 _ rfl h ⟨0, .phase⟩ (by simp) rfl; rw [hd] at h2; cases h2))
          have hk : ∀ v x', (v = .slice Ax k cx) → (Ch2 14 15 W.drew (W.drew.alloc (.cells #[.int .u64 (pk : Int), .slice Ai q ci, .bool pg] 49)) W2) (also dn 0) x' → K (a0.put (some 14) v) x' := fun v x' h1 h2 => hK v x' (fun s hs => by cases hs; exact h1) h2
          have hJ2 := Lib.hid hJ
          clear hsame hpre hcl hK hV hJ hd
          go_simp
          exact hk _ _ rfl (hJ2.out.more (by decide) (by decide))
        · have q7 : a0.tmps[7]?.getD undef = .pointer (some ⟨wr.heap.size, 0, none⟩) := hsame 7 (fun j hj => absurd hj (slot_free (by decide +kernel) j))
          have hk : ∀ v x', (v = .pointer (some ⟨wr.heap.size, 0, none⟩)) → (Ch2 14 15 W.drew (W.drew.alloc (.cells #[.int .u64 (pk : Int), .slice Ai q ci, .bool pg] 49)) W2) (also dn 1) x' → K (a0.put (some 15) v) x' := fun v x' h1 h2 => hK v x' (fun s hs => by cases hs; exact h1) h2
          have hJ2 := Lib.hid hJ
          clear hsame hpre hcl hK hV hJ hd
          go_simp
          exact hk _ _ rfl (hJ2.out.more (by decide) (by decide))
        · have q15 : a0.tmps[15]?.getD undef = .pointer (some ⟨wr.heap.size, 0, none⟩) := hV 1 15 (hpre ⟨1, .data⟩ (by simp) rfl) rfl
          have hk : ∀ v x', (v = .int .u64 (pk : Int)) → (Ch2 14 15 W.drew (W.drew.alloc (.cells #[.int .u64 (pk : Int), .slice Ai q ci, .bool pg] 49)) W2) (also dn 2) x' → K (a0.put (some 16) v) x' := fun v x' h1 h2 => hK v x' (fun s hs => by cases hs; exact h1) h2
          have e0 := hJ.all (p := fun x => x.cell? ⟨wr.heap.size, 0, none⟩ = some (.int .u64 (pk : Int))) z00.out z10.out z20.out
          have e1 := hJ.all (p := fun x => x.cell? ⟨wr.heap.size, 1, none⟩ = some (.slice Ai pl ci)) z01.out z11.out z21.out
          have e2 := hJ.all (p := fun x => x.cell? ⟨wr.heap.size, 2, none⟩ = some (.bool pg)) z02.out z12.out z22.out
          have hJ2 := Lib.hid hJ
          clear hsame hpre hcl hK hV hJ hd
          go_simp
          exact hk _ _ rfl (hJ2.out.more (by decide) (by decide))
        · have q7 : a0.tmps[7]?.getD undef = .pointer (some ⟨wr.heap.size, 0, none⟩) := hsame 7 (fun j hj => absurd hj (slot_free (by decide +kernel) j))
          have hk : ∀ v x', (v = .pointer (some ⟨wr.heap.size, 1, none⟩)) → (Ch2 14 15 W.drew (W.drew.alloc (.cells #[.int .u64 (pk : Int), .slice Ai q ci, .bool pg] 49)) W2) (also dn 3) x' → K (a0.put (some 17) v) x' := fun v x' h1 h2 => hK v x' (fun s hs => by cases hs; exact h1) h2
          have hJ2 := Lib.hid hJ
          clear hsame hpre hcl hK hV hJ hd
          go_simp
          exact hk _ _ rfl (hJ2.out.more (by decide) (by decide))
        · have q17 : a0.tmps[17]?.getD undef = .pointer (some ⟨wr.heap.size, 1, none⟩) := hV 3 17 (hpre ⟨3, .data⟩ (by simp) rfl) rfl
          have hk : ∀ v x', (v = .slice Ai pl ci) → (Ch2 14 15 W.drew (W.drew.alloc (.cells #[.int .u64 (pk : Int), .slice Ai q ci, .bool pg] 49)) W2) (also dn 4) x' → K (a0.put (some 18) v) x' := fun v x' h1 h2 => hK v x' (fun s hs => by cases hs; exact h1) h2
          have e0 := hJ.all (p := fun x => x.cell? ⟨wr.heap.size, 0, none⟩ = some (.int .u64 (pk : Int))) z00.out z10.out z20.out
          have e1 := hJ.all (p := fun x => x.cell? ⟨wr.heap.size, 1, none⟩ = some (.slice Ai pl ci)) z01.out z11.out z21.out
          have e2 := hJ.all (p := fun x => x.cell? ⟨wr.heap.size, 2, none⟩ = some (.bool pg)) z02.out z12.out z22.out
          have hJ2 := Lib.hid hJ
          clear hsame hpre hcl hK hV hJ hd
          go_simp
          exact hk _ _ rfl (hJ2.out.more (by decide) (by decide))
        · have q7 : a0.tmps[7]?.getD undef = .pointer (some ⟨wr.heap.size, 0, none⟩) := hsame 7 (fun j hj => absurd hj (slot_free (by decide +kernel) j))
          have hk : ∀ v x', (v = .pointer (some ⟨wr.heap.size, 1, none⟩)) → (Ch2 14 15 W.drew (W.drew.alloc (.cells #[.int .u64 (pk : Int), .slice Ai q ci, .bool pg] 49)) W2) (also dn 5) x' → K (a0.put (some 19) v) x' := fun v x' h1 h2 => hK v x' (fun s hs => by cases hs; exact h1) h2
          have hJ2 := Lib.hid hJ
          clear hsame hpre hcl hK hV hJ hd
          go_simp
          exact hk _ _ rfl (hJ2.out.more (by decide) (by decide))
        · have q19 : a0.tmps[19]?.getD undef = .pointer (some ⟨wr.heap.size, 1, none⟩) := hV 5 19 (hpre ⟨5, .data⟩ (by simp) rfl) rfl
          have hk : ∀ v x', (v = .slice Ai pl ci) → (Ch2 14 15 W.drew (W.drew.alloc (.cells #[.int .u64 (pk : Int), .slice Ai q ci, .bool pg] 49)) W2) (also dn 6) x' → K (a0.put (some 20) v) x' := fun v x' h1 h2 => hK v x' (fun s hs => by cases hs; exact h1) h2
          have e0 := hJ.all (p := fun x => x.cell? ⟨wr.heap.size, 0, none⟩ = some (.int .u64 (pk : Int))) z00.out z10.out z20.out
          have e1 := hJ.all (p := fun x => x.cell? ⟨wr.heap.size, 1, none⟩ = some (.slice Ai pl ci)) z01.out z11.out z21.out
          have e2 := hJ.all (p := fun x => x.cell? ⟨wr.heap.size, 2, none⟩ = some (.bool pg)) z02.out z12.out z22.out
          have hJ2 := Lib.hid hJ
          clear hsame hpre hcl hK hV hJ hd
          go_simp
          exact hk _ _ rfl (hJ2.out.more (by decide) (by decide))
        · have q20 : a0.tmps[20]?.getD undef = .slice Ai pl ci := hV 6 20 (hpre ⟨6, .data⟩ (by simp) rfl) rfl
          have hk : ∀ v x', (v = .int .i64 (pl : Int)) → (Ch2 14 15 W.drew (W.drew.alloc (.cells #[.int .u64 (pk : Int), .slice Ai q ci, .bool pg] 49)) W2) (also dn 7) x' → K (a0.put (some 21) v) x' := fun v x' h1 h2 => hK v x' (fun s hs => by cases hs; exact h1) h2
          have hJ2 := Lib.hid hJ
          clear hsame hpre hcl hK hV hJ hd
          go_simp
          exact hk _ _ rfl (hJ2.out.more (by decide) (by decide))
        · have q1 : a0.tmps[1]?.getD undef = .int .i64 (m : Int) := hsame 1 (fun j hj => absurd hj (slot_free (by decide +kernel) j))
          have hk : ∀ v x', (v = .int .i64 (m : Int)) → (Ch2 14 15 W.drew (W.drew.alloc (.cells #[.int .u64 (pk : Int), .slice Ai q ci, .bool pg] 49)) W2) (also dn 8) x' → K (a0.put (some 22) v) x' := fun v x' h1 h2 => hK v x' (fun s hs => by cases hs; exact h1) h2
          have hJ2 := Lib.hid hJ
          clear hsame hpre hcl hK hV hJ hd
          go_simp
          exact hk _ _ rfl (hJ2.out.more (by decide) (by decide))
        · have q21 : a0.tmps[21]?.getD undef = .int .i64 (pl : Int) := hV 7 21 (hpre ⟨7, .data⟩ (by simp) rfl) rfl
          have q22 : a0.tmps[22]?.getD undef = .int .i64 (m : Int) := hV 8 22 (hpre ⟨8, .data⟩ (by simp) rfl) rfl
          have hk : ∀ v x', (v = .int .i64 (q : Int)) → (Ch2 14 15 W.drew (W.drew.alloc (.cells #[.int .u64 (pk : Int), .slice Ai q ci, .bool pg] 49)) W2) (also dn 9) x' → K (a0.put (some 23) v) x' := fun v x' h1 h2 => hK v x' (fun s hs => by cases hs; exact h1) h2
          have hJ2 := Lib.hid hJ
          clear hsame hpre hcl hK hV hJ hd
          go_simp
          exact hk _ _ rfl (hJ2.out.more (by decide) (by decide))
        · have q18 : a0.tmps[18]?.getD undef = .slice Ai pl ci := hV 4 18 (hpre ⟨4, .data⟩ (by simp) rfl) rfl
          have q23 : a0.tmps[23]?.getD undef = .int .i64 (q : Int) := hV 9 23 (hpre ⟨9, .data⟩ (by simp) rfl) rfl
          have hk : ∀ v x', (v = .slice Ai q ci) → (Ch2 14 15 W.drew (W.drew.alloc (.cells #[.int .u64 (pk : Int), .slice Ai q ci, .bool pg] 49)) W2) (also dn 10) x' → K (a0.put (some 24) v) x' := fun v x' h1 h2 => hK v x' (fun s hs => by cases hs; exact h1) h2
          have hJ2 := Lib.hid hJ
          clear hsame hpre hcl hK hV hJ hd
          go_simp
          exact hk _ _ rfl (hJ2.out.more (by decide) (by decide))
        · have q7 : a0.tmps[7]?.getD undef = .pointer (some ⟨wr.heap.size, 0, none⟩) := hsame 7 (fun j hj => absurd hj (slot_free (by decide +kernel) j))
          have hk : ∀ v x', (v = .pointer (some ⟨wr.heap.size, 2, none⟩)) → (Ch2 14 15 W.drew (W.drew.alloc (.cells #[.int .u64 (pk : Int), .slice Ai q ci, .bool pg] 49)) W2) (also dn 11) x' → K (a0.put (some 25) v) x' := fun v x' h1 h2 => hK v x' (fun s hs => by cases hs; exact h1) h2
          have hJ2 := Lib.hid hJ
          clear hsame hpre hcl hK hV hJ hd
          go_simp
          exact hk _ _ rfl (hJ2.out.more (by decide) (by decide))
        · have q25 : a0.tmps[25]?.getD undef = .pointer (some ⟨wr.heap.size, 2, none⟩) := hV 11 25 (hpre ⟨11, .data⟩ (by simp) rfl) rfl
          have hk : ∀ v x', (v = .bool pg) → (Ch2 14 15 W.drew (W.drew.alloc (.cells #[.int .u64 (pk : Int), .slice Ai q ci, .bool pg] 49)) W2) (also dn 12) x' → K (a0.put (some 26) v) x' := fun v x' h1 h2 => hK v x' (fun s hs => by cases hs; exact h1) h2
          have e0 := hJ.all (p := fun x => x.cell? ⟨wr.heap.size, 0, none⟩ = some (.int .u64 (pk : Int))) z00.out z10.out z20.out
          have e1 := hJ.all (p := fun x => x.cell? ⟨wr.heap.size, 1, none⟩ = some (.slice Ai pl ci)) z01.out z11.out z21.out
          have e2 := hJ.all (p := fun x => x.cell? ⟨wr.heap.size, 2, none⟩ = some (.bool pg)) z02.out z12.out z22.out
          have hJ2 := Lib.hid hJ
          clear hsame hpre hcl hK hV hJ hd
          go_simp
          exact hk _ _ rfl (hJ2.out.more (by decide) (by decide))
        · have q16 : a0.tmps[16]?.getD undef = .int .u64 (pk : Int) := hV 2 16 (hpre ⟨2, .data⟩ (by simp) rfl) rfl
          have q24 : a0.tmps[24]?.getD undef = .slice Ai q ci := hV 10 24 (hpre ⟨10, .data⟩ (by simp) rfl) rfl
          have q26 : a0.tmps[26]?.getD undef = .bool pg := hV 12 26 (hpre ⟨12, .data⟩ (by simp) rfl) rfl
          have hk : ∀ v x', (v = .agg #[.int .u64 (pk : Int), .slice Ai q ci, .bool pg]) → (Ch2 14 15 W.drew (W.drew.alloc (.cells #[.int .u64 (pk : Int), .slice Ai q ci, .bool pg] 49)) W2) (also dn 13) x' → K (a0.put (some 27) v) x' := fun v x' h1 h2 => hK v x' (fun s hs => by cases hs; exact h1) h2
          have hJ2 := Lib.hid hJ
          clear hsame hpre hcl hK hV hJ hd
          go_simp
          exact hk _ _ rfl (hJ2.out.more (by decide) (by decide))
        · have q27 : a0.tmps[27]?.getD undef = .agg #[.int .u64 (pk : Int), .slice Ai q ci, .bool pg] := hV 13 27 (hpre ⟨13, .data⟩ (by simp) rfl) rfl
          have hk : ∀ v x', (v = .slice (some ⟨W.heap.size, 0, none⟩) 1 1) → (Ch2 14 15 W.drew (W.drew.alloc (.cells #[.int .u64 (pk : Int), .slice Ai q ci, .bool pg] 49)) W2) (also dn 14) x' → K (a0.put (some 28) v) x' := fun v x' h1 h2 => hK v x' (fun s hs => by cases hs; exact h1) h2
          obtain ⟨rfl, hJ3⟩ := hJ.first hd (by decide)
          have hJ2 := Lib.hid hJ3
          clear hsame hpre hcl hK hV hJ hJ3 hd
          go_simp
          exact hk _ _ rfl hJ2.out
        · have q14 : a0.tmps[14]?.getD undef = .slice Ax k cx := hV 0 14 (hpre ⟨0, .data⟩ (by simp) rfl) rfl
          have q28 : a0.tmps[28]?.getD undef = .slice (some ⟨W.heap.size, 0, none⟩) 1 1 := hV 14 28 (hpre ⟨14, .data⟩ (by simp) rfl) rfl
          have hk : ∀ v x', (v = v2) → (Ch2 14 15 W.drew (W.drew.alloc (.cells #[.int .u64 (pk : Int), .slice Ai q ci, .bool pg] 49)) W2) (also dn 15) x' → K (a0.put (some 29) v) x' := fun v x' h1 h2 => hK v x' (fun s hs => by cases hs; exact h1) h2
          obtain ⟨rfl, hJ3⟩ := hJ.second (hpre ⟨14, .data⟩ (by simp) rfl) hd (by decide)
          refine wp_append (.tmp 14) (.tmp 28) 22 rfl (by rw [eval_at q14, eval_at q28]; exact Hrun.out) ?_
          exact hk _ _ rfl hJ3
        · have q29 : a0.tmps[29]?.getD undef = v2 := hV 15 29 (hpre ⟨15, .data⟩ (by simp) rfl) rfl
          have hk : ∀ v x', (v = v2) → (Ch2 14 15 W.drew (W.drew.alloc (.cells #[.int .u64 (pk : Int), .slice Ai q ci, .bool pg] 49)) W2) (also dn 16) x' → K (a0.put (some 5) v) x' := fun v x' h1 h2 => hK v x' (fun s hs => by cases hs; exact h1) h2
          have hJ2 := Lib.hid hJ
          clear hsame hpre hcl hK hV hJ hd
          go_simp
          exact hk _ _ rfl (hJ2.out.more (by decide) (by decide))
      · intro dn x hall hJ
        have hx := hJ.done (hall 15 (by decide))
        subst hx
        simp only [putAct, Act.put, List.setIfInBounds_toArray, List.set_cons_zero, List.set_cons_succ]
        clear hall hJ
        go_wp2_with fail
        go_roundw
        case rel => exact ⟨k + 1, _, by omega, by go_num, Hown2.out, Hmany2.out, Hb2.out⟩
        case measure => simp [intOf]; omega
    · have hkl : k = L.length := by omega
      have hmn := Hmany.out
      rw [hkl, List.take_length] at hmn
      have hown3 := Hown.out
      rw [hkl] at hown3
      have Hown3 := Lib.hid hown3
      clear hown3
      have Hmn := Lib.hid hmn
      clear hmn
      go_wp2_with fail
      go_ret
      refine ⟨⟨_, rfl, ?_⟩, Hbel.out⟩
      obtain ⟨A', c', e, h1, h2, h3⟩ := Hown3.out.form
      have e2 : Value.slice Ax k cx = .slice A' (cutL m L).length c' := by rw [cutL_len, ← e, hkl]
      refine ⟨A', c', xs, e2, by rw [cutL_len]; exact h1, h2, h3.weaken (fun g hg => .inr (Hown3.out.lt g hg).1), Hmn.out.weaken (fun g hg => .inl hg.1)⟩
end Go.Proofs.YtdmbmkjiffhbcaaGreat

namespace Go.Proofs.YtdmbmkjiffhbcaaGreat

theorem putsG_nil (G : Nat → Option (List UInt8)) : putsG G [] = G := rfl
theorem putsG_cons (G : Nat → Option (List UInt8)) (p : PutM) (L : List PutM) : putsG G (p :: L) = putsG (putG G p) L := rfl
theorem putsG_append (G : Nat → Option (List UInt8)) (L M : List PutM) : putsG G (L ++ M) = putsG (putsG G L) M := by unfold putsG; rw [List.foldl_append]
/-- A key that no change has. -/
theorem putsG_other (L : List PutM) : ∀ (G : Nat → Option (List UInt8)) (k : Nat), (∀ p ∈ L, p.key ≠ k) → putsG G L k = G k := by
  induction L with
  | nil => intro G k _; rfl
  | cons p L ih =>
    intro G k h
    rw [putsG_cons, ih _ k (fun q hq => h q (by simp [hq]))]
    unfold putG
    rw [if_neg (fun e => h p (by simp) e.symm)]
/-- The last change of a key. -/
theorem putsG_last (L : List PutM) (i : Nat) (hi : i < L.length) (G : Nat → Option (List UInt8)) (h : ∀ p ∈ L.drop (i + 1), p.key ≠ L[i].key) : putsG G L L[i].key = if L[i].gone then none else some L[i].val := by
  have e : L = L.take i ++ (L[i] :: L.drop (i + 1)) := by
    rw [← List.drop_eq_getElem_cons hi, List.take_append_drop]
  have h2 : ∀ k, putsG G L k = putsG (putG (putsG G (L.take i)) L[i]) (L.drop (i + 1)) k := by
    intro k
    have h3 : putsG G L k = putsG G (L.take i ++ (L[i] :: L.drop (i + 1))) k := by rw [← e]
    rw [h3, putsG_append, putsG_cons]
  rw [h2, putsG_other _ _ _ h]
  unfold putG
  rw [if_pos rfl]
/-- Values' lengths. -/
theorem putsG_most (m : Nat) (L : List PutM) : ∀ (G : Nat → Option (List UInt8)), (∀ k l, G k = some l → l.length ≤ m) → (∀ p ∈ L, p.val.length ≤ m) → ∀ k l, putsG G L k = some l → l.length ≤ m := by
  induction L with
  | nil => intro G hG _; exact hG
  | cons p L ih =>
    intro G hG hL
    rw [putsG_cons]
    refine ih _ (fun k l hk => ?_) (fun q hq => hL q (by simp [hq]))
    unfold putG at hk
    split at hk
    · split at hk
      · cases hk
      · injection hk with hk; rw [← hk]; exact hL p (by simp)
    · exact hG k l hk
theorem cutL_val (m : Nat) (L : List PutM) : ∀ p ∈ cutL m L, p.val.length ≤ m := fun p hp => by
  unfold cutL at hp
  obtain ⟨q, _, rfl⟩ := List.mem_map.1 hp
  unfold cutP
  simp only [List.length_take]
  omega
theorem cutL_length (m : Nat) (L : List PutM) : (cutL m L).length = L.length := by unfold cutL; rw [List.length_map]
/-- A record of few short changes. -/
theorem short_rec (L : List PutM) (m : Nat) (hm : m ≤ 1000) (h8 : L.length ≤ 8) (hk : ∀ p ∈ L, p.key < 18446744073709551616) (hl : ∀ p ∈ L, p.val.length ≤ m) : ∀ r : List UInt8, r.length + L.length * (m + 20) ≤ 65000 → (precM L r).2 = 0 ∧ (precM L r).1.length ≤ r.length + L.length * (m + 20) := by
  induction L with
  | nil => intro r _; exact ⟨rfl, by simp [precM]⟩
  | cons p L ih =>
    intro r hr
    have hn := numLen_le p.key (by have := hk p (by simp); omega)
    have h1 := packB_two (numB p.key) (valB p)
    have h2 := lenB_le (numB p.key).length
    have h3 := lenB_le (valB p).length
    have h4 : (numB p.key).length = numLen p.key := numB_length _
    have h5 : (valB p).length ≤ p.val.length + 1 := by
      obtain ⟨k, v, g⟩ := p
      cases g
      · simp [valB]
      · simp [valB]
    have h6 := hl p (by simp)
    have h7 : (putB p).length ≤ m + 20 := by unfold putB; omega
    rw [List.length_cons, Nat.succ_mul] at hr
    have h9 : L.length * (m + 20) ≤ 65000 := by omega
    have h10 := ih (by simp at h8; omega) (fun q hq => hk q (by simp [hq])) (fun q hq => hl q (by simp [hq])) (r ++ putB p) (by rw [List.length_append]; omega)
    unfold precM
    rw [if_neg (by omega), if_neg (by omega)]
    refine ⟨h10.1, ?_⟩
    have := h10.2
    rw [List.length_append] at this
    rw [List.length_cons, Nat.succ_mul]
    omega
theorem short_rec0 (L : List PutM) (m : Nat) (hm : m ≤ 1000) (h8 : L.length ≤ 8) (hk : ∀ p ∈ L, p.key < 18446744073709551616) (hl : ∀ p ∈ L, p.val.length ≤ m) : (precM L []).2 = 0 ∧ (precM L []).1.length ≤ 8 * (m + 20) := by
  have h0 : L.length * (m + 20) ≤ 8 * (m + 20) := Nat.mul_le_mul_right _ h8
  have h := short_rec L m hm h8 hk hl [] (by simp only [List.length_nil]; omega)
  refine ⟨h.1, ?_⟩
  have := h.2
  simp only [List.length_nil] at this
  omega
theorem short_few (L : List PutM) (m : Nat) (hm : m ≤ 60000) (hl : ∀ p ∈ L, p.val.length ≤ m) : L.any long60 = false := by
  rw [List.any_eq_false]
  intro p hp
  have := hl p hp
  unfold long60
  simp
  omega
end Go.Proofs.YtdmbmkjiffhbcaaGreat
