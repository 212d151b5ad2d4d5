/-
  A region that draws its order, of whose operations two turn the world, one behind the other (a row of one element is laid, and appended).
  Lists of changes: puts (are they few and short?) and cut (with shorter values), as wardshiplaw05 has them.
  Of changes the last one of a key counts: what KeepLast says, as mathematics.
-/
import Derived.Test.YtdmbmkjiffhbcaaGreatSortA
import Derived.Test.YtdmbmkjiffhbcaaGreatKeepChgs
import Derived.Test.YtdmbmkjiffhbcaaGreatKRecord
namespace Go.Proofs.YtdmbmkjiffhbcaaGreat
open Go.RowKit

inductive Ch2 (b a : Nat) (W0 W1 W2 : World) (d : Nat → Bool) (x : World) : Prop
  | s0 (h : x = W0) (h1 : d b = false) (h2 : d a = false) : Ch2 b a W0 W1 W2 d x
  | s1 (h : x = W1) (h1 : d b = true) (h2 : d a = false) : Ch2 b a W0 W1 W2 d x
  | s2 (h : x = W2) (h1 : d b = true) (h2 : d a = true) : Ch2 b a W0 W1 W2 d x
section
variable {b a : Nat} {W0 W1 W2 : World} {d : Nat → Bool} {x : World}
theorem Ch2.start : Ch2 b a W0 W1 W2 (fun _ => false) W0 := .s0 rfl rfl rfl
theorem also_far {d : Nat → Bool} {i j : Nat} (h : i ≠ j) : also d i j = d j := if_neg (fun e => h e.symm)
theorem also_self {d : Nat → Bool} {i : Nat} : also d i i = true := if_pos rfl
theorem Ch2.more (h : Ch2 b a W0 W1 W2 d x) {i : Nat} (h1 : i ≠ b) (h2 : i ≠ a) : Ch2 b a W0 W1 W2 (also d i) x := by
  rcases h with ⟨e, hb, ha⟩ | ⟨e, hb, ha⟩ | ⟨e, hb, ha⟩
  · exact .s0 e (by rw [also_far h1]; exact hb) (by rw [also_far h2]; exact ha)
  · exact .s1 e (by rw [also_far h1]; exact hb) (by rw [also_far h2]; exact ha)
  · exact .s2 e (by rw [also_far h1]; exact hb) (by rw [also_far h2]; exact ha)
theorem Ch2.all (h : Ch2 b a W0 W1 W2 d x) {p : World → Prop} (p0 : p W0) (p1 : p W1) (p2 : p W2) : p x := by
  rcases h with ⟨e, _⟩ | ⟨e, _⟩ | ⟨e, _⟩
  · rw [e]; exact p0
  · rw [e]; exact p1
  · rw [e]; exact p2
theorem Ch2.first (h : Ch2 b a W0 W1 W2 d x) (hb : d b = false) (hne : b ≠ a) : x = W0 ∧ Ch2 b a W0 W1 W2 (also d b) W1 := by
  rcases h with ⟨e, _, ha⟩ | ⟨_, h, _⟩ | ⟨_, h, _⟩
  · exact ⟨e, .s1 rfl also_self (by rw [also_far hne]; exact ha)⟩
  · rw [h] at hb; cases hb
  · rw [h] at hb; cases hb
theorem Ch2.second (h : Ch2 b a W0 W1 W2 d x) (hb : d b = true) (ha : d a = false) (hne : a ≠ b) : x = W1 ∧ Ch2 b a W0 W1 W2 (also d a) W2 := by
  rcases h with ⟨_, h, _⟩ | ⟨e, _, _⟩ | ⟨_, _, h⟩
  · rw [h] at hb; cases hb
  · exact ⟨e, .s2 rfl (by rw [also_far hne]; exact hb) also_self⟩
  · rw [h] at ha; cases ha
theorem Ch2.done (h : Ch2 b a W0 W1 W2 d x) (ha : d a = true) : x = W2 := by
  rcases h with ⟨_, _, h⟩ | ⟨_, _, h⟩ | ⟨e, _, _⟩
  · rw [h] at ha; cases ha
  · rw [h] at ha; cases ha
  · exact e
end

/-- Only operation w of the region writes slot s. -/
theorem slot_only {l : Array Oper} {s w : Nat} (h : ((List.range l.size).all fun j => decide (slotO l j ≠ some s) || decide (j = w)) = true) : ∀ j, slotO l j = some s → j = w := by
  intro j e
  have hjl : j < l.size := by
    unfold slotO at e
    cases hq : l[j]? with
    | none => rw [hq] at e; cases e
    | some o' => exact (Array.getElem?_eq_some_iff.1 hq).1
  have := List.all_eq_true.1 h j (List.mem_range.2 hjl)
  rw [Bool.or_eq_true, decide_eq_true_iff, decide_eq_true_iff] at this
  exact this.resolve_left (fun h => h e)
/-- wp_region_fix, where an operation may read a slot that a later one of the region writes. -/
theorem wp_region_fix2 {P : Program} {id : Nat} {Q : Exit → Act → World → Prop} {a0 : Act} {w0 : World} {l : Array Oper} (V : Nat → Value) (J : (Nat → Bool) → World → Prop) (N : Nat) (hm : P.follows .mixedOrders = true) (ho : inOrder l = true) (hg : fixRegion l N = true)
    (hs : a0.tmps.size = N) (h0 : J (fun _ => false) w0.drew)
    (hstep : ∀ (i : Nat) (o : Oper), l[i]? = some o → ∀ (d : Nat → Bool) (a : Act) (x : World), J d x → d i = false → (∀ e ∈ o.after, Region.binds .any e = true → d e.on = true) → (∀ j o', l[j]? = some o' → d j = true → ∀ e ∈ o'.after, Region.binds .any e = true → d e.on = true) →
      (∀ s, (∀ j, slotO l j = some s → d j = false) → a.tmps[s]?.getD undef = a0.tmps[s]?.getD undef) →
      (∀ j s, d j = true → slotO l j = some s → a.tmps[s]?.getD undef = V s) → ∀ K : Act → World → Prop, (∀ v x', (∀ s, o.dst = some s → v = V s) → J (also d i) x' → K (a.put o.dst v) x') → o.wp P a x K Q)
    (hend : ∀ (d : Nat → Bool) (a : Act) (x : World), (∀ j, j < l.size → d j = true) → J d x → (∀ s, (∀ j, slotO l j ≠ some s) → a.tmps[s]?.getD undef = a0.tmps[s]?.getD undef) → (∀ j s, j < l.size → slotO l j = some s → a.tmps[s]?.getD undef = V s) → a.tmps.size = N → a.defers = a0.defers → Q .normal a x) :
    (Code.region id l true).wp P Q a0 w0 := by
  refine wp_region_inv (fun d a x => J d x ∧ (∀ s, (∀ j, slotO l j = some s → d j = false) → a.tmps[s]?.getD undef = a0.tmps[s]?.getD undef) ∧ (∀ j s, d j = true → slotO l j = some s → a.tmps[s]?.getD undef = V s) ∧ a.tmps.size = N ∧ a.defers = a0.defers ∧ (∀ j o', l[j]? = some o' → d j = true → ∀ e ∈ o'.after, Region.binds .any e = true → d e.on = true)) hm ho ?_ ?_ ?_
  · exact ⟨h0, fun _ _ => rfl, (fun j s h => by cases h), hs, rfl, fun j o' _ h => by cases h⟩
  · intro i o hi d a x hd hpre ⟨hJ, hsame, hV, hsz, hde, hcl⟩ K hK
    obtain ⟨g1, g2, g3, g4⟩ := fix_at hg hi
    refine step_plain g1 (hstep i o hi d a x hJ hd hpre hcl hsame hV K fun v x' hv hJ' => hK _ _ ⟨hJ', ?_, ?_, ?_, ?_, ?_⟩)
    · intro s hs'
      have hsd : ∀ j, slotO l j = some s → d j = false := fun j hj => by
        have h := hs' j hj
        unfold also at h
        split at h
        · cases h
        · exact h
      cases hq : o.dst with
      | none => exact hsame s hsd
      | some t =>
        have ht : s ≠ t := fun e => by
          have h := hs' i (by rw [g3, hq, e])
          rw [also_self] at h
          cases h
        exact (at_put (a := a) (v := v) ht).trans (hsame s hsd)
    · intro j s hj hjs
      by_cases e : j = i
      · subst e
        rw [g3] at hjs
        have e2 := at_put_self (a := a) (v := v) (s := s) (by rw [hsz]; exact g2 s hjs)
        unfold Act.at_ at e2
        rw [hjs, e2]
        exact hv s hjs
      · have hdj : d j = true := by unfold also at hj; rwa [if_neg e] at hj
        have hne := g4 j s e hjs
        cases hq : o.dst with
        | none => exact hV j s hdj hjs
        | some t =>
          have ht : s ≠ t := fun e => hne (by rw [hq, e])
          exact (at_put (a := a) (v := v) ht).trans (hV j s hdj hjs)
    · cases hq : o.dst with
      | none => exact hsz
      | some t =>
        show (a.tmps.setIfInBounds _ _).size = N
        rw [Array.size_setIfInBounds]
        exact hsz
    · cases hq : o.dst with
      | none => exact hde
      | some t => exact hde
    · intro j o' hj hdj e he hb
      have up : ∀ k, d k = true → also d i k = true := fun k h => by unfold also; split; rfl; exact h
      by_cases eji : j = i
      · subst eji
        rw [hi] at hj
        cases hj
        exact up _ (hpre e he hb)
      · have hdj' : d j = true := by unfold also at hdj; rwa [if_neg eji] at hdj
        exact up _ (hcl j o' hj hdj' e he hb)
  · intro d a x hall ⟨hJ, hsame, hV, hsz, hde, _⟩
    exact hend d a x hall hJ (fun s h => hsame s fun j hj => absurd hj (h j)) (fun j s hj hs => hV j s (hall j hj) hs) hsz hde
theorem wp_region_fixed2 {P : Program} {id : Nat} {Q : Exit → Act → World → Prop} {a0 : Act} {w0 : World} {l : Array Oper} (V : Nat → Value) (J : (Nat → Bool) → World → Prop) (N : Nat) (S : List Nat) (hS : l.toList.filterMap (·.dst) = S) (hm : P.follows .mixedOrders = true) (ho : inOrder l = true) (hg : fixRegion l N = true)
    (hs : a0.tmps.size = N) (h0 : J (fun _ => false) w0.drew)
    (hstep : ∀ (i : Nat) (o : Oper), l[i]? = some o → ∀ (d : Nat → Bool) (a : Act) (x : World), J d x → d i = false → (∀ e ∈ o.after, Region.binds .any e = true → d e.on = true) → (∀ j o', l[j]? = some o' → d j = true → ∀ e ∈ o'.after, Region.binds .any e = true → d e.on = true) →
      (∀ s, (∀ j, slotO l j = some s → d j = false) → a.tmps[s]?.getD undef = a0.tmps[s]?.getD undef) →
      (∀ j s, d j = true → slotO l j = some s → a.tmps[s]?.getD undef = V s) → ∀ K : Act → World → Prop, (∀ v x', (∀ s, o.dst = some s → v = V s) → J (also d i) x' → K (a.put o.dst v) x') → o.wp P a x K Q)
    (hend : ∀ (d : Nat → Bool) (x : World), (∀ j, j < l.size → d j = true) → J d x → Q .normal (putAct V S a0) x) :
    (Code.region id l true).wp P Q a0 w0 := by
  refine wp_region_fix2 V J N hm ho hg hs h0 hstep ?_
  intro d a x hall hJ hsame hV hsz hde
  have hmem : ∀ k, k ∈ S ↔ ∃ j, j < l.size ∧ slotO l j = some k := by
    intro k
    rw [← hS, List.mem_filterMap]
    constructor
    · rintro ⟨o, hmo, ho'⟩
      obtain ⟨j, hj, rfl⟩ := List.getElem_of_mem hmo
      refine ⟨j, by simpa using hj, ?_⟩
      unfold slotO
      rw [← Array.getElem?_toList, List.getElem?_eq_getElem hj]
      exact ho'
    · rintro ⟨j, hj, h⟩
      unfold slotO at h
      rw [Array.getElem?_eq_getElem hj] at h
      exact ⟨l[j], by simp, h⟩
  rw [act_put (V := V) (S := S) (a0 := a0) hs hsz hde (fun k hk => by obtain ⟨j, hj, h⟩ := (hmem k).1 hk; exact hV j k hj h) (fun k hk => hsame k fun j h => hk ((hmem k).2 ⟨j, by
    unfold slotO at h
    cases hq : l[j]? with
    | none => rw [hq] at h; cases h
    | some o' => exact (Array.getElem?_eq_some_iff.1 hq).1, h⟩))]
  exact hend d x hall hJ
theorem many7_ {i n : Nat} (h : i < n) (hn : n = 7) : i = 0 ∨ i = 1 ∨ i = 2 ∨ i = 3 ∨ i = 4 ∨ i = 5 ∨ i = 6 := by omega
theorem many8_ {i n : Nat} (h : i < n) (hn : n = 8) : i = 0 ∨ i = 1 ∨ i = 2 ∨ i = 3 ∨ i = 4 ∨ i = 5 ∨ i = 6 ∨ i = 7 := by omega
theorem many9_ {i n : Nat} (h : i < n) (hn : n = 9) : i = 0 ∨ i = 1 ∨ i = 2 ∨ i = 3 ∨ i = 4 ∨ i = 5 ∨ i = 6 ∨ i = 7 ∨ i = 8 := by omega
theorem many10_ {i n : Nat} (h : i < n) (hn : n = 10) : i = 0 ∨ i = 1 ∨ i = 2 ∨ i = 3 ∨ i = 4 ∨ i = 5 ∨ i = 6 ∨ i = 7 ∨ i = 8 ∨ i = 9 := by omega
theorem many11_ {i n : Nat} (h : i < n) (hn : n = 11) : i = 0 ∨ i = 1 ∨ i = 2 ∨ i = 3 ∨ i = 4 ∨ i = 5 ∨ i = 6 ∨ i = 7 ∨ i = 8 ∨ i = 9 ∨ i = 10 := by omega
theorem many12_ {i n : Nat} (h : i < n) (hn : n = 12) : i = 0 ∨ i = 1 ∨ i = 2 ∨ i = 3 ∨ i = 4 ∨ i = 5 ∨ i = 6 ∨ i = 7 ∨ i = 8 ∨ i = 9 ∨ i = 10 ∨ i = 11 := by omega
theorem many13_ {i n : Nat} (h : i < n) (hn : n = 13) : i = 0 ∨ i = 1 ∨ i = 2 ∨ i = 3 ∨ i = 4 ∨ i = 5 ∨ i = 6 ∨ i = 7 ∨ i = 8 ∨ i = 9 ∨ i = 10 ∨ i = 11 ∨ i = 12 := by omega
theorem many14_ {i n : Nat} (h : i < n) (hn : n = 14) : i = 0 ∨ i = 1 ∨ i = 2 ∨ i = 3 ∨ i = 4 ∨ i = 5 ∨ i = 6 ∨ i = 7 ∨ i = 8 ∨ i = 9 ∨ i = 10 ∨ i = 11 ∨ i = 12 ∨ i = 13 := by omega
theorem many15_ {i n : Nat} (h : i < n) (hn : n = 15) : i = 0 ∨ i = 1 ∨ i = 2 ∨ i = 3 ∨ i = 4 ∨ i = 5 ∨ i = 6 ∨ i = 7 ∨ i = 8 ∨ i = 9 ∨ i = 10 ∨ i = 11 ∨ i = 12 ∨ i = 13 ∨ i = 14 := by omega
theorem many16_ {i n : Nat} (h : i < n) (hn : n = 16) : i = 0 ∨ i = 1 ∨ i = 2 ∨ i = 3 ∨ i = 4 ∨ i = 5 ∨ i = 6 ∨ i = 7 ∨ i = 8 ∨ i = 9 ∨ i = 10 ∨ i = 11 ∨ i = 12 ∨ i = 13 ∨ i = 14 ∨ i = 15 := by omega
theorem many17_ {i n : Nat} (h : i < n) (hn : n = 17) : i = 0 ∨ i = 1 ∨ i = 2 ∨ i = 3 ∨ i = 4 ∨ i = 5 ∨ i = 6 ∨ i = 7 ∨ i = 8 ∨ i = 9 ∨ i = 10 ∨ i = 11 ∨ i = 12 ∨ i = 13 ∨ i = 14 ∨ i = 15 ∨ i = 16 := by omega
theorem many18_ {i n : Nat} (h : i < n) (hn : n = 18) : i = 0 ∨ i = 1 ∨ i = 2 ∨ i = 3 ∨ i = 4 ∨ i = 5 ∨ i = 6 ∨ i = 7 ∨ i = 8 ∨ i = 9 ∨ i = 10 ∨ i = 11 ∨ i = 12 ∨ i = 13 ∨ i = 14 ∨ i = 15 ∨ i = 16 ∨ i = 17 := by omega
theorem many19_ {i n : Nat} (h : i < n) (hn : n = 19) : i = 0 ∨ i = 1 ∨ i = 2 ∨ i = 3 ∨ i = 4 ∨ i = 5 ∨ i = 6 ∨ i = 7 ∨ i = 8 ∨ i = 9 ∨ i = 10 ∨ i = 11 ∨ i = 12 ∨ i = 13 ∨ i = 14 ∨ i = 15 ∨ i = 16 ∨ i = 17 ∨ i = 18 := by omega
theorem many20_ {i n : Nat} (h : i < n) (hn : n = 20) : i = 0 ∨ i = 1 ∨ i = 2 ∨ i = 3 ∨ i = 4 ∨ i = 5 ∨ i = 6 ∨ i = 7 ∨ i = 8 ∨ i = 9 ∨ i = 10 ∨ i = 11 ∨ i = 12 ∨ i = 13 ∨ i = 14 ∨ i = 15 ∨ i = 16 ∨ i = 17 ∨ i = 18 ∨ i = 19 := by omega
theorem many21_ {i n : Nat} (h : i < n) (hn : n = 21) : i = 0 ∨ i = 1 ∨ i = 2 ∨ i = 3 ∨ i = 4 ∨ i = 5 ∨ i = 6 ∨ i = 7 ∨ i = 8 ∨ i = 9 ∨ i = 10 ∨ i = 11 ∨ i = 12 ∨ i = 13 ∨ i = 14 ∨ i = 15 ∨ i = 16 ∨ i = 17 ∨ i = 18 ∨ i = 19 ∨ i = 20 := by omega
theorem many22_ {i n : Nat} (h : i < n) (hn : n = 22) : i = 0 ∨ i = 1 ∨ i = 2 ∨ i = 3 ∨ i = 4 ∨ i = 5 ∨ i = 6 ∨ i = 7 ∨ i = 8 ∨ i = 9 ∨ i = 10 ∨ i = 11 ∨ i = 12 ∨ i = 13 ∨ i = 14 ∨ i = 15 ∨ i = 16 ∨ i = 17 ∨ i = 18 ∨ i = 19 ∨ i = 20 ∨ i = 21 := by omega
theorem many23_ {i n : Nat} (h : i < n) (hn : n = 23) : i = 0 ∨ i = 1 ∨ i = 2 ∨ i = 3 ∨ i = 4 ∨ i = 5 ∨ i = 6 ∨ i = 7 ∨ i = 8 ∨ i = 9 ∨ i = 10 ∨ i = 11 ∨ i = 12 ∨ i = 13 ∨ i = 14 ∨ i = 15 ∨ i = 16 ∨ i = 17 ∨ i = 18 ∨ i = 19 ∨ i = 20 ∨ i = 21 ∨ i = 22 := by omega
theorem many24_ {i n : Nat} (h : i < n) (hn : n = 24) : i = 0 ∨ i = 1 ∨ i = 2 ∨ i = 3 ∨ i = 4 ∨ i = 5 ∨ i = 6 ∨ i = 7 ∨ i = 8 ∨ i = 9 ∨ i = 10 ∨ i = 11 ∨ i = 12 ∨ i = 13 ∨ i = 14 ∨ i = 15 ∨ i = 16 ∨ i = 17 ∨ i = 18 ∨ i = 19 ∨ i = 20 ∨ i = 21 ∨ i = 22 ∨ i = 23 := by omega
theorem many25_ {i n : Nat} (h : i < n) (hn : n = 25) : i = 0 ∨ i = 1 ∨ i = 2 ∨ i = 3 ∨ i = 4 ∨ i = 5 ∨ i = 6 ∨ i = 7 ∨ i = 8 ∨ i = 9 ∨ i = 10 ∨ i = 11 ∨ i = 12 ∨ i = 13 ∨ i = 14 ∨ i = 15 ∨ i = 16 ∨ i = 17 ∨ i = 18 ∨ i = 19 ∨ i = 20 ∨ i = 21 ∨ i = 22 ∨ i = 23 ∨ i = 24 := by omega
theorem many26_ {i n : Nat} (h : i < n) (hn : n = 26) : i = 0 ∨ i = 1 ∨ i = 2 ∨ i = 3 ∨ i = 4 ∨ i = 5 ∨ i = 6 ∨ i = 7 ∨ i = 8 ∨ i = 9 ∨ i = 10 ∨ i = 11 ∨ i = 12 ∨ i = 13 ∨ i = 14 ∨ i = 15 ∨ i = 16 ∨ i = 17 ∨ i = 18 ∨ i = 19 ∨ i = 20 ∨ i = 21 ∨ i = 22 ∨ i = 23 ∨ i = 24 ∨ i = 25 := by omega
theorem many27_ {i n : Nat} (h : i < n) (hn : n = 27) : i = 0 ∨ i = 1 ∨ i = 2 ∨ i = 3 ∨ i = 4 ∨ i = 5 ∨ i = 6 ∨ i = 7 ∨ i = 8 ∨ i = 9 ∨ i = 10 ∨ i = 11 ∨ i = 12 ∨ i = 13 ∨ i = 14 ∨ i = 15 ∨ i = 16 ∨ i = 17 ∨ i = 18 ∨ i = 19 ∨ i = 20 ∨ i = 21 ∨ i = 22 ∨ i = 23 ∨ i = 24 ∨ i = 25 ∨ i = 26 := by omega
theorem many28_ {i n : Nat} (h : i < n) (hn : n = 28) : i = 0 ∨ i = 1 ∨ i = 2 ∨ i = 3 ∨ i = 4 ∨ i = 5 ∨ i = 6 ∨ i = 7 ∨ i = 8 ∨ i = 9 ∨ i = 10 ∨ i = 11 ∨ i = 12 ∨ i = 13 ∨ i = 14 ∨ i = 15 ∨ i = 16 ∨ i = 17 ∨ i = 18 ∨ i = 19 ∨ i = 20 ∨ i = 21 ∨ i = 22 ∨ i = 23 ∨ i = 24 ∨ i = 25 ∨ i = 26 ∨ i = 27 := by omega
theorem many29_ {i n : Nat} (h : i < n) (hn : n = 29) : i = 0 ∨ i = 1 ∨ i = 2 ∨ i = 3 ∨ i = 4 ∨ i = 5 ∨ i = 6 ∨ i = 7 ∨ i = 8 ∨ i = 9 ∨ i = 10 ∨ i = 11 ∨ i = 12 ∨ i = 13 ∨ i = 14 ∨ i = 15 ∨ i = 16 ∨ i = 17 ∨ i = 18 ∨ i = 19 ∨ i = 20 ∨ i = 21 ∨ i = 22 ∨ i = 23 ∨ i = 24 ∨ i = 25 ∨ i = 26 ∨ i = 27 ∨ i = 28 := by omega
theorem many30_ {i n : Nat} (h : i < n) (hn : n = 30) : i = 0 ∨ i = 1 ∨ i = 2 ∨ i = 3 ∨ i = 4 ∨ i = 5 ∨ i = 6 ∨ i = 7 ∨ i = 8 ∨ i = 9 ∨ i = 10 ∨ i = 11 ∨ i = 12 ∨ i = 13 ∨ i = 14 ∨ i = 15 ∨ i = 16 ∨ i = 17 ∨ i = 18 ∨ i = 19 ∨ i = 20 ∨ i = 21 ∨ i = 22 ∨ i = 23 ∨ i = 24 ∨ i = 25 ∨ i = 26 ∨ i = 27 ∨ i = 28 ∨ i = 29 := by omega
end Go.Proofs.YtdmbmkjiffhbcaaGreat

namespace Go.Proofs.YtdmbmkjiffhbcaaGreat
open Go.RowKit
set_option maxRecDepth 100000

def long10 (p : PutM) : Bool := decide (1000 < p.val.length)
def putsB (L : List PutM) : Bool := decide (L.length ≤ 8) && !L.any long10
theorem putsB_all {L : List PutM} (h : putsB L = true) : L.length ≤ 8 ∧ ∀ p ∈ L, p.val.length ≤ 1000 := by
  unfold putsB at h
  simp only [Bool.and_eq_true, decide_eq_true_eq, Bool.not_eq_true', List.any_eq_false] at h
  refine ⟨h.1, fun p hp => ?_⟩
  have := h.2 p hp
  unfold long10 at this
  simp at this
  exact this
def cutP (m : Nat) (p : PutM) : PutM := ⟨p.key, p.val.take m, p.gone⟩
def cutL (m : Nat) (L : List PutM) : List PutM := L.map (cutP m)
theorem cutL_len (m : Nat) (L : List PutM) : (cutL m L).length = L.length := by unfold cutL; rw [List.length_map]
theorem IsB.take_ {w : World} {ok : Nat → Prop} {A : Option Addr} {n c : Nat} {l : List UInt8} (h : IsB w ok (.slice A n c) l) (m : Nat) (hm : m ≤ n) : IsB w ok (.slice A m c) (l.take m) := by
  obtain ⟨A', c', e, h1, h2, h3⟩ := h
  cases e
  refine ⟨A, c, by rw [List.length_take, Nat.min_eq_left hm], by rw [List.length_take, Nat.min_eq_left hm]; omega, h2, ?_⟩
  rw [List.map_take]
  exact h3.take
end Go.Proofs.YtdmbmkjiffhbcaaGreat
namespace Go.Proofs.YtdmbmkjiffhbcaaGreat
theorem putsG_nil (G : Nat → Option (List UInt8)) : putsG G [] = G := rfl
theorem putsG_cons (G : Nat → Option (List UInt8)) (p : PutM) (L : List PutM) : putsG G (p :: L) = putsG (putG G p) L := rfl
theorem putsG_append (G : Nat → Option (List UInt8)) (L M : List PutM) : putsG G (L ++ M) = putsG (putsG G L) M := by unfold putsG; rw [List.foldl_append]
/-- A key that no change has. -/
theorem putsG_other (L : List PutM) : ∀ (G : Nat → Option (List UInt8)) (k : Nat), (∀ p ∈ L, p.key ≠ k) → putsG G L k = G k := by
  induction L with
  | nil => intro G k _; rfl
  | cons p L ih =>
    intro G k h
    rw [putsG_cons, ih _ k (fun q hq => h q (by simp [hq]))]
    unfold putG
    rw [if_neg (fun e => h p (by simp) e.symm)]
/-- The last change of a key. -/
theorem putsG_last (L : List PutM) (i : Nat) (hi : i < L.length) (G : Nat → Option (List UInt8)) (h : ∀ p ∈ L.drop (i + 1), p.key ≠ L[i].key) : putsG G L L[i].key = if L[i].gone then none else some L[i].val := by
  have e : L = L.take i ++ (L[i] :: L.drop (i + 1)) := by
    rw [← List.drop_eq_getElem_cons hi, List.take_append_drop]
  have h2 : ∀ k, putsG G L k = putsG (putG (putsG G (L.take i)) L[i]) (L.drop (i + 1)) k := by
    intro k
    have h3 : putsG G L k = putsG G (L.take i ++ (L[i] :: L.drop (i + 1))) k := by rw [← e]
    rw [h3, putsG_append, putsG_cons]
  rw [h2, putsG_other _ _ _ h]
  unfold putG
  rw [if_pos rfl]
/-- Values' lengths. -/
theorem putsG_most (m : Nat) (L : List PutM) : ∀ (G : Nat → Option (List UInt8)), (∀ k l, G k = some l → l.length ≤ m) → (∀ p ∈ L, p.val.length ≤ m) → ∀ k l, putsG G L k = some l → l.length ≤ m := by
  induction L with
  | nil => intro G hG _; exact hG
  | cons p L ih =>
    intro G hG hL
    rw [putsG_cons]
    refine ih _ (fun k l hk => ?_) (fun q hq => hL q (by simp [hq]))
    unfold putG at hk
    split at hk
    · split at hk
      · cases hk
      · injection hk with hk; rw [← hk]; exact hL p (by simp)
    · exact hG k l hk
theorem cutL_val (m : Nat) (L : List PutM) : ∀ p ∈ cutL m L, p.val.length ≤ m := fun p hp => by
  unfold cutL at hp
  obtain ⟨q, _, rfl⟩ := List.mem_map.1 hp
  unfold cutP
  simp only [List.length_take]
  omega
theorem cutL_length (m : Nat) (L : List PutM) : (cutL m L).length = L.length := by unfold cutL; rw [List.length_map]
/-- A record of few short changes. -/
theorem short_rec (L : List PutM) (m : Nat) (hm : m ≤ 1000) (h8 : L.length ≤ 8) (hk : ∀ p ∈ L, p.key < 18446744073709551616) (hl : ∀ p ∈ L, p.val.length ≤ m) : ∀ r : List UInt8, r.length + L.length * (m + 20) ≤ 65000 → (precM L r).2 = 0 ∧ (precM L r).1.length ≤ r.length + L.length * (m + 20) := by
  induction L with
  | nil => intro r _; exact ⟨rfl, by simp [precM]⟩
  | cons p L ih =>
    intro r hr
    have hn := numLen_le p.key (by have := hk p (by simp); omega)
    have h1 := packB_two (numB p.key) (valB p)
    have h2 := lenB_le (numB p.key).length
    have h3 := lenB_le (valB p).length
    have h4 : (numB p.key).length = numLen p.key := numB_length _
    have h5 : (valB p).length ≤ p.val.length + 1 := by
      obtain ⟨k, v, g⟩ := p
      cases g
      · simp [valB]
      · simp [valB]
    have h6 := hl p (by simp)
    have h7 : (putB p).length ≤ m + 20 := by unfold putB; omega
    rw [List.length_cons, Nat.succ_mul] at hr
    have h9 : L.length * (m + 20) ≤ 65000 := by omega
    have h10 := ih (by simp at h8; omega) (fun q hq => hk q (by simp [hq])) (fun q hq => hl q (by simp [hq])) (r ++ putB p) (by rw [List.length_append]; omega)
    unfold precM
    rw [if_neg (by omega), if_neg (by omega)]
    refine ⟨h10.1, ?_⟩
    have := h10.2
    rw [List.length_append] at this
    rw [List.length_cons, Nat.succ_mul]
    omega
theorem short_rec0 (L : List PutM) (m : Nat) (hm : m ≤ 1000) (h8 : L.length ≤ 8) (hk : ∀ p ∈ L, p.key < 18446744073709551616) (hl : ∀ p ∈ L, p.val.length ≤ m) : (precM L []).2 = 0 ∧ (precM L []).1.length ≤ 8 * (m + 20) := by
  have h0 : L.length * (m + 20) ≤ 8 * (m + 20) := Nat.mul_le_mul_right _ h8
  have h := short_rec L m hm h8 hk hl [] (by simp only [List.length_nil]; omega)
  refine ⟨h.1, ?_⟩
  have := h.2
  simp only [List.length_nil] at this
  omega
theorem short_few (L : List PutM) (m : Nat) (hm : m ≤ 60000) (hl : ∀ p ∈ L, p.val.length ≤ m) : L.any long60 = false := by
  rw [List.any_eq_false]
  intro p hp
  have := hl p hp
  unfold long60
  simp
  omega
end Go.Proofs.YtdmbmkjiffhbcaaGreat
