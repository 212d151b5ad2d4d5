/-
  A region that draws its order, whose operations read, and whose calls answer one plain value each and let memory grow: walked once, in the order of the text.
  A region that draws its order, met by one invariant over what has been done: a step for each operation, no order walked.
  A region that draws its order, each of whose operations leaves something good in a slot of its own while memory grows: one step for each operation, whatever the order, the frame as it may be.
  A region that draws its order, whose operations leave values that are known ahead, and whose world meets an invariant over what has been done.
-/
import Derived.Test.YtgebodibamgipaaGreatDoorWordsB
import Derived.Deep.QuietTactic
import Derived.BigQuiet
import Derived.Deep.RegionWith
import Derived.Laws.Rows
import Derived.Laws.Tables
namespace Go.Proofs.YtgebodibamgipaaGreatDoor
open Go.RowKit

/-- The worlds that have grown out of w. -/
structure Ext (w : World) where
  now : World
  out : Below w.heap.size w now
instance (w : World) : Nonempty (Ext w) := ⟨⟨w, Below.refl _ _⟩⟩

theorem wp_region_grow {P : Program} {id : Nat} {Q : Exit → Act → World → Prop} {a : Act} {w : World} {l : List Oper} (hm : P.follows .mixedOrders = true) (hB : Region.lexB .any l.toArray = true)
    (h : wpQuiet P l.toArray (fun w' => ∃ x : Ext w, w' = x.now) (fun a' => ∀ w', (∃ x : Ext w, w' = x.now) → Q .normal a' w') l a) : (Code.region id l.toArray true).wp P Q a w :=
  wp_region_quiet (C := fun w' => ∃ x : Ext w, w' = x.now) hm hB ⟨⟨_, (Below.refl w.heap.size w).drew⟩, rfl⟩ (by simpa using h)

/-- A callee's contract, met in such a world. -/
theorem calls_grow {P : Program} {f : FuncId} {args : Array Value} {w : World} {x : Ext w} {v : Value}
    (h : Calls P f args x.now fun e w' => e = .returned v ∧ Below x.now.heap.size x.now w') : Calls P f args x.now fun e w'' => e = .returned v ∧ ∃ y : Ext w, w'' = y.now :=
  h.mono fun _ w' ⟨he, hb⟩ => ⟨he, ⟨w', x.out.trans (hb.mono x.out.size)⟩, rfl⟩
theorem Rd.ext {w : World} {ok : Nat → Prop} {A : Option Addr} {xs : List Value} (h : Rd w ok A xs) (x : Ext w) : Rd x.now ok A xs := h.grow x.out
end Go.Proofs.YtgebodibamgipaaGreatDoor

namespace Go.Proofs.YtgebodibamgipaaGreatDoor
open Go.RowKit

/-- What has been done, and one thing more. -/
def also (d : Nat → Bool) (i : Nat) : Nat → Bool := fun j => if j = i then true else d j
def doneOf (listed : Array Bool) : Nat → Bool := fun j => listed.getD j false
theorem doneOf_set {listed : Array Bool} {i : Nat} (h : i < listed.size) : doneOf (listed.setIfInBounds i true) = also (doneOf listed) i := by
  funext j
  unfold doneOf also
  by_cases e : j = i
  · subst e; rw [if_pos rfl]; simp [h]
  · rw [if_neg e, getD_set_ne false (fun h => e h.symm)]
/-- Each operation comes behind those that it waits for. -/
def inOrder (l : Array Oper) : Bool := (List.range l.size).all fun j => ((l[j]?).map fun o => o.after.all fun e => !Region.binds .any e || decide (e.on < j)).getD true
theorem all_of_ready {l : Array Oper} {listed : Array Bool} (hs : listed.size = l.size) (ho : inOrder l = true) (hr : Region.ready .any l listed = []) : ∀ j, j < l.size → doneOf listed j = true := by
  intro j
  induction j using Nat.strongRecOn with
  | _ j ih =>
    intro hj
    cases hd : doneOf listed j with
    | true => rfl
    | false =>
      exfalso
      have hmem : j ∈ Region.ready .any l listed := by
        refine mem_ready.2 ⟨?_, l[j], Array.getElem?_eq_getElem hj, fun e he hb => ?_⟩
        · unfold doneOf at hd
          have hjs : j < listed.size := by omega
          simpa [hjs] using hd
        · unfold inOrder at ho
          have := List.all_eq_true.1 ho j (List.mem_range.2 hj)
          rw [Array.getElem?_eq_getElem hj] at this
          simp only [Option.map_some, Option.getD_some, Array.all_eq_true_iff_forall_mem] at this
          have h2 := this e he
          rw [hb] at h2
          have h3 : e.on < j := by simpa using h2
          exact ih e.on h3 (by omega)
      rw [hr] at hmem
      cases hmem
theorem wpAny_inv {P : Program} {l : Array Oper} {Q : Exit → Act → World → Prop} (I : (Nat → Bool) → Act → World → Prop) (ho : inOrder l = true)
    (hstep : ∀ (i : Nat) (o : Oper), l[i]? = some o → ∀ (d : Nat → Bool) (a : Act) (w : World), d i = false → (∀ e ∈ o.after, Region.binds .any e = true → d e.on = true) → I d a w → ∀ K : Act → World → Prop, (∀ a w, I (also d i) a w → K a w) → if Region.wanted o (yielded l a.tmps) = true then Oper.wp P o a w K Q else K (a.put o.dst undef) w)
    (hend : ∀ (d : Nat → Bool) a w, (∀ j, j < l.size → d j = true) → I d a w → Q .normal a w) :
    ∀ (fuel : Nat) (listed : Array Bool) (a : Act) (w : World), listed.size = l.size → listed.toList.count true + fuel = l.size → I (doneOf listed) a w → wpAny P .any l Q fuel listed a w := by
  intro fuel
  induction fuel with
  | zero =>
    intro listed a w hs hc hI
    have hall : ∀ b ∈ listed.toList, true = b := List.count_eq_length.1 (by rw [Array.length_toList]; omega)
    have hdone : ∀ j, j < l.size → doneOf listed j = true := fun j hj => by
      have hj' : j < listed.size := by omega
      unfold doneOf
      have : true = listed[j] := hall _ (by rw [← Array.getElem_toList]; exact List.getElem_mem _)
      simp [hj', ← this]
    refine ⟨?_, hend _ _ _ hdone hI⟩
    cases hr : Region.ready .any l listed with
    | nil => rfl
    | cons j r =>
      have hm : j ∈ Region.ready .any l listed := by rw [hr]; simp
      obtain ⟨h1, o, h2, _⟩ := mem_ready.1 hm
      have hj := (Array.getElem?_eq_some_iff.1 h2).1
      have h3 := hdone j hj
      unfold doneOf at h3
      have hj' : j < listed.size := by omega
      simp [hj'] at h1 h3
      rw [h1] at h3
      cases h3
  | succ fuel ih =>
    intro listed a w hs hc hI
    refine ⟨fun hr => hend _ _ _ (all_of_ready hs ho hr) hI, fun i hi => ?_⟩
    obtain ⟨h1, o, h2, h3⟩ := mem_ready.1 hi
    have hil : i < l.size := (Array.getElem?_eq_some_iff.1 h2).1
    have his : i < listed.size := by omega
    have hf : listed[i] = false := by simpa [his] using h1
    refine wpOp_step h2 fun K hK => hstep i o h2 (doneOf listed) a w (by unfold doneOf; simp [his, hf]) h3 hI K fun a' w' hI' => hK a' w' (ih _ a' w' (by rw [Array.size_setIfInBounds]; exact hs) ?_ (by rw [doneOf_set his]; exact hI'))
    have : (listed.setIfInBounds i true).toList.count true = listed.toList.count true + 1 := by
      rw [Array.toList_setIfInBounds, List.count_set (by simpa using his)]
      simp [hf]
    omega
theorem wp_region_inv {P : Program} {id : Nat} {Q : Exit → Act → World → Prop} {a : Act} {w : World} {l : Array Oper} (I : (Nat → Bool) → Act → World → Prop) (hm : P.follows .mixedOrders = true) (ho : inOrder l = true)
    (h0 : I (fun _ => false) a w.drew)
    (hstep : ∀ (i : Nat) (o : Oper), l[i]? = some o → ∀ (d : Nat → Bool) (a : Act) (w : World), d i = false → (∀ e ∈ o.after, Region.binds .any e = true → d e.on = true) → I d a w → ∀ K : Act → World → Prop, (∀ a w, I (also d i) a w → K a w) → if Region.wanted o (yielded l a.tmps) = true then Oper.wp P o a w K Q else K (a.put o.dst undef) w)
    (hend : ∀ (d : Nat → Bool) a w, (∀ j, j < l.size → d j = true) → I d a w → Q .normal a w) : (Code.region id l true).wp P Q a w := by
  refine wp_region_any hm (wpAny_inv I ho hstep hend l.size _ a _ (by simp) ?_ ?_)
  · simp [List.count_replicate]
  · have : doneOf (Array.replicate l.size false) = fun _ => false := by
      funext j
      unfold doneOf
      rw [Array.getD_eq_getD_getElem?, Array.getElem?_replicate]
      split <;> rfl
    rw [this]
    exact h0
/-- An operation without a guard. -/
theorem step_plain {P : Program} {l : Array Oper} {Q : Exit → Act → World → Prop} {o : Oper} {a : Act} {w : World} {K : Act → World → Prop} (hg : o.guard = none) (h : Oper.wp P o a w K Q) :
    if Region.wanted o (yielded l a.tmps) = true then Oper.wp P o a w K Q else K (a.put o.dst undef) w := by
  have : Region.wanted o (yielded l a.tmps) = true := by unfold Region.wanted; rw [hg]
  rw [if_pos this]
  exact h
end Go.Proofs.YtgebodibamgipaaGreatDoor

namespace Go.Proofs.YtgebodibamgipaaGreatDoor
open Go.RowKit

/-- The slot that operation i of a region leaves its value in. -/
def slotAt (l : Array Oper) (i : Nat) : Nat := ((l[i]?).bind (·.dst)).getD 0
/-- No guard, a slot for each, and no slot twice. -/
def goodRegion (l : Array Oper) : Bool := (List.range l.size).all fun i => ((l[i]?).map fun o => o.guard.isNone && o.dst.isSome && (List.range i).all fun j => decide (slotAt l j ≠ slotAt l i)).getD true
/-- What a slot holds. -/
abbrev Act.at_ (a : Act) (t : Nat) : Value := a.tmps[t]?.getD undef
theorem at_put {a : Act} {s t : Nat} {v : Value} (h : t ≠ s) : Act.at_ (a.put (some s) v) t = Act.at_ a t := by
  unfold Act.at_ Act.put
  simp only []
  rw [Array.getElem?_setIfInBounds_ne (fun e => h e.symm)]
theorem at_put_self {a : Act} {s : Nat} {v : Value} (h : s < a.tmps.size) : Act.at_ (a.put (some s) v) s = v := by
  unfold Act.at_ Act.put
  simp [h]
theorem good_at {l : Array Oper} (h : goodRegion l = true) {i : Nat} {o : Oper} (hi : l[i]? = some o) : o.guard = none ∧ o.dst = some (slotAt l i) ∧ ∀ j, j < i → slotAt l j ≠ slotAt l i := by
  have hl := (Array.getElem?_eq_some_iff.1 hi).1
  unfold goodRegion at h
  have := List.all_eq_true.1 h i (List.mem_range.2 hl)
  rw [hi] at this
  simp only [Option.map_some, Option.getD_some, Bool.and_eq_true, List.all_eq_true, List.mem_range, decide_eq_true_iff, Option.isNone_iff_eq_none, Option.isSome_iff_exists] at this
  obtain ⟨⟨h1, s, h2⟩, h3⟩ := this
  refine ⟨h1, ?_, h3⟩
  unfold slotAt
  rw [hi, h2]
  simp [h2]
theorem good_ne {l : Array Oper} (h : goodRegion l = true) {i j : Nat} (hi : i < l.size) (hj : j < l.size) (hne : j ≠ i) : slotAt l j ≠ slotAt l i := by
  rcases Nat.lt_or_gt_of_ne hne with hlt | hlt
  · exact (good_at h (Array.getElem?_eq_getElem hi)).2.2 j hlt
  · exact fun e => (good_at h (Array.getElem?_eq_getElem hj)).2.2 i hlt e.symm
theorem wp_region_good {P : Program} {id : Nat} {Q : Exit → Act → World → Prop} {a0 : Act} {w0 : World} {l : Array Oper} (G : Nat → Value → World → Prop) (N : Nat) (hm : P.follows .mixedOrders = true) (ho : inOrder l = true) (hg : goodRegion l = true)
    (hN : (List.range l.size).all (fun i => decide (slotAt l i < N)) = true) (hs : a0.tmps.size = N)
    (hmono : ∀ s v x x', G s v x → Below w0.heap.size w0 x → Below x.heap.size x x' → G s v x')
    (hstep : ∀ (i : Nat) (o : Oper), l[i]? = some o → ∀ (a : Act) (x : World), Below w0.heap.size w0 x → (∀ s, (∀ j, j < l.size → slotAt l j ≠ s) → a.tmps[s]?.getD undef = a0.tmps[s]?.getD undef) →
      (∀ e ∈ o.after, Region.binds .any e = true → e.on < l.size → G (slotAt l e.on) (a.tmps[slotAt l e.on]?.getD undef) x) →
      ∀ K : Act → World → Prop, (∀ v x', G (slotAt l i) v x' → Below x.heap.size x x' → K (a.put o.dst v) x') → o.wp P a x K Q)
    (hend : ∀ (a : Act) (x : World), Below w0.heap.size w0 x → (∀ s, (∀ j, j < l.size → slotAt l j ≠ s) → a.tmps[s]?.getD undef = a0.tmps[s]?.getD undef) → (∀ j, j < l.size → G (slotAt l j) (a.tmps[slotAt l j]?.getD undef) x) → a.tmps.size = N → a.defers = a0.defers → Q .normal a x) :
    (Code.region id l true).wp P Q a0 w0 := by
  refine wp_region_inv (fun d a x => Below w0.heap.size w0 x ∧ (∀ s, (∀ j, j < l.size → slotAt l j ≠ s) → a.tmps[s]?.getD undef = a0.tmps[s]?.getD undef) ∧ (∀ j, j < l.size → d j = true → G (slotAt l j) (a.tmps[slotAt l j]?.getD undef) x) ∧ a.tmps.size = N ∧ a.defers = a0.defers) hm ho ?_ ?_ ?_
  · exact ⟨(Below.refl _ _).drew, fun _ _ => rfl, (fun j _ h => by cases h), hs, rfl⟩
  · intro i o hi d a x hd hpre ⟨hb, hsame, hG, hsz, hde⟩ K hK
    obtain ⟨g1, g2, _⟩ := good_at hg hi
    have hil := (Array.getElem?_eq_some_iff.1 hi).1
    refine step_plain g1 (hstep i o hi a x hb hsame (fun e he hbi hlt => hG e.on hlt (hpre e he hbi)) K fun v x' hv hb' => hK _ _ ?_)
    rw [g2]
    have hslot : slotAt l i < a.tmps.size := by
      rw [hsz]
      have := List.all_eq_true.1 hN i (List.mem_range.2 hil)
      simpa using this
    refine ⟨hb.trans (hb'.mono hb.size), fun s hs' => ?_, fun j hj hdj => ?_, ?_, hde⟩
    · exact (at_put (a := a) (v := v) (fun e => hs' i hil e.symm)).trans (hsame s hs')
    · by_cases e : j = i
      · subst e
        have e2 := at_put_self (a := a) (v := v) hslot
        unfold Act.at_ at e2
        rw [e2]
        exact hv
      · have hdj' : d j = true := by unfold also at hdj; rwa [if_neg e] at hdj
        have e2 := at_put (a := a) (v := v) (good_ne hg hil hj e)
        unfold Act.at_ at e2
        rw [e2]
        exact hmono _ _ _ _ (hG j hj hdj') hb hb'
    · show (a.tmps.setIfInBounds _ _).size = N
      rw [Array.size_setIfInBounds]
      exact hsz
  · intro d a x hall ⟨hb, hsame, hG, hsz, hde⟩
    exact hend a x hb hsame (fun j hj => hG j hj (hall j hj)) hsz hde
/-- append, as an operation. -/
theorem wp_append {P : Program} {Q : Exit → Act → World → Prop} {o : Oper} {a : Act} {w w' : World} {K : Act → World → Prop} {v : Value} (s x : Operand) (t : TypeId)
    (ho : o.op = .call { callee := .builtin .append, args := #[s, x], argTypes := #[t, t] }) (hrun : (Builtin.append_ #[t, t] o.type #[a.eval s, a.eval x]).run P w = .ok v w') (hk : K (a.put o.dst v) w') : o.wp P a w K Q := by
  unfold Oper.wp execOp
  simp only [ho, resolve, invoke, builtin, Sem.run_bind, Sem.run_pure, Result.andThen_ok, List.map_toArray, List.map_cons, List.map_nil, hrun]
  exact hk
theorem eval_at {a : Act} {t : Nat} {v : Value} (h : a.tmps[t]?.getD undef = v) : a.eval (.tmp t) = v := by
  unfold Act.eval
  rw [← h]
  simp only []
  exact Array.getD_eq_getD_getElem? ..
end Go.Proofs.YtgebodibamgipaaGreatDoor

namespace Go.Proofs.YtgebodibamgipaaGreatDoor
open Go.RowKit

def slotO (l : Array Oper) (i : Nat) : Option Nat := (l[i]?).bind (·.dst)
/-- No guard, and no slot twice. -/
def fixRegion (l : Array Oper) (N : Nat) : Bool := (List.range l.size).all fun i => ((l[i]?).map fun o => o.guard.isNone && (o.dst.all fun s => decide (s < N)) && (List.range l.size).all fun j => decide (j = i) || decide (slotO l j = none) || decide (slotO l j ≠ slotO l i)).getD true
theorem fix_at {l : Array Oper} {N : Nat} (h : fixRegion l N = true) {i : Nat} {o : Oper} (hi : l[i]? = some o) : o.guard = none ∧ (∀ s, o.dst = some s → s < N) ∧ slotO l i = o.dst ∧ ∀ j s, j ≠ i → slotO l j = some s → o.dst ≠ some s := by
  have hl := (Array.getElem?_eq_some_iff.1 hi).1
  have he : slotO l i = o.dst := by unfold slotO; rw [hi]; rfl
  unfold fixRegion at h
  have := List.all_eq_true.1 h i (List.mem_range.2 hl)
  rw [hi] at this
  simp only [Option.map_some, Option.getD_some, Bool.and_eq_true, List.all_eq_true, List.mem_range, Bool.or_eq_true, decide_eq_true_iff, Option.isNone_iff_eq_none] at this
  obtain ⟨⟨h1, h2⟩, h3⟩ := this
  refine ⟨h1, fun s hs => ?_, he, fun j s hj hs e => ?_⟩
  · rw [hs] at h2
    simpa using h2
  · have hjl : j < l.size := by
      unfold slotO at hs
      cases hq : l[j]? with
      | none => rw [hq] at hs; cases hs
      | some o' => exact (Array.getElem?_eq_some_iff.1 hq).1
    rcases h3 j hjl with (h4 | h4) | h4
    · exact hj h4
    · rw [hs] at h4; cases h4
    · rw [hs, he, e] at h4; exact h4 rfl
theorem slot_free {l : Array Oper} {s : Nat} (h : ((List.range l.size).all fun j => decide (slotO l j ≠ some s)) = true) : ∀ j, slotO l j ≠ some s := by
  intro j e
  have hjl : j < l.size := by
    unfold slotO at e
    cases hq : l[j]? with
    | none => rw [hq] at e; cases e
    | some o' => exact (Array.getElem?_eq_some_iff.1 hq).1
  have := List.all_eq_true.1 h j (List.mem_range.2 hjl)
  rw [decide_eq_true_iff] at this
  exact this e
theorem wp_region_fix {P : Program} {id : Nat} {Q : Exit → Act → World → Prop} {a0 : Act} {w0 : World} {l : Array Oper} (V : Nat → Value) (J : (Nat → Bool) → World → Prop) (N : Nat) (hm : P.follows .mixedOrders = true) (ho : inOrder l = true) (hg : fixRegion l N = true)
    (hs : a0.tmps.size = N) (h0 : J (fun _ => false) w0.drew)
    (hstep : ∀ (i : Nat) (o : Oper), l[i]? = some o → ∀ (d : Nat → Bool) (a : Act) (x : World), J d x → d i = false → (∀ e ∈ o.after, Region.binds .any e = true → d e.on = true) → (∀ s, (∀ j, slotO l j ≠ some s) → a.tmps[s]?.getD undef = a0.tmps[s]?.getD undef) →
      (∀ j s, d j = true → slotO l j = some s → a.tmps[s]?.getD undef = V s) → ∀ K : Act → World → Prop, (∀ v x', (∀ s, o.dst = some s → v = V s) → J (also d i) x' → K (a.put o.dst v) x') → o.wp P a x K Q)
    (hend : ∀ (d : Nat → Bool) (a : Act) (x : World), (∀ j, j < l.size → d j = true) → J d x → (∀ s, (∀ j, slotO l j ≠ some s) → a.tmps[s]?.getD undef = a0.tmps[s]?.getD undef) → (∀ j s, j < l.size → slotO l j = some s → a.tmps[s]?.getD undef = V s) → a.tmps.size = N → a.defers = a0.defers → Q .normal a x) :
    (Code.region id l true).wp P Q a0 w0 := by
  refine wp_region_inv (fun d a x => J d x ∧ (∀ s, (∀ j, slotO l j ≠ some s) → a.tmps[s]?.getD undef = a0.tmps[s]?.getD undef) ∧ (∀ j s, d j = true → slotO l j = some s → a.tmps[s]?.getD undef = V s) ∧ a.tmps.size = N ∧ a.defers = a0.defers) hm ho ?_ ?_ ?_
  · exact ⟨h0, fun _ _ => rfl, (fun j s h => by cases h), hs, rfl⟩
  · intro i o hi d a x hd hpre ⟨hJ, hsame, hV, hsz, hde⟩ K hK
    obtain ⟨g1, g2, g3, g4⟩ := fix_at hg hi
    refine step_plain g1 (hstep i o hi d a x hJ hd hpre hsame hV K fun v x' hv hJ' => hK _ _ ⟨hJ', ?_, ?_, ?_, ?_⟩)
    · intro s hs'
      cases hq : o.dst with
      | none => exact hsame s hs'
      | some t =>
        have ht : s ≠ t := fun e => hs' i (by rw [g3, hq, e])
        exact (at_put (a := a) (v := v) ht).trans (hsame s hs')
    · intro j s hj hjs
      by_cases e : j = i
      · subst e
        rw [g3] at hjs
        have e2 := at_put_self (a := a) (v := v) (s := s) (by rw [hsz]; exact g2 s hjs)
        unfold Act.at_ at e2
        rw [hjs, e2]
        exact hv s hjs
      · have hdj : d j = true := by unfold also at hj; rwa [if_neg e] at hj
        have hne := g4 j s e hjs
        cases hq : o.dst with
        | none => exact hV j s hdj hjs
        | some t =>
          have ht : s ≠ t := fun e => hne (by rw [hq, e])
          exact (at_put (a := a) (v := v) ht).trans (hV j s hdj hjs)
    · cases hq : o.dst with
      | none => exact hsz
      | some t =>
        show (a.tmps.setIfInBounds _ _).size = N
        rw [Array.size_setIfInBounds]
        exact hsz
    · cases hq : o.dst with
      | none => exact hde
      | some t => exact hde
  · intro d a x hall ⟨hJ, hsame, hV, hsz, hde⟩
    exact hend d a x hall hJ hsame (fun j s hj hs => hV j s (hall j hj) hs) hsz hde
end Go.Proofs.YtgebodibamgipaaGreatDoor
