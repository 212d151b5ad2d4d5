/-
  A region that draws its order, met by one invariant over what has been done: a step for each operation, no order walked.
-/
import Derived.Test.YtiaabgmmmekpnaaWords
import Derived.Deep.RegionWith
import Derived.Laws.Rows
import Derived.Laws.Tables
namespace Go.Proofs.Ytiaabgmmmekpnaa
open Go.RowKit

/-- What has been done, and one thing more. -/
def also (d : Nat → Bool) (i : Nat) : Nat → Bool := fun j => if j = i then true else d j
def doneOf (listed : Array Bool) : Nat → Bool := fun j => listed.getD j false
theorem doneOf_set {listed : Array Bool} {i : Nat} (h : i < listed.size) : doneOf (listed.setIfInBounds i true) = also (doneOf listed) i := by
  funext j
  unfold doneOf also
  by_cases e : j = i
  · subst e; rw [if_pos rfl]; simp [h]
  · rw [if_neg e, getD_set_ne false (fun h => e h.symm)]
/-- Each operation comes behind those that it waits for. -/
def inOrder (l : Array Oper) : Bool := (List.range l.size).all fun j => ((l[j]?).map fun o => o.after.all fun e => !Region.binds .any e || decide (e.on < j)).getD true
theorem all_of_ready {l : Array Oper} {listed : Array Bool} (hs : listed.size = l.size) (ho : inOrder l = true) (hr : Region.ready .any l listed = []) : ∀ j, j < l.size → doneOf listed j = true := by
  intro j
  induction j using Nat.strongRecOn with
  | _ j ih =>
    intro hj
    cases hd : doneOf listed j with
    | true => rfl
    | false =>
      exfalso
      have hmem : j ∈ Region.ready .any l listed := by
        refine mem_ready.2 ⟨?_, l[j], Array.getElem?_eq_getElem hj, fun e he hb => ?_⟩
        · unfold doneOf at hd
          have hjs : j < listed.size := by omega
          simpa [hjs] using hd
        · unfold inOrder at ho
          have := List.all_eq_true.1 ho j (List.mem_range.2 hj)
          rw [Array.getElem?_eq_getElem hj] at this
          simp only [Option.map_some, Option.getD_some, Array.all_eq_true_iff_forall_mem] at this
          have h2 := this e he
          rw [hb] at h2
          have h3 : e.on < j := by simpa using h2
          exact ih e.on h3 (by omega)
      rw [hr] at hmem
      cases hmem
theorem wpAny_inv {P : Program} {l : Array Oper} {Q : Exit → Act → World → Prop} (I : (Nat → Bool) → Act → World → Prop) (ho : inOrder l = true)
    (hstep : ∀ (i : Nat) (o : Oper), l[i]? = some o → ∀ (d : Nat → Bool) (a : Act) (w : World), d i = false → (∀ e ∈ o.after, Region.binds .any e = true → d e.on = true) → I d a w → ∀ K : Act → World → Prop, (∀ a w, I (also d i) a w → K a w) → if Region.wanted o (yielded l a.tmps) = true then Oper.wp P o a w K Q else K (a.put o.dst undef) w)
    (hend : ∀ (d : Nat → Bool) a w, (∀ j, j < l.size → d j = true) → I d a w → Q .normal a w) :
    ∀ (fuel : Nat) (listed : Array Bool) (a : Act) (w : World), listed.size = l.size → listed.toList.count true + fuel = l.size → I (doneOf listed) a w → wpAny P .any l Q fuel listed a w := by
  intro fuel
  induction fuel with
  | zero =>
    intro listed a w hs hc hI
    have hall : ∀ b ∈ listed.toList, true = b := List.count_eq_length.1 (by rw [Array.length_toList]; omega)
    have hdone : ∀ j, j < l.size → doneOf listed j = true := fun j hj => by
      have hj' : j < listed.size := by omega
      unfold doneOf
      have : true = listed[j] := hall _ (by rw [← Array.getElem_toList]; exact List.getElem_mem _)
      simp [hj', ← this]
    refine ⟨?_, hend _ _ _ hdone hI⟩
    cases hr : Region.ready .any l listed with
    | nil => rfl
    | cons j r =>
      have hm : j ∈ Region.ready .any l listed := by rw [hr]; simp
      obtain ⟨h1, o, h2, _⟩ := mem_ready.1 hm
      have hj := (Array.getElem?_eq_some_iff.1 h2).1
      have h3 := hdone j hj
      unfold doneOf at h3
      have hj' : j < listed.size := by omega
      simp [hj'] at h1 h3
      rw [h1] at h3
      cases h3
  | succ fuel ih =>
    intro listed a w hs hc hI
    refine ⟨fun hr => hend _ _ _ (all_of_ready hs ho hr) hI, fun i hi => ?_⟩
    obtain ⟨h1, o, h2, h3⟩ := mem_ready.1 hi
    have hil : i < l.size := (Array.getElem?_eq_some_iff.1 h2).1
    have his : i < listed.size := by omega
    have hf : listed[i] = false := by simpa [his] using h1
    refine wpOp_step h2 fun K hK => hstep i o h2 (doneOf listed) a w (by unfold doneOf; simp [his, hf]) h3 hI K fun a' w' hI' => hK a' w' (ih _ a' w' (by rw [Array.size_setIfInBounds]; exact hs) ?_ (by rw [doneOf_set his]; exact hI'))
    have : (listed.setIfInBounds i true).toList.count true = listed.toList.count true + 1 := by
      rw [Array.toList_setIfInBounds, List.count_set (by simpa using his)]
      simp [hf]
    omega
theorem wp_region_inv {P : Program} {id : Nat} {Q : Exit → Act → World → Prop} {a : Act} {w : World} {l : Array Oper} (I : (Nat → Bool) → Act → World → Prop) (hm : P.follows .mixedOrders = true) (ho : inOrder l = true)
    (h0 : I (fun _ => false) a w.drew)
    (hstep : ∀ (i : Nat) (o : Oper), l[i]? = some o → ∀ (d : Nat → Bool) (a : Act) (w : World), d i = false → (∀ e ∈ o.after, Region.binds .any e = true → d e.on = true) → I d a w → ∀ K : Act → World → Prop, (∀ a w, I (also d i) a w → K a w) → if Region.wanted o (yielded l a.tmps) = true then Oper.wp P o a w K Q else K (a.put o.dst undef) w)
    (hend : ∀ (d : Nat → Bool) a w, (∀ j, j < l.size → d j = true) → I d a w → Q .normal a w) : (Code.region id l true).wp P Q a w := by
  refine wp_region_any hm (wpAny_inv I ho hstep hend l.size _ a _ (by simp) ?_ ?_)
  · simp [List.count_replicate]
  · have : doneOf (Array.replicate l.size false) = fun _ => false := by
      funext j
      unfold doneOf
      rw [Array.getD_eq_getD_getElem?, Array.getElem?_replicate]
      split <;> rfl
    rw [this]
    exact h0
/-- An operation without a guard. -/
theorem step_plain {P : Program} {l : Array Oper} {Q : Exit → Act → World → Prop} {o : Oper} {a : Act} {w : World} {K : Act → World → Prop} (hg : o.guard = none) (h : Oper.wp P o a w K Q) :
    if Region.wanted o (yielded l a.tmps) = true then Oper.wp P o a w K Q else K (a.put o.dst undef) w := by
  have : Region.wanted o (yielded l a.tmps) = true := by unfold Region.wanted; rw [hg]
  rw [if_pos this]
  exact h
end Go.Proofs.Ytiaabgmmmekpnaa
