/-
  A region that draws its order, with guards: what each slot's value is like is said of each world that comes.
-/
import Derived.Test.YtgebodibamgipaaGreatDoorRegions
namespace Go.Proofs.YtgebodibamgipaaGreatDoor
open Go.RowKit
set_option maxRecDepth 100000

/-- A slot for each operation, and no slot twice. -/
def goodRegionG (l : Array Oper) : Bool := (List.range l.size).all fun i => ((l[i]?).map fun o => o.dst.isSome && (List.range i).all fun j => decide (slotAt l j ≠ slotAt l i)).getD true
theorem goodg_at {l : Array Oper} (h : goodRegionG l = true) {i : Nat} {o : Oper} (hi : l[i]? = some o) : o.dst = some (slotAt l i) ∧ ∀ j, j < i → slotAt l j ≠ slotAt l i := by
  have hl := (Array.getElem?_eq_some_iff.1 hi).1
  unfold goodRegionG at h
  have := List.all_eq_true.1 h i (List.mem_range.2 hl)
  rw [hi] at this
  simp only [Option.map_some, Option.getD_some, Bool.and_eq_true, List.all_eq_true, List.mem_range, decide_eq_true_iff, Option.isSome_iff_exists] at this
  obtain ⟨⟨s, h2⟩, h3⟩ := this
  refine ⟨?_, h3⟩
  unfold slotAt
  rw [hi, h2]
  simp [h2]
theorem goodg_ne {l : Array Oper} (h : goodRegionG l = true) {i j : Nat} (hi : i < l.size) (hj : j < l.size) (hne : j ≠ i) : slotAt l j ≠ slotAt l i := by
  rcases Nat.lt_or_gt_of_ne hne with hlt | hlt
  · exact (goodg_at h (Array.getElem?_eq_getElem hi)).2 j hlt
  · exact fun e => (goodg_at h (Array.getElem?_eq_getElem hj)).2 i hlt e.symm
theorem wanted_of {l : Array Oper} {o : Oper} {a : Act} {j t : Nat} {b : Bool} (hg : o.guard = some (j, b)) (hj : (l[j]?).bind (·.dst) = some t) (h : a.tmps[t]?.getD undef = .bool b) : Region.wanted o (yielded l a.tmps) = true := by
  have h' : a.tmps[t]? = some (.bool b) := by
    cases e : a.tmps[t]? with
    | none => rw [e] at h; cases h
    | some v => rw [e] at h; simp at h; rw [h]
  unfold Region.wanted
  rw [hg]
  show (yielded l a.tmps j == some b) = true
  unfold yielded
  rw [hj]
  simp [h']
theorem step_wanted {P : Program} {l : Array Oper} {Q : Exit → Act → World → Prop} {o : Oper} {a : Act} {w : World} {K : Act → World → Prop} (hw : Region.wanted o (yielded l a.tmps) = true) (h : Oper.wp P o a w K Q) :
    if Region.wanted o (yielded l a.tmps) = true then Oper.wp P o a w K Q else K (a.put o.dst undef) w := by
  rw [if_pos hw]
  exact h
theorem wp_region_goodg {P : Program} {id : Nat} {Q : Exit → Act → World → Prop} {a0 : Act} {w0 : World} {l : Array Oper} (G : Nat → Value → World → Prop) (N : Nat) (hm : P.follows .mixedOrders = true) (ho : inOrder l = true) (hg : goodRegionG l = true)
    (hN : (List.range l.size).all (fun i => decide (slotAt l i < N)) = true) (hs : a0.tmps.size = N)
    (hmono : ∀ s v x x', G s v x → Below w0.heap.size w0 x → Below x.heap.size x x' → G s v x')
    (hstep : ∀ (i : Nat) (o : Oper), l[i]? = some o → ∀ (a : Act) (x : World), Below w0.heap.size w0 x → (∀ s, (∀ j, j < l.size → slotAt l j ≠ s) → a.tmps[s]?.getD undef = a0.tmps[s]?.getD undef) →
      (∀ e ∈ o.after, Region.binds .any e = true → e.on < l.size → G (slotAt l e.on) (a.tmps[slotAt l e.on]?.getD undef) x) →
      ∀ K : Act → World → Prop, (∀ v x', G (slotAt l i) v x' → Below x.heap.size x x' → K (a.put o.dst v) x') → if Region.wanted o (yielded l a.tmps) = true then Oper.wp P o a x K Q else K (a.put o.dst undef) x)
    (hend : ∀ (a : Act) (x : World), Below w0.heap.size w0 x → (∀ s, (∀ j, j < l.size → slotAt l j ≠ s) → a.tmps[s]?.getD undef = a0.tmps[s]?.getD undef) → (∀ j, j < l.size → G (slotAt l j) (a.tmps[slotAt l j]?.getD undef) x) → a.tmps.size = N → a.defers = a0.defers → Q .normal a x) :
    (Code.region id l true).wp P Q a0 w0 := by
  refine wp_region_inv (fun d a x => Below w0.heap.size w0 x ∧ (∀ s, (∀ j, j < l.size → slotAt l j ≠ s) → a.tmps[s]?.getD undef = a0.tmps[s]?.getD undef) ∧ (∀ j, j < l.size → d j = true → G (slotAt l j) (a.tmps[slotAt l j]?.getD undef) x) ∧ a.tmps.size = N ∧ a.defers = a0.defers) hm ho ?_ ?_ ?_
  · exact ⟨(Below.refl _ _).drew, fun _ _ => rfl, (fun j _ h => by cases h), hs, rfl⟩
  · intro i o hi d a x hd hpre ⟨hb, hsame, hG, hsz, hde⟩ K hK
    obtain ⟨g2, _⟩ := goodg_at hg hi
    have hil := (Array.getElem?_eq_some_iff.1 hi).1
    refine hstep i o hi a x hb hsame (fun e he hbi hlt => hG e.on hlt (hpre e he hbi)) K fun v x' hv hb' => hK _ _ ?_
    rw [g2]
    have hslot : slotAt l i < a.tmps.size := by
      rw [hsz]
      have := List.all_eq_true.1 hN i (List.mem_range.2 hil)
      simpa using this
    refine ⟨hb.trans (hb'.mono hb.size), fun s hs' => ?_, fun j hj hdj => ?_, ?_, hde⟩
    · exact (at_put (a := a) (v := v) (fun e => hs' i hil e.symm)).trans (hsame s hs')
    · by_cases e : j = i
      · subst e
        have e2 := at_put_self (a := a) (v := v) hslot
        unfold Act.at_ at e2
        rw [e2]
        exact hv
      · have hdj' : d j = true := by unfold also at hdj; rwa [if_neg e] at hdj
        have e2 := at_put (a := a) (v := v) (goodg_ne hg hil hj e)
        unfold Act.at_ at e2
        rw [e2]
        exact hmono _ _ _ _ (hG j hj hdj') hb hb'
    · show (a.tmps.setIfInBounds _ _).size = N
      rw [Array.size_setIfInBounds]
      exact hsz
  · intro d a x hall ⟨hb, hsame, hG, hsz, hde⟩
    exact hend a x hb hsame (fun j hj => hG j hj (hall j hj)) hsz hde
theorem cases_lt {p : Nat → Prop} {n : Nat} (h : ∀ i, i ∈ List.range n → p i) {i : Nat} (hi : i < n) : p i := h i (List.mem_range.2 hi)
end Go.Proofs.YtgebodibamgipaaGreatDoor
