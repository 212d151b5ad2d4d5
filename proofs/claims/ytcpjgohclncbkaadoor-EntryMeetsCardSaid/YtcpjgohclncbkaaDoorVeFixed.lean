/-
  A region that draws its order, the frame behind it written out.
-/
import Derived.Test.YtcpjgohclncbkaaDoorRegions
namespace Go.Proofs.YtcpjgohclncbkaaDoor
open Go.RowKit
set_option maxRecDepth 100000

/-- A frame with values put into some slots. -/
def putAct (V : Nat → Value) : List Nat → Act → Act
  | [], a => a
  | s :: r, a => putAct V r (a.put (some s) (V s))
theorem putAct_at (V : Nat → Value) (S : List Nat) : ∀ a : Act, (putAct V S a).defers = a.defers ∧ (putAct V S a).tmps.size = a.tmps.size ∧ ∀ k, k < a.tmps.size → (putAct V S a).tmps[k]?.getD undef = if k ∈ S then V k else a.tmps[k]?.getD undef := by
  induction S with
  | nil => intro a; exact ⟨rfl, rfl, fun k _ => by rw [if_neg (by simp)]; rfl⟩
  | cons s r ih =>
    intro a
    obtain ⟨h1, h2, h3⟩ := ih (a.put (some s) (V s))
    have hsz : (a.put (some s) (V s)).tmps.size = a.tmps.size := by show (a.tmps.setIfInBounds _ _).size = _; rw [Array.size_setIfInBounds]
    refine ⟨h1.trans rfl, h2.trans hsz, fun k hk => ?_⟩
    show (putAct V r (a.put (some s) (V s))).tmps[k]?.getD undef = _
    rw [h3 k (by rw [hsz]; exact hk)]
    by_cases hr : k ∈ r
    · rw [if_pos hr, if_pos (List.mem_cons_of_mem _ hr)]
    · rw [if_neg hr]
      by_cases e : k = s
      · subst e
        rw [if_pos (List.mem_cons_self ..)]
        exact at_put_self (a := a) hk
      · rw [if_neg (by simp [e, hr])]
        exact at_put (a := a) e
theorem act_put {V : Nat → Value} {S : List Nat} {a0 a1 : Act} {N : Nat} (hs0 : a0.tmps.size = N) (hs : a1.tmps.size = N) (hd : a1.defers = a0.defers) (hin : ∀ k, k ∈ S → a1.tmps[k]?.getD undef = V k) (hout : ∀ k, k ∉ S → a1.tmps[k]?.getD undef = a0.tmps[k]?.getD undef) : a1 = putAct V S a0 := by
  obtain ⟨h1, h2, h3⟩ := putAct_at V S a0
  have ht : a1.tmps = (putAct V S a0).tmps := by
    apply Array.ext_getElem?
    intro k
    by_cases hk : k < N
    · have e1 : a1.tmps[k]? = some (a1.tmps[k]?.getD undef) := by rw [Array.getElem?_eq_getElem (by omega)]; rfl
      have e2 : (putAct V S a0).tmps[k]? = some ((putAct V S a0).tmps[k]?.getD undef) := by rw [Array.getElem?_eq_getElem (by omega)]; rfl
      rw [e1, e2, h3 k (by omega)]
      by_cases hm : k ∈ S
      · rw [if_pos hm, hin k hm]
      · rw [if_neg hm, hout k hm]
    · rw [Array.getElem?_eq_none (by omega), Array.getElem?_eq_none (by omega)]
  cases a1
  cases hq : putAct V S a0
  rw [hq] at ht h1
  simp only at ht h1 hd
  subst ht
  rw [h1, ← hd]
/-- The same law, with the frame behind it written out. -/
theorem wp_region_fixed {P : Program} {id : Nat} {Q : Exit → Act → World → Prop} {a0 : Act} {w0 : World} {l : Array Oper} (V : Nat → Value) (J : (Nat → Bool) → World → Prop) (N : Nat) (S : List Nat) (hS : l.toList.filterMap (·.dst) = S) (hm : P.follows .mixedOrders = true) (ho : inOrder l = true) (hg : fixRegion l N = true)
    (hs : a0.tmps.size = N) (h0 : J (fun _ => false) w0.drew)
    (hstep : ∀ (i : Nat) (o : Oper), l[i]? = some o → ∀ (d : Nat → Bool) (a : Act) (x : World), J d x → d i = false → (∀ e ∈ o.after, Region.binds .any e = true → d e.on = true) → (∀ s, (∀ j, slotO l j ≠ some s) → a.tmps[s]?.getD undef = a0.tmps[s]?.getD undef) →
      (∀ j s, d j = true → slotO l j = some s → a.tmps[s]?.getD undef = V s) → ∀ K : Act → World → Prop, (∀ v x', (∀ s, o.dst = some s → v = V s) → J (also d i) x' → K (a.put o.dst v) x') → o.wp P a x K Q)
    (hend : ∀ (d : Nat → Bool) (x : World), (∀ j, j < l.size → d j = true) → J d x → Q .normal (putAct V S a0) x) :
    (Code.region id l true).wp P Q a0 w0 := by
  refine wp_region_fix V J N hm ho hg hs h0 hstep ?_
  intro d a x hall hJ hsame hV hsz hde
  have hmem : ∀ k, k ∈ S ↔ ∃ j, j < l.size ∧ slotO l j = some k := by
    intro k
    rw [← hS, List.mem_filterMap]
    constructor
    · rintro ⟨o, hmo, ho'⟩
      obtain ⟨j, hj, rfl⟩ := List.getElem_of_mem hmo
      refine ⟨j, by simpa using hj, ?_⟩
      unfold slotO
      rw [← Array.getElem?_toList, List.getElem?_eq_getElem hj]
      exact ho'
    · rintro ⟨j, hj, h⟩
      unfold slotO at h
      rw [Array.getElem?_eq_getElem hj] at h
      exact ⟨l[j], by simp, h⟩
  rw [act_put (V := V) (S := S) (a0 := a0) hs hsz hde (fun k hk => by obtain ⟨j, hj, h⟩ := (hmem k).1 hk; exact hV j k hj h) (fun k hk => hsame k fun j h => hk ((hmem k).2 ⟨j, by
    unfold slotO at h
    cases hq : l[j]? with
    | none => rw [hq] at h; cases h
    | some o' => exact (Array.getElem?_eq_some_iff.1 hq).1, h⟩))]
  exact hend d x hall hJ
section
variable {d : Nat → Bool}
theorem also_ne {i j : Nat} (h : j ≠ i) : also d i j = d j := by unfold also; rw [if_neg h]
theorem also_same (i : Nat) : also d i i = true := by unfold also; rw [if_pos rfl]
theorem also_up {i j : Nat} (h : d j = true) : also d i j = true := by unfold also; split <;> trivial
end
theorem many13_ {i n : Nat} (h : i < n) (hn : n = 13) : i = 0 ∨ i = 1 ∨ i = 2 ∨ i = 3 ∨ i = 4 ∨ i = 5 ∨ i = 6 ∨ i = 7 ∨ i = 8 ∨ i = 9 ∨ i = 10 ∨ i = 11 ∨ i = 12 := by omega
end Go.Proofs.YtcpjgohclncbkaaDoor
