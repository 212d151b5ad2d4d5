/-
  A region that draws its order, of whose operations two turn the world, one behind the other, and which writes slots that it reads (out of XKCuts).
  What entry.Join takes: the rest of a list of entries, by a slice cut at its front; both lists in one, step by step.
  entry.Join.
  The document's Put.
  The document's Has, Add, Kill and Join of entries.
  The document's Kill of entries.
-/
import Derived.Test.YtcpjgohclncbkaaDoorEnMaths
import Derived.Test.YtcpjgohclncbkaaDoorEnThose
import Derived.Test.YtcpjgohclncbkaaDoorEnCopies
import Derived.Test.YtcpjgohclncbkaaDoorVeFixed
import Derived.Test.YtcpjgohclncbkaaDoorVeGood
import Derived.Test.YtcpjgohclncbkaaDoorWalk
import Derived.Test.YtcpjgohclncbkaaDoorVecAll
import Derived.Test.YtcpjgohclncbkaaDoorEnSort
import Derived.Deep.LoopGhost
namespace Go.Proofs.YtcpjgohclncbkaaDoor
open Go.RowKit
set_option maxRecDepth 100000

inductive Ch2 (b a : Nat) (W0 W1 W2 : World) (d : Nat → Bool) (x : World) : Prop
  | s0 (h : x = W0) (h1 : d b = false) (h2 : d a = false) : Ch2 b a W0 W1 W2 d x
  | s1 (h : x = W1) (h1 : d b = true) (h2 : d a = false) : Ch2 b a W0 W1 W2 d x
  | s2 (h : x = W2) (h1 : d b = true) (h2 : d a = true) : Ch2 b a W0 W1 W2 d x
section
variable {b a : Nat} {W0 W1 W2 : World} {d : Nat → Bool} {x : World}
theorem Ch2.start : Ch2 b a W0 W1 W2 (fun _ => false) W0 := .s0 rfl rfl rfl
theorem also_far {d : Nat → Bool} {i j : Nat} (h : i ≠ j) : also d i j = d j := if_neg (fun e => h e.symm)
theorem also_self {d : Nat → Bool} {i : Nat} : also d i i = true := if_pos rfl
theorem Ch2.more (h : Ch2 b a W0 W1 W2 d x) {i : Nat} (h1 : i ≠ b) (h2 : i ≠ a) : Ch2 b a W0 W1 W2 (also d i) x := by
  rcases h with ⟨e, hb, ha⟩ | ⟨e, hb, ha⟩ | ⟨e, hb, ha⟩
  · exact .s0 e (by rw [also_far h1]; exact hb) (by rw [also_far h2]; exact ha)
  · exact .s1 e (by rw [also_far h1]; exact hb) (by rw [also_far h2]; exact ha)
  · exact .s2 e (by rw [also_far h1]; exact hb) (by rw [also_far h2]; exact ha)
theorem Ch2.all (h : Ch2 b a W0 W1 W2 d x) {p : World → Prop} (p0 : p W0) (p1 : p W1) (p2 : p W2) : p x := by
  rcases h with ⟨e, _⟩ | ⟨e, _⟩ | ⟨e, _⟩
  · rw [e]; exact p0
  · rw [e]; exact p1
  · rw [e]; exact p2
theorem Ch2.first (h : Ch2 b a W0 W1 W2 d x) (hb : d b = false) (hne : b ≠ a) : x = W0 ∧ Ch2 b a W0 W1 W2 (also d b) W1 := by
  rcases h with ⟨e, _, ha⟩ | ⟨_, h, _⟩ | ⟨_, h, _⟩
  · exact ⟨e, .s1 rfl also_self (by rw [also_far hne]; exact ha)⟩
  · rw [h] at hb; cases hb
  · rw [h] at hb; cases hb
theorem Ch2.second (h : Ch2 b a W0 W1 W2 d x) (hb : d b = true) (ha : d a = false) (hne : a ≠ b) : x = W1 ∧ Ch2 b a W0 W1 W2 (also d a) W2 := by
  rcases h with ⟨_, h, _⟩ | ⟨e, _, _⟩ | ⟨_, _, h⟩
  · rw [h] at hb; cases hb
  · exact ⟨e, .s2 rfl (by rw [also_far hne]; exact hb) also_self⟩
  · rw [h] at ha; cases ha
theorem Ch2.done (h : Ch2 b a W0 W1 W2 d x) (ha : d a = true) : x = W2 := by
  rcases h with ⟨_, _, h⟩ | ⟨_, _, h⟩ | ⟨e, _, _⟩
  · rw [h] at ha; cases ha
  · rw [h] at ha; cases ha
  · exact e
end

/-- wp_region_fix, where an operation may read a slot that a later one of the region writes. -/
theorem wp_region_fix2 {P : Program} {id : Nat} {Q : Exit → Act → World → Prop} {a0 : Act} {w0 : World} {l : Array Oper} (V : Nat → Value) (J : (Nat → Bool) → World → Prop) (N : Nat) (hm : P.follows .mixedOrders = true) (ho : inOrder l = true) (hg : fixRegion l N = true)
    (hs : a0.tmps.size = N) (h0 : J (fun _ => false) w0.drew)
    (hstep : ∀ (i : Nat) (o : Oper), l[i]? = some o → ∀ (d : Nat → Bool) (a : Act) (x : World), J d x → d i = false → (∀ e ∈ o.after, Region.binds .any e = true → d e.on = true) → (∀ j o', l[j]? = some o' → d j = true → ∀ e ∈ o'.after, Region.binds .any e = true → d e.on = true) →
      (∀ s, (∀ j, slotO l j = some s → d j = false) → a.tmps[s]?.getD undef = a0.tmps[s]?.getD undef) →
      (∀ j s, d j = true → slotO l j = some s → a.tmps[s]?.getD undef = V s) → ∀ K : Act → World → Prop, (∀ v x', (∀ s, o.dst = some s → v = V s) → J (also d i) x' → K (a.put o.dst v) x') → o.wp P a x K Q)
    (hend : ∀ (d : Nat → Bool) (a : Act) (x : World), (∀ j, j < l.size → d j = true) → J d x → (∀ s, (∀ j, slotO l j ≠ some s) → a.tmps[s]?.getD undef = a0.tmps[s]?.getD undef) → (∀ j s, j < l.size → slotO l j = some s → a.tmps[s]?.getD undef = V s) → a.tmps.size = N → a.defers = a0.defers → Q .normal a x) :
    (Code.region id l true).wp P Q a0 w0 := by
  refine wp_region_inv (fun d a x => J d x ∧ (∀ s, (∀ j, slotO l j = some s → d j = false) → a.tmps[s]?.getD undef = a0.tmps[s]?.getD undef) ∧ (∀ j s, d j = true → slotO l j = some s → a.tmps[s]?.getD undef = V s) ∧ a.tmps.size = N ∧ a.defers = a0.defers ∧ (∀ j o', l[j]? = some o' → d j = true → ∀ e ∈ o'.after, Region.binds .any e = true → d e.on = true)) hm ho ?_ ?_ ?_
  · exact ⟨h0, fun _ _ => rfl, (fun j s h => by cases h), hs, rfl, fun j o' _ h => by cases h⟩
  · intro i o hi d a x hd hpre ⟨hJ, hsame, hV, hsz, hde, hcl⟩ K hK
    obtain ⟨g1, g2, g3, g4⟩ := fix_at hg hi
    refine step_plain g1 (hstep i o hi d a x hJ hd hpre hcl hsame hV K fun v x' hv hJ' => hK _ _ ⟨hJ', ?_, ?_, ?_, ?_, ?_⟩)
    · intro s hs'
      have hsd : ∀ j, slotO l j = some s → d j = false := fun j hj => by
        have h := hs' j hj
        unfold also at h
        split at h
        · cases h
        · exact h
      cases hq : o.dst with
      | none => exact hsame s hsd
      | some t =>
        have ht : s ≠ t := fun e => by
          have h := hs' i (by rw [g3, hq, e])
          rw [also_self] at h
          cases h
        exact (at_put (a := a) (v := v) ht).trans (hsame s hsd)
    · intro j s hj hjs
      by_cases e : j = i
      · subst e
        rw [g3] at hjs
        have e2 := at_put_self (a := a) (v := v) (s := s) (by rw [hsz]; exact g2 s hjs)
        unfold Act.at_ at e2
        rw [hjs, e2]
        exact hv s hjs
      · have hdj : d j = true := by unfold also at hj; rwa [if_neg e] at hj
        have hne := g4 j s e hjs
        cases hq : o.dst with
        | none => exact hV j s hdj hjs
        | some t =>
          have ht : s ≠ t := fun e => hne (by rw [hq, e])
          exact (at_put (a := a) (v := v) ht).trans (hV j s hdj hjs)
    · cases hq : o.dst with
      | none => exact hsz
      | some t =>
        show (a.tmps.setIfInBounds _ _).size = N
        rw [Array.size_setIfInBounds]
        exact hsz
    · cases hq : o.dst with
      | none => exact hde
      | some t => exact hde
    · intro j o' hj hdj e he hb
      have up : ∀ k, d k = true → also d i k = true := fun k h => by unfold also; split; rfl; exact h
      by_cases eji : j = i
      · subst eji
        rw [hi] at hj
        cases hj
        exact up _ (hpre e he hb)
      · have hdj' : d j = true := by unfold also at hdj; rwa [if_neg eji] at hdj
        exact up _ (hcl j o' hj hdj' e he hb)
  · intro d a x hall ⟨hJ, hsame, hV, hsz, hde, _⟩
    exact hend d a x hall hJ (fun s h => hsame s fun j hj => absurd hj (h j)) (fun j s hj hs => hV j s (hall j hj) hs) hsz hde

/-- More entries behind those that the call owns. -/
theorem OwnE.apps {w : World} {base : Nat} {v : Value} {M N : List Ent} (h : OwnK w base 29 15 v (M.length + N.length) (entsC M ++ entsC N)) (hM : ∀ y ∈ M, EntOk y) (hN : ∀ y ∈ N, EntOk y) : OwnE w base v (M ++ N) := by
  refine ⟨?_, fun y hy => ?_⟩
  · rw [entsC_append, List.length_append]
    exact h
  · rcases List.mem_append.1 hy with hy | hy
    · exact hM y hy
    · exact hN y hy

theorem IsL.rdE {w : World} {ok : Nat → Prop} {A : Option Addr} {n c : Nat} {L : List Ent} (h : IsL kEnt w ok (.slice A n c) L) : Rd w ok A (entsC L) ∧ n = L.length ∧ n ≤ maxLen ∧ ∀ y ∈ L, EntOk y := by
  obtain ⟨A', c', ds, e, h1, h2, h3, h4⟩ := h
  obtain ⟨hds, hok⟩ := ent_cells h4
  injection e with e1 e2 e3
  subst e1 e2 e3
  refine ⟨?_, rfl, by omega, hok⟩
  rw [show entsC L = ds from hds.symm]
  exact h3
/-- What stands in the region that joins what a copy was deleted by: operation 1 reads it, operation 8 stores it. -/
structure MeltJ (w : World) (u : Value) (acc : List Ent) (p : Nat) (C0 C1 : Array Value) (d : Nat → Bool) (x : World) : Prop where
  before : d 8 = false → Blk x p 29 C0
  after : d 8 = true → Blk x p 29 C1
  ord : d 8 = true → d 1 = true
  own : OwnE x w.heap.size u acc
  below : Below w.heap.size w x
section
variable {w : World} {u : Value} {acc : List Ent} {p : Nat} {C0 C1 : Array Value} {d : Nat → Bool} {x : World}
theorem MeltJ.drew (h : MeltJ w u acc p C0 C1 d x) : MeltJ w u acc p C0 C1 d x.drew := ⟨fun e => (h.before e).drew, fun e => (h.after e).drew, h.ord, ⟨OwnK.drew h.own.1, h.own.2⟩, below_then_drew h.below⟩
theorem MeltJ.more (h : MeltJ w u acc p C0 C1 d x) {i : Nat} (hi : i ≠ 8) (ho : d 8 = true → also d i 1 = true) : MeltJ w u acc p C0 C1 (also d i) x := by
  have e : also d i 8 = d 8 := also_ne (fun e => hi e.symm)
  exact ⟨fun h1 => h.before (by rw [← e]; exact h1), fun h1 => h.after (by rw [← e]; exact h1), fun h1 => ho (by rw [← e]; exact h1), h.own, h.below⟩
theorem MeltJ.call (h : MeltJ w u acc p C0 C1 d x) {w' : World} (hb : Below x.heap.size x w') : MeltJ w u acc p C0 C1 d w' := ⟨fun e => (h.before e).grow hb, fun e => (h.after e).grow hb, h.ord, h.own.grow hb, below_call h.below hb⟩
theorem MeltJ.stored (h : MeltJ w u acc p C0 C1 d x) (h1 : d 1 = true) {o : Nat} {vs : List Value} (hw : Blk (x.setCells p o vs) p 29 C1) (hp : w.heap.size ≤ p) (hne : ∀ g, u.ownBlock = some g → g ≠ p) : MeltJ w u acc p C0 C1 (also d 8) (x.setCells p o vs) :=
  ⟨fun e => (by rw [also_same] at e; cases e), fun _ => hw, fun _ => also_up h1, ⟨OwnK.keep h.own.1 fun g hg => heap_setCells p vs o x g (hne g hg), h.own.2⟩, below_setCells h.below hp h.below.size o vs⟩
end
end Go.Proofs.YtcpjgohclncbkaaDoor

namespace Go.Proofs.YtcpjgohclncbkaaDoor
open Go.RowKit
set_option maxRecDepth 100000

end Go.Proofs.YtcpjgohclncbkaaDoor

namespace Go.Proofs.YtcpjgohclncbkaaDoor
open Go.RowKit
set_option maxRecDepth 100000

end Go.Proofs.YtcpjgohclncbkaaDoor

namespace Go.Proofs.YtcpjgohclncbkaaDoor
open Go.RowKit
set_option maxRecDepth 100000

end Go.Proofs.YtcpjgohclncbkaaDoor

namespace Go.Proofs.YtcpjgohclncbkaaDoor
open Go.RowKit
set_option maxRecDepth 100000

end Go.Proofs.YtcpjgohclncbkaaDoor
