/-
  Walks inside a fence; a loop over an iterator whose assignment makes memory; entry.Of's iterator.
-/
import Derived.Test.YtcpjgohclncbkaaDoorEnOf
import Derived.Test.YtcpjgohclncbkaaDoorVeGood
import Derived.Test.YtcpjgohclncbkaaDoorWalk
import Derived.RangeFuncNested
import Derived.RangeFuncCalls
import Derived.RangeFuncLeaves
import Derived.RangeFuncBound
import Derived.OrdersIn
import Derived.OwnWalkIn
import Derived.TacticsIn
import Derived.TacticsInMore
namespace Go.Proofs.YtcpjgohclncbkaaDoor
open Go.RowKit
set_option maxRecDepth 100000

theorem opIn_of_plain {l n : Nat} {P : Program} {o : Oper} {a : Act} {w : World} {next : Act → World → Prop} {Q : Exit → Act → World → Prop} (hd : ∀ c, o.op ≠ .defer c) (h : o.wp P a w next Q) : o.wpIn (Fence.wide.inRound l) n P a w next Q := by
  refine ⟨fun f _ => trivial, ?_⟩
  rw [Oper.semAt_plain (Fence.wide.inRound l) _ _ hd]
  unfold Oper.wp at h
  generalize (execOp a.eval o).run P w = r at h ⊢
  cases r with
  | ok x w' =>
    cases x with
    | value v => exact h
    | skip => exact h
    | defer d => exact h
    | enter f args =>
      refine ⟨fun h => (by cases h), CallsIn.inRound l ((callsIn_wide (n := n - 1)).2 (Calls.mono h ?_))⟩
      intro e w'' he
      cases e <;> exact he
    | row row args =>
      refine ⟨fun h => (by cases h), fun c cs _ => ?_⟩
      obtain ⟨v, w'', hr, hs⟩ := h c cs
      exact ⟨v, w'', hr, stepsIn_wide.2 hs⟩
    | _ => exact h.elim
  | halt x w' => cases x <;> exact h
theorem wpAnyIn_inv {L n : Nat} {P : Program} {l : Array Oper} {Q : Exit → Act → World → Prop} (I : (Nat → Bool) → Act → World → Prop) (ho : inOrder l = true)
    (hnd : ∀ (i : Nat) (o : Oper), l[i]? = some o → ∀ c, o.op ≠ .defer c)
    (hstep : ∀ (i : Nat) (o : Oper), l[i]? = some o → ∀ (d : Nat → Bool) (a : Act) (w : World), d i = false → (∀ e ∈ o.after, Region.binds .any e = true → d e.on = true) → I d a w → ∀ K : Act → World → Prop, (∀ a w, I (also d i) a w → K a w) → if Region.wanted o (yielded l a.tmps) = true then Oper.wp P o a w K Q else K (a.put o.dst undef) w)
    (hend : ∀ (d : Nat → Bool) a w, (∀ j, j < l.size → d j = true) → I d a w → Q .normal a w) :
    ∀ (fuel : Nat) (listed : Array Bool) (a : Act) (w : World), listed.size = l.size → listed.toList.count true + fuel = l.size → I (doneOf listed) a w → wpAnyIn (Fence.wide.inRound L) n P .any l Q fuel listed a w := by
  intro fuel
  induction fuel with
  | zero =>
    intro listed a w hs hc hI
    have hall : ∀ b ∈ listed.toList, true = b := List.count_eq_length.1 (by rw [Array.length_toList]; omega)
    have hdone : ∀ j, j < l.size → doneOf listed j = true := fun j hj => by
      have hj' : j < listed.size := by omega
      unfold doneOf
      have : true = listed[j] := hall _ (by rw [← Array.getElem_toList]; exact List.getElem_mem _)
      simp [hj', ← this]
    refine ⟨?_, hend _ _ _ hdone hI⟩
    cases hr : Region.ready .any l listed with
    | nil => rfl
    | cons j r =>
      have hm : j ∈ Region.ready .any l listed := by rw [hr]; simp
      obtain ⟨h1, o, h2, _⟩ := mem_ready.1 hm
      have hj := (Array.getElem?_eq_some_iff.1 h2).1
      have h3 := hdone j hj
      unfold doneOf at h3
      have hj' : j < listed.size := by omega
      simp [hj'] at h1 h3
      rw [h1] at h3
      cases h3
  | succ fuel ih =>
    intro listed a w hs hc hI
    refine ⟨fun hr => hend _ _ _ (all_of_ready hs ho hr) hI, fun i hi => ?_⟩
    obtain ⟨h1, o, h2, h3⟩ := mem_ready.1 hi
    have hil : i < l.size := (Array.getElem?_eq_some_iff.1 h2).1
    have his : i < listed.size := by omega
    have hf : listed[i] = false := by simpa [his] using h1
    have hK : ∀ a' w', I (also (doneOf listed) i) a' w' → wpAnyIn (Fence.wide.inRound L) n P .any l Q fuel (listed.setIfInBounds i true) a' w' := fun a' w' hI' => by
      refine ih _ a' w' (by rw [Array.size_setIfInBounds]; exact hs) ?_ (by rw [doneOf_set his]; exact hI')
      have : (listed.setIfInBounds i true).toList.count true = listed.toList.count true + 1 := by
        rw [Array.toList_setIfInBounds, List.count_set (by simpa using his)]
        simp [hf]
      omega
    have hs1 := hstep i o h2 (doneOf listed) a w (by unfold doneOf; simp [his, hf]) h3 hI _ hK
    unfold wpOpIn
    rw [h2]
    dsimp only
    split
    · rename_i hw
      rw [if_pos hw] at hs1
      exact opIn_of_plain (hnd i o h2) hs1
    · rename_i hw
      rw [if_neg hw] at hs1
      exact ⟨fun _ _ => trivial, hs1⟩
theorem wpIn_region_inv {L n : Nat} {P : Program} {id : Nat} {Q : Exit → Act → World → Prop} {a : Act} {w : World} {l : Array Oper} (I : (Nat → Bool) → Act → World → Prop) (hm : P.follows .mixedOrders = true) (ho : inOrder l = true)
    (hnd : (l.all fun o => match o.op with | .defer _ => false | _ => true) = true)
    (h0 : I (fun _ => false) a w.drew)
    (hstep : ∀ (i : Nat) (o : Oper), l[i]? = some o → ∀ (d : Nat → Bool) (a : Act) (w : World), d i = false → (∀ e ∈ o.after, Region.binds .any e = true → d e.on = true) → I d a w → ∀ K : Act → World → Prop, (∀ a w, I (also d i) a w → K a w) → if Region.wanted o (yielded l a.tmps) = true then Oper.wp P o a w K Q else K (a.put o.dst undef) w)
    (hend : ∀ (d : Nat → Bool) a w, (∀ j, j < l.size → d j = true) → I d a w → Q .normal a w) : (Code.region id l true).wpIn (Fence.wide.inRound L) n P Q a w := by
  refine wpIn_region_any hm (wpAnyIn_inv I ho ?_ hstep hend l.size _ a _ (by simp) ?_ ?_)
  · intro i o hi c hc
    obtain ⟨hlt, he⟩ := Array.getElem?_eq_some_iff.1 hi
    have := Array.all_eq_true.1 hnd i hlt
    rw [he, hc] at this
    cases this
  · simp [List.count_replicate]
  · have : doneOf (Array.replicate l.size false) = fun _ => false := by
      funext j
      unfold doneOf
      rw [Array.getD_eq_getD_getElem?, Array.getElem?_replicate]
      split <;> rfl
    rw [this]
    exact h0
theorem wpIn_region_goodg {L n : Nat} {P : Program} {id : Nat} {Q : Exit → Act → World → Prop} {a0 : Act} {w0 : World} {l : Array Oper} (G : Nat → Value → World → Prop) (N : Nat) (hm : P.follows .mixedOrders = true) (ho : inOrder l = true) (hg : goodRegionG l = true) (hnd : (l.all fun o => match o.op with | .defer _ => false | _ => true) = true)
    (hN : (List.range l.size).all (fun i => decide (slotAt l i < N)) = true) (hs : a0.tmps.size = N)
    (hmono : ∀ s v x x', G s v x → Below w0.heap.size w0 x → Below x.heap.size x x' → G s v x')
    (hstep : ∀ (i : Nat) (o : Oper), l[i]? = some o → ∀ (a : Act) (x : World), Below w0.heap.size w0 x → (∀ s, (∀ j, j < l.size → slotAt l j ≠ s) → a.tmps[s]?.getD undef = a0.tmps[s]?.getD undef) →
      (∀ e ∈ o.after, Region.binds .any e = true → e.on < l.size → G (slotAt l e.on) (a.tmps[slotAt l e.on]?.getD undef) x) →
      ∀ K : Act → World → Prop, (∀ v x', G (slotAt l i) v x' → Below x.heap.size x x' → K (a.put o.dst v) x') → if Region.wanted o (yielded l a.tmps) = true then Oper.wp P o a x K Q else K (a.put o.dst undef) x)
    (hend : ∀ (a : Act) (x : World), Below w0.heap.size w0 x → (∀ s, (∀ j, j < l.size → slotAt l j ≠ s) → a.tmps[s]?.getD undef = a0.tmps[s]?.getD undef) → (∀ j, j < l.size → G (slotAt l j) (a.tmps[slotAt l j]?.getD undef) x) → a.tmps.size = N → a.defers = a0.defers → Q .normal a x) :
    (Code.region id l true).wpIn (Fence.wide.inRound L) n P Q a0 w0 := by
  refine wpIn_region_inv (fun d a x => Below w0.heap.size w0 x ∧ (∀ s, (∀ j, j < l.size → slotAt l j ≠ s) → a.tmps[s]?.getD undef = a0.tmps[s]?.getD undef) ∧ (∀ j, j < l.size → d j = true → G (slotAt l j) (a.tmps[slotAt l j]?.getD undef) x) ∧ a.tmps.size = N ∧ a.defers = a0.defers) hm ho hnd ?_ ?_ ?_
  · exact ⟨(Below.refl _ _).drew, fun _ _ => rfl, (fun j _ h => by cases h), hs, rfl⟩
  · intro i o hi d a x hd hpre ⟨hb, hsame, hG, hsz, hde⟩ K hK
    obtain ⟨g2, _⟩ := goodg_at hg hi
    have hil := (Array.getElem?_eq_some_iff.1 hi).1
    refine hstep i o hi a x hb hsame (fun e he hbi hlt => hG e.on hlt (hpre e he hbi)) K fun v x' hv hb' => hK _ _ ?_
    rw [g2]
    have hslot : slotAt l i < a.tmps.size := by
      rw [hsz]
      have := List.all_eq_true.1 hN i (List.mem_range.2 hil)
      simpa using this
    refine ⟨hb.trans (hb'.mono hb.size), fun s hs' => ?_, fun j hj hdj => ?_, ?_, hde⟩
    · exact (at_put (a := a) (v := v) (fun e => hs' i hil e.symm)).trans (hsame s hs')
    · by_cases e : j = i
      · subst e
        have e2 := at_put_self (a := a) (v := v) hslot
        unfold Act.at_ at e2
        rw [e2]
        exact hv
      · have hdj' : d j = true := by unfold also at hdj; rwa [if_neg e] at hdj
        have e2 := at_put (a := a) (v := v) (goodg_ne hg hil hj e)
        unfold Act.at_ at e2
        rw [e2]
        exact hmono _ _ _ _ (hG j hj hdj') hb hb'
    · show (a.tmps.setIfInBounds _ _).size = N
      rw [Array.size_setIfInBounds]
      exact hsz
  · intro d a x hall ⟨hb, hsame, hG, hsz, hde⟩
    exact hend a x hb hsame (fun j hj => hG j hj (hall j hj)) hsz hde

theorem opIn_wide {n : Nat} {P : Program} {o : Oper} {a : Act} {w : World} {next : Act → World → Prop} {Q : Exit → Act → World → Prop} (hd : ∀ c, o.op ≠ .defer c) (h : o.wp P a w next Q) : o.wpIn Fence.wide n P a w next Q := by
  refine ⟨fun f _ => trivial, ?_⟩
  rw [Oper.semAt_plain Fence.wide _ _ hd]
  unfold Oper.wp at h
  generalize (execOp a.eval o).run P w = r at h ⊢
  cases r with
  | ok x w' =>
    cases x with
    | value v => exact h
    | skip => exact h
    | defer d => exact h
    | enter f args =>
      refine ⟨fun h => (by cases h), (callsIn_wide (n := n - 1)).2 (Calls.mono h ?_)⟩
      intro e w'' he
      cases e <;> exact he
    | row row args =>
      refine ⟨fun h => (by cases h), fun c cs _ => ?_⟩
      obtain ⟨v, w'', hr, hs⟩ := h c cs
      exact ⟨v, w'', hr, stepsIn_wide.2 hs⟩
    | _ => exact h.elim
  | halt x w' => cases x <;> exact h
def noDefer (o : Oper) : Bool := match o.op with | .defer _ => false | _ => true
theorem noDefer_out {o : Oper} (h : noDefer o = true) : ∀ c, o.op ≠ .defer c := by
  intro c hc
  unfold noDefer at h
  rw [hc] at h
  cases h
def LeftIn (F : Fence) (n : Nat) (P : Program) (ops : Array Oper) (Q : Exit → Act → World → Prop) (rest : List Oper) (N : Nat) (a : Act) (s : Nat) (v : Value) (w : World) : Prop :=
  ∀ a' : Act, Hid (a'.tmps.size = N) → Hid (a'.defers = []) → a'.tmps[s]?.getD undef = v → (∀ t, t ≠ s → a'.tmps[t]?.getD undef = a.tmps[t]?.getD undef) → wpListIn F n P ops Q rest a' w
def LeftD (De : List Deferred) (P : Program) (ops : Array Oper) (Q : Exit → Act → World → Prop) (rest : List Oper) (N : Nat) (a : Act) (s : Nat) (v : Value) (w : World) : Prop :=
  ∀ a' : Act, Hid (a'.tmps.size = N) → Hid (a'.defers = De) → a'.tmps[s]?.getD undef = v → (∀ t, t ≠ s → a'.tmps[t]?.getD undef = a.tmps[t]?.getD undef) → wpList P ops Q rest a' w
section
variable {F : Fence} {L n : Nat} {De : List Deferred} {P : Program} {ops : Array Oper} {Q : Exit → Act → World → Prop} {rest : List Oper} {o : Oper} {a : Act} {w : World} {N : Nat}
theorem leftIn_put (hsz : Hid (a.tmps.size = N)) (hde : Hid (a.defers = [])) {s : Nat} (hs : s < N) {v : Value} (h : LeftIn F n P ops Q rest N a s v w) : wpListIn F n P ops Q rest (a.put (some s) v) w :=
  h _ (Lib.hid (by show (a.tmps.setIfInBounds _ _).size = N; rw [Array.size_setIfInBounds]; exact hsz.out)) (Lib.hid hde.out) (at_put_self (by rw [hsz.out]; exact hs)) (fun t ht => at_put (a := a) (v := v) ht)
theorem leftD_put (hsz : Hid (a.tmps.size = N)) (hde : Hid (a.defers = De)) {s : Nat} (hs : s < N) {v : Value} (h : LeftD De P ops Q rest N a s v w) : wpList P ops Q rest (a.put (some s) v) w :=
  h _ (Lib.hid (by show (a.tmps.setIfInBounds _ _).size = N; rw [Array.size_setIfInBounds]; exact hsz.out)) (Lib.hid hde.out) (at_put_self (by rw [hsz.out]; exact hs)) (fun t ht => at_put (a := a) (v := v) ht)
theorem listIn_next (hnd : noDefer o = true) (hg : o.guard = none) (hsz : Hid (a.tmps.size = N)) (hde : Hid (a.defers = [])) (s : Nat) (_hd : o.dst = some s) (hs : s < N)
    (h : ∀ K : Act → World → Prop, (∀ v w', LeftIn (Fence.wide.inRound L) n P ops Q rest N a s v w' → K (a.put (some s) v) w') → o.wp P a w K Q) : wpListIn (Fence.wide.inRound L) n P ops Q (o :: rest) a w :=
  wpListIn_plain hg fun K hK => opIn_of_plain (noDefer_out hnd) (h K fun _ _ hl => hK _ _ (leftIn_put hsz hde hs hl))
theorem listIn_next0 (hnd : noDefer o = true) (hg : o.guard = none) (_hd : o.dst = none)
    (h : ∀ K : Act → World → Prop, (∀ v w', wpListIn (Fence.wide.inRound L) n P ops Q rest a w' → K (a.put none v) w') → o.wp P a w K Q) : wpListIn (Fence.wide.inRound L) n P ops Q (o :: rest) a w :=
  wpListIn_plain hg fun K hK => opIn_of_plain (noDefer_out hnd) (h K fun _ _ hl => hK _ _ hl)
theorem listW_next (hnd : noDefer o = true) (hg : o.guard = none) (hsz : Hid (a.tmps.size = N)) (hde : Hid (a.defers = [])) (s : Nat) (_hd : o.dst = some s) (hs : s < N)
    (h : ∀ K : Act → World → Prop, (∀ v w', LeftIn Fence.wide n P ops Q rest N a s v w' → K (a.put (some s) v) w') → o.wp P a w K Q) : wpListIn Fence.wide n P ops Q (o :: rest) a w :=
  wpListIn_plain hg fun K hK => opIn_wide (noDefer_out hnd) (h K fun _ _ hl => hK _ _ (leftIn_put hsz hde hs hl))
theorem listD_next (hg : o.guard = none) (hsz : Hid (a.tmps.size = N)) (hde : Hid (a.defers = De)) (s : Nat) (_hd : o.dst = some s) (hs : s < N)
    (h : ∀ K : Act → World → Prop, (∀ v w', LeftD De P ops Q rest N a s v w' → K (a.put (some s) v) w') → o.wp P a w K Q) : wpList P ops Q (o :: rest) a w :=
  wpList_plain hg fun K hK => h K fun _ _ hl => hK _ _ (leftD_put hsz hde hs hl)
/-- A call of yield. -/
theorem listW_yield (hg : o.guard = none) (hnd : noDefer o = true) (hsz : Hid (a.tmps.size = N)) (hde : Hid (a.defers = [])) (s : Nat) (hd : o.dst = some s) (hs : s < N) {l : Nat} {fn : FuncId} {tmps : Array Value} {assign body : Code}
    (hx : (execOp a.eval o).run P w = .ok (.round l fn tmps assign body) w) {R : Ending → World → Prop} (hR : RoundIn Fence.wide (n - 1) P l fn tmps assign body w R)
    (h : ∀ v w', R (.returned v) w' → LeftIn Fence.wide n P ops Q rest N a s v w') (hp : ∀ c w', ¬ R (.panicked c) w') (ho : ∀ w', ¬ R .outgrown w') : wpListIn Fence.wide n P ops Q (o :: rest) a w :=
  wpListIn_plain hg fun K hK => by
    refine ⟨fun f _ => trivial, ?_⟩
    rw [Oper.semAt_plain Fence.wide _ _ (noDefer_out hnd), hx]
    refine ⟨fun h => (by cases h), hR.mono ?_⟩
    intro e w' he
    cases e with
    | returned v =>
      show K (a.put o.dst v) w'
      rw [hd]
      exact hK _ _ (leftIn_put hsz hde hs (h v w' he))
    | panicked c => exact absurd he (hp c w')
    | outgrown => exact absurd he (ho w')
end
/-- The iterator's word, for whatever loop body keeps the blocks of 'keep'. -/
def IterE {α : Type} (n : Nat) (P : Program) (gf : FuncId) (lb : Array Value) (encs : α → Array Value) (keep : Nat → Prop) (X : List α → α → Prop) (S : List α → Prop) (w : World) : Prop :=
  ∀ (l : Nat) (J Jx : List α → World → Prop) (W : World), (∀ k, keep k → W.heap[k]? = w.heap[k]?) → w.heap.size ≤ W.heap.size →
    (∀ pre x W0 W1, J pre W0 → Below W0.heap.size W0 W1 → X pre x →
      YieldAt Fence.wide (n - 1) P l (encs x) W1 fun e W2 => (e = .returned (.bool true) ∧ J (pre ++ [x]) W2 ∧ W1.heap.size ≤ W2.heap.size ∧ ∀ k, keep k → W2.heap[k]? = W1.heap[k]?) ∨ (e = .returned (.bool false) ∧ Jx (pre ++ [x]) W2)) →
    J [] W →
    CallsIn Fence.wide n P gf (#[.func (.yield l) #[] #[]] ++ lb) W fun e W' =>
      (∃ v, e = .returned v) ∧ ((∃ xs W0, S xs ∧ J xs W0 ∧ Below W0.heap.size W0 W') ∨ (∃ xs W0, Jx xs W0 ∧ Below W0.heap.size W0 W'))
def endE {α : Type} (B : Nat) (keep : Nat → Prop) (I : List α → World → Prop) (Ix : Code → List α → World → Prop) (xs : List α) (W : World) : Exit → Act → World → Prop
  | .normal, _, W' => KeepsFrom B W W' ∧ (∀ k, keep k → W'.heap[k]? = W.heap[k]?) ∧ I xs W'
  | .ret, _, W' => KeepsFrom B W W' ∧ Ix .ret xs W'
  | .exit id, _, W' => KeepsFrom B W W' ∧ Ix (.exit id) xs W'
  | .goto t, _, W' => KeepsFrom B W W' ∧ Ix (.goto t) xs W'
  | .panic _, _, _ => False
  | .outgrown, _, _ => False
theorem ownE_below {β : Type} {B : Nat} {I : β → World → Prop} (h : OwnFrom B I) {s : β} {A W : World} (hs : I s A) (hb : Below A.heap.size A W) : I s W :=
  h s A W none hs ⟨hb.os, hb.tape, hb.output, hb.size, fun k hk _ => hb.block k hk⟩ (fun r e => by cases e)
theorem keepsFrom_belowE {B : Nat} {W W' : World} (hb : Below W.heap.size W W') : KeepsFrom B W W' := ⟨hb.size, fun k o _ hk _ => by
  rw [hb.block k (Array.getElem?_eq_some_iff.1 hk).1]; exact hk⟩
theorem wp_rangeE {α : Type} {n : Nat} {P : Program} {g : Operand} {ps : Array Tmp} {assign body : Code} {Q : Exit → Act → World → Prop} {a : Act} {w : World}
    {gf : Nat} {lb : Array Value} (hg : a.eval g = .func (.func gf) #[] lb) (eg : ∀ args w, (callFunc gf args).run P w = .ok (.enter gf args) w)
    {encs : α → Array Value} {keep : Nat → Prop} {X : List α → α → Prop} {S : List α → Prop} (hiter : IterE (n - 1) P gf lb encs keep X S w) (hkeep : ∀ k, keep k → k < w.heap.size)
    (G : α → Act → World → Prop) (hG : ∀ x a, OwnFrom w.heap.size (fun (_ : Unit) W => G x a W)) (hps : ∀ x, (encs x).size = ps.size)
    (I : List α → World → Prop) (Ix : Code → List α → World → Prop) (hI : OwnFrom w.heap.size I) (hIx : ∀ c, OwnFrom w.heap.size (Ix c)) (h0 : I [] w)
    (hassign : ∀ (l : Nat) (pre : List α) (x : α) (W : World) (K : Act → World → Prop), X pre x → I pre W → w.heap.size + 2 ≤ W.heap.size → (∀ a' W', Below W.heap.size W W' → G x a' W' → K a' W') →
      assign.wpIn (Fence.wide.inRound l) (n - 1 - 1) P (Exit.then K (fun _ _ _ => False)) { tmps := (ps.zip (encs x)).foldl (fun t (p, v) => t.setIfInBounds p v) a.tmps, defers := [] } W)
    (hbody : ∀ (l : Nat) (pre : List α) (x : α) (a' : Act) (W : World), X pre x → I pre W → w.heap.size + 2 ≤ W.heap.size → G x a' W →
      body.wpIn (Fence.wide.inRound l) (n - 1 - 1) P (endE w.heap.size keep I Ix (pre ++ [x]) W) a' W)
    (hdone : ∀ (D : Nat) (xs : List α) (W : World), w.heap.size ≤ D → S xs → I xs W → W.heap[D]? = some (.deferred (some [])) → Q .normal { a with defers := { target := .collected D, args := #[] } :: a.defers } W)
    (hstop : ∀ (D : Nat) (c : Code) (xs : List α) (W : World), w.heap.size ≤ D → Ix c xs W → W.heap[D]? = some (.deferred (some [])) → c.wpIn Fence.wide n P Q { a with defers := { target := .collected D, args := #[] } :: a.defers } W) :
    (Code.rangeFunc g ps assign body).wpIn Fence.wide n P Q a w := by
  refine wpIn_rangeFunc fun fn hfn => ?_
  show ∃ (l : Nat) (mark : List Deferred) (w₁ : World) (d : Deferred) (w₁' : World) (f : FuncId) (args : Array Value) (w₂ : World), (Instr.enterLoop fn a.tmps ps assign body none).run P w = _ ∧ _
  obtain ⟨D, hD⟩ : ∃ D, D = w.heap.size := ⟨_, rfl⟩
  obtain ⟨rec, hrec⟩ : ∃ rec : LoopState → Option Code → Loop, rec = fun st pe => { state := st, pending := pe, fn, tmps := a.tmps, params := ps, assign, body, defers := w.heap.size } := ⟨_, rfl⟩
  have hent := run_enterLoop_outer (P := P) (w := w) fn a.tmps ps assign body
  obtain ⟨W1, hW1⟩ : ∃ W1, W1 = (w.alloc (.deferred (some []))).alloc (.loop (rec .ready none)) := ⟨_, rfl⟩
  have hsz : W1.heap.size = D + 2 := by rw [hW1, hD]; simp
  have hbel : Below w.heap.size w W1 := by rw [hW1]; exact ((Below.refl _ w).alloc (Nat.le_refl _) _).alloc (by simp) _
  have hL : W1.heap[D + 1]? = some (.loop (rec .ready none)) := by
    have := World.alloc_heap_new (w.alloc (.deferred (some []))) (.loop (rec .ready none))
    rw [World.size_alloc] at this
    rw [hW1, hD]; exact this
  have hDf : W1.heap[D]? = some (.deferred (some [])) := by
    rw [hW1, hD]
    exact (Below.heap_alloc _ _ _ (by simp)).trans (World.alloc_heap_new w _)
  refine ⟨D + 1, [{ target := .collected D, args := #[] }], W1, { target := .fn (.func gf) lb, args := #[.func (.yield (D + 1)) #[] #[]] }, W1, gf, #[.func (.yield (D + 1)) #[] #[]] ++ lb, W1, ?_, ?_, ?_, ?_, ?_, ?_⟩
  · rw [hent, hW1, hD, hrec]
  · simp only [resolve, hg]
    simp [go_sem]
  · intro f' _; trivial
  · simp [invoke, go_sem, eg]
  · intro h; cases h
  refine (hiter (D + 1)
    (fun xs W => I xs W ∧ W.heap[D + 1]? = some (.loop (rec .ready none)) ∧ W.heap[D]? = some (.deferred (some [])))
    (fun xs W => ∃ c, Ix c xs W ∧ W.heap[D + 1]? = some (.loop (rec .done (some c))) ∧ W.heap[D]? = some (.deferred (some [])))
    W1 (fun k hk => hbel.block k (hkeep k hk)) (by rw [hsz, hD]; omega) ?_ ⟨ownE_below hI h0 hbel, hL, hDf⟩).mono ?_
  · -- a round
    rintro pre x W0 W ⟨hi0, hl0, hd0⟩ hb hx
    have hlt0 : D + 1 < W0.heap.size := (Array.getElem?_eq_some_iff.1 hl0).1
    have hl : W.heap[D + 1]? = some (.loop (rec .ready none)) := (hb.block _ hlt0).trans hl0
    have hd : W.heap[D]? = some (.deferred (some [])) := (hb.block _ (by omega)).trans hd0
    have hi := ownE_below hI hi0 hb
    have hlt : D + 1 < W.heap.size := Nat.lt_of_lt_of_le hlt0 hb.size
    have hy := run_yield (P := P) (args := encs x) hl (by rw [hrec]; exact hps x)
    rw [hrec] at hy
    refine ⟨fn, _, assign, body, hy, roundIn_of_wpIn trivial (hassign _ pre x W _ hx hi (by omega) fun a' Wa hba hga => ?_)⟩
    have hla : Wa.heap[D + 1]? = some (.loop (rec .ready none)) := (hba.block _ hlt).trans hl
    have hda : Wa.heap[D]? = some (.deferred (some [])) := (hba.block _ (by omega)).trans hd
    refine ⟨_, run_beginRound hla (by rw [hrec]), ?_⟩
    clear hy
    have hlta : D + 1 < Wa.heap.size := Nat.lt_of_lt_of_le hlt hba.size
    obtain ⟨Wb, hWb⟩ : ∃ Wb, Wb = Wa.putObj (D + 1) (.loop { rec .ready none with state := .busy }) := ⟨_, rfl⟩
    have hlb : Wb.heap[D + 1]? = some (.loop { rec .ready none with state := .busy }) := by rw [hWb]; exact World.putObj_heap_same hlta
    have hdb : Wb.heap[D]? = some (.deferred (some [])) := by rw [hWb]; exact (World.putObj_heap_other (by omega)).trans hda
    have hkb : ∀ k, keep k → Wb.heap[k]? = W.heap[k]? := fun k hk => by
      have := hkeep k hk
      rw [hWb, World.putObj_heap_other (by omega)]
      exact hba.block k (by omega)
    have hszb : Wb.heap.size = Wa.heap.size := by rw [hWb]; simp
    have hia := ownE_below hI hi hba
    have hib : I pre Wb := by rw [hWb]; exact hI.putObj _ hia (by omega) hla rfl
    have hgb : G x a' Wb := by rw [hWb]; exact (hG x a').putObj (s := ()) _ hga (by omega) hla rfl
    rw [← hWb]
    have hsza := hba.size
    refine wpIn_mono (hbody _ pre x a' Wb hx hib (by omega) hgb) ?_
    have fin : ∀ (jump : Option Code) (W3 : World), KeepsFrom w.heap.size Wb W3 → ∃ W4, (Instr.endRound (D + 1) jump).run P W3 = .ok (.bool jump.isNone) W4 ∧ W4 = W3.putObj (D + 1) (.loop (rec (if jump.isNone then .ready else .done) jump)) ∧
        W3.heap[D + 1]? = some (.loop { rec .ready none with state := .busy }) ∧ W4.heap[D + 1]? = some (.loop (rec (if jump.isNone then .ready else .done) jump)) ∧ W4.heap[D]? = some (.deferred (some [])) := fun jump W3 hk3 => by
      have hl3 := hk3.same _ _ (by omega) hlb rfl
      have hd3 := hk3.same _ _ (by omega) hdb rfl
      have hr := run_endRound (P := P) jump hl3
      refine ⟨_, ?_, rfl, hl3, World.putObj_heap_same (Array.getElem?_eq_some_iff.1 hl3).1, (World.putObj_heap_other (by omega)).trans hd3⟩
      rw [hr, hrec]
    rintro e a3 W3 hp
    cases e with
    | normal =>
      obtain ⟨hk3, hkp3, hi3⟩ := hp
      obtain ⟨W4, hr, h4, hl3, hl4, hd4⟩ := fin none W3 hk3
      refine ⟨_, W4, hr, .inl ⟨rfl, ⟨?_, hl4, hd4⟩, ?_, ?_⟩⟩
      · rw [h4]; exact hI.putObj _ hi3 (by omega) hl3 rfl
      · rw [h4]; simp only [World.putObj_size]; have := hk3.size; omega
      · intro k hk
        have := hkeep k hk
        rw [h4, World.putObj_heap_other (by omega), hkp3 k hk, hkb k hk]
    | ret =>
      obtain ⟨hk3, hi3⟩ := hp
      obtain ⟨W4, hr, h4, hl3, hl4, hd4⟩ := fin (some .ret) W3 hk3
      exact ⟨_, W4, hr, .inr ⟨rfl, .ret, by rw [h4]; exact (hIx _).putObj _ hi3 (by omega) hl3 rfl, hl4, hd4⟩⟩
    | exit id =>
      obtain ⟨hk3, hi3⟩ := hp
      obtain ⟨W4, hr, h4, hl3, hl4, hd4⟩ := fin (some (.exit id)) W3 hk3
      exact ⟨_, W4, hr, .inr ⟨rfl, .exit id, by rw [h4]; exact (hIx _).putObj _ hi3 (by omega) hl3 rfl, hl4, hd4⟩⟩
    | goto t =>
      obtain ⟨hk3, hi3⟩ := hp
      obtain ⟨W4, hr, h4, hl3, hl4, hd4⟩ := fin (some (.goto t)) W3 hk3
      exact ⟨_, W4, hr, .inr ⟨rfl, .goto t, by rw [h4]; exact (hIx _).putObj _ hi3 (by omega) hl3 rfl, hl4, hd4⟩⟩
    | panic ch => exact hp.elim
    | outgrown => exact hp.elim
  · -- behind the loop
    rintro e W2 ⟨⟨v, rfl⟩, (⟨xs, W0, hS, ⟨hi0, hl0, hd0⟩, hb⟩ | ⟨xs, W0, ⟨c, hi0, hl0, hd0⟩, hb⟩)⟩
    · have hlt0 : D + 1 < W0.heap.size := (Array.getElem?_eq_some_iff.1 hl0).1
      have hl := (hb.block _ hlt0).trans hl0
      have hd := (hb.block _ (show D < W0.heap.size by omega)).trans hd0
      have hr := run_endLoop (P := P) hl (by rw [hrec]; simp)
      refine ⟨none, W2.putObj (D + 1) (.loop (rec .exhausted none)), ?_, hdone D xs _ (by omega) hS (hI.putObj _ (ownE_below hI hi0 hb) (by omega) hl rfl) ((World.putObj_heap_other (by omega)).trans hd)⟩
      rw [hr, hrec]
    · have hlt0 : D + 1 < W0.heap.size := (Array.getElem?_eq_some_iff.1 hl0).1
      have hl := (hb.block _ hlt0).trans hl0
      have hd := (hb.block _ (show D < W0.heap.size by omega)).trans hd0
      have hr := run_endLoop (P := P) hl (by rw [hrec]; simp)
      refine ⟨some c, W2.putObj (D + 1) (.loop (rec .exhausted (some c))), ?_, hstop D c xs _ (by omega) ((hIx c).putObj _ (ownE_below (hIx c) hi0 hb) (by omega) hl rfl) ((World.putObj_heap_other (by omega)).trans hd)⟩
      rw [hr, hrec]

def OfInv (w : World) (yv u : Value) (L : List Ent) (n : Nat) (keep : Nat → Prop) (J : List Ent → World → Prop) (k9 : Nat) (a : Act) (x : World) : Prop :=
  ∃ (i : Nat) (W0 : World), Hid (a.tmps.size = 17) ∧ Hid (a.defers = []) ∧ a.tmps[0]?.getD undef = yv ∧ a.tmps[5]?.getD undef = u ∧ a.tmps[6]?.getD undef = .int .i64 ((n : Nat) : Int) ∧ a.tmps[7]?.getD undef = .int .i64 ((i : Nat) : Int) ∧ Hid (i ≤ n) ∧ Hid (J (L.take i) W0) ∧ Hid (Below W0.heap.size W0 x) ∧ Hid (∀ k, keep k → x.heap[k]? = w.heap[k]?) ∧ Hid (w.heap.size ≤ x.heap.size) ∧ k9 = n - i

set_option maxHeartbeats 8000000 in
theorem of_iter (m : Nat) (keep : Nat → Prop) (g base : Nat) (u : Value) (L : List Ent) (w : World) (hkl : ∀ k, keep k → k < w.heap.size) (hg : keep g) (hbox : Blk w g 22 #[u]) (hown : OwnE w base u L) (hku : ∀ k, u.ownBlock = some k → keep k)
    (hd : ∀ x ∈ L, x.data.length ≤ 1000) :
    IterE m Tryd.prog 55 #[.pointer (some ⟨g, 0, none⟩)] (fun x : Ent => #[.agg (entC x)]) keep (fun pre x => L[pre.length]? = some x) (fun xs => xs = L) w := by
  intro l J Jx W hk hsz hY h0
  rw [callsIn_wide]
  obtain ⟨A, cc, hu, hc1, hc2, _⟩ := ent_at hown.isL
  have hcellW : W.cell? ⟨g, 0, none⟩ = some u := by
    rw [World.cell?_of_block (w := w) (hk g hg), hbox.cell]; rfl
  have HrL := Lib.hid (show ∀ z : World, (∀ k, keep k → z.heap[k]? = w.heap[k]?) → OwnE z base u L from fun z hz => ⟨OwnK.keep hown.1 fun k h => hz k (hku k h), hown.2⟩)
  obtain ⟨n, hn⟩ : ∃ n, n = L.length := ⟨_, rfl⟩
  rw [← hn] at hu hc1
  have Hn := Lib.hid hn
  have HY := Lib.hid hY
  have HK := Lib.hid hk
  have Hd := Lib.hid hd
  have Hsz := Lib.hid hsz
  have H0 := Lib.hid h0
  have Hkl := Lib.hid hkl
  have hmx : maxLen ≤ 9223372036854775807 := by decide
  clear hY hk hd hsz h0 hkl hku hown hbox hn hg
  subst hu
  go_enter Tryd.func55, Tryd.ntmps55
  refine enter_abs (N := 17) rfl rfl fun a0 hsz0 hde0 hk => ?_
  have f0 : a0.tmps[0]?.getD undef = .func (.yield l) #[] #[] := hk 0
  have f1 : a0.tmps[1]?.getD undef = .pointer (some ⟨g, 0, none⟩) := hk 1
  clear hk
  repeat with_reducible refine wp_seq ?_
  refine wp_region_lit ?_
  refine wpList_next rfl hsz0 hde0 5 rfl (by decide) fun K hK => ?_
  go_simp
  refine hK _ _ fun a1 hsz1 hde1 f5 hk => ?_
  clear hK K
  replace f0 := (hk 0 (by decide)).trans f0
  replace f1 := (hk 1 (by decide)).trans f1
  replace f5 : a1.tmps[5]?.getD undef = .slice A n cc := f5
  clear hk hsz0 hde0
  refine wpList_next rfl hsz1 hde1 6 rfl (by decide) fun K hK => ?_
  go_simp
  refine hK _ _ fun a2 hsz2 hde2 f6 hk => ?_
  clear hK K
  replace f0 := (hk 0 (by decide)).trans f0
  replace f1 := (hk 1 (by decide)).trans f1
  replace f5 := (hk 5 (by decide)).trans f5
  replace f6 : a2.tmps[6]?.getD undef = .int .i64 ((n : Nat) : Int) := f6
  clear hk hsz1 hde1
  refine wpList_next rfl hsz2 hde2 7 rfl (by decide) fun K hK => ?_
  go_simp
  refine hK _ _ fun a3 hsz3 hde3 f7 hk => ?_
  clear hK K
  replace f0 := (hk 0 (by decide)).trans f0
  replace f1 := (hk 1 (by decide)).trans f1
  replace f5 := (hk 5 (by decide)).trans f5
  replace f6 := (hk 6 (by decide)).trans f6
  replace f7 : a3.tmps[7]?.getD undef = .int .i64 ((0 : Nat) : Int) := f7
  clear hk hsz2 hde2
  refine wpList_nil ?_
  refine then_go ?_
  repeat with_reducible refine wp_seq ?_
  clear f1
  clear hcellW
  refine wp_block ?_
  refine wp_loop_ghost (OfInv w (.func (.yield l) #[] #[]) (.slice A n cc) L n keep J) (n - 0) ?_ ?_
  · exact ⟨0, W, hsz3, hde3, f0, f5, f6, f7, Lib.hid (Nat.zero_le _), H0, Lib.hid (Below.refl _ _), HK, Hsz, rfl⟩
  clear hsz3 hde3 f0 f5 f6 f7
  intro n2 a19 wr hI
  obtain ⟨i, W0, hsz19, hde19, f0, f5, f6, f7, Hi, HJ, Hbw, Hkk, Hsw, hn2⟩ := hI
  have Hn2 := Lib.hid hn2
  clear hn2 H0 HK Hsz
  repeat with_reducible refine wp_seq ?_
  by_cases hlt : i < n
  · skip
    refine wp_region_lit ?_
    refine wpList_next rfl hsz19 hde19 8 rfl (by decide) fun K hK => ?_
    go_simp
    refine hK _ _ fun a20 hsz20 hde20 f8 hk => ?_
    clear hK K
    replace f0 := (hk 0 (by decide)).trans f0
    replace f5 := (hk 5 (by decide)).trans f5
    replace f6 := (hk 6 (by decide)).trans f6
    replace f7 := (hk 7 (by decide)).trans f7
    clear hk hsz19 hde19
    replace f8 : a20.tmps[8]?.getD undef = .bool true := f8.trans (by first | rfl | (congr 1; first | exact decide_eq_true (by omega) | exact decide_eq_false (by omega)) | (simp; omega))
    refine wpList_nil ?_
    refine then_go ?_
    repeat with_reducible refine wp_seq ?_
    refine wp_cond_true (eval_at f8) ?_
    refine wp_skip ?_
    refine then_go ?_
    clear f8
    repeat with_reducible refine wp_seq ?_
    refine wp_block ?_
    repeat with_reducible refine wp_seq ?_
    have hil : i < L.length := by rw [← Hn.out]; exact hlt
    obtain ⟨A2, c2, hu2, _, _, hE2⟩ := ent_at (HrL.out wr Hkk.out).isL
    obtain ⟨hA2, _, hc2'⟩ := (by simpa using hu2 : A = A2 ∧ n = L.length ∧ cc = c2)
    subst hA2
    obtain ⟨b, off, rfl, _, _, hel⟩ := hE2 (by intro e; subst e; simp at hil)
    obtain ⟨X, hX⟩ : ∃ X, X = L[i] := ⟨_, rfl⟩
    obtain ⟨CX, hCX⟩ : ∃ C, C = entC X := ⟨_, rfl⟩
    have HrX := Lib.hid (show wr.rangeAt b (off + i * 15) CX.toList by rw [hCX, hX]; exact (hel i hil).1)
    have HfX := Lib.hid (show (Tryd.prog.info? 29).map (·.size) = some CX.toList.length by rw [hCX]; exact ent_info)
    have Hinf := Lib.hid (show (Tryd.prog.info? 29).map (·.size) = some CX.size by rw [hCX]; exact ent_info)
    have Hone := Lib.hid (show CX.all (·.oneCell') = true by rw [hCX]; exact entC_one X)
    have hCs : CX.size = 15 := by rw [hCX]; rfl
    have hcp := fun z => ecopied_any X (Hd.out X (by rw [hX]; exact List.getElem_mem hil)) z
    rw [← hCX] at hcp
    have Hcp := Lib.hid hcp
    have HCX := Lib.hid hCX
    have Htk := Lib.hid (show L.take (i + 1) = L.take i ++ [X] by rw [List.take_succ_eq_append_getElem hil, hX])
    have Hat := Lib.hid (show L[(L.take i).length]? = some X by rw [List.length_take, Nat.min_eq_left (by omega), List.getElem?_eq_getElem hil, hX])
    have hi0 : (0 : Int) ≤ (i : Int) := by omega
    have hin : (i : Int) < (n : Int) := by omega
    clear hel hE2 hu2 hX hCX hcp
    refine wp_region_lit ?_
    refine wpList_next rfl hsz20 hde20 9 rfl (by decide) fun K hK => ?_
    go_simp
    refine hK _ _ fun a21 hsz21 hde21 f9 hk => ?_
    clear hK K
    replace f0 := (hk 0 (by decide)).trans f0
    replace f5 := (hk 5 (by decide)).trans f5
    replace f6 := (hk 6 (by decide)).trans f6
    replace f7 := (hk 7 (by decide)).trans f7
    replace f9 : a21.tmps[9]?.getD undef = .pointer (some ⟨b, off + i * 15, none⟩) := f9
    clear hk hsz20 hde20
    refine wpList_next rfl hsz21 hde21 10 rfl (by decide) fun K hK => ?_
    refine wp_load_mid 29 (.tmp 9) rfl b (off + i * 15) (eval_at f9) CX.toList _ HrX.out Tryd.underlying29 rfl HfX.out ?_
    refine hK _ _ fun a22 hsz22 hde22 f10 hk => ?_
    clear hK K
    replace f0 := (hk 0 (by decide)).trans f0
    replace f5 := (hk 5 (by decide)).trans f5
    replace f6 := (hk 6 (by decide)).trans f6
    replace f7 := (hk 7 (by decide)).trans f7
    replace f10 : a22.tmps[10]?.getD undef = .agg CX := f10
    clear hk hsz21 hde21 f9
    refine wpList_next rfl hsz22 hde22 4 rfl (by decide) fun K hK => ?_
    go_simp
    refine hK _ _ fun a23 hsz23 hde23 f4 hk => ?_
    clear hK K
    replace f0 := (hk 0 (by decide)).trans f0
    replace f5 := (hk 5 (by decide)).trans f5
    replace f6 := (hk 6 (by decide)).trans f6
    replace f7 := (hk 7 (by decide)).trans f7
    replace f10 := (hk 10 (by decide)).trans f10
    replace f4 : a23.tmps[4]?.getD undef = .pointer (some ⟨wr.heap.size, 0, none⟩) := f4
    clear hk hsz22 hde22
    refine wpList_next0 rfl rfl fun K hK => ?_
    refine wp_store_new 29 (.tmp 4) (.tmp 10) rfl zeroE CX (eval_at f4) (eval_at f10) Hinf.out (by rw [hCs]; rfl) Hone.out ?_
    refine hK undef _ ?_
    clear hK K
    clear f10
    refine wpList_nil ?_
    refine then_go ?_
    repeat with_reducible refine wp_seq ?_
    obtain ⟨wa, hwa⟩ : ∃ wa, wa = wr.alloc (.cells CX 29) := ⟨_, rfl⟩
    have hba : Below wr.heap.size wr wa := by rw [hwa]; exact (Below.refl _ _).alloc (Nat.le_refl _) _
    have hblk : Blk wa wr.heap.size 29 CX := by rw [hwa]; exact Blk.new _ _ _
    rw [← hwa]
    have Hba := Lib.hid hba
    have Hblk := Lib.hid hblk
    clear hwa hba hblk
    refine (wpIn_wide (n := m)).1 ?_
    refine wpIn_region_lit ?_
    refine listW_next rfl rfl hsz23 hde23 11 rfl (by decide) fun K hK => ?_
    go_simp
    refine hK _ _ fun a24 hsz24 hde24 f11 hk => ?_
    clear hK K
    replace f0 := (hk 0 (by decide)).trans f0
    replace f5 := (hk 5 (by decide)).trans f5
    replace f6 := (hk 6 (by decide)).trans f6
    replace f7 := (hk 7 (by decide)).trans f7
    replace f4 := (hk 4 (by decide)).trans f4
    replace f11 : a24.tmps[11]?.getD undef = .func (.yield l) #[] #[] := f11
    clear hk hsz23 hde23
    refine listW_next rfl rfl hsz24 hde24 12 rfl (by decide) fun K hK => ?_
    refine wp_load_row 29 (.tmp 4) rfl wr.heap.size (eval_at f4) 29 CX (0, 0) _ Hblk.out Tryd.underlying29 rfl Hinf.out ?_
    refine hK _ _ fun a25 hsz25 hde25 f12 hk => ?_
    clear hK K
    replace f0 := (hk 0 (by decide)).trans f0
    replace f5 := (hk 5 (by decide)).trans f5
    replace f6 := (hk 6 (by decide)).trans f6
    replace f7 := (hk 7 (by decide)).trans f7
    replace f4 := (hk 4 (by decide)).trans f4
    replace f11 := (hk 11 (by decide)).trans f11
    replace f12 : a25.tmps[12]?.getD undef = .agg CX := f12
    clear hk hsz24 hde24
    refine listW_next rfl rfl hsz25 hde25 13 rfl (by decide) fun K hK => ?_
    go_simp
    refine (Hcp.out _).mono ?_
    rintro e2 w2 ⟨rfl, hb2⟩
    go_simp
    refine hK _ _ fun a26 hsz26 hde26 f13 hk => ?_
    clear hK K
    replace f0 := (hk 0 (by decide)).trans f0
    replace f5 := (hk 5 (by decide)).trans f5
    replace f6 := (hk 6 (by decide)).trans f6
    replace f7 := (hk 7 (by decide)).trans f7
    replace f4 := (hk 4 (by decide)).trans f4
    replace f11 := (hk 11 (by decide)).trans f11
    replace f13 : a26.tmps[13]?.getD undef = .agg CX := f13
    clear hk hsz25 hde25 f12
    have Hb2 := Lib.hid (below_call Hba.out hb2)
    clear hb2
    obtain ⟨fn, tmps, assign, body, hy, hR⟩ := HY.out (L.take i) X W0 w2 HJ.out (Hbw.out.trans (Hb2.out.mono Hbw.out.size)) Hat.out
    dsimp only at hy
    rw [← HCX.out] at hy
    refine listW_yield rfl rfl hsz26 hde26 14 rfl (by decide) (fn := fn) (tmps := tmps) (assign := assign) (body := body) (l := l) ?_ hR ?_ ?_ ?_
    · go_simp
    rotate_left
    · intro c9 w9 hb9
      rcases hb9 with hb9 | hb9 <;> exact absurd hb9.1 (by simp)
    · intro w9 hb9
      rcases hb9 with hb9 | hb9 <;> exact absurd hb9.1 (by simp)
    rintro v3 w3 hend a14 hsz14 hde14 f14 hk
    replace f0 := (hk 0 (by decide)).trans f0
    replace f5 := (hk 5 (by decide)).trans f5
    replace f6 := (hk 6 (by decide)).trans f6
    replace f7 := (hk 7 (by decide)).trans f7
    replace f4 := (hk 4 (by decide)).trans f4
    replace f11 := (hk 11 (by decide)).trans f11
    replace f13 := (hk 13 (by decide)).trans f13
    clear hk hsz26 hde26 hy hR
    have hcase : (v3 = .bool true ∧ J (L.take i ++ [X]) w3 ∧ w2.heap.size ≤ w3.heap.size ∧ ∀ k, keep k → w3.heap[k]? = w2.heap[k]?) ∨ (v3 = .bool false ∧ Jx (L.take i ++ [X]) w3) := by
      rcases hend with ⟨h, h2⟩ | ⟨h, h2⟩
      · injection h with h; exact .inl ⟨h, h2⟩
      · injection h with h; exact .inr ⟨h, h2⟩
    clear hend
    rcases hcase with ⟨rfl, hJ3, hs3, hk3⟩ | ⟨rfl, hJx3⟩
    · skip
      refine listW_next rfl rfl hsz14 hde14 15 rfl (by decide) fun K hK => ?_
      go_simp
      refine hK _ _ fun a101 hsz101 hde101 f15 hk => ?_
      clear hK K
      replace f0 := (hk 0 (by decide)).trans f0
      replace f5 := (hk 5 (by decide)).trans f5
      replace f6 := (hk 6 (by decide)).trans f6
      replace f7 := (hk 7 (by decide)).trans f7
      replace f4 := (hk 4 (by decide)).trans f4
      replace f15 : a101.tmps[15]?.getD undef = .bool false := f15
      clear hk hsz14 hde14 f11 f13 f14
      clear f4
      refine wpListIn_nil ?_
      refine then_go ?_
      repeat with_reducible refine wp_seq ?_
      refine wp_cond_false (eval_at f15) ?_
      refine wp_skip ?_
      repeat first | with_reducible refine block_go ?_ | with_reducible refine then_go ?_
      clear f15
      repeat with_reducible refine wp_seq ?_
      have HJ3 := Lib.hid hJ3
      have Hk3 := Lib.hid (show ∀ k, keep k → w3.heap[k]? = w.heap[k]? from fun k hk => by rw [hk3 k hk, Hb2.out.block k (Nat.lt_of_lt_of_le (Hkl.out k hk) Hsw.out)]; exact Hkk.out k hk)
      have Hs3 := Lib.hid (show w.heap.size ≤ w3.heap.size by have := Hb2.out.size; have := Hsw.out; omega)
      clear hJ3 hs3 hk3
      refine wp_region_lit ?_
      refine wpList_next rfl hsz101 hde101 16 rfl (by decide) fun K hK => ?_
      go_simp
      refine hK _ _ fun a102 hsz102 hde102 f16 hk => ?_
      clear hK K
      replace f0 := (hk 0 (by decide)).trans f0
      replace f5 := (hk 5 (by decide)).trans f5
      replace f6 := (hk 6 (by decide)).trans f6
      replace f7 := (hk 7 (by decide)).trans f7
      clear hk hsz101 hde101
      replace f16 : a102.tmps[16]?.getD undef = .int .i64 (((i + 1 : Nat) : Int)) := f16.trans (by first | rfl | (congr 1; done) | (congr 1; omega) | (congr 1; rw [IntKind.wrap_i64] <;> omega))
      refine wpList_next rfl hsz102 hde102 7 rfl (by decide) fun K hK => ?_
      go_simp
      refine hK _ _ fun a103 hsz103 hde103 f7 hk => ?_
      clear hK K
      replace f0 := (hk 0 (by decide)).trans f0
      replace f5 := (hk 5 (by decide)).trans f5
      replace f6 := (hk 6 (by decide)).trans f6
      replace f7 : a103.tmps[7]?.getD undef = .int .i64 ((i + 1 : Nat) : Int) := f7
      clear hk hsz102 hde102 f16
      refine wpList_nil ?_
      refine then_go ?_
      exact ⟨n - (i + 1), by rw [Hn2.out]; omega, i + 1, w3, hsz103, hde103, f0, f5, f6, f7, Lib.hid (by omega), Lib.hid (by rw [Htk.out]; exact HJ3.out), Lib.hid (Below.refl _ _), Hk3, Hs3, rfl⟩
    · skip
      refine listW_next rfl rfl hsz14 hde14 15 rfl (by decide) fun K hK => ?_
      go_simp
      refine hK _ _ fun a101 hsz101 hde101 f15 hk => ?_
      clear hK K
      replace f0 := (hk 0 (by decide)).trans f0
      replace f5 := (hk 5 (by decide)).trans f5
      replace f6 := (hk 6 (by decide)).trans f6
      replace f7 := (hk 7 (by decide)).trans f7
      replace f4 := (hk 4 (by decide)).trans f4
      replace f15 : a101.tmps[15]?.getD undef = .bool true := f15
      clear hk hsz14 hde14 f11 f13 f14
      clear f4
      refine wpListIn_nil ?_
      refine then_go ?_
      repeat with_reducible refine wp_seq ?_
      refine wp_cond_true (eval_at f15) ?_
      refine wp_ret ?_
      repeat first | with_reducible refine then_ret ?_ | with_reducible refine block_ret ?_
      exact bodyPost_ret (results_none rfl _ _ _) hde101.out ⟨⟨_, rfl⟩, .inr ⟨_, w3, hJx3, Below.refl _ _⟩⟩
  refine wp_region_lit ?_
  refine wpList_next rfl hsz19 hde19 8 rfl (by decide) fun K hK => ?_
  go_simp
  refine hK _ _ fun a20 hsz20 hde20 f8 hk => ?_
  clear hK K
  replace f0 := (hk 0 (by decide)).trans f0
  replace f5 := (hk 5 (by decide)).trans f5
  replace f6 := (hk 6 (by decide)).trans f6
  replace f7 := (hk 7 (by decide)).trans f7
  clear hk hsz19 hde19
  replace f8 : a20.tmps[8]?.getD undef = .bool false := f8.trans (by first | rfl | (congr 1; first | exact decide_eq_true (by omega) | exact decide_eq_false (by omega)) | (simp; omega))
  refine wpList_nil ?_
  refine then_go ?_
  repeat with_reducible refine wp_seq ?_
  refine wp_cond_false (eval_at f8) ?_
  refine wp_exit ?_
  repeat with_reducible refine then_exit ?_
  refine block_exit ?_
  repeat first | with_reducible refine block_go ?_ | with_reducible refine then_go ?_
  have hin : i = n := by have := Hi.out; omega
  have hfin := HJ.out
  rw [hin, List.take_of_length_le (by rw [← Hn.out]; exact Nat.le_refl _)] at hfin
  exact bodyPost_end (results_none rfl _ _ _) hde20.out ⟨⟨_, rfl⟩, .inl ⟨L, W0, rfl, hfin, Hbw.out⟩⟩
end Go.Proofs.YtcpjgohclncbkaaDoor
