/-
  A region that draws its order, of whose operations two turn the world, one behind the other, and which writes slots that it reads (out of XKCuts).
  What entry.Join takes: the rest of a list of entries, by a slice cut at its front; both lists in one, step by step.
  entry.Join.
  The document's Put.
  The document's Has, Add, Kill and Join of entries.
  The document's Kill of entries.
-/
import Derived.Test.YtcpjgohclncbkaaDoorEnMaths
import Derived.Test.YtcpjgohclncbkaaDoorEnThose
import Derived.Test.YtcpjgohclncbkaaDoorEnCopies
import Derived.Test.YtcpjgohclncbkaaDoorVeFixed
import Derived.Test.YtcpjgohclncbkaaDoorVeGood
import Derived.Test.YtcpjgohclncbkaaDoorWalk
import Derived.Test.YtcpjgohclncbkaaDoorVecAll
import Derived.Test.YtcpjgohclncbkaaDoorEnSort
import Derived.Deep.LoopGhost
namespace Go.Proofs.YtcpjgohclncbkaaDoor
open Go.RowKit
set_option maxRecDepth 100000

inductive Ch2 (b a : Nat) (W0 W1 W2 : World) (d : Nat → Bool) (x : World) : Prop
  | s0 (h : x = W0) (h1 : d b = false) (h2 : d a = false) : Ch2 b a W0 W1 W2 d x
  | s1 (h : x = W1) (h1 : d b = true) (h2 : d a = false) : Ch2 b a W0 W1 W2 d x
  | s2 (h : x = W2) (h1 : d b = true) (h2 : d a = true) : Ch2 b a W0 W1 W2 d x
section
variable {b a : Nat} {W0 W1 W2 : World} {d : Nat → Bool} {x : World}
theorem Ch2.start : Ch2 b a W0 W1 W2 (fun _ => false) W0 := .s0 rfl rfl rfl
theorem also_far {d : Nat → Bool} {i j : Nat} (h : i ≠ j) : also d i j = d j := if_neg (fun e => h e.symm)
theorem also_self {d : Nat → Bool} {i : Nat} : also d i i = true := if_pos rfl
theorem Ch2.more (h : Ch2 b a W0 W1 W2 d x) {i : Nat} (h1 : i ≠ b) (h2 : i ≠ a) : Ch2 b a W0 W1 W2 (also d i) x := by
  rcases h with ⟨e, hb, ha⟩ | ⟨e, hb, ha⟩ | ⟨e, hb, ha⟩
  · exact .s0 e (by rw [also_far h1]; exact hb) (by rw [also_far h2]; exact ha)
  · exact .s1 e (by rw [also_far h1]; exact hb) (by rw [also_far h2]; exact ha)
  · exact .s2 e (by rw [also_far h1]; exact hb) (by rw [also_far h2]; exact ha)
theorem Ch2.all (h : Ch2 b a W0 W1 W2 d x) {p : World → Prop} (p0 : p W0) (p1 : p W1) (p2 : p W2) : p x := by
  rcases h with ⟨e, _⟩ | ⟨e, _⟩ | ⟨e, _⟩
  · rw [e]; exact p0
  · rw [e]; exact p1
  · rw [e]; exact p2
theorem Ch2.first (h : Ch2 b a W0 W1 W2 d x) (hb : d b = false) (hne : b ≠ a) : x = W0 ∧ Ch2 b a W0 W1 W2 (also d b) W1 := by
  rcases h with ⟨e, _, ha⟩ | ⟨_, h, _⟩ | ⟨_, h, _⟩
  · exact ⟨e, .s1 rfl also_self (by rw [also_far hne]; exact ha)⟩
  · rw [h] at hb; cases hb
  · rw [h] at hb; cases hb
theorem Ch2.second (h : Ch2 b a W0 W1 W2 d x) (hb : d b = true) (ha : d a = false) (hne : a ≠ b) : x = W1 ∧ Ch2 b a W0 W1 W2 (also d a) W2 := by
  rcases h with ⟨_, h, _⟩ | ⟨e, _, _⟩ | ⟨_, _, h⟩
  · rw [h] at hb; cases hb
  · exact ⟨e, .s2 rfl (by rw [also_far hne]; exact hb) also_self⟩
  · rw [h] at ha; cases ha
theorem Ch2.done (h : Ch2 b a W0 W1 W2 d x) (ha : d a = true) : x = W2 := by
  rcases h with ⟨_, _, h⟩ | ⟨_, _, h⟩ | ⟨e, _, _⟩
  · rw [h] at ha; cases ha
  · rw [h] at ha; cases ha
  · exact e
end

/-- Only operation w of the region writes slot s. -/
theorem slot_only {l : Array Oper} {s w : Nat} (h : ((List.range l.size).all fun j => decide (slotO l j ≠ some s) || decide (j = w)) = true) : ∀ j, slotO l j = some s → j = w := by
  intro j e
  have hjl : j < l.size := by
    unfold slotO at e
    cases hq : l[j]? with
    | none => rw [hq] at e; cases e
    | some o' => exact (Array.getElem?_eq_some_iff.1 hq).1
  have := List.all_eq_true.1 h j (List.mem_range.2 hjl)
  rw [Bool.or_eq_true, decide_eq_true_iff, decide_eq_true_iff] at this
  exact this.resolve_left (fun h => h e)
/-- wp_region_fix, where an operation may read a slot that a later one of the region writes. -/
theorem wp_region_fix2 {P : Program} {id : Nat} {Q : Exit → Act → World → Prop} {a0 : Act} {w0 : World} {l : Array Oper} (V : Nat → Value) (J : (Nat → Bool) → World → Prop) (N : Nat) (hm : P.follows .mixedOrders = true) (ho : inOrder l = true) (hg : fixRegion l N = true)
    (hs : a0.tmps.size = N) (h0 : J (fun _ => false) w0.drew)
    (hstep : ∀ (i : Nat) (o : Oper), l[i]? = some o → ∀ (d : Nat → Bool) (a : Act) (x : World), J d x → d i = false → (∀ e ∈ o.after, Region.binds .any e = true → d e.on = true) → (∀ j o', l[j]? = some o' → d j = true → ∀ e ∈ o'.after, Region.binds .any e = true → d e.on = true) →
      (∀ s, (∀ j, slotO l j = some s → d j = false) → a.tmps[s]?.getD undef = a0.tmps[s]?.getD undef) →
      (∀ j s, d j = true → slotO l j = some s → a.tmps[s]?.getD undef = V s) → ∀ K : Act → World → Prop, (∀ v x', (∀ s, o.dst = some s → v = V s) → J (also d i) x' → K (a.put o.dst v) x') → o.wp P a x K Q)
    (hend : ∀ (d : Nat → Bool) (a : Act) (x : World), (∀ j, j < l.size → d j = true) → J d x → (∀ s, (∀ j, slotO l j ≠ some s) → a.tmps[s]?.getD undef = a0.tmps[s]?.getD undef) → (∀ j s, j < l.size → slotO l j = some s → a.tmps[s]?.getD undef = V s) → a.tmps.size = N → a.defers = a0.defers → Q .normal a x) :
    (Code.region id l true).wp P Q a0 w0 := by
  refine wp_region_inv (fun d a x => J d x ∧ (∀ s, (∀ j, slotO l j = some s → d j = false) → a.tmps[s]?.getD undef = a0.tmps[s]?.getD undef) ∧ (∀ j s, d j = true → slotO l j = some s → a.tmps[s]?.getD undef = V s) ∧ a.tmps.size = N ∧ a.defers = a0.defers ∧ (∀ j o', l[j]? = some o' → d j = true → ∀ e ∈ o'.after, Region.binds .any e = true → d e.on = true)) hm ho ?_ ?_ ?_
  · exact ⟨h0, fun _ _ => rfl, (fun j s h => by cases h), hs, rfl, fun j o' _ h => by cases h⟩
  · intro i o hi d a x hd hpre ⟨hJ, hsame, hV, hsz, hde, hcl⟩ K hK
    obtain ⟨g1, g2, g3, g4⟩ := fix_at hg hi
    refine step_plain g1 (hstep i o hi d a x hJ hd hpre hcl hsame hV K fun v x' hv hJ' => hK _ _ ⟨hJ', ?_, ?_, ?_, ?_, ?_⟩)
    · intro s hs'
      have hsd : ∀ j, slotO l j = some s → d j = false := fun j hj => by
        have h := hs' j hj
        unfold also at h
        split at h
        · cases h
        · exact h
      cases hq : o.dst with
      | none => exact hsame s hsd
      | some t =>
        have ht : s ≠ t := fun e => by
          have h := hs' i (by rw [g3, hq, e])
          rw [also_self] at h
          cases h
        exact (at_put (a := a) (v := v) ht).trans (hsame s hsd)
    · intro j s hj hjs
      by_cases e : j = i
      · subst e
        rw [g3] at hjs
        have e2 := at_put_self (a := a) (v := v) (s := s) (by rw [hsz]; exact g2 s hjs)
        unfold Act.at_ at e2
        rw [hjs, e2]
        exact hv s hjs
      · have hdj : d j = true := by unfold also at hj; rwa [if_neg e] at hj
        have hne := g4 j s e hjs
        cases hq : o.dst with
        | none => exact hV j s hdj hjs
        | some t =>
          have ht : s ≠ t := fun e => hne (by rw [hq, e])
          exact (at_put (a := a) (v := v) ht).trans (hV j s hdj hjs)
    · cases hq : o.dst with
      | none => exact hsz
      | some t =>
        show (a.tmps.setIfInBounds _ _).size = N
        rw [Array.size_setIfInBounds]
        exact hsz
    · cases hq : o.dst with
      | none => exact hde
      | some t => exact hde
    · intro j o' hj hdj e he hb
      have up : ∀ k, d k = true → also d i k = true := fun k h => by unfold also; split; rfl; exact h
      by_cases eji : j = i
      · subst eji
        rw [hi] at hj
        cases hj
        exact up _ (hpre e he hb)
      · have hdj' : d j = true := by unfold also at hdj; rwa [if_neg eji] at hdj
        exact up _ (hcl j o' hj hdj' e he hb)
  · intro d a x hall ⟨hJ, hsame, hV, hsz, hde, _⟩
    exact hend d a x hall hJ (fun s h => hsame s fun j hj => absurd hj (h j)) (fun j s hj hs => hV j s (hall j hj) hs) hsz hde

/-- The rest of a list behind its first entry, by the slice cut at its front. -/
theorem IsL.tailE {w : World} {ok : Nat → Prop} {v : Value} {x : Ent} {L : List Ent} (h : IsL kEnt w ok v (x :: L)) :
    ∃ b off c v', v = .slice (some ⟨b, off, none⟩) (L.length + 1) c ∧ L.length + 1 ≤ c ∧ c ≤ maxLen ∧ b < w.heap.size ∧ w.rangeAt b off (entC x).toList ∧ EntOk x ∧ IsL kEnt w ok v' L ∧
      (∀ W : World, (Instr.sliceAt 22 v (some (.int .i64 1)) none none).run Tryd.prog W = .ok v' W) := by
  obtain ⟨A, c, ds, rfl, h1, h2, h3, h4⟩ := h
  obtain ⟨hds, hok⟩ := ent_cells h4
  rw [List.flatMap_cons] at hds
  have hne : ds ≠ [] := by rw [hds]; intro e; have := congrArg List.length e; rw [List.length_append] at this; have h15 : (entC x).toList.length = 15 := rfl; rw [h15] at this; simp at this
  obtain ⟨b, off, rfl, ho, hlt, hc⟩ := h3.at' hne
  have hl : (entC x).toList.length = 15 := rfl
  rw [List.length_cons] at h1
  refine ⟨b, off, c, .slice (if c = 1 then some ⟨b, off, none⟩ else some ⟨b, off + 15, none⟩) L.length (c - 1), rfl, h1, h2, hlt, ?_, hok x (by simp), ?_, ?_⟩
  · intro j u hu
    have hj : j < (entC x).toList.length := (List.getElem?_eq_some_iff.1 hu).1
    have hj2 : j < ds.length := by rw [hds, List.length_append]; omega
    rw [hc j hj2]
    have : ds[j]? = some u := by rw [hds, List.getElem?_append_left hj]; exact hu
    rw [List.getElem?_eq_getElem hj2] at this
    exact this
  · refine ⟨_, c - 1, entsC L, rfl, by omega, by omega, ?_, ent_many _ _ _ fun y hy => hok y (by simp [hy])⟩
    intro hn
    have hL : L ≠ [] := by rintro rfl; exact hn rfl
    have hLl : 0 < L.length := List.length_pos_iff.2 hL
    refine ⟨⟨b, off + 15, none⟩, by rw [if_neg (by omega)], ho, fun j u hu => ?_⟩
    have hj : j < (entsC L).length := (List.getElem?_eq_some_iff.1 hu).1
    have hj2 : 15 + j < ds.length := by rw [hds, List.length_append, hl]; unfold entsC at hj; omega
    have e : ds[15 + j]? = some u := by rw [hds, List.getElem?_append_right (by omega), hl, show 15 + j - 15 = j by omega]; exact hu
    rw [List.getElem?_eq_getElem hj2] at e
    have h9 := hc (15 + j) hj2
    rw [e] at h9
    rw [← h9]
    unfold Addr.add
    split
    · rename_i e0; subst e0; rfl
    · show _ = World.cell? w ⟨b, off + (15 + j), none⟩
      rw [← Nat.add_assoc]
  · intro W
    show (Instr.sliceAt 22 (.slice (some ⟨b, off, none⟩) (L.length + 1) c) (some (.int .i64 1)) none none).run Tryd.prog W = _
    have hle : (1 : Int) ≤ ((L.length + 1 : Nat) : Int) := by omega
    rw [run_sliceAt_slice (h := Tryd.underlying22), run_slice_l (ht := Tryd.underlying22) (h0 := by omega) (h1 := hle)]
    have hs : (sizeOf (Tryd.prog.elem 22)).run Tryd.prog W = .ok 15 W := by kernel_rfl
    rw [hs]
    show Result.ok (sliced (some ⟨b, off, none⟩) 1 (L.length + 1) c 15) W = _
    unfold sliced
    by_cases e : c = 1
    · rw [if_pos e, if_pos e]; rfl
    · rw [if_neg e, if_neg e]; rfl
/-- A slice cut at its front, as an operation of a walk. -/
theorem wp_tail {P : Program} {Q : Exit → Act → World → Prop} {o : Oper} {a : Act} {w : World} {K : Act → World → Prop} {t : TypeId} {v v' : Value} (x : Operand)
    (ho : o.op = .slice t x (some (.const (.int .i64 1))) none none) (hx : a.eval x = v) (hrun : ∀ W : World, (Instr.sliceAt t v (some (.int .i64 1)) none none).run P W = .ok v' W) (hk : K (a.put o.dst v') w) : o.wp P a w K Q := by
  unfold Oper.wp execOp
  simp only [ho, Option.map, Act.eval, Sem.run_bind, Sem.run_pure] at hx ⊢
  rw [hx, hrun]
  exact hk

theorem join_less {x y : Ent} {L M : List Ent} (h : lessV x.rep x.seq y.rep y.seq = true) : joinE (x :: L) (y :: M) = x :: joinE L (y :: M) := by rw [joinE, if_pos h]
theorem join_more {x y : Ent} {L M : List Ent} (h : lessV x.rep x.seq y.rep y.seq = false) (h' : lessV y.rep y.seq x.rep x.seq = true) : joinE (x :: L) (y :: M) = y :: joinE (x :: L) M := by rw [joinE, if_neg (by rw [h]; simp), if_pos h']
theorem join_same {x y : Ent} {L M : List Ent} (h : lessV x.rep x.seq y.rep y.seq = false) (h' : lessV y.rep y.seq x.rep x.seq = false) : joinE (x :: L) (y :: M) = meltE x y :: joinE L M := by rw [joinE, if_neg (by rw [h]; simp), if_neg (by rw [h']; simp)]
theorem join_end {L M : List Ent} (h : L = [] ∨ M = []) : joinE L M = L ++ M := by
  rcases h with rfl | rfl
  · rw [joinE]; rfl
  · cases L with
    | nil => rw [joinE]; rfl
    | cons x L => rw [joinE, List.append_nil]
/-- More entries behind those that the call owns. -/
theorem OwnE.apps {w : World} {base : Nat} {v : Value} {M N : List Ent} (h : OwnK w base 29 15 v (M.length + N.length) (entsC M ++ entsC N)) (hM : ∀ y ∈ M, EntOk y) (hN : ∀ y ∈ N, EntOk y) : OwnE w base v (M ++ N) := by
  refine ⟨?_, fun y hy => ?_⟩
  · rw [entsC_append, List.length_append]
    exact h
  · rcases List.mem_append.1 hy with hy | hy
    · exact hM y hy
    · exact hN y hy

theorem IsL.rdE {w : World} {ok : Nat → Prop} {A : Option Addr} {n c : Nat} {L : List Ent} (h : IsL kEnt w ok (.slice A n c) L) : Rd w ok A (entsC L) ∧ n = L.length ∧ n ≤ maxLen ∧ ∀ y ∈ L, EntOk y := by
  obtain ⟨A', c', ds, e, h1, h2, h3, h4⟩ := h
  obtain ⟨hds, hok⟩ := ent_cells h4
  injection e with e1 e2 e3
  subst e1 e2 e3
  refine ⟨?_, rfl, by omega, hok⟩
  rw [show entsC L = ds from hds.symm]
  exact h3
theorem melt_ok {x y : Ent} (hx : EntOk x) (hy : EntOk y) : EntOk (meltE x y) := ⟨hx.rep, hx.seq, hx.drep, hx.dseq, hx.data, hx.orep, hx.oseq, okV_join hx.by_ hy.by_⟩
/-- An empty list with room, made anew. -/
theorem make_ents (n : Nat) (hn : n ≤ 1000) (W : World) : ∃ W', (Instr.makeSlice 22 (.int .i64 0) (.int .i64 (n : Int))).run Tryd.prog W = .ok (.slice (some ⟨W.heap.size, 0, none⟩) 0 n) W' ∧ OwnE W' W.heap.size (.slice (some ⟨W.heap.size, 0, none⟩) 0 n) [] ∧ Below W.heap.size W W' := by
  obtain ⟨ht, h0, i, z, hi, hz, hz1, hz2, hz3⟩ := elemE
  obtain ⟨W', h1, h2, h3⟩ := run_make_own (P := Tryd.prog) W W.heap.size _ _ i z 15 ht hi hz hz1 .i64 .i64 n (by rw [hz2]; omega) (by unfold maxLen; omega) (Nat.le_refl _)
  exact ⟨W', h1, ⟨h2, fun x hx => by simp at hx⟩, below_of_grown h3 (Nat.le_refl _) (fun g hg => by cases hg)⟩
/-- append of one entry out of a slice literal, in a region that draws its order: both steps of the world. -/
theorem app_run (base : Nat) (W : World) (u : Value) (M : List Ent) (X : Ent) (hX : EntOk X) (hown : OwnE W base u M) (hl : M.length ≤ 1000) (hbase : base ≤ W.heap.size) (C : Array Value) (hC : C = entC X) :
    ∃ u2 W2, (Builtin.append_ #[22, 22] 22 #[u, .slice (some ⟨W.heap.size, 0, none⟩) 1 1]).run Tryd.prog (W.drew.alloc (.cells C 29)) = .ok u2 W2 ∧ OwnE W2 base u2 (M ++ [X]) ∧ (W.drew.alloc (.cells C 29)).grownBy W2 u.ownBlock ∧ (∀ B, B ≤ base → Below B (W.drew.alloc (.cells C 29)) W2) := by
  subst hC
  have hs : W.drew.heap.size = W.heap.size := rfl
  have hsz : (W.drew.alloc (.cells (entC X) 29)).heap.size = W.heap.size + 1 := by rw [World.size_alloc, hs]
  have hown1 : OwnK (W.drew.alloc (.cells (entC X) 29)) base 29 15 u M.length (entsC M) := OwnK.alloc (OwnK.drew hown.1) _
  obtain ⟨v2, W2, hrun, hown2, hg2, _⟩ := run_appK (P := Tryd.prog) (W.drew.alloc (.cells (entC X) 29)) (t := 22) (ty := 22) elemE hown1 (ok := fun _ => True) (A := some ⟨W.heap.size, 0, none⟩) (m := 1) (c := 1) (news := (entC X).toList) rfl ((Blk.new W.drew 29 (entC X)).rd _ trivial) (entC_each X) (by omega) (by omega) (by omega)
  exact ⟨v2, W2, hrun, OwnE.app hown2 hown.2 hX, hg2, fun B hB => hown1.below_of hg2 (by omega) hB⟩
theorem below_call_of {w x w7 : World} {u : Value} {M : List Ent} (h : Below w.heap.size w x) (ho : OwnE x w.heap.size u M) (hg : x.grownBy w7 u.ownBlock) : Below w.heap.size w w7 := h.trans (ho.1.below_of hg h.size (Nat.le_refl _))
/-- What stands in the region that joins what a copy was deleted by: operation 1 reads it, operation 8 stores it. -/
structure MeltJ (w : World) (u : Value) (acc : List Ent) (p : Nat) (C0 C1 : Array Value) (d : Nat → Bool) (x : World) : Prop where
  before : d 8 = false → Blk x p 29 C0
  after : d 8 = true → Blk x p 29 C1
  ord : d 8 = true → d 1 = true
  own : OwnE x w.heap.size u acc
  below : Below w.heap.size w x
section
variable {w : World} {u : Value} {acc : List Ent} {p : Nat} {C0 C1 : Array Value} {d : Nat → Bool} {x : World}
theorem MeltJ.drew (h : MeltJ w u acc p C0 C1 d x) : MeltJ w u acc p C0 C1 d x.drew := ⟨fun e => (h.before e).drew, fun e => (h.after e).drew, h.ord, ⟨OwnK.drew h.own.1, h.own.2⟩, below_then_drew h.below⟩
theorem MeltJ.ord1 (h : MeltJ w u acc p C0 C1 d x) (h1 : d 1 = false) : d 8 = false := by
  cases e : d 8 with
  | false => rfl
  | true => have := h.ord e; rw [h1] at this; cases this
theorem MeltJ.more (h : MeltJ w u acc p C0 C1 d x) {i : Nat} (hi : i ≠ 8) (ho : d 8 = true → also d i 1 = true) : MeltJ w u acc p C0 C1 (also d i) x := by
  have e : also d i 8 = d 8 := also_ne (fun e => hi e.symm)
  exact ⟨fun h1 => h.before (by rw [← e]; exact h1), fun h1 => h.after (by rw [← e]; exact h1), fun h1 => ho (by rw [← e]; exact h1), h.own, h.below⟩
theorem MeltJ.call (h : MeltJ w u acc p C0 C1 d x) {w' : World} (hb : Below x.heap.size x w') : MeltJ w u acc p C0 C1 d w' := ⟨fun e => (h.before e).grow hb, fun e => (h.after e).grow hb, h.ord, h.own.grow hb, below_call h.below hb⟩
theorem MeltJ.stored (h : MeltJ w u acc p C0 C1 d x) (h1 : d 1 = true) {o : Nat} {vs : List Value} (hw : Blk (x.setCells p o vs) p 29 C1) (hp : w.heap.size ≤ p) (hne : ∀ g, u.ownBlock = some g → g ≠ p) : MeltJ w u acc p C0 C1 (also d 8) (x.setCells p o vs) :=
  ⟨fun e => (by rw [also_same] at e; cases e), fun _ => hw, fun _ => also_up h1, ⟨OwnK.keep h.own.1 fun g hg => heap_setCells p vs o x g (hne g hg), h.own.2⟩, below_setCells h.below hp h.below.size o vs⟩
end
end Go.Proofs.YtcpjgohclncbkaaDoor

namespace Go.Proofs.YtcpjgohclncbkaaDoor
open Go.RowKit
set_option maxRecDepth 100000

/-- What stands between two rounds. -/
def JoinInv (w : World) (ok1 ok2 : Nat → Prop) (R : List Ent) (n : Nat) (a : Act) (x : World) : Prop :=
  ∃ P Q v0 v1 u acc, Hid (a.tmps.size = 83) ∧ Hid (a.defers = []) ∧ a.tmps[0]?.getD undef = v0 ∧ a.tmps[1]?.getD undef = v1 ∧ a.tmps[5]?.getD undef = u ∧ Hid (IsL kEnt w ok1 v0 P) ∧ Hid (IsL kEnt w ok2 v1 Q) ∧ Hid (OwnE x w.heap.size u acc) ∧ Hid (Below w.heap.size w x) ∧ Hid (acc ++ joinE P Q = R) ∧ Hid (acc.length + P.length + Q.length ≤ 1000) ∧ n = P.length + Q.length

set_option maxHeartbeats 8000000 in
theorem ejoin_any (ok1 ok2 : Nat → Prop) (v1 v2 : Value) (L M : List Ent) (w : World) (hL : IsL kEnt w ok1 v1 L) (hM : IsL kEnt w ok2 v2 M) (hl : L.length + M.length ≤ 1000) (hdL : ∀ x ∈ L, x.data.length ≤ 1000) (hdM : ∀ x ∈ M, x.data.length ≤ 1000) :
    Calls Tryd.prog 17 #[v1, v2] w fun e w' => (∃ u, e = .returned u ∧ OwnE w' w.heap.size u (joinE L M)) ∧ Below w.heap.size w w' := by
  obtain ⟨R, hR⟩ : ∃ R, R = joinE L M := ⟨_, rfl⟩
  have HRd := Lib.hid (show ∀ x ∈ R, x.data.length ≤ 1000 by rw [hR]; exact join_all (p := fun x => x.data.length ≤ 1000) (fun x y hx _ => hx) L M hdL hdM)
  have HRl := Lib.hid (show R.length ≤ 1000 by rw [hR]; exact Nat.le_trans (join_length L M) hl)
  have HR := Lib.hid hR
  have HL := Lib.hid hL
  have HM := Lib.hid hM
  obtain ⟨A1, c1, rfl⟩ : ∃ A c, v1 = .slice A L.length c := let ⟨A, c, e, _⟩ := ent_at hL; ⟨A, c, e⟩
  obtain ⟨A2, c2, rfl⟩ : ∃ A c, v2 = .slice A M.length c := let ⟨A, c, e, _⟩ := ent_at hM; ⟨A, c, e⟩
  obtain ⟨w1, hmk, hown1, hb1⟩ := make_ents (L.length + M.length) hl w
  have Hown1 := Lib.hid hown1
  have Hb1 := Lib.hid hb1
  have Hl := Lib.hid hl
  have Hcp := Lib.hid fun (u : Value) (z : World) (hu : OwnE z w.heap.size u R) => ecopies_any _ u R z hu.isL HRl.out HRd.out
  rw [← hR]
  obtain ⟨n1, hn1⟩ : ∃ n, n = L.length := ⟨_, rfl⟩
  obtain ⟨n2, hn2⟩ : ∃ n, n = M.length := ⟨_, rfl⟩
  have Hn1 := Lib.hid hn1
  have Hn2 := Lib.hid hn2
  obtain ⟨nn, hnn⟩ : ∃ n, n = L.length + M.length := ⟨_, rfl⟩
  have Hnn := Lib.hid hnn
  rw [← hnn] at hmk Hown1
  rw [← hn1, ← hn2] at hl
  rw [← hn1] at HL ⊢
  rw [← hn2] at HM ⊢
  clear hR hL hM hdL hdM hown1 hb1 hn1 hn2 hnn
  go_enter Tryd.func17, Tryd.ntmps17
  refine enter_abs (N := 83) rfl rfl fun a0 hsz0 hde0 hk => ?_
  have f0 : a0.tmps[0]?.getD undef = .slice A1 n1 c1 := hk 0
  have f1 : a0.tmps[1]?.getD undef = .slice A2 n2 c2 := hk 1
  clear hk
  repeat with_reducible refine wp_seq ?_
  refine wp_region_lit ?_
  refine wpList_next rfl hsz0 hde0 4 rfl (by decide) fun K hK => ?_
  go_simp
  refine hK _ _ fun a1 hsz1 hde1 f4 hk => ?_
  clear hK K
  replace f0 := (hk 0 (by decide)).trans f0
  replace f1 := (hk 1 (by decide)).trans f1
  replace f4 : a1.tmps[4]?.getD undef = .slice none 0 0 := f4
  clear hk hsz0 hde0
  refine wpList_nil ?_
  clear f4
  refine then_go ?_
  repeat with_reducible refine wp_seq ?_
  refine wp_region_lit ?_
  refine wpList_next rfl hsz1 hde1 7 rfl (by decide) fun K hK => ?_
  go_simp
  refine hK _ _ fun a2 hsz2 hde2 f7 hk => ?_
  clear hK K
  replace f0 := (hk 0 (by decide)).trans f0
  replace f1 := (hk 1 (by decide)).trans f1
  replace f7 : a2.tmps[7]?.getD undef = .slice A1 n1 c1 := f7
  clear hk hsz1 hde1
  refine wpList_next rfl hsz2 hde2 8 rfl (by decide) fun K hK => ?_
  go_simp
  refine hK _ _ fun a3 hsz3 hde3 f8 hk => ?_
  clear hK K
  replace f0 := (hk 0 (by decide)).trans f0
  replace f1 := (hk 1 (by decide)).trans f1
  replace f8 : a3.tmps[8]?.getD undef = .int .i64 (n1 : Int) := f8
  clear hk hsz2 hde2 f7
  refine wpList_next rfl hsz3 hde3 9 rfl (by decide) fun K hK => ?_
  go_simp
  refine hK _ _ fun a4 hsz4 hde4 f9 hk => ?_
  clear hK K
  replace f0 := (hk 0 (by decide)).trans f0
  replace f1 := (hk 1 (by decide)).trans f1
  replace f8 := (hk 8 (by decide)).trans f8
  replace f9 : a4.tmps[9]?.getD undef = .slice A2 n2 c2 := f9
  clear hk hsz3 hde3
  refine wpList_next rfl hsz4 hde4 10 rfl (by decide) fun K hK => ?_
  go_simp
  refine hK _ _ fun a5 hsz5 hde5 f10 hk => ?_
  clear hK K
  replace f0 := (hk 0 (by decide)).trans f0
  replace f1 := (hk 1 (by decide)).trans f1
  replace f8 := (hk 8 (by decide)).trans f8
  replace f10 : a5.tmps[10]?.getD undef = .int .i64 (n2 : Int) := f10
  clear hk hsz4 hde4 f9
  refine wpList_next rfl hsz5 hde5 11 rfl (by decide) fun K hK => ?_
  go_simp
  refine hK _ _ fun a6 hsz6 hde6 f11 hk => ?_
  clear hK K
  replace f0 := (hk 0 (by decide)).trans f0
  replace f1 := (hk 1 (by decide)).trans f1
  clear hk hsz5 hde5 f8 f10
  replace f11 : a6.tmps[11]?.getD undef = .int .i64 (nn : Int) := f11.trans (by have h := Hnn.out; have h1 := Hn1.out; have h2 := Hn2.out; first | (congr 1; done) | (congr 1; omega) | (congr 1; rw [IntKind.wrap_i64] <;> omega))
  refine wpList_next rfl hsz6 hde6 12 rfl (by decide) fun K hK => ?_
  go_simp
  refine hK _ _ fun a7 hsz7 hde7 f12 hk => ?_
  clear hK K
  replace f0 := (hk 0 (by decide)).trans f0
  replace f1 := (hk 1 (by decide)).trans f1
  replace f12 : a7.tmps[12]?.getD undef = .slice (some ⟨w.heap.size, 0, none⟩) 0 nn := f12
  clear hk hsz6 hde6 f11
  refine wpList_next rfl hsz7 hde7 5 rfl (by decide) fun K hK => ?_
  go_simp
  refine hK _ _ fun a8 hsz8 hde8 f5 hk => ?_
  clear hK K
  replace f0 := (hk 0 (by decide)).trans f0
  replace f1 := (hk 1 (by decide)).trans f1
  replace f5 : a8.tmps[5]?.getD undef = .slice (some ⟨w.heap.size, 0, none⟩) 0 nn := f5
  clear hk hsz7 hde7 f12
  refine wpList_nil ?_
  refine then_go ?_
  repeat with_reducible refine wp_seq ?_
  refine wp_block ?_
  refine wp_loop_ghost (JoinInv w ok1 ok2 R) (L.length + M.length) ?_ ?_
  · exact ⟨L, M, _, _, _, [], hsz8, hde8, f0, f1, f5, HL, HM, Hown1, Hb1, Lib.hid HR.out.symm, Lib.hid (by have := Hl.out; simp; omega), rfl⟩
  clear hsz8 hde8 f0 f1 f5 HL HM Hown1 Hb1 HR Hl Hn1 Hn2 Hnn hmk hl
  clear nn n1 n2 A1 A2 c1 c2
  intro n0 a9 wr hI
  obtain ⟨P, Q, v0, v1, u, acc, hsz9, hde9, f0, f1, f5, HP, HQ, Hown, Hbw, Hacc, Hlen, hn0⟩ := hI
  have Hn0 := Lib.hid hn0
  clear hn0
  obtain ⟨A1, c1, rfl⟩ : ∃ A c, v0 = .slice A P.length c := let ⟨A, c, e, _⟩ := ent_at HP.out; ⟨A, c, e⟩
  obtain ⟨A2, c2, rfl⟩ : ∃ A c, v1 = .slice A Q.length c := let ⟨A, c, e, _⟩ := ent_at HQ.out; ⟨A, c, e⟩
  obtain ⟨n1, hn1⟩ : ∃ n, n = P.length := ⟨_, rfl⟩
  obtain ⟨n2, hn2⟩ : ∃ n, n = Q.length := ⟨_, rfl⟩
  rw [← hn1] at HP f0
  rw [← hn2] at HQ f1
  have Hn1 := Lib.hid hn1
  have Hn2 := Lib.hid hn2
  clear hn1 hn2
  repeat with_reducible refine wp_seq ?_
  by_cases h10 : n1 = 0
  · have H10 := Lib.hid h10
    clear h10
    refine wp_region_lit ?_
    refine wpList_next rfl hsz9 hde9 13 rfl (by decide) fun K hK => ?_
    go_simp
    refine hK _ _ fun a10 hsz10 hde10 f13 hk => ?_
    clear hK K
    replace f0 := (hk 0 (by decide)).trans f0
    replace f1 := (hk 1 (by decide)).trans f1
    replace f5 := (hk 5 (by decide)).trans f5
    replace f13 : a10.tmps[13]?.getD undef = .slice A1 n1 c1 := f13
    clear hk hsz9 hde9
    refine wpList_next rfl hsz10 hde10 14 rfl (by decide) fun K hK => ?_
    go_simp
    refine hK _ _ fun a11 hsz11 hde11 f14 hk => ?_
    clear hK K
    replace f0 := (hk 0 (by decide)).trans f0
    replace f1 := (hk 1 (by decide)).trans f1
    replace f5 := (hk 5 (by decide)).trans f5
    replace f14 : a11.tmps[14]?.getD undef = .int .i64 (n1 : Int) := f14
    clear hk hsz10 hde10 f13
    refine wpList_next rfl hsz11 hde11 15 rfl (by decide) fun K hK => ?_
    go_simp
    refine hK _ _ fun a12 hsz12 hde12 f15 hk => ?_
    clear hK K
    replace f0 := (hk 0 (by decide)).trans f0
    replace f1 := (hk 1 (by decide)).trans f1
    replace f5 := (hk 5 (by decide)).trans f5
    clear hk hsz11 hde11 f14
    replace f15 : a12.tmps[15]?.getD undef = .bool false := f15.trans (by first | rfl | simp [H10.out] | (have := H10.out; simp; omega))
    refine wpList_next rfl hsz12 hde12 16 rfl (by decide) fun K hK => ?_
    go_simp
    refine hK _ _ fun a13 hsz13 hde13 f16 hk => ?_
    clear hK K
    replace f0 := (hk 0 (by decide)).trans f0
    replace f1 := (hk 1 (by decide)).trans f1
    replace f5 := (hk 5 (by decide)).trans f5
    replace f16 : a13.tmps[16]?.getD undef = .bool false := f16
    clear hk hsz12 hde12 f15
    refine wpList_leave (not_wanted (j := 3) (t := 16) (b := true) rfl rfl (.inr f16)) hsz13 hde13 17 rfl (by decide) fun a14 hsz14 hde14 f17 hk => ?_
    replace f0 := (hk 0 (by decide)).trans f0
    replace f1 := (hk 1 (by decide)).trans f1
    replace f5 := (hk 5 (by decide)).trans f5
    replace f16 := (hk 16 (by decide)).trans f16
    clear hk hsz13 hde13
    refine wpList_leave (not_wanted (j := 3) (t := 16) (b := true) rfl rfl (.inr f16)) hsz14 hde14 18 rfl (by decide) fun a15 hsz15 hde15 f18 hk => ?_
    replace f0 := (hk 0 (by decide)).trans f0
    replace f1 := (hk 1 (by decide)).trans f1
    replace f5 := (hk 5 (by decide)).trans f5
    replace f16 := (hk 16 (by decide)).trans f16
    clear hk hsz14 hde14 f17
    refine wpList_leave (not_wanted (j := 3) (t := 16) (b := true) rfl rfl (.inr f16)) hsz15 hde15 19 rfl (by decide) fun a16 hsz16 hde16 f19 hk => ?_
    replace f0 := (hk 0 (by decide)).trans f0
    replace f1 := (hk 1 (by decide)).trans f1
    replace f5 := (hk 5 (by decide)).trans f5
    replace f16 := (hk 16 (by decide)).trans f16
    clear hk hsz15 hde15 f18
    refine wpList_next rfl hsz16 hde16 20 rfl (by decide) fun K hK => ?_
    go_simp
    refine hK _ _ fun a17 hsz17 hde17 f20 hk => ?_
    clear hK K
    replace f0 := (hk 0 (by decide)).trans f0
    replace f1 := (hk 1 (by decide)).trans f1
    replace f5 := (hk 5 (by decide)).trans f5
    replace f20 : a17.tmps[20]?.getD undef = .bool false := f20
    clear hk hsz16 hde16 f16 f19
    refine wpList_nil ?_
    refine then_go ?_
    repeat with_reducible refine wp_seq ?_
    refine wp_cond_false (eval_at f20) ?_
    refine wp_exit ?_
    repeat with_reducible refine then_exit ?_
    refine block_exit ?_
    refine then_go ?_
    clear f20
    have Hend := Lib.hid (show acc ++ P ++ Q = R by rw [← Hacc.out, join_end (.inl (List.eq_nil_of_length_eq_zero (by rw [← Hn1.out]; exact H10.out))), List.append_assoc])
    obtain ⟨hrd1, hpl1, hpm1, hpo1⟩ := IsL.rdE (HP.out.grow Hbw.out)
    have Hp1 := Lib.hid (And.intro hrd1 (And.intro hpl1 hpo1))
    clear hrd1 hpl1 hpm1 hpo1
    repeat with_reducible refine wp_seq ?_
    refine wp_region_lit ?_
    refine wpList_next rfl hsz17 hde17 76 rfl (by decide) fun K hK => ?_
    go_simp
    refine hK _ _ fun a18 hsz18 hde18 f76 hk => ?_
    clear hK K
    replace f0 := (hk 0 (by decide)).trans f0
    replace f1 := (hk 1 (by decide)).trans f1
    replace f5 := (hk 5 (by decide)).trans f5
    replace f76 : a18.tmps[76]?.getD undef = u := f76
    clear hk hsz17 hde17
    refine wpList_next rfl hsz18 hde18 77 rfl (by decide) fun K hK => ?_
    go_simp
    refine hK _ _ fun a19 hsz19 hde19 f77 hk => ?_
    clear hK K
    replace f0 := (hk 0 (by decide)).trans f0
    replace f1 := (hk 1 (by decide)).trans f1
    replace f5 := (hk 5 (by decide)).trans f5
    replace f76 := (hk 76 (by decide)).trans f76
    replace f77 : a19.tmps[77]?.getD undef = .slice A1 n1 c1 := f77
    clear hk hsz18 hde18
    refine wpList_next rfl hsz19 hde19 78 rfl (by decide) fun K hK => ?_
    refine wp_appK elemE (.tmp 76) (.tmp 77) rfl w.heap.size acc.length u (entsC acc) (eval_at f76) Hown.out.1 ok1 A1 n1 c1 (entsC P) (by rw [entsC_length, Hp1.out.2.1]) (eval_at f77) Hp1.out.1 (entsC_each P) (by have := Hlen.out; have := Hn1.out; omega) (by have := Hlen.out; have := Hn1.out; omega) Hbw.out.size ?_
    intro u7 w7 hown7 hg7 _
    have Hb7 := Lib.hid (below_call_of Hbw.out Hown.out hg7)
    have Hown7 := Lib.hid (OwnE.apps (M := acc) (N := P) (by rw [← Hp1.out.2.1]; exact hown7) Hown.out.2 Hp1.out.2.2)
    clear hown7 hg7
    refine hK _ _ fun a20 hsz20 hde20 f78 hk => ?_
    clear hK K
    replace f0 := (hk 0 (by decide)).trans f0
    replace f1 := (hk 1 (by decide)).trans f1
    replace f5 := (hk 5 (by decide)).trans f5
    replace f78 : a20.tmps[78]?.getD undef = u7 := f78
    clear hk hsz19 hde19 f76 f77
    refine wpList_next rfl hsz20 hde20 5 rfl (by decide) fun K hK => ?_
    go_simp
    refine hK _ _ fun a21 hsz21 hde21 f5 hk => ?_
    clear hK K
    replace f0 := (hk 0 (by decide)).trans f0
    replace f1 := (hk 1 (by decide)).trans f1
    replace f5 : a21.tmps[5]?.getD undef = u7 := f5
    clear hk hsz20 hde20 f78
    refine wpList_nil ?_
    refine then_go ?_
    clear f0
    repeat with_reducible refine wp_seq ?_
    obtain ⟨hrd2, hpl2, hpm2, hpo2⟩ := IsL.rdE (HQ.out.grow Hb7.out)
    have Hp2 := Lib.hid (And.intro hrd2 (And.intro hpl2 hpo2))
    clear hrd2 hpl2 hpm2 hpo2
    refine wp_region_lit ?_
    refine wpList_next rfl hsz21 hde21 79 rfl (by decide) fun K hK => ?_
    go_simp
    refine hK _ _ fun a22 hsz22 hde22 f79 hk => ?_
    clear hK K
    replace f1 := (hk 1 (by decide)).trans f1
    replace f5 := (hk 5 (by decide)).trans f5
    replace f79 : a22.tmps[79]?.getD undef = u7 := f79
    clear hk hsz21 hde21
    refine wpList_next rfl hsz22 hde22 80 rfl (by decide) fun K hK => ?_
    go_simp
    refine hK _ _ fun a23 hsz23 hde23 f80 hk => ?_
    clear hK K
    replace f1 := (hk 1 (by decide)).trans f1
    replace f5 := (hk 5 (by decide)).trans f5
    replace f79 := (hk 79 (by decide)).trans f79
    replace f80 : a23.tmps[80]?.getD undef = .slice A2 n2 c2 := f80
    clear hk hsz22 hde22
    refine wpList_next rfl hsz23 hde23 81 rfl (by decide) fun K hK => ?_
    refine wp_appK elemE (.tmp 79) (.tmp 80) rfl w.heap.size (acc ++ P).length u7 (entsC (acc ++ P)) (eval_at f79) Hown7.out.1 ok2 A2 n2 c2 (entsC Q) (by rw [entsC_length, Hp2.out.2.1]) (eval_at f80) Hp2.out.1 (entsC_each Q) (by have := Hlen.out; have := Hn2.out; rw [List.length_append]; omega) (by have := Hlen.out; have := Hn2.out; rw [List.length_append]; omega) Hb7.out.size ?_
    intro u8 w8 hown8 hg8 _
    have Hb8 := Lib.hid (below_call_of Hb7.out Hown7.out hg8)
    have hown8b := OwnE.apps (M := acc ++ P) (N := Q) (by rw [← Hp2.out.2.1]; exact hown8) Hown7.out.2 Hp2.out.2.2
    rw [Hend.out] at hown8b
    have Hown8 := Lib.hid hown8b
    clear hown8 hown8b hg8
    refine hK _ _ fun a24 hsz24 hde24 f81 hk => ?_
    clear hK K
    replace f1 := (hk 1 (by decide)).trans f1
    replace f5 := (hk 5 (by decide)).trans f5
    replace f81 : a24.tmps[81]?.getD undef = u8 := f81
    clear hk hsz23 hde23 f79 f80
    refine wpList_next rfl hsz24 hde24 82 rfl (by decide) fun K hK => ?_
    go_simp
    refine (Hcp.out u8 w8 Hown8.out).mono ?_
    rintro e9 w9 ⟨u9, rfl, hown9, hb9⟩
    go_simp
    refine hK _ _ fun a25 hsz25 hde25 f82 hk => ?_
    clear hK K
    replace f1 := (hk 1 (by decide)).trans f1
    replace f5 := (hk 5 (by decide)).trans f5
    replace f82 : a25.tmps[82]?.getD undef = u9 := f82
    clear hk hsz24 hde24 f81
    refine wpList_next rfl hsz25 hde25 4 rfl (by decide) fun K hK => ?_
    go_simp
    refine hK _ _ fun a26 hsz26 hde26 f4 hk => ?_
    clear hK K
    replace f1 := (hk 1 (by decide)).trans f1
    replace f5 := (hk 5 (by decide)).trans f5
    replace f4 : a26.tmps[4]?.getD undef = u9 := f4
    clear hk hsz25 hde25 f82
    refine wpList_nil ?_
    refine then_go ?_
    refine wp_ret ?_
    repeat first | with_reducible refine then_ret ?_ | with_reducible refine block_ret ?_
    refine ret_tmp Tryd.results17 hde26 f4 ?_
    exact ⟨⟨_, rfl, hown9.mono Hb8.out.size⟩, below_call Hb8.out hb9⟩
  have h10p : 0 < n1 := by omega
  have H10 := Lib.hid h10p
  clear h10
  by_cases h20 : n2 = 0
  · have H20 := Lib.hid h20
    clear h20
    refine wp_region_lit ?_
    refine wpList_next rfl hsz9 hde9 13 rfl (by decide) fun K hK => ?_
    go_simp
    refine hK _ _ fun a10 hsz10 hde10 f13 hk => ?_
    clear hK K
    replace f0 := (hk 0 (by decide)).trans f0
    replace f1 := (hk 1 (by decide)).trans f1
    replace f5 := (hk 5 (by decide)).trans f5
    replace f13 : a10.tmps[13]?.getD undef = .slice A1 n1 c1 := f13
    clear hk hsz9 hde9
    refine wpList_next rfl hsz10 hde10 14 rfl (by decide) fun K hK => ?_
    go_simp
    refine hK _ _ fun a11 hsz11 hde11 f14 hk => ?_
    clear hK K
    replace f0 := (hk 0 (by decide)).trans f0
    replace f1 := (hk 1 (by decide)).trans f1
    replace f5 := (hk 5 (by decide)).trans f5
    replace f14 : a11.tmps[14]?.getD undef = .int .i64 (n1 : Int) := f14
    clear hk hsz10 hde10 f13
    refine wpList_next rfl hsz11 hde11 15 rfl (by decide) fun K hK => ?_
    go_simp
    refine hK _ _ fun a12 hsz12 hde12 f15 hk => ?_
    clear hK K
    replace f0 := (hk 0 (by decide)).trans f0
    replace f1 := (hk 1 (by decide)).trans f1
    replace f5 := (hk 5 (by decide)).trans f5
    clear hk hsz11 hde11 f14
    replace f15 : a12.tmps[15]?.getD undef = .bool true := f15.trans (by first | rfl | simp [H10.out] | (have := H10.out; simp; omega))
    refine wpList_next rfl hsz12 hde12 16 rfl (by decide) fun K hK => ?_
    go_simp
    refine hK _ _ fun a13 hsz13 hde13 f16 hk => ?_
    clear hK K
    replace f0 := (hk 0 (by decide)).trans f0
    replace f1 := (hk 1 (by decide)).trans f1
    replace f5 := (hk 5 (by decide)).trans f5
    replace f16 : a13.tmps[16]?.getD undef = .bool true := f16
    clear hk hsz12 hde12 f15
    refine wpList_nextg (wanted_of (j := 3) (t := 16) (b := true) rfl rfl f16) hsz13 hde13 17 rfl (by decide) fun K hK => ?_
    go_simp
    refine hK _ _ fun a14 hsz14 hde14 f17 hk => ?_
    clear hK K
    replace f0 := (hk 0 (by decide)).trans f0
    replace f1 := (hk 1 (by decide)).trans f1
    replace f5 := (hk 5 (by decide)).trans f5
    replace f16 := (hk 16 (by decide)).trans f16
    replace f17 : a14.tmps[17]?.getD undef = .slice A2 n2 c2 := f17
    clear hk hsz13 hde13
    refine wpList_nextg (wanted_of (j := 3) (t := 16) (b := true) rfl rfl f16) hsz14 hde14 18 rfl (by decide) fun K hK => ?_
    go_simp
    refine hK _ _ fun a15 hsz15 hde15 f18 hk => ?_
    clear hK K
    replace f0 := (hk 0 (by decide)).trans f0
    replace f1 := (hk 1 (by decide)).trans f1
    replace f5 := (hk 5 (by decide)).trans f5
    replace f16 := (hk 16 (by decide)).trans f16
    replace f18 : a15.tmps[18]?.getD undef = .int .i64 (n2 : Int) := f18
    clear hk hsz14 hde14 f17
    refine wpList_nextg (wanted_of (j := 3) (t := 16) (b := true) rfl rfl f16) hsz15 hde15 19 rfl (by decide) fun K hK => ?_
    go_simp
    refine hK _ _ fun a16 hsz16 hde16 f19 hk => ?_
    clear hK K
    replace f0 := (hk 0 (by decide)).trans f0
    replace f1 := (hk 1 (by decide)).trans f1
    replace f5 := (hk 5 (by decide)).trans f5
    replace f16 := (hk 16 (by decide)).trans f16
    clear hk hsz15 hde15 f18
    replace f19 : a16.tmps[19]?.getD undef = .bool false := f19.trans (by first | rfl | simp [H20.out] | (have := H20.out; simp; omega))
    refine wpList_next rfl hsz16 hde16 20 rfl (by decide) fun K hK => ?_
    go_simp
    refine hK _ _ fun a17 hsz17 hde17 f20 hk => ?_
    clear hK K
    replace f0 := (hk 0 (by decide)).trans f0
    replace f1 := (hk 1 (by decide)).trans f1
    replace f5 := (hk 5 (by decide)).trans f5
    replace f20 : a17.tmps[20]?.getD undef = .bool false := f20
    clear hk hsz16 hde16 f16 f19
    refine wpList_nil ?_
    refine then_go ?_
    repeat with_reducible refine wp_seq ?_
    refine wp_cond_false (eval_at f20) ?_
    refine wp_exit ?_
    repeat with_reducible refine then_exit ?_
    refine block_exit ?_
    refine then_go ?_
    clear f20
    have Hend := Lib.hid (show acc ++ P ++ Q = R by rw [← Hacc.out, join_end (.inr (List.eq_nil_of_length_eq_zero (by rw [← Hn2.out]; exact H20.out))), List.append_assoc])
    obtain ⟨hrd1, hpl1, hpm1, hpo1⟩ := IsL.rdE (HP.out.grow Hbw.out)
    have Hp1 := Lib.hid (And.intro hrd1 (And.intro hpl1 hpo1))
    clear hrd1 hpl1 hpm1 hpo1
    repeat with_reducible refine wp_seq ?_
    refine wp_region_lit ?_
    refine wpList_next rfl hsz17 hde17 76 rfl (by decide) fun K hK => ?_
    go_simp
    refine hK _ _ fun a18 hsz18 hde18 f76 hk => ?_
    clear hK K
    replace f0 := (hk 0 (by decide)).trans f0
    replace f1 := (hk 1 (by decide)).trans f1
    replace f5 := (hk 5 (by decide)).trans f5
    replace f76 : a18.tmps[76]?.getD undef = u := f76
    clear hk hsz17 hde17
    refine wpList_next rfl hsz18 hde18 77 rfl (by decide) fun K hK => ?_
    go_simp
    refine hK _ _ fun a19 hsz19 hde19 f77 hk => ?_
    clear hK K
    replace f0 := (hk 0 (by decide)).trans f0
    replace f1 := (hk 1 (by decide)).trans f1
    replace f5 := (hk 5 (by decide)).trans f5
    replace f76 := (hk 76 (by decide)).trans f76
    replace f77 : a19.tmps[77]?.getD undef = .slice A1 n1 c1 := f77
    clear hk hsz18 hde18
    refine wpList_next rfl hsz19 hde19 78 rfl (by decide) fun K hK => ?_
    refine wp_appK elemE (.tmp 76) (.tmp 77) rfl w.heap.size acc.length u (entsC acc) (eval_at f76) Hown.out.1 ok1 A1 n1 c1 (entsC P) (by rw [entsC_length, Hp1.out.2.1]) (eval_at f77) Hp1.out.1 (entsC_each P) (by have := Hlen.out; have := Hn1.out; omega) (by have := Hlen.out; have := Hn1.out; omega) Hbw.out.size ?_
    intro u7 w7 hown7 hg7 _
    have Hb7 := Lib.hid (below_call_of Hbw.out Hown.out hg7)
    have Hown7 := Lib.hid (OwnE.apps (M := acc) (N := P) (by rw [← Hp1.out.2.1]; exact hown7) Hown.out.2 Hp1.out.2.2)
    clear hown7 hg7
    refine hK _ _ fun a20 hsz20 hde20 f78 hk => ?_
    clear hK K
    replace f0 := (hk 0 (by decide)).trans f0
    replace f1 := (hk 1 (by decide)).trans f1
    replace f5 := (hk 5 (by decide)).trans f5
    replace f78 : a20.tmps[78]?.getD undef = u7 := f78
    clear hk hsz19 hde19 f76 f77
    refine wpList_next rfl hsz20 hde20 5 rfl (by decide) fun K hK => ?_
    go_simp
    refine hK _ _ fun a21 hsz21 hde21 f5 hk => ?_
    clear hK K
    replace f0 := (hk 0 (by decide)).trans f0
    replace f1 := (hk 1 (by decide)).trans f1
    replace f5 : a21.tmps[5]?.getD undef = u7 := f5
    clear hk hsz20 hde20 f78
    refine wpList_nil ?_
    refine then_go ?_
    clear f0
    repeat with_reducible refine wp_seq ?_
    obtain ⟨hrd2, hpl2, hpm2, hpo2⟩ := IsL.rdE (HQ.out.grow Hb7.out)
    have Hp2 := Lib.hid (And.intro hrd2 (And.intro hpl2 hpo2))
    clear hrd2 hpl2 hpm2 hpo2
    refine wp_region_lit ?_
    refine wpList_next rfl hsz21 hde21 79 rfl (by decide) fun K hK => ?_
    go_simp
    refine hK _ _ fun a22 hsz22 hde22 f79 hk => ?_
    clear hK K
    replace f1 := (hk 1 (by decide)).trans f1
    replace f5 := (hk 5 (by decide)).trans f5
    replace f79 : a22.tmps[79]?.getD undef = u7 := f79
    clear hk hsz21 hde21
    refine wpList_next rfl hsz22 hde22 80 rfl (by decide) fun K hK => ?_
    go_simp
    refine hK _ _ fun a23 hsz23 hde23 f80 hk => ?_
    clear hK K
    replace f1 := (hk 1 (by decide)).trans f1
    replace f5 := (hk 5 (by decide)).trans f5
    replace f79 := (hk 79 (by decide)).trans f79
    replace f80 : a23.tmps[80]?.getD undef = .slice A2 n2 c2 := f80
    clear hk hsz22 hde22
    refine wpList_next rfl hsz23 hde23 81 rfl (by decide) fun K hK => ?_
    refine wp_appK elemE (.tmp 79) (.tmp 80) rfl w.heap.size (acc ++ P).length u7 (entsC (acc ++ P)) (eval_at f79) Hown7.out.1 ok2 A2 n2 c2 (entsC Q) (by rw [entsC_length, Hp2.out.2.1]) (eval_at f80) Hp2.out.1 (entsC_each Q) (by have := Hlen.out; have := Hn2.out; rw [List.length_append]; omega) (by have := Hlen.out; have := Hn2.out; rw [List.length_append]; omega) Hb7.out.size ?_
    intro u8 w8 hown8 hg8 _
    have Hb8 := Lib.hid (below_call_of Hb7.out Hown7.out hg8)
    have hown8b := OwnE.apps (M := acc ++ P) (N := Q) (by rw [← Hp2.out.2.1]; exact hown8) Hown7.out.2 Hp2.out.2.2
    rw [Hend.out] at hown8b
    have Hown8 := Lib.hid hown8b
    clear hown8 hown8b hg8
    refine hK _ _ fun a24 hsz24 hde24 f81 hk => ?_
    clear hK K
    replace f1 := (hk 1 (by decide)).trans f1
    replace f5 := (hk 5 (by decide)).trans f5
    replace f81 : a24.tmps[81]?.getD undef = u8 := f81
    clear hk hsz23 hde23 f79 f80
    refine wpList_next rfl hsz24 hde24 82 rfl (by decide) fun K hK => ?_
    go_simp
    refine (Hcp.out u8 w8 Hown8.out).mono ?_
    rintro e9 w9 ⟨u9, rfl, hown9, hb9⟩
    go_simp
    refine hK _ _ fun a25 hsz25 hde25 f82 hk => ?_
    clear hK K
    replace f1 := (hk 1 (by decide)).trans f1
    replace f5 := (hk 5 (by decide)).trans f5
    replace f82 : a25.tmps[82]?.getD undef = u9 := f82
    clear hk hsz24 hde24 f81
    refine wpList_next rfl hsz25 hde25 4 rfl (by decide) fun K hK => ?_
    go_simp
    refine hK _ _ fun a26 hsz26 hde26 f4 hk => ?_
    clear hK K
    replace f1 := (hk 1 (by decide)).trans f1
    replace f5 := (hk 5 (by decide)).trans f5
    replace f4 : a26.tmps[4]?.getD undef = u9 := f4
    clear hk hsz25 hde25 f82
    refine wpList_nil ?_
    refine then_go ?_
    refine wp_ret ?_
    repeat first | with_reducible refine then_ret ?_ | with_reducible refine block_ret ?_
    refine ret_tmp Tryd.results17 hde26 f4 ?_
    exact ⟨⟨_, rfl, hown9.mono Hb8.out.size⟩, below_call Hb8.out hb9⟩
  have h20p : 0 < n2 := by omega
  have H20 := Lib.hid h20p
  clear h20
  refine wp_region_lit ?_
  refine wpList_next rfl hsz9 hde9 13 rfl (by decide) fun K hK => ?_
  go_simp
  refine hK _ _ fun a10 hsz10 hde10 f13 hk => ?_
  clear hK K
  replace f0 := (hk 0 (by decide)).trans f0
  replace f1 := (hk 1 (by decide)).trans f1
  replace f5 := (hk 5 (by decide)).trans f5
  replace f13 : a10.tmps[13]?.getD undef = .slice A1 n1 c1 := f13
  clear hk hsz9 hde9
  refine wpList_next rfl hsz10 hde10 14 rfl (by decide) fun K hK => ?_
  go_simp
  refine hK _ _ fun a11 hsz11 hde11 f14 hk => ?_
  clear hK K
  replace f0 := (hk 0 (by decide)).trans f0
  replace f1 := (hk 1 (by decide)).trans f1
  replace f5 := (hk 5 (by decide)).trans f5
  replace f14 : a11.tmps[14]?.getD undef = .int .i64 (n1 : Int) := f14
  clear hk hsz10 hde10 f13
  refine wpList_next rfl hsz11 hde11 15 rfl (by decide) fun K hK => ?_
  go_simp
  refine hK _ _ fun a12 hsz12 hde12 f15 hk => ?_
  clear hK K
  replace f0 := (hk 0 (by decide)).trans f0
  replace f1 := (hk 1 (by decide)).trans f1
  replace f5 := (hk 5 (by decide)).trans f5
  clear hk hsz11 hde11 f14
  replace f15 : a12.tmps[15]?.getD undef = .bool true := f15.trans (by first | rfl | simp [H10.out] | (have := H10.out; simp; omega))
  refine wpList_next rfl hsz12 hde12 16 rfl (by decide) fun K hK => ?_
  go_simp
  refine hK _ _ fun a13 hsz13 hde13 f16 hk => ?_
  clear hK K
  replace f0 := (hk 0 (by decide)).trans f0
  replace f1 := (hk 1 (by decide)).trans f1
  replace f5 := (hk 5 (by decide)).trans f5
  replace f16 : a13.tmps[16]?.getD undef = .bool true := f16
  clear hk hsz12 hde12 f15
  refine wpList_nextg (wanted_of (j := 3) (t := 16) (b := true) rfl rfl f16) hsz13 hde13 17 rfl (by decide) fun K hK => ?_
  go_simp
  refine hK _ _ fun a14 hsz14 hde14 f17 hk => ?_
  clear hK K
  replace f0 := (hk 0 (by decide)).trans f0
  replace f1 := (hk 1 (by decide)).trans f1
  replace f5 := (hk 5 (by decide)).trans f5
  replace f16 := (hk 16 (by decide)).trans f16
  replace f17 : a14.tmps[17]?.getD undef = .slice A2 n2 c2 := f17
  clear hk hsz13 hde13
  refine wpList_nextg (wanted_of (j := 3) (t := 16) (b := true) rfl rfl f16) hsz14 hde14 18 rfl (by decide) fun K hK => ?_
  go_simp
  refine hK _ _ fun a15 hsz15 hde15 f18 hk => ?_
  clear hK K
  replace f0 := (hk 0 (by decide)).trans f0
  replace f1 := (hk 1 (by decide)).trans f1
  replace f5 := (hk 5 (by decide)).trans f5
  replace f16 := (hk 16 (by decide)).trans f16
  replace f18 : a15.tmps[18]?.getD undef = .int .i64 (n2 : Int) := f18
  clear hk hsz14 hde14 f17
  refine wpList_nextg (wanted_of (j := 3) (t := 16) (b := true) rfl rfl f16) hsz15 hde15 19 rfl (by decide) fun K hK => ?_
  go_simp
  refine hK _ _ fun a16 hsz16 hde16 f19 hk => ?_
  clear hK K
  replace f0 := (hk 0 (by decide)).trans f0
  replace f1 := (hk 1 (by decide)).trans f1
  replace f5 := (hk 5 (by decide)).trans f5
  replace f16 := (hk 16 (by decide)).trans f16
  clear hk hsz15 hde15 f18
  replace f19 : a16.tmps[19]?.getD undef = .bool true := f19.trans (by first | rfl | simp [H20.out] | (have := H20.out; simp; omega))
  refine wpList_next rfl hsz16 hde16 20 rfl (by decide) fun K hK => ?_
  go_simp
  refine hK _ _ fun a17 hsz17 hde17 f20 hk => ?_
  clear hK K
  replace f0 := (hk 0 (by decide)).trans f0
  replace f1 := (hk 1 (by decide)).trans f1
  replace f5 := (hk 5 (by decide)).trans f5
  replace f20 : a17.tmps[20]?.getD undef = .bool true := f20
  clear hk hsz16 hde16 f16 f19
  refine wpList_nil ?_
  refine then_go ?_
  repeat with_reducible refine wp_seq ?_
  refine wp_cond_true (eval_at f20) ?_
  refine wp_skip ?_
  refine then_go ?_
  clear f20
  repeat with_reducible refine wp_seq ?_
  refine wp_block ?_
  repeat with_reducible refine wp_seq ?_
  refine wp_block ?_
  repeat with_reducible refine wp_seq ?_
  obtain ⟨x, P2, rfl⟩ : ∃ x P2, P = x :: P2 := by
    cases P with
    | nil => have := Hn1.out; have := H10.out; simp at *; omega
    | cons x P2 => exact ⟨x, P2, rfl⟩
  obtain ⟨y, Q2, rfl⟩ : ∃ y Q2, Q = y :: Q2 := by
    cases Q with
    | nil => have := Hn2.out; have := H20.out; simp at *; omega
    | cons y Q2 => exact ⟨y, Q2, rfl⟩
  obtain ⟨b1, o1, d1, t1, he1, _, _, hb1, hr1, hx, ht1, hs1⟩ := HP.out.tailE
  obtain ⟨b2, o2, d2, t2, he2, _, _, hb2, hr2, hy, ht2, hs2⟩ := HQ.out.tailE
  injection he1 with e1 e2 e3
  subst e1
  subst e3
  injection he2 with e4 e5 e6
  subst e4
  subst e6
  have HT1 := Lib.hid ht1
  have HT2 := Lib.hid ht2
  have HS1 := Lib.hid hs1
  have HS2 := Lib.hid hs2
  have HX := Lib.hid hx
  have HY := Lib.hid hy
  have H1c := Lib.hid (And.intro hr1 hb1)
  have H2c := Lib.hid (And.intro hr2 hb2)
  clear e2 e5 hb1 hr1 hx ht1 hs1 hb2 hr2 hy ht2 hs2
  obtain ⟨CX, hCX⟩ : ∃ C, C = entC x := ⟨_, rfl⟩
  obtain ⟨CY, hCY⟩ : ∃ C, C = entC y := ⟨_, rfl⟩
  obtain ⟨IX, hIX⟩ : ∃ C, C = idC x.rep x.seq := ⟨_, rfl⟩
  obtain ⟨IY, hIY⟩ : ∃ C, C = idC y.rep y.seq := ⟨_, rfl⟩
  have HCX := Lib.hid hCX
  have HCY := Lib.hid hCY
  have HrX := Lib.hid (show ∀ z, Below w.heap.size w z → z.rangeAt b1 o1 CX.toList from fun z hz => by rw [HCX.out]; exact range_ext H1c.out.1 hz)
  have HrY := Lib.hid (show ∀ z, Below w.heap.size w z → z.rangeAt b2 o2 CY.toList from fun z hz => by rw [HCY.out]; exact range_ext H2c.out.1 hz)
  have HiX := Lib.hid (show ∀ z, Below w.heap.size w z → z.rangeAt b1 o1 IX.toList from fun z hz => by rw [hIX]; exact (entCells (range_ext H1c.out.1 hz)).id)
  have HiY := Lib.hid (show ∀ z, Below w.heap.size w z → z.rangeAt b2 o2 IY.toList from fun z hz => by rw [hIY]; exact (entCells (range_ext H2c.out.1 hz)).id)
  have HinfX := Lib.hid (show (Tryd.prog.info? 25).map (·.size) = some IX.toList.length by rw [hIX]; exact id_info)
  have HinfY := Lib.hid (show (Tryd.prog.info? 25).map (·.size) = some IY.toList.length by rw [hIY]; exact id_info)
  have HinfCX := Lib.hid (show (Tryd.prog.info? 29).map (·.size) = some CX.toList.length by rw [hCX]; exact ent_info)
  have HinfCY := Lib.hid (show (Tryd.prog.info? 29).map (·.size) = some CY.toList.length by rw [hCY]; exact ent_info)
  have hCXs : CX.size = 15 := by rw [hCX]; rfl
  have hCYs : CY.size = 15 := by rw [hCY]; rfl
  have hfx := fold_ent x
  have hfy := fold_ent y
  rw [← hCX] at hfx
  rw [← hCY] at hfy
  have HfX := Lib.hid hfx
  have HfY := Lib.hid hfy
  have hl1 := fun z => less_any x.rep x.seq y.rep y.seq z
  have hl2 := fun z => less_any y.rep y.seq x.rep x.seq z
  simp only [idv_idC] at hl1 hl2
  rw [← hIX, ← hIY] at hl1 hl2
  obtain ⟨q1, hq1⟩ : ∃ q, q = lessV x.rep x.seq y.rep y.seq := ⟨_, rfl⟩
  obtain ⟨q2, hq2⟩ : ∃ q, q = lessV y.rep y.seq x.rep x.seq := ⟨_, rfl⟩
  rw [← hq1] at hl1
  rw [← hq2] at hl2
  have HL1 := Lib.hid hl1
  have HL2 := Lib.hid hl2
  have HQ1 := Lib.hid hq1
  have HQ2 := Lib.hid hq2
  clear hCX hCY hIX hIY hfx hfy hl1 hl2 hq1 hq2
  have h10a : 0 < n1 := H10.out
  have h20a : 0 < n2 := H20.out
  refine wp_region_goodg (tblG [(41, .slice (some ⟨b1, o1, none⟩) n1 c1), (42, .pointer (some ⟨b1, o1, none⟩)), (43, .pointer (some ⟨b1, o1, none⟩)), (44, .agg IX), (45, .slice (some ⟨b2, o2, none⟩) n2 c2), (46, .pointer (some ⟨b2, o2, none⟩)), (47, .pointer (some ⟨b2, o2, none⟩)), (48, .agg IY), (49, .bool q1), (40, .bool q1)]) 83 (by kernel_rfl) (by kernel_rfl) (by kernel_rfl) (by kernel_rfl) hsz17.out ?_ ?_ ?_
  · intro t v7 x x' h _ _
    exact h
  · intro i7 o hi7 a x hbx hsame hpre K hK
    have hlt7 : i7 < 10 := (Array.getElem?_eq_some_iff.1 hi7).1
    rcases (show i7 = 0 ∨ i7 = 1 ∨ i7 = 2 ∨ i7 = 3 ∨ i7 = 4 ∨ i7 = 5 ∨ i7 = 6 ∨ i7 = 7 ∨ i7 = 8 ∨ i7 = 9 by omega) with rfl | rfl | rfl | rfl | rfl | rfl | rfl | rfl | rfl | rfl
    all_goals (have ho := Option.some.inj hi7; subst ho; clear hi7 hlt7)
    · have q0 : a.tmps[0]?.getD undef = .slice (some ⟨b1, o1, none⟩) n1 c1 := (hsame 0 (by decide +kernel)).trans f0
      refine step_plain rfl ?_
      have hk := Lib.hid (show ∀ v7 x', v7 = .slice (some ⟨b1, o1, none⟩) n1 c1 → Below x.heap.size x x' → K (a.put (some 41) v7) x' from hK)
      have Hbx := Lib.hid hbx
      clear hsame hpre hK hbx
      go_simp
      exact hk.out _ _ rfl (Below.refl _ _)
    · have q41 : a.tmps[41]?.getD undef = .slice (some ⟨b1, o1, none⟩) n1 c1 := hpre ⟨0, .data⟩ (by simp) rfl (by decide)
      refine step_plain rfl ?_
      have hk := Lib.hid (show ∀ v7 x', v7 = .pointer (some ⟨b1, o1, none⟩) → Below x.heap.size x x' → K (a.put (some 42) v7) x' from hK)
      have Hbx := Lib.hid hbx
      clear hsame hpre hK hbx
      go_simp
      exact hk.out _ _ rfl (Below.refl _ _)
    · have q42 : a.tmps[42]?.getD undef = .pointer (some ⟨b1, o1, none⟩) := hpre ⟨1, .data⟩ (by simp) rfl (by decide)
      refine step_plain rfl ?_
      have hk := Lib.hid (show ∀ v7 x', v7 = .pointer (some ⟨b1, o1, none⟩) → Below x.heap.size x x' → K (a.put (some 43) v7) x' from hK)
      have Hbx := Lib.hid hbx
      clear hsame hpre hK hbx
      go_simp
      exact hk.out _ _ rfl (Below.refl _ _)
    · have q43 : a.tmps[43]?.getD undef = .pointer (some ⟨b1, o1, none⟩) := hpre ⟨2, .data⟩ (by simp) rfl (by decide)
      refine step_plain rfl ?_
      have hk := Lib.hid (show ∀ v7 x', v7 = .agg IX → Below x.heap.size x x' → K (a.put (some 44) v7) x' from hK)
      have Hbx := Lib.hid hbx
      clear hsame hpre hK hbx
      refine wp_load_mid 25 (.tmp 43) rfl b1 o1 (eval_at q43) IX.toList _ (HiX.out _ (below_call Hbw.out Hbx.out)) Tryd.underlying25 rfl HinfX.out ?_
      exact hk.out _ _ rfl (Below.refl _ _)
    · have q1 : a.tmps[1]?.getD undef = .slice (some ⟨b2, o2, none⟩) n2 c2 := (hsame 1 (by decide +kernel)).trans f1
      refine step_plain rfl ?_
      have hk := Lib.hid (show ∀ v7 x', v7 = .slice (some ⟨b2, o2, none⟩) n2 c2 → Below x.heap.size x x' → K (a.put (some 45) v7) x' from hK)
      have Hbx := Lib.hid hbx
      clear hsame hpre hK hbx
      go_simp
      exact hk.out _ _ rfl (Below.refl _ _)
    · have q45 : a.tmps[45]?.getD undef = .slice (some ⟨b2, o2, none⟩) n2 c2 := hpre ⟨4, .data⟩ (by simp) rfl (by decide)
      refine step_plain rfl ?_
      have hk := Lib.hid (show ∀ v7 x', v7 = .pointer (some ⟨b2, o2, none⟩) → Below x.heap.size x x' → K (a.put (some 46) v7) x' from hK)
      have Hbx := Lib.hid hbx
      clear hsame hpre hK hbx
      go_simp
      exact hk.out _ _ rfl (Below.refl _ _)
    · have q46 : a.tmps[46]?.getD undef = .pointer (some ⟨b2, o2, none⟩) := hpre ⟨5, .data⟩ (by simp) rfl (by decide)
      refine step_plain rfl ?_
      have hk := Lib.hid (show ∀ v7 x', v7 = .pointer (some ⟨b2, o2, none⟩) → Below x.heap.size x x' → K (a.put (some 47) v7) x' from hK)
      have Hbx := Lib.hid hbx
      clear hsame hpre hK hbx
      go_simp
      exact hk.out _ _ rfl (Below.refl _ _)
    · have q47 : a.tmps[47]?.getD undef = .pointer (some ⟨b2, o2, none⟩) := hpre ⟨6, .data⟩ (by simp) rfl (by decide)
      refine step_plain rfl ?_
      have hk := Lib.hid (show ∀ v7 x', v7 = .agg IY → Below x.heap.size x x' → K (a.put (some 48) v7) x' from hK)
      have Hbx := Lib.hid hbx
      clear hsame hpre hK hbx
      refine wp_load_mid 25 (.tmp 47) rfl b2 o2 (eval_at q47) IY.toList _ (HiY.out _ (below_call Hbw.out Hbx.out)) Tryd.underlying25 rfl HinfY.out ?_
      exact hk.out _ _ rfl (Below.refl _ _)
    · have q44 : a.tmps[44]?.getD undef = .agg IX := hpre ⟨3, .data⟩ (by simp) rfl (by decide)
      have q48 : a.tmps[48]?.getD undef = .agg IY := hpre ⟨7, .data⟩ (by simp) rfl (by decide)
      refine step_plain rfl ?_
      have hk := Lib.hid (show ∀ v7 x', v7 = .bool q1 → Below x.heap.size x x' → K (a.put (some 49) v7) x' from hK)
      have Hbx := Lib.hid hbx
      clear hsame hpre hK hbx
      go_simp
      refine (HL1.out _).mono ?_
      rintro e7 w7 ⟨rfl, hb7⟩
      go_simp
      exact hk.out _ _ rfl hb7
    · have q49 : a.tmps[49]?.getD undef = .bool q1 := hpre ⟨8, .data⟩ (by simp) rfl (by decide)
      refine step_plain rfl ?_
      have hk := Lib.hid (show ∀ v7 x', v7 = .bool q1 → Below x.heap.size x x' → K (a.put (some 40) v7) x' from hK)
      have Hbx := Lib.hid hbx
      clear hsame hpre hK hbx
      go_simp
      exact hk.out _ _ rfl (Below.refl _ _)
  intro a18 x18 hbx hsame hG hsz18 hde18
  replace f0 := (hsame 0 (by decide +kernel)).trans f0
  replace f1 := (hsame 1 (by decide +kernel)).trans f1
  replace f5 := (hsame 5 (by decide +kernel)).trans f5
  have f40 : a18.tmps[40]?.getD undef = .bool q1 := hG 9 (by decide)
  have Hbx18 := Lib.hid hbx
  have hsz18h := Lib.hid hsz18
  have hde18h := Lib.hid (hde18.trans hde17.out)
  clear hsame hG hbx hsz18 hde18 hsz17 hde17
  have Hbw1 := Lib.hid (below_call Hbw.out Hbx18.out)
  have Hown1 := Lib.hid (Hown.out.grow Hbx18.out)
  clear Hbx18
  refine then_go ?_
  repeat with_reducible refine wp_seq ?_
  cases q1 with
  | true =>
    refine wp_cond_true (eval_at f40) ?_
    clear f40
    repeat with_reducible refine wp_seq ?_
    have hWs := Hbw1.out.size
    obtain ⟨u2, W2, hrun, hown2, hg2, hb2⟩ := app_run w.heap.size x18 u acc x HX.out Hown1.out (by have := Hlen.out; omega) hWs CX HCX.out
    obtain ⟨CA, hCA⟩ : ∃ C, C = CX := ⟨_, rfl⟩
    have HfA := HfX
    rw [← hCA] at HfA hrun hg2 hb2
    have hCAs : CA.size = 15 := by rw [hCA]; exact hCXs
    have HCA := Lib.hid hCA
    have Hrun := Lib.hid hrun
    have Hown2 := Lib.hid hown2
    have HG2 := Lib.hid hg2
    have HB0 := Lib.hid (show Below w.heap.size w x18.drew from Hbw1.out.drew)
    have HB1 := Lib.hid (show Below w.heap.size w (x18.drew.alloc (.cells CA 29)) from (Hbw1.out.drew).alloc hWs _)
    have HB2 := Lib.hid (show Below w.heap.size w W2 from HB1.out.trans (hb2 w.heap.size (Nat.le_refl _)))
    clear hrun hown2 hg2 hb2 hCA
    have HrA := Lib.hid (show ∀ z, Below w.heap.size w z → z.rangeAt b1 o1 CA.toList by rw [HCA.out]; exact HrX.out)
    have HinfA := Lib.hid (show (Tryd.prog.info? 29).map (·.size) = some CA.toList.length by rw [HCA.out]; exact HinfCX.out)
    refine wp_region_fix2 (fun s => match s with | 50 => u | 51 => .slice (some ⟨b1, o1, none⟩) n1 c1 | 52 => .pointer (some ⟨b1, o1, none⟩) | 53 => .agg CA | 54 => .slice (some ⟨x18.heap.size, 0, none⟩) 1 1 | 55 => u2 | 56 => .slice (some ⟨b1, o1, none⟩) n1 c1 | 57 => t1 | 5 => u2 | 0 => t1 | _ => undef) (Ch2 4 5 x18.drew (x18.drew.alloc (.cells CA 29)) W2) 83 (by kernel_rfl) (by kernel_rfl) (by kernel_rfl) hsz18h.out Ch2.start ?_ ?_
    · intro i0 o0 hi0 dn a x0 hJ hd hpre hcl hsame hV K hK
      have hlt0 : i0 < 10 := (Array.getElem?_eq_some_iff.1 hi0).1
      rcases (show i0 = 0 ∨ i0 = 1 ∨ i0 = 2 ∨ i0 = 3 ∨ i0 = 4 ∨ i0 = 5 ∨ i0 = 6 ∨ i0 = 7 ∨ i0 = 8 ∨ i0 = 9 by omega) with rfl | rfl | rfl | rfl | rfl | rfl | rfl | rfl | rfl | rfl
      all_goals (have ho0 := Option.some.inj hi0; subst ho0; clear hi0 hlt0)
      · have q5 : a.tmps[5]?.getD undef = u := (hsame 5 (fun j hj => by have hj2 := slot_only (w := 8) (by decide +kernel) j hj; subst hj2; exact Bool.eq_false_iff.2 (fun h => by have h2 := hcl 8 _ rfl h ⟨0, .phase⟩ (by simp) rfl; rw [hd] at h2; cases h2))).trans f5
        have hk := Lib.hid (show ∀ v x', (v = u) → (Ch2 4 5 x18.drew (x18.drew.alloc (.cells CA 29)) W2) (also dn 0) x' → K (a.put (some 50) v) x' from fun v x' h1 h2 => hK v x' (fun s hs => by cases hs; exact h1) h2)
        have hJ2 := Lib.hid hJ
        clear hsame hpre hcl hK hV hJ hd
        go_simp
        exact hk.out _ _ rfl (hJ2.out.more (by decide) (by decide))
      · have q0 : a.tmps[0]?.getD undef = .slice (some ⟨b1, o1, none⟩) n1 c1 := (hsame 0 (fun j hj => by have hj2 := slot_only (w := 9) (by decide +kernel) j hj; subst hj2; exact Bool.eq_false_iff.2 (fun h => by have h2 := hcl 9 _ rfl h ⟨1, .phase⟩ (by simp) rfl; rw [hd] at h2; cases h2))).trans f0
        have hk := Lib.hid (show ∀ v x', (v = .slice (some ⟨b1, o1, none⟩) n1 c1) → (Ch2 4 5 x18.drew (x18.drew.alloc (.cells CA 29)) W2) (also dn 1) x' → K (a.put (some 51) v) x' from fun v x' h1 h2 => hK v x' (fun s hs => by cases hs; exact h1) h2)
        have hJ2 := Lib.hid hJ
        clear hsame hpre hcl hK hV hJ hd
        go_simp
        exact hk.out _ _ rfl (hJ2.out.more (by decide) (by decide))
      · have q51 : a.tmps[51]?.getD undef = .slice (some ⟨b1, o1, none⟩) n1 c1 := hV 1 51 (hpre ⟨1, .data⟩ (by simp) rfl) rfl
        have hk := Lib.hid (show ∀ v x', (v = .pointer (some ⟨b1, o1, none⟩)) → (Ch2 4 5 x18.drew (x18.drew.alloc (.cells CA 29)) W2) (also dn 2) x' → K (a.put (some 52) v) x' from fun v x' h1 h2 => hK v x' (fun s hs => by cases hs; exact h1) h2)
        have hJ2 := Lib.hid hJ
        clear hsame hpre hcl hK hV hJ hd
        go_simp
        exact hk.out _ _ rfl (hJ2.out.more (by decide) (by decide))
      · have q52 : a.tmps[52]?.getD undef = .pointer (some ⟨b1, o1, none⟩) := hV 2 52 (hpre ⟨2, .data⟩ (by simp) rfl) rfl
        have hk := Lib.hid (show ∀ v x', (v = .agg CA) → (Ch2 4 5 x18.drew (x18.drew.alloc (.cells CA 29)) W2) (also dn 3) x' → K (a.put (some 53) v) x' from fun v x' h1 h2 => hK v x' (fun s hs => by cases hs; exact h1) h2)
        have Hbx := Lib.hid (hJ.all (p := fun z => Below w.heap.size w z) HB0.out HB1.out HB2.out)
        have hJ2 := Lib.hid hJ
        clear hsame hpre hcl hK hV hJ hd
        refine wp_load_mid 29 (.tmp 52) rfl b1 o1 (eval_at q52) CA.toList _ (HrA.out _ Hbx.out) Tryd.underlying29 rfl HinfA.out ?_
        exact hk.out _ _ rfl (hJ2.out.more (by decide) (by decide))
      · have q53 : a.tmps[53]?.getD undef = .agg CA := hV 3 53 (hpre ⟨3, .data⟩ (by simp) rfl) rfl
        have hk := Lib.hid (show ∀ v x', (v = .slice (some ⟨x18.heap.size, 0, none⟩) 1 1) → (Ch2 4 5 x18.drew (x18.drew.alloc (.cells CA 29)) W2) (also dn 4) x' → K (a.put (some 54) v) x' from fun v x' h1 h2 => hK v x' (fun s hs => by cases hs; exact h1) h2)
        obtain ⟨rfl, hJ3⟩ := hJ.first hd (by decide)
        have hJ2 := Lib.hid hJ3
        clear hsame hpre hcl hK hV hJ hJ3 hd
        go_simp
        rw [HfA.out]
        exact hk.out _ _ rfl hJ2.out
      · have q50 : a.tmps[50]?.getD undef = u := hV 0 50 (hpre ⟨0, .data⟩ (by simp) rfl) rfl
        have q54 : a.tmps[54]?.getD undef = .slice (some ⟨x18.heap.size, 0, none⟩) 1 1 := hV 4 54 (hpre ⟨4, .data⟩ (by simp) rfl) rfl
        have hk := Lib.hid (show ∀ v x', (v = u2) → (Ch2 4 5 x18.drew (x18.drew.alloc (.cells CA 29)) W2) (also dn 5) x' → K (a.put (some 55) v) x' from fun v x' h1 h2 => hK v x' (fun s hs => by cases hs; exact h1) h2)
        obtain ⟨rfl, hJ3⟩ := hJ.second (hpre ⟨4, .data⟩ (by simp) rfl) hd (by decide)
        refine wp_append (.tmp 50) (.tmp 54) 22 rfl (by rw [eval_at q50, eval_at q54]; exact Hrun.out) ?_
        exact hk.out _ _ rfl hJ3
      · have q0 : a.tmps[0]?.getD undef = .slice (some ⟨b1, o1, none⟩) n1 c1 := (hsame 0 (fun j hj => by have hj2 := slot_only (w := 9) (by decide +kernel) j hj; subst hj2; exact Bool.eq_false_iff.2 (fun h => by have h2 := hcl 9 _ rfl h ⟨6, .phase⟩ (by simp) rfl; rw [hd] at h2; cases h2))).trans f0
        have hk := Lib.hid (show ∀ v x', (v = .slice (some ⟨b1, o1, none⟩) n1 c1) → (Ch2 4 5 x18.drew (x18.drew.alloc (.cells CA 29)) W2) (also dn 6) x' → K (a.put (some 56) v) x' from fun v x' h1 h2 => hK v x' (fun s hs => by cases hs; exact h1) h2)
        have hJ2 := Lib.hid hJ
        clear hsame hpre hcl hK hV hJ hd
        go_simp
        exact hk.out _ _ rfl (hJ2.out.more (by decide) (by decide))
      · have q56 : a.tmps[56]?.getD undef = .slice (some ⟨b1, o1, none⟩) n1 c1 := hV 6 56 (hpre ⟨6, .data⟩ (by simp) rfl) rfl
        have hk := Lib.hid (show ∀ v x', (v = t1) → (Ch2 4 5 x18.drew (x18.drew.alloc (.cells CA 29)) W2) (also dn 7) x' → K (a.put (some 57) v) x' from fun v x' h1 h2 => hK v x' (fun s hs => by cases hs; exact h1) h2)
        have Hbx := Lib.hid (hJ.all (p := fun z => Below w.heap.size w z) HB0.out HB1.out HB2.out)
        have hJ2 := Lib.hid hJ
        clear hsame hpre hcl hK hV hJ hd
        refine wp_tail (.tmp 56) rfl (eval_at q56) HS1.out ?_
        exact hk.out _ _ rfl (hJ2.out.more (by decide) (by decide))
      · have q55 : a.tmps[55]?.getD undef = u2 := hV 5 55 (hpre ⟨5, .data⟩ (by simp) rfl) rfl
        have hk := Lib.hid (show ∀ v x', (v = u2) → (Ch2 4 5 x18.drew (x18.drew.alloc (.cells CA 29)) W2) (also dn 8) x' → K (a.put (some 5) v) x' from fun v x' h1 h2 => hK v x' (fun s hs => by cases hs; exact h1) h2)
        have hJ2 := Lib.hid hJ
        clear hsame hpre hcl hK hV hJ hd
        go_simp
        exact hk.out _ _ rfl (hJ2.out.more (by decide) (by decide))
      · have q57 : a.tmps[57]?.getD undef = t1 := hV 7 57 (hpre ⟨7, .data⟩ (by simp) rfl) rfl
        have hk := Lib.hid (show ∀ v x', (v = t1) → (Ch2 4 5 x18.drew (x18.drew.alloc (.cells CA 29)) W2) (also dn 9) x' → K (a.put (some 0) v) x' from fun v x' h1 h2 => hK v x' (fun s hs => by cases hs; exact h1) h2)
        have hJ2 := Lib.hid hJ
        clear hsame hpre hcl hK hV hJ hd
        go_simp
        exact hk.out _ _ rfl (hJ2.out.more (by decide) (by decide))
    · intro dn a19 x9 hall hJ hsame hV hsz19x hde19x
      have hx9 := hJ.done (hall 5 (by decide))
      subst hx9
      replace f0 : a19.tmps[0]?.getD undef = t1 := hV 9 0 (by decide) rfl
      replace f1 := (hsame 1 (fun j hj => absurd hj (slot_free (by decide +kernel) j))).trans f1
      replace f5 : a19.tmps[5]?.getD undef = u2 := hV 8 5 (by decide) rfl
      have hsz19 := Lib.hid hsz19x
      have hde19 := Lib.hid (hde19x.trans hde18h.out)
      clear hall hJ hsame hV hsz19x hde19x hsz18h hde18h
      repeat first | with_reducible refine block_go ?_ | with_reducible refine then_go ?_
      exact ⟨P2.length + (y :: Q2).length, by rw [Hn0.out]; simp; try omega, P2, (y :: Q2), t1, _, u2, acc ++ [x], hsz19, hde19, f0, f1, f5, HT1, HQ, Hown2, HB2, Lib.hid (by rw [← Hacc.out, join_less HQ1.out.symm]; simp), Lib.hid (by have := Hlen.out; simp at *; omega), rfl⟩
  | false =>
    refine wp_cond_false (eval_at f40) ?_
    clear f40
    repeat with_reducible refine wp_seq ?_
    refine wp_region_goodg (tblG [(59, .slice (some ⟨b2, o2, none⟩) n2 c2), (60, .pointer (some ⟨b2, o2, none⟩)), (61, .pointer (some ⟨b2, o2, none⟩)), (62, .agg IY), (63, .slice (some ⟨b1, o1, none⟩) n1 c1), (64, .pointer (some ⟨b1, o1, none⟩)), (65, .pointer (some ⟨b1, o1, none⟩)), (66, .agg IX), (67, .bool q2), (58, .bool q2)]) 83 (by kernel_rfl) (by kernel_rfl) (by kernel_rfl) (by kernel_rfl) hsz18h.out ?_ ?_ ?_
    · intro t v7 x x' h _ _
      exact h
    · intro i7 o hi7 a x hbx hsame hpre K hK
      have hlt7 : i7 < 10 := (Array.getElem?_eq_some_iff.1 hi7).1
      rcases (show i7 = 0 ∨ i7 = 1 ∨ i7 = 2 ∨ i7 = 3 ∨ i7 = 4 ∨ i7 = 5 ∨ i7 = 6 ∨ i7 = 7 ∨ i7 = 8 ∨ i7 = 9 by omega) with rfl | rfl | rfl | rfl | rfl | rfl | rfl | rfl | rfl | rfl
      all_goals (have ho := Option.some.inj hi7; subst ho; clear hi7 hlt7)
      · have q1 : a.tmps[1]?.getD undef = .slice (some ⟨b2, o2, none⟩) n2 c2 := (hsame 1 (by decide +kernel)).trans f1
        refine step_plain rfl ?_
        have hk := Lib.hid (show ∀ v7 x', v7 = .slice (some ⟨b2, o2, none⟩) n2 c2 → Below x.heap.size x x' → K (a.put (some 59) v7) x' from hK)
        have Hbx := Lib.hid hbx
        clear hsame hpre hK hbx
        go_simp
        exact hk.out _ _ rfl (Below.refl _ _)
      · have q59 : a.tmps[59]?.getD undef = .slice (some ⟨b2, o2, none⟩) n2 c2 := hpre ⟨0, .data⟩ (by simp) rfl (by decide)
        refine step_plain rfl ?_
        have hk := Lib.hid (show ∀ v7 x', v7 = .pointer (some ⟨b2, o2, none⟩) → Below x.heap.size x x' → K (a.put (some 60) v7) x' from hK)
        have Hbx := Lib.hid hbx
        clear hsame hpre hK hbx
        go_simp
        exact hk.out _ _ rfl (Below.refl _ _)
      · have q60 : a.tmps[60]?.getD undef = .pointer (some ⟨b2, o2, none⟩) := hpre ⟨1, .data⟩ (by simp) rfl (by decide)
        refine step_plain rfl ?_
        have hk := Lib.hid (show ∀ v7 x', v7 = .pointer (some ⟨b2, o2, none⟩) → Below x.heap.size x x' → K (a.put (some 61) v7) x' from hK)
        have Hbx := Lib.hid hbx
        clear hsame hpre hK hbx
        go_simp
        exact hk.out _ _ rfl (Below.refl _ _)
      · have q61 : a.tmps[61]?.getD undef = .pointer (some ⟨b2, o2, none⟩) := hpre ⟨2, .data⟩ (by simp) rfl (by decide)
        refine step_plain rfl ?_
        have hk := Lib.hid (show ∀ v7 x', v7 = .agg IY → Below x.heap.size x x' → K (a.put (some 62) v7) x' from hK)
        have Hbx := Lib.hid hbx
        clear hsame hpre hK hbx
        refine wp_load_mid 25 (.tmp 61) rfl b2 o2 (eval_at q61) IY.toList _ (HiY.out _ (below_call Hbw1.out Hbx.out)) Tryd.underlying25 rfl HinfY.out ?_
        exact hk.out _ _ rfl (Below.refl _ _)
      · have q0 : a.tmps[0]?.getD undef = .slice (some ⟨b1, o1, none⟩) n1 c1 := (hsame 0 (by decide +kernel)).trans f0
        refine step_plain rfl ?_
        have hk := Lib.hid (show ∀ v7 x', v7 = .slice (some ⟨b1, o1, none⟩) n1 c1 → Below x.heap.size x x' → K (a.put (some 63) v7) x' from hK)
        have Hbx := Lib.hid hbx
        clear hsame hpre hK hbx
        go_simp
        exact hk.out _ _ rfl (Below.refl _ _)
      · have q63 : a.tmps[63]?.getD undef = .slice (some ⟨b1, o1, none⟩) n1 c1 := hpre ⟨4, .data⟩ (by simp) rfl (by decide)
        refine step_plain rfl ?_
        have hk := Lib.hid (show ∀ v7 x', v7 = .pointer (some ⟨b1, o1, none⟩) → Below x.heap.size x x' → K (a.put (some 64) v7) x' from hK)
        have Hbx := Lib.hid hbx
        clear hsame hpre hK hbx
        go_simp
        exact hk.out _ _ rfl (Below.refl _ _)
      · have q64 : a.tmps[64]?.getD undef = .pointer (some ⟨b1, o1, none⟩) := hpre ⟨5, .data⟩ (by simp) rfl (by decide)
        refine step_plain rfl ?_
        have hk := Lib.hid (show ∀ v7 x', v7 = .pointer (some ⟨b1, o1, none⟩) → Below x.heap.size x x' → K (a.put (some 65) v7) x' from hK)
        have Hbx := Lib.hid hbx
        clear hsame hpre hK hbx
        go_simp
        exact hk.out _ _ rfl (Below.refl _ _)
      · have q65 : a.tmps[65]?.getD undef = .pointer (some ⟨b1, o1, none⟩) := hpre ⟨6, .data⟩ (by simp) rfl (by decide)
        refine step_plain rfl ?_
        have hk := Lib.hid (show ∀ v7 x', v7 = .agg IX → Below x.heap.size x x' → K (a.put (some 66) v7) x' from hK)
        have Hbx := Lib.hid hbx
        clear hsame hpre hK hbx
        refine wp_load_mid 25 (.tmp 65) rfl b1 o1 (eval_at q65) IX.toList _ (HiX.out _ (below_call Hbw1.out Hbx.out)) Tryd.underlying25 rfl HinfX.out ?_
        exact hk.out _ _ rfl (Below.refl _ _)
      · have q62 : a.tmps[62]?.getD undef = .agg IY := hpre ⟨3, .data⟩ (by simp) rfl (by decide)
        have q66 : a.tmps[66]?.getD undef = .agg IX := hpre ⟨7, .data⟩ (by simp) rfl (by decide)
        refine step_plain rfl ?_
        have hk := Lib.hid (show ∀ v7 x', v7 = .bool q2 → Below x.heap.size x x' → K (a.put (some 67) v7) x' from hK)
        have Hbx := Lib.hid hbx
        clear hsame hpre hK hbx
        go_simp
        refine (HL2.out _).mono ?_
        rintro e7 w7 ⟨rfl, hb7⟩
        go_simp
        exact hk.out _ _ rfl hb7
      · have q67 : a.tmps[67]?.getD undef = .bool q2 := hpre ⟨8, .data⟩ (by simp) rfl (by decide)
        refine step_plain rfl ?_
        have hk := Lib.hid (show ∀ v7 x', v7 = .bool q2 → Below x.heap.size x x' → K (a.put (some 58) v7) x' from hK)
        have Hbx := Lib.hid hbx
        clear hsame hpre hK hbx
        go_simp
        exact hk.out _ _ rfl (Below.refl _ _)
    intro a19 x19 hbx hsame hG hsz19 hde19
    replace f0 := (hsame 0 (by decide +kernel)).trans f0
    replace f1 := (hsame 1 (by decide +kernel)).trans f1
    replace f5 := (hsame 5 (by decide +kernel)).trans f5
    have f58 : a19.tmps[58]?.getD undef = .bool q2 := hG 9 (by decide)
    have Hbx19 := Lib.hid hbx
    have hsz19h := Lib.hid hsz19
    have hde19h := Lib.hid (hde19.trans hde18h.out)
    clear hsame hG hbx hsz19 hde19 hsz18h hde18h
    have Hbw2 := Lib.hid (below_call Hbw1.out Hbx19.out)
    have Hown2a := Lib.hid (Hown1.out.grow Hbx19.out)
    clear Hbx19 Hbw1 Hown1
    refine then_go ?_
    repeat with_reducible refine wp_seq ?_
    cases q2 with
    | true =>
      refine wp_cond_true (eval_at f58) ?_
      clear f58
      repeat with_reducible refine wp_seq ?_
      have hWs := Hbw2.out.size
      obtain ⟨u2, W2, hrun, hown2, hg2, hb2⟩ := app_run w.heap.size x19 u acc y HY.out Hown2a.out (by have := Hlen.out; omega) hWs CY HCY.out
      obtain ⟨CA, hCA⟩ : ∃ C, C = CY := ⟨_, rfl⟩
      have HfA := HfY
      rw [← hCA] at HfA hrun hg2 hb2
      have hCAs : CA.size = 15 := by rw [hCA]; exact hCYs
      have HCA := Lib.hid hCA
      have Hrun := Lib.hid hrun
      have Hown2 := Lib.hid hown2
      have HG2 := Lib.hid hg2
      have HB0 := Lib.hid (show Below w.heap.size w x19.drew from Hbw2.out.drew)
      have HB1 := Lib.hid (show Below w.heap.size w (x19.drew.alloc (.cells CA 29)) from (Hbw2.out.drew).alloc hWs _)
      have HB2 := Lib.hid (show Below w.heap.size w W2 from HB1.out.trans (hb2 w.heap.size (Nat.le_refl _)))
      clear hrun hown2 hg2 hb2 hCA
      have HrA := Lib.hid (show ∀ z, Below w.heap.size w z → z.rangeAt b2 o2 CA.toList by rw [HCA.out]; exact HrY.out)
      have HinfA := Lib.hid (show (Tryd.prog.info? 29).map (·.size) = some CA.toList.length by rw [HCA.out]; exact HinfCY.out)
      refine wp_region_fix2 (fun s => match s with | 68 => u | 69 => .slice (some ⟨b2, o2, none⟩) n2 c2 | 70 => .pointer (some ⟨b2, o2, none⟩) | 71 => .agg CA | 72 => .slice (some ⟨x19.heap.size, 0, none⟩) 1 1 | 73 => u2 | 74 => .slice (some ⟨b2, o2, none⟩) n2 c2 | 75 => t2 | 5 => u2 | 1 => t2 | _ => undef) (Ch2 4 5 x19.drew (x19.drew.alloc (.cells CA 29)) W2) 83 (by kernel_rfl) (by kernel_rfl) (by kernel_rfl) hsz19h.out Ch2.start ?_ ?_
      · intro i0 o0 hi0 dn a x0 hJ hd hpre hcl hsame hV K hK
        have hlt0 : i0 < 10 := (Array.getElem?_eq_some_iff.1 hi0).1
        rcases (show i0 = 0 ∨ i0 = 1 ∨ i0 = 2 ∨ i0 = 3 ∨ i0 = 4 ∨ i0 = 5 ∨ i0 = 6 ∨ i0 = 7 ∨ i0 = 8 ∨ i0 = 9 by omega) with rfl | rfl | rfl | rfl | rfl | rfl | rfl | rfl | rfl | rfl
        all_goals (have ho0 := Option.some.inj hi0; subst ho0; clear hi0 hlt0)
        · have q5 : a.tmps[5]?.getD undef = u := (hsame 5 (fun j hj => by have hj2 := slot_only (w := 8) (by decide +kernel) j hj; subst hj2; exact Bool.eq_false_iff.2 (fun h => by have h2 := hcl 8 _ rfl h ⟨0, .phase⟩ (by simp) rfl; rw [hd] at h2; cases h2))).trans f5
          have hk := Lib.hid (show ∀ v x', (v = u) → (Ch2 4 5 x19.drew (x19.drew.alloc (.cells CA 29)) W2) (also dn 0) x' → K (a.put (some 68) v) x' from fun v x' h1 h2 => hK v x' (fun s hs => by cases hs; exact h1) h2)
          have hJ2 := Lib.hid hJ
          clear hsame hpre hcl hK hV hJ hd
          go_simp
          exact hk.out _ _ rfl (hJ2.out.more (by decide) (by decide))
        · have q1 : a.tmps[1]?.getD undef = .slice (some ⟨b2, o2, none⟩) n2 c2 := (hsame 1 (fun j hj => by have hj2 := slot_only (w := 9) (by decide +kernel) j hj; subst hj2; exact Bool.eq_false_iff.2 (fun h => by have h2 := hcl 9 _ rfl h ⟨1, .phase⟩ (by simp) rfl; rw [hd] at h2; cases h2))).trans f1
          have hk := Lib.hid (show ∀ v x', (v = .slice (some ⟨b2, o2, none⟩) n2 c2) → (Ch2 4 5 x19.drew (x19.drew.alloc (.cells CA 29)) W2) (also dn 1) x' → K (a.put (some 69) v) x' from fun v x' h1 h2 => hK v x' (fun s hs => by cases hs; exact h1) h2)
          have hJ2 := Lib.hid hJ
          clear hsame hpre hcl hK hV hJ hd
          go_simp
          exact hk.out _ _ rfl (hJ2.out.more (by decide) (by decide))
        · have q69 : a.tmps[69]?.getD undef = .slice (some ⟨b2, o2, none⟩) n2 c2 := hV 1 69 (hpre ⟨1, .data⟩ (by simp) rfl) rfl
          have hk := Lib.hid (show ∀ v x', (v = .pointer (some ⟨b2, o2, none⟩)) → (Ch2 4 5 x19.drew (x19.drew.alloc (.cells CA 29)) W2) (also dn 2) x' → K (a.put (some 70) v) x' from fun v x' h1 h2 => hK v x' (fun s hs => by cases hs; exact h1) h2)
          have hJ2 := Lib.hid hJ
          clear hsame hpre hcl hK hV hJ hd
          go_simp
          exact hk.out _ _ rfl (hJ2.out.more (by decide) (by decide))
        · have q70 : a.tmps[70]?.getD undef = .pointer (some ⟨b2, o2, none⟩) := hV 2 70 (hpre ⟨2, .data⟩ (by simp) rfl) rfl
          have hk := Lib.hid (show ∀ v x', (v = .agg CA) → (Ch2 4 5 x19.drew (x19.drew.alloc (.cells CA 29)) W2) (also dn 3) x' → K (a.put (some 71) v) x' from fun v x' h1 h2 => hK v x' (fun s hs => by cases hs; exact h1) h2)
          have Hbx := Lib.hid (hJ.all (p := fun z => Below w.heap.size w z) HB0.out HB1.out HB2.out)
          have hJ2 := Lib.hid hJ
          clear hsame hpre hcl hK hV hJ hd
          refine wp_load_mid 29 (.tmp 70) rfl b2 o2 (eval_at q70) CA.toList _ (HrA.out _ Hbx.out) Tryd.underlying29 rfl HinfA.out ?_
          exact hk.out _ _ rfl (hJ2.out.more (by decide) (by decide))
        · have q71 : a.tmps[71]?.getD undef = .agg CA := hV 3 71 (hpre ⟨3, .data⟩ (by simp) rfl) rfl
          have hk := Lib.hid (show ∀ v x', (v = .slice (some ⟨x19.heap.size, 0, none⟩) 1 1) → (Ch2 4 5 x19.drew (x19.drew.alloc (.cells CA 29)) W2) (also dn 4) x' → K (a.put (some 72) v) x' from fun v x' h1 h2 => hK v x' (fun s hs => by cases hs; exact h1) h2)
          obtain ⟨rfl, hJ3⟩ := hJ.first hd (by decide)
          have hJ2 := Lib.hid hJ3
          clear hsame hpre hcl hK hV hJ hJ3 hd
          go_simp
          rw [HfA.out]
          exact hk.out _ _ rfl hJ2.out
        · have q68 : a.tmps[68]?.getD undef = u := hV 0 68 (hpre ⟨0, .data⟩ (by simp) rfl) rfl
          have q72 : a.tmps[72]?.getD undef = .slice (some ⟨x19.heap.size, 0, none⟩) 1 1 := hV 4 72 (hpre ⟨4, .data⟩ (by simp) rfl) rfl
          have hk := Lib.hid (show ∀ v x', (v = u2) → (Ch2 4 5 x19.drew (x19.drew.alloc (.cells CA 29)) W2) (also dn 5) x' → K (a.put (some 73) v) x' from fun v x' h1 h2 => hK v x' (fun s hs => by cases hs; exact h1) h2)
          obtain ⟨rfl, hJ3⟩ := hJ.second (hpre ⟨4, .data⟩ (by simp) rfl) hd (by decide)
          refine wp_append (.tmp 68) (.tmp 72) 22 rfl (by rw [eval_at q68, eval_at q72]; exact Hrun.out) ?_
          exact hk.out _ _ rfl hJ3
        · have q1 : a.tmps[1]?.getD undef = .slice (some ⟨b2, o2, none⟩) n2 c2 := (hsame 1 (fun j hj => by have hj2 := slot_only (w := 9) (by decide +kernel) j hj; subst hj2; exact Bool.eq_false_iff.2 (fun h => by have h2 := hcl 9 _ rfl h ⟨6, .phase⟩ (by simp) rfl; rw [hd] at h2; cases h2))).trans f1
          have hk := Lib.hid (show ∀ v x', (v = .slice (some ⟨b2, o2, none⟩) n2 c2) → (Ch2 4 5 x19.drew (x19.drew.alloc (.cells CA 29)) W2) (also dn 6) x' → K (a.put (some 74) v) x' from fun v x' h1 h2 => hK v x' (fun s hs => by cases hs; exact h1) h2)
          have hJ2 := Lib.hid hJ
          clear hsame hpre hcl hK hV hJ hd
          go_simp
          exact hk.out _ _ rfl (hJ2.out.more (by decide) (by decide))
        · have q74 : a.tmps[74]?.getD undef = .slice (some ⟨b2, o2, none⟩) n2 c2 := hV 6 74 (hpre ⟨6, .data⟩ (by simp) rfl) rfl
          have hk := Lib.hid (show ∀ v x', (v = t2) → (Ch2 4 5 x19.drew (x19.drew.alloc (.cells CA 29)) W2) (also dn 7) x' → K (a.put (some 75) v) x' from fun v x' h1 h2 => hK v x' (fun s hs => by cases hs; exact h1) h2)
          have Hbx := Lib.hid (hJ.all (p := fun z => Below w.heap.size w z) HB0.out HB1.out HB2.out)
          have hJ2 := Lib.hid hJ
          clear hsame hpre hcl hK hV hJ hd
          refine wp_tail (.tmp 74) rfl (eval_at q74) HS2.out ?_
          exact hk.out _ _ rfl (hJ2.out.more (by decide) (by decide))
        · have q73 : a.tmps[73]?.getD undef = u2 := hV 5 73 (hpre ⟨5, .data⟩ (by simp) rfl) rfl
          have hk := Lib.hid (show ∀ v x', (v = u2) → (Ch2 4 5 x19.drew (x19.drew.alloc (.cells CA 29)) W2) (also dn 8) x' → K (a.put (some 5) v) x' from fun v x' h1 h2 => hK v x' (fun s hs => by cases hs; exact h1) h2)
          have hJ2 := Lib.hid hJ
          clear hsame hpre hcl hK hV hJ hd
          go_simp
          exact hk.out _ _ rfl (hJ2.out.more (by decide) (by decide))
        · have q75 : a.tmps[75]?.getD undef = t2 := hV 7 75 (hpre ⟨7, .data⟩ (by simp) rfl) rfl
          have hk := Lib.hid (show ∀ v x', (v = t2) → (Ch2 4 5 x19.drew (x19.drew.alloc (.cells CA 29)) W2) (also dn 9) x' → K (a.put (some 1) v) x' from fun v x' h1 h2 => hK v x' (fun s hs => by cases hs; exact h1) h2)
          have hJ2 := Lib.hid hJ
          clear hsame hpre hcl hK hV hJ hd
          go_simp
          exact hk.out _ _ rfl (hJ2.out.more (by decide) (by decide))
      · intro dn a20 x9 hall hJ hsame hV hsz20x hde20x
        have hx9 := hJ.done (hall 5 (by decide))
        subst hx9
        replace f0 := (hsame 0 (fun j hj => absurd hj (slot_free (by decide +kernel) j))).trans f0
        replace f1 : a20.tmps[1]?.getD undef = t2 := hV 9 1 (by decide) rfl
        replace f5 : a20.tmps[5]?.getD undef = u2 := hV 8 5 (by decide) rfl
        have hsz20 := Lib.hid hsz20x
        have hde20 := Lib.hid (hde20x.trans hde19h.out)
        clear hall hJ hsame hV hsz20x hde20x hsz19h hde19h
        repeat first | with_reducible refine block_go ?_ | with_reducible refine then_go ?_
        exact ⟨(x :: P2).length + Q2.length, by rw [Hn0.out]; simp; try omega, (x :: P2), Q2, _, t2, u2, acc ++ [y], hsz20, hde20, f0, f1, f5, HP, HT2, Hown2, HB2, Lib.hid (by rw [← Hacc.out, join_more HQ1.out.symm HQ2.out.symm]; simp), Lib.hid (by have := Hlen.out; simp at *; omega), rfl⟩
    | false =>
      refine wp_cond_false (eval_at f58) ?_
      clear f58
      repeat with_reducible refine wp_seq ?_
      have HinfCL := HinfCX
      have HinfC := Lib.hid (show (Tryd.prog.info? 29).map (·.size) = some CX.size by rw [hCXs]; exact ent_info)
      have HoneC := Lib.hid (show CX.all (·.oneCell') = true by rw [HCX.out]; exact entC_one x)
      refine wp_region_lit ?_
      refine wpList_next rfl hsz19h hde19h 21 rfl (by decide) fun K hK => ?_
      go_simp
      refine hK _ _ fun a20 hsz20 hde20 f21 hk => ?_
      clear hK K
      replace f0 := (hk 0 (by decide)).trans f0
      replace f1 := (hk 1 (by decide)).trans f1
      replace f5 := (hk 5 (by decide)).trans f5
      replace f21 : a20.tmps[21]?.getD undef = .slice (some ⟨b1, o1, none⟩) n1 c1 := f21
      clear hk hsz19h hde19h
      refine wpList_next rfl hsz20 hde20 22 rfl (by decide) fun K hK => ?_
      go_simp
      refine hK _ _ fun a21 hsz21 hde21 f22 hk => ?_
      clear hK K
      replace f0 := (hk 0 (by decide)).trans f0
      replace f1 := (hk 1 (by decide)).trans f1
      replace f5 := (hk 5 (by decide)).trans f5
      replace f22 : a21.tmps[22]?.getD undef = .pointer (some ⟨b1, o1, none⟩) := f22
      clear hk hsz20 hde20 f21
      refine wpList_next rfl hsz21 hde21 23 rfl (by decide) fun K hK => ?_
      refine wp_load_mid 29 (.tmp 22) rfl b1 o1 (eval_at f22) CX.toList _ (HrX.out _ Hbw2.out) Tryd.underlying29 rfl HinfCX.out ?_
      refine hK _ _ fun a22 hsz22 hde22 f23 hk => ?_
      clear hK K
      replace f0 := (hk 0 (by decide)).trans f0
      replace f1 := (hk 1 (by decide)).trans f1
      replace f5 := (hk 5 (by decide)).trans f5
      replace f23 : a22.tmps[23]?.getD undef = .agg CX := f23
      clear hk hsz21 hde21 f22
      refine wpList_next rfl hsz22 hde22 6 rfl (by decide) fun K hK => ?_
      go_simp
      refine hK _ _ fun a23 hsz23 hde23 f6 hk => ?_
      clear hK K
      replace f0 := (hk 0 (by decide)).trans f0
      replace f1 := (hk 1 (by decide)).trans f1
      replace f5 := (hk 5 (by decide)).trans f5
      replace f23 := (hk 23 (by decide)).trans f23
      replace f6 : a23.tmps[6]?.getD undef = .pointer (some ⟨x19.heap.size, 0, none⟩) := f6
      clear hk hsz22 hde22
      refine wpList_next0 rfl rfl fun K hK => ?_
      refine wp_store_new 29 (.tmp 6) (.tmp 23) rfl zeroE CX (eval_at f6) (eval_at f23) HinfC.out (by rw [hCXs]; rfl) HoneC.out ?_
      refine hK undef _ ?_
      clear hK K
      clear f23
      refine wpList_nil ?_
      obtain ⟨p, hp⟩ : ∃ p, p = x19.heap.size := ⟨_, rfl⟩
      obtain ⟨wa, hwa⟩ : ∃ wa, wa = x19.alloc (.cells CX 29) := ⟨_, rfl⟩
      have HPw := Lib.hid (show w.heap.size ≤ p by rw [hp]; exact Hbw2.out.size)
      have HPb := Lib.hid (show Blk wa p 29 CX by rw [hwa, hp]; exact Blk.new _ _ _)
      have HPo := Lib.hid (show OwnE wa w.heap.size u acc by rw [hwa]; exact ⟨OwnK.alloc Hown2a.out.1 _, Hown2a.out.2⟩)
      have HPl := Lib.hid (show Below w.heap.size w wa by rw [hwa]; exact Hbw2.out.alloc Hbw2.out.size _)
      have HPn := Lib.hid (show ∀ g, u.ownBlock = some g → g ≠ p from fun g hg => by have := (Hown2a.out.lt g hg).2; omega)
      rw [← hwa]
      rw [← hp] at f6
      clear hwa hp
      refine then_go ?_
      repeat with_reducible refine wp_seq ?_
      obtain ⟨AX, hAX⟩ : ∃ A, A = av x.by_ := ⟨_, rfl⟩
      obtain ⟨AY, hAY⟩ : ∃ A, A = av y.by_ := ⟨_, rfl⟩
      obtain ⟨AZ, hAZ⟩ : ∃ A, A = av (joinV x.by_ y.by_) := ⟨_, rfl⟩
      obtain ⟨CZ, hCZ⟩ : ∃ C, C = entC (meltE x y) := ⟨_, rfl⟩
      have hjn := fun z => join_any x.by_ y.by_ z
      unfold vv at hjn
      rw [← hAX, ← hAY, ← hAZ] at hjn
      have Hjn := Lib.hid hjn
      have HrA1 := Lib.hid (show ∀ z, Blk z p 29 CX → z.rangeAt p 7 AX.toList from fun z hz => by rw [HCX.out] at hz; rw [hAX]; have h := hz.ent.by_; rw [Nat.zero_add] at h; exact h)
      have HrA2 := Lib.hid (show ∀ z, Below w.heap.size w z → z.rangeAt b2 (o2 + 7) AY.toList from fun z hz => by rw [hAY]; exact (entCells (range_ext H2c.out.1 hz)).by_)
      have HthA := Lib.hid (show ∀ z, Blk z p 29 CX → z.there p 7 8 from fun z hz => by rw [HCX.out] at hz; exact Blk.there (cs := (entC x).toList) hz 7 8 (show 7 + 8 ≤ 15 by omega))
      have HstA := Lib.hid (show ∀ z, Blk z p 29 CX → Blk (z.setCells p 7 AZ.toList) p 29 CZ from fun z hz => by
        rw [HCX.out] at hz
        have h := Blk.setCells AZ.toList 7 z (entC x).toList hz (by rw [hAZ]; exact Nat.le_refl _)
        have e : (splice (entC x).toList 7 AZ.toList).toArray = CZ := by rw [hCZ, hAZ]; rfl
        rw [e] at h; exact h)
      have HAZs := Lib.hid (show AZ.size = 8 by rw [hAZ]; rfl)
      have HAZ1 := Lib.hid (show AZ.all (·.oneCell') = true by rw [hAZ]; exact av_one _)
      have HinfA1 := Lib.hid (show (Tryd.prog.info? 27).map (·.size) = some AX.toList.length by rw [hAX]; exact vec_info)
      have HinfA2 := Lib.hid (show (Tryd.prog.info? 27).map (·.size) = some AY.toList.length by rw [hAY]; exact vec_info)
      have HinfA3 := Lib.hid (show (Tryd.prog.info? 27).map (·.size) = some AZ.size by rw [hAZ]; exact vec_info)
      have hfz := fold_ent (meltE x y)
      rw [← hCZ] at hfz
      have HfZ := Lib.hid hfz
      have hCZs : CZ.size = 15 := by rw [hCZ]; rfl
      have HCZ := Lib.hid hCZ
      have HinfCZ := Lib.hid (show (Tryd.prog.info? 29).map (·.size) = some CZ.toList.length by rw [hCZ]; exact ent_info)
      have HJ0 := Lib.hid (show MeltJ w u acc p CX CZ (fun _ => false) wa.drew from (show MeltJ w u acc p CX CZ (fun _ => false) wa from ⟨fun _ => HPb.out, fun h => (by cases h), fun h => (by cases h), HPo.out, HPl.out⟩).drew)
      clear hAX hAY hAZ hCZ hjn hfz HPb HPo HPl Hbw2 Hown2a
      refine wp_region_fix (fun t => match t with | 24 => .pointer (some ⟨p, 7, none⟩) | 25 => .agg AX | 26 => .slice (some ⟨b2, o2, none⟩) n2 c2 | 27 => .pointer (some ⟨b2, o2, none⟩) | 28 => .pointer (some ⟨b2, o2 + 7, none⟩) | 29 => .agg AY | 30 => .agg AZ | 31 => .pointer (some ⟨p, 7, none⟩) | _ => undef) (MeltJ w u acc p CX CZ) 83 (by kernel_rfl) (by kernel_rfl) (by kernel_rfl) hsz23.out HJ0.out ?_ ?_
      · intro i0 o0 hi0 dn a x0 hJ hd hpre hsame hV K hK
        have hlt0 : i0 < 9 := (Array.getElem?_eq_some_iff.1 hi0).1
        rcases (show i0 = 0 ∨ i0 = 1 ∨ i0 = 2 ∨ i0 = 3 ∨ i0 = 4 ∨ i0 = 5 ∨ i0 = 6 ∨ i0 = 7 ∨ i0 = 8 by omega) with rfl | rfl | rfl | rfl | rfl | rfl | rfl | rfl | rfl
        all_goals (have ho0 := Option.some.inj hi0; subst ho0; clear hi0 hlt0)
        · have q6 : a.tmps[6]?.getD undef = .pointer (some ⟨p, 0, none⟩) := (hsame 6 (slot_free (by decide +kernel))).trans f6
          have hk := Lib.hid (show ∀ v x', (v = .pointer (some ⟨p, 7, none⟩)) → (MeltJ w u acc p CX CZ) (also dn 0) x' → K (a.put (some 24) v) x' from fun v x' h1 h2 => hK v x' (fun s hs => by cases hs; exact h1) h2)
          have hJ2 := Lib.hid hJ
          clear hsame hpre hK hV hJ hd
          go_simp
          exact hk.out _ _ rfl (hJ2.out.more (by decide) (fun h => also_up (hJ2.out.ord h)))
        · have q24 : a.tmps[24]?.getD undef = .pointer (some ⟨p, 7, none⟩) := hV 0 24 (hpre ⟨0, .data⟩ (by simp) rfl) rfl
          have hk := Lib.hid (show ∀ v x', (v = .agg AX) → (MeltJ w u acc p CX CZ) (also dn 1) x' → K (a.put (some 25) v) x' from fun v x' h1 h2 => hK v x' (fun s hs => by cases hs; exact h1) h2)
          have hJ2 := Lib.hid hJ
          have hbk := hJ.before (hJ.ord1 hd)
          refine wp_load_mid 27 (.tmp 24) rfl p 7 (eval_at q24) AX.toList _ (HrA1.out _ hbk) Tryd.underlying27 rfl HinfA1.out ?_
          exact hk.out _ _ rfl (hJ2.out.more (by decide) (fun h => also_same 1))
        · have q1 : a.tmps[1]?.getD undef = .slice (some ⟨b2, o2, none⟩) n2 c2 := (hsame 1 (slot_free (by decide +kernel))).trans f1
          have hk := Lib.hid (show ∀ v x', (v = .slice (some ⟨b2, o2, none⟩) n2 c2) → (MeltJ w u acc p CX CZ) (also dn 2) x' → K (a.put (some 26) v) x' from fun v x' h1 h2 => hK v x' (fun s hs => by cases hs; exact h1) h2)
          have hJ2 := Lib.hid hJ
          clear hsame hpre hK hV hJ hd
          go_simp
          exact hk.out _ _ rfl (hJ2.out.more (by decide) (fun h => also_up (hJ2.out.ord h)))
        · have q26 : a.tmps[26]?.getD undef = .slice (some ⟨b2, o2, none⟩) n2 c2 := hV 2 26 (hpre ⟨2, .data⟩ (by simp) rfl) rfl
          have hk := Lib.hid (show ∀ v x', (v = .pointer (some ⟨b2, o2, none⟩)) → (MeltJ w u acc p CX CZ) (also dn 3) x' → K (a.put (some 27) v) x' from fun v x' h1 h2 => hK v x' (fun s hs => by cases hs; exact h1) h2)
          have hJ2 := Lib.hid hJ
          clear hsame hpre hK hV hJ hd
          go_simp
          exact hk.out _ _ rfl (hJ2.out.more (by decide) (fun h => also_up (hJ2.out.ord h)))
        · have q27 : a.tmps[27]?.getD undef = .pointer (some ⟨b2, o2, none⟩) := hV 3 27 (hpre ⟨3, .data⟩ (by simp) rfl) rfl
          have hk := Lib.hid (show ∀ v x', (v = .pointer (some ⟨b2, o2 + 7, none⟩)) → (MeltJ w u acc p CX CZ) (also dn 4) x' → K (a.put (some 28) v) x' from fun v x' h1 h2 => hK v x' (fun s hs => by cases hs; exact h1) h2)
          have hJ2 := Lib.hid hJ
          clear hsame hpre hK hV hJ hd
          go_simp
          exact hk.out _ _ rfl (hJ2.out.more (by decide) (fun h => also_up (hJ2.out.ord h)))
        · have q28 : a.tmps[28]?.getD undef = .pointer (some ⟨b2, o2 + 7, none⟩) := hV 4 28 (hpre ⟨4, .data⟩ (by simp) rfl) rfl
          have hk := Lib.hid (show ∀ v x', (v = .agg AY) → (MeltJ w u acc p CX CZ) (also dn 5) x' → K (a.put (some 29) v) x' from fun v x' h1 h2 => hK v x' (fun s hs => by cases hs; exact h1) h2)
          have hJ2 := Lib.hid hJ
          refine wp_load_mid 27 (.tmp 28) rfl b2 (o2 + 7) (eval_at q28) AY.toList _ (HrA2.out _ hJ.below) Tryd.underlying27 rfl HinfA2.out ?_
          exact hk.out _ _ rfl (hJ2.out.more (by decide) (fun h => also_up (hJ2.out.ord h)))
        · have q25 : a.tmps[25]?.getD undef = .agg AX := hV 1 25 (hpre ⟨1, .data⟩ (by simp) rfl) rfl
          have q29 : a.tmps[29]?.getD undef = .agg AY := hV 5 29 (hpre ⟨5, .data⟩ (by simp) rfl) rfl
          have hk := Lib.hid (show ∀ v x', (v = .agg AZ) → (MeltJ w u acc p CX CZ) (also dn 6) x' → K (a.put (some 30) v) x' from fun v x' h1 h2 => hK v x' (fun s hs => by cases hs; exact h1) h2)
          have hJ2 := Lib.hid hJ
          clear hsame hpre hK hV hJ hd
          go_simp
          refine (Hjn.out _).mono ?_
          rintro e7 w7 ⟨rfl, hb7⟩
          go_simp
          exact hk.out _ _ rfl ((hJ2.out.call hb7).more (by decide) (fun h => also_up (hJ2.out.ord h)))
        · have q6 : a.tmps[6]?.getD undef = .pointer (some ⟨p, 0, none⟩) := (hsame 6 (slot_free (by decide +kernel))).trans f6
          have hk := Lib.hid (show ∀ v x', (v = .pointer (some ⟨p, 7, none⟩)) → (MeltJ w u acc p CX CZ) (also dn 7) x' → K (a.put (some 31) v) x' from fun v x' h1 h2 => hK v x' (fun s hs => by cases hs; exact h1) h2)
          have hJ2 := Lib.hid hJ
          clear hsame hpre hK hV hJ hd
          go_simp
          exact hk.out _ _ rfl (hJ2.out.more (by decide) (fun h => also_up (hJ2.out.ord h)))
        · have q31 : a.tmps[31]?.getD undef = .pointer (some ⟨p, 7, none⟩) := hV 7 31 (hpre ⟨7, .data⟩ (by simp) rfl) rfl
          have q30 : a.tmps[30]?.getD undef = .agg AZ := hV 6 30 (hpre ⟨6, .data⟩ (by simp) rfl) rfl
          have hk := Lib.hid (show ∀ v x', (MeltJ w u acc p CX CZ) (also dn 8) x' → K (a.put none v) x' from fun v x' h2 => hK v x' (fun s hs => by cases hs) h2)
          have hJ2 := Lib.hid hJ
          have h1 := hpre ⟨1, .phase⟩ (by simp) rfl
          have hbk := hJ.before hd
          refine wp_store_mid 27 (.tmp 31) (.tmp 30) rfl p 7 AZ (eval_at q31) (eval_at q30) (by rw [HAZs.out]; exact HthA.out _ hbk) HinfA3.out HAZ1.out ?_
          exact hk.out _ _ (hJ2.out.stored h1 (HstA.out _ hbk) HPw.out HPn.out)
      · intro dn a24 x5 hall hJ hsame _ hsz24x hde24x
        replace f0 := (hsame 0 (slot_free (by decide +kernel))).trans f0
        replace f1 := (hsame 1 (slot_free (by decide +kernel))).trans f1
        replace f5 := (hsame 5 (slot_free (by decide +kernel))).trans f5
        replace f6 := (hsame 6 (slot_free (by decide +kernel))).trans f6
        have HZb := Lib.hid (hJ.after (hall 8 (by decide)))
        have HZo := Lib.hid hJ.own
        have HZl := Lib.hid hJ.below
        have hsz24 := Lib.hid hsz24x
        have hde24 := Lib.hid (hde24x.trans hde23.out)
        clear hall hJ hsame hsz24x hde24x hsz23 hde23 HJ0
        refine then_go ?_
        repeat with_reducible refine wp_seq ?_
        have hWs := HZl.out.size
        obtain ⟨u2, W2, hrun, hown2, hg2, hb2⟩ := app_run w.heap.size x5 u acc (meltE x y) (melt_ok HX.out HY.out) HZo.out (by have := Hlen.out; omega) hWs CZ HCZ.out
        obtain ⟨CA, hCA⟩ : ∃ C, C = CZ := ⟨_, rfl⟩
        have HfA := HfZ
        rw [← hCA] at HfA hrun hg2 hb2
        have hCAs : CA.size = 15 := by rw [hCA]; exact hCZs
        have HCA := Lib.hid hCA
        have Hrun := Lib.hid hrun
        have Hown2 := Lib.hid hown2
        have HG2 := Lib.hid hg2
        have HB0 := Lib.hid (show Below w.heap.size w x5.drew from HZl.out.drew)
        have HB1 := Lib.hid (show Below w.heap.size w (x5.drew.alloc (.cells CA 29)) from (HZl.out.drew).alloc hWs _)
        have HB2 := Lib.hid (show Below w.heap.size w W2 from HB1.out.trans (hb2 w.heap.size (Nat.le_refl _)))
        clear hrun hown2 hg2 hb2 hCA
        have HZ0 := Lib.hid (show World.rangeAt x5.drew p 0 CA.toList from (show Blk x5.drew p 29 CA by rw [HCA.out]; exact HZb.out.drew).range 0 CA.toList fun j u hu => by rw [Nat.zero_add, ← Array.getElem?_toList]; exact hu)
        have hz1 : Blk (x5.drew.alloc (.cells CA 29)) p 29 CA := (show Blk x5.drew p 29 CA by rw [HCA.out]; exact HZb.out.drew).alloc _
        have hz2 : Blk W2 p 29 CA := hz1.grown HG2.out (fun e => HPn.out p e rfl)
        have HZ1 := Lib.hid (hz1.range 0 CA.toList fun j u hu => by rw [Nat.zero_add, ← Array.getElem?_toList]; exact hu)
        have HZ2 := Lib.hid (hz2.range 0 CA.toList fun j u hu => by rw [Nat.zero_add, ← Array.getElem?_toList]; exact hu)
        have HinfA := Lib.hid (show (Tryd.prog.info? 29).map (·.size) = some CA.toList.length by rw [HCA.out]; exact HinfCZ.out)
        clear hz1 hz2
        refine wp_region_fix2 (fun s => match s with | 32 => u | 33 => .agg CA | 34 => .slice (some ⟨x5.heap.size, 0, none⟩) 1 1 | 35 => u2 | 36 => .slice (some ⟨b1, o1, none⟩) n1 c1 | 37 => t1 | 38 => .slice (some ⟨b2, o2, none⟩) n2 c2 | 39 => t2 | 5 => u2 | 0 => t1 | 1 => t2 | _ => undef) (Ch2 2 3 x5.drew (x5.drew.alloc (.cells CA 29)) W2) 83 (by kernel_rfl) (by kernel_rfl) (by kernel_rfl) hsz24.out Ch2.start ?_ ?_
        · intro i0 o0 hi0 dn a x0 hJ hd hpre hcl hsame hV K hK
          have hlt0 : i0 < 11 := (Array.getElem?_eq_some_iff.1 hi0).1
          rcases (show i0 = 0 ∨ i0 = 1 ∨ i0 = 2 ∨ i0 = 3 ∨ i0 = 4 ∨ i0 = 5 ∨ i0 = 6 ∨ i0 = 7 ∨ i0 = 8 ∨ i0 = 9 ∨ i0 = 10 by omega) with rfl | rfl | rfl | rfl | rfl | rfl | rfl | rfl | rfl | rfl | rfl
          all_goals (have ho0 := Option.some.inj hi0; subst ho0; clear hi0 hlt0)
          · have q5 : a.tmps[5]?.getD undef = u := (hsame 5 (fun j hj => by have hj2 := slot_only (w := 8) (by decide +kernel) j hj; subst hj2; exact Bool.eq_false_iff.2 (fun h => by have h2 := hcl 8 _ rfl h ⟨0, .phase⟩ (by simp) rfl; rw [hd] at h2; cases h2))).trans f5
            have hk := Lib.hid (show ∀ v x', (v = u) → (Ch2 2 3 x5.drew (x5.drew.alloc (.cells CA 29)) W2) (also dn 0) x' → K (a.put (some 32) v) x' from fun v x' h1 h2 => hK v x' (fun s hs => by cases hs; exact h1) h2)
            have hJ2 := Lib.hid hJ
            clear hsame hpre hcl hK hV hJ hd
            go_simp
            exact hk.out _ _ rfl (hJ2.out.more (by decide) (by decide))
          · have q6 : a.tmps[6]?.getD undef = .pointer (some ⟨p, 0, none⟩) := (hsame 6 (fun j hj => absurd hj (slot_free (by decide +kernel) j))).trans f6
            have hk := Lib.hid (show ∀ v x', (v = .agg CA) → (Ch2 2 3 x5.drew (x5.drew.alloc (.cells CA 29)) W2) (also dn 1) x' → K (a.put (some 33) v) x' from fun v x' h1 h2 => hK v x' (fun s hs => by cases hs; exact h1) h2)
            have Hrx := Lib.hid (hJ.all (p := fun z => z.rangeAt p 0 CA.toList) HZ0.out HZ1.out HZ2.out)
            have hJ2 := Lib.hid hJ
            clear hsame hpre hcl hK hV hJ hd
            refine wp_load_mid 29 (.tmp 6) rfl p 0 (eval_at q6) CA.toList _ Hrx.out Tryd.underlying29 rfl HinfA.out ?_
            exact hk.out _ _ rfl (hJ2.out.more (by decide) (by decide))
          · have q33 : a.tmps[33]?.getD undef = .agg CA := hV 1 33 (hpre ⟨1, .data⟩ (by simp) rfl) rfl
            have hk := Lib.hid (show ∀ v x', (v = .slice (some ⟨x5.heap.size, 0, none⟩) 1 1) → (Ch2 2 3 x5.drew (x5.drew.alloc (.cells CA 29)) W2) (also dn 2) x' → K (a.put (some 34) v) x' from fun v x' h1 h2 => hK v x' (fun s hs => by cases hs; exact h1) h2)
            obtain ⟨rfl, hJ3⟩ := hJ.first hd (by decide)
            have hJ2 := Lib.hid hJ3
            clear hsame hpre hcl hK hV hJ hJ3 hd
            go_simp
            rw [HfA.out]
            exact hk.out _ _ rfl hJ2.out
          · have q32 : a.tmps[32]?.getD undef = u := hV 0 32 (hpre ⟨0, .data⟩ (by simp) rfl) rfl
            have q34 : a.tmps[34]?.getD undef = .slice (some ⟨x5.heap.size, 0, none⟩) 1 1 := hV 2 34 (hpre ⟨2, .data⟩ (by simp) rfl) rfl
            have hk := Lib.hid (show ∀ v x', (v = u2) → (Ch2 2 3 x5.drew (x5.drew.alloc (.cells CA 29)) W2) (also dn 3) x' → K (a.put (some 35) v) x' from fun v x' h1 h2 => hK v x' (fun s hs => by cases hs; exact h1) h2)
            obtain ⟨rfl, hJ3⟩ := hJ.second (hpre ⟨2, .data⟩ (by simp) rfl) hd (by decide)
            refine wp_append (.tmp 32) (.tmp 34) 22 rfl (by rw [eval_at q32, eval_at q34]; exact Hrun.out) ?_
            exact hk.out _ _ rfl hJ3
          · have q0 : a.tmps[0]?.getD undef = .slice (some ⟨b1, o1, none⟩) n1 c1 := (hsame 0 (fun j hj => by have hj2 := slot_only (w := 9) (by decide +kernel) j hj; subst hj2; exact Bool.eq_false_iff.2 (fun h => by have h2 := hcl 9 _ rfl h ⟨4, .phase⟩ (by simp) rfl; rw [hd] at h2; cases h2))).trans f0
            have hk := Lib.hid (show ∀ v x', (v = .slice (some ⟨b1, o1, none⟩) n1 c1) → (Ch2 2 3 x5.drew (x5.drew.alloc (.cells CA 29)) W2) (also dn 4) x' → K (a.put (some 36) v) x' from fun v x' h1 h2 => hK v x' (fun s hs => by cases hs; exact h1) h2)
            have hJ2 := Lib.hid hJ
            clear hsame hpre hcl hK hV hJ hd
            go_simp
            exact hk.out _ _ rfl (hJ2.out.more (by decide) (by decide))
          · have q36 : a.tmps[36]?.getD undef = .slice (some ⟨b1, o1, none⟩) n1 c1 := hV 4 36 (hpre ⟨4, .data⟩ (by simp) rfl) rfl
            have hk := Lib.hid (show ∀ v x', (v = t1) → (Ch2 2 3 x5.drew (x5.drew.alloc (.cells CA 29)) W2) (also dn 5) x' → K (a.put (some 37) v) x' from fun v x' h1 h2 => hK v x' (fun s hs => by cases hs; exact h1) h2)
            have Hbx := Lib.hid (hJ.all (p := fun z => Below w.heap.size w z) HB0.out HB1.out HB2.out)
            have hJ2 := Lib.hid hJ
            clear hsame hpre hcl hK hV hJ hd
            refine wp_tail (.tmp 36) rfl (eval_at q36) HS1.out ?_
            exact hk.out _ _ rfl (hJ2.out.more (by decide) (by decide))
          · have q1 : a.tmps[1]?.getD undef = .slice (some ⟨b2, o2, none⟩) n2 c2 := (hsame 1 (fun j hj => by have hj2 := slot_only (w := 10) (by decide +kernel) j hj; subst hj2; exact Bool.eq_false_iff.2 (fun h => by have h2 := hcl 10 _ rfl h ⟨6, .phase⟩ (by simp) rfl; rw [hd] at h2; cases h2))).trans f1
            have hk := Lib.hid (show ∀ v x', (v = .slice (some ⟨b2, o2, none⟩) n2 c2) → (Ch2 2 3 x5.drew (x5.drew.alloc (.cells CA 29)) W2) (also dn 6) x' → K (a.put (some 38) v) x' from fun v x' h1 h2 => hK v x' (fun s hs => by cases hs; exact h1) h2)
            have hJ2 := Lib.hid hJ
            clear hsame hpre hcl hK hV hJ hd
            go_simp
            exact hk.out _ _ rfl (hJ2.out.more (by decide) (by decide))
          · have q38 : a.tmps[38]?.getD undef = .slice (some ⟨b2, o2, none⟩) n2 c2 := hV 6 38 (hpre ⟨6, .data⟩ (by simp) rfl) rfl
            have hk := Lib.hid (show ∀ v x', (v = t2) → (Ch2 2 3 x5.drew (x5.drew.alloc (.cells CA 29)) W2) (also dn 7) x' → K (a.put (some 39) v) x' from fun v x' h1 h2 => hK v x' (fun s hs => by cases hs; exact h1) h2)
            have Hbx := Lib.hid (hJ.all (p := fun z => Below w.heap.size w z) HB0.out HB1.out HB2.out)
            have hJ2 := Lib.hid hJ
            clear hsame hpre hcl hK hV hJ hd
            refine wp_tail (.tmp 38) rfl (eval_at q38) HS2.out ?_
            exact hk.out _ _ rfl (hJ2.out.more (by decide) (by decide))
          · have q35 : a.tmps[35]?.getD undef = u2 := hV 3 35 (hpre ⟨3, .data⟩ (by simp) rfl) rfl
            have hk := Lib.hid (show ∀ v x', (v = u2) → (Ch2 2 3 x5.drew (x5.drew.alloc (.cells CA 29)) W2) (also dn 8) x' → K (a.put (some 5) v) x' from fun v x' h1 h2 => hK v x' (fun s hs => by cases hs; exact h1) h2)
            have hJ2 := Lib.hid hJ
            clear hsame hpre hcl hK hV hJ hd
            go_simp
            exact hk.out _ _ rfl (hJ2.out.more (by decide) (by decide))
          · have q37 : a.tmps[37]?.getD undef = t1 := hV 5 37 (hpre ⟨5, .data⟩ (by simp) rfl) rfl
            have hk := Lib.hid (show ∀ v x', (v = t1) → (Ch2 2 3 x5.drew (x5.drew.alloc (.cells CA 29)) W2) (also dn 9) x' → K (a.put (some 0) v) x' from fun v x' h1 h2 => hK v x' (fun s hs => by cases hs; exact h1) h2)
            have hJ2 := Lib.hid hJ
            clear hsame hpre hcl hK hV hJ hd
            go_simp
            exact hk.out _ _ rfl (hJ2.out.more (by decide) (by decide))
          · have q39 : a.tmps[39]?.getD undef = t2 := hV 7 39 (hpre ⟨7, .data⟩ (by simp) rfl) rfl
            have hk := Lib.hid (show ∀ v x', (v = t2) → (Ch2 2 3 x5.drew (x5.drew.alloc (.cells CA 29)) W2) (also dn 10) x' → K (a.put (some 1) v) x' from fun v x' h1 h2 => hK v x' (fun s hs => by cases hs; exact h1) h2)
            have hJ2 := Lib.hid hJ
            clear hsame hpre hcl hK hV hJ hd
            go_simp
            exact hk.out _ _ rfl (hJ2.out.more (by decide) (by decide))
        · intro dn a25 x9 hall hJ hsame hV hsz25x hde25x
          have hx9 := hJ.done (hall 3 (by decide))
          subst hx9
          replace f0 : a25.tmps[0]?.getD undef = t1 := hV 9 0 (by decide) rfl
          replace f1 : a25.tmps[1]?.getD undef = t2 := hV 10 1 (by decide) rfl
          replace f5 : a25.tmps[5]?.getD undef = u2 := hV 8 5 (by decide) rfl
          replace f6 := (hsame 6 (fun j hj => absurd hj (slot_free (by decide +kernel) j))).trans f6
          have hsz25 := Lib.hid hsz25x
          have hde25 := Lib.hid (hde25x.trans hde24.out)
          clear hall hJ hsame hV hsz25x hde25x hsz24 hde24
          repeat first | with_reducible refine block_go ?_ | with_reducible refine then_go ?_
          exact ⟨P2.length + Q2.length, by rw [Hn0.out]; simp; try omega, P2, Q2, t1, t2, u2, acc ++ [meltE x y], hsz25, hde25, f0, f1, f5, HT1, HT2, Hown2, HB2, Lib.hid (by rw [← Hacc.out, join_same HQ1.out.symm HQ2.out.symm]; simp), Lib.hid (by have := Hlen.out; simp at *; omega), rfl⟩
end Go.Proofs.YtcpjgohclncbkaaDoor

namespace Go.Proofs.YtcpjgohclncbkaaDoor
open Go.RowKit
set_option maxRecDepth 100000

/-- What the document's Put answers, step by step. -/
def goP (X : Ent) : Bool → List Ent → List Ent
  | p, [] => if p = true then [] else [X]
  | p, y :: r => if sameI y.rep y.seq X.rep X.seq = true then meltE y X :: goP X true r else if (!p && lessV X.rep X.seq y.rep y.seq) = true then X :: y :: goP X true r else y :: goP X p r
theorem goP_true {X : Ent} : ∀ (L : List Ent), (∀ y ∈ L, lessV X.rep X.seq y.rep y.seq = true) → goP X true L = L
  | [], _ => rfl
  | y :: r, h => by
    have hy := h y (by simp)
    have hn : sameI y.rep y.seq X.rep X.seq = false := by rw [lessV_same, hy]; simp
    rw [goP, if_neg (by rw [hn]; simp), if_neg (by simp), goP_true r fun z hz => h z (by simp [hz])]
theorem map_low {X : Ent} : ∀ (L : List Ent), (∀ y ∈ L, lessV X.rep X.seq y.rep y.seq = true) → (L.map fun y => if sameI y.rep y.seq X.rep X.seq = true then meltE y X else y) = L
  | [], _ => rfl
  | y :: r, h => by
    have hy := h y (by simp)
    have hn : sameI y.rep y.seq X.rep X.seq = false := by rw [lessV_same, hy]; simp
    rw [List.map_cons, if_neg (by rw [hn]; simp), map_low r fun z hz => h z (by simp [hz])]
theorem there_low {X : Ent} {L : List Ent} (h : ∀ y ∈ L, lessV X.rep X.seq y.rep y.seq = true) : thereE L X.rep X.seq = false := by
  unfold thereE
  rw [List.any_eq_false]
  intro y hy
  rw [lessV_same, h y hy]
  simp
theorem goP_put {X : Ent} : ∀ {L : List Ent}, SortedE L → goP X false L = putE L X
  | [], _ => rfl
  | y :: r, hs => by
    have hp := List.pairwise_cons.1 (sortedE_iff.1 hs)
    by_cases h1 : sameI y.rep y.seq X.rep X.seq = true
    · have e := sameI_eq.1 h1
      have hlow : ∀ z ∈ r, lessV X.rep X.seq z.rep z.seq = true := fun z hz => by rw [← e.1, ← e.2]; exact hp.1 z hz
      have ht : thereE (y :: r) X.rep X.seq = true := by unfold thereE; rw [List.any_cons, h1]; rfl
      rw [goP, if_pos h1, goP_true r hlow]
      unfold putE
      rw [if_pos ht, List.map_cons, if_pos h1, map_low r hlow]
    · by_cases h2 : lessV X.rep X.seq y.rep y.seq = true
      · have hlow : ∀ z ∈ y :: r, lessV X.rep X.seq z.rep z.seq = true := fun z hz => by
          rcases List.mem_cons.1 hz with rfl | hz
          · exact h2
          · exact lessV_trans h2 (hp.1 z hz)
        have ht := there_low hlow
        rw [goP, if_neg h1, if_pos (by rw [h2]; rfl), goP_true r fun z hz => hlow z (by simp [hz])]
        unfold putE
        have hpos : posE (y :: r) X.rep X.seq = 0 := by
          unfold posE
          rw [List.takeWhile_cons, if_neg (by rw [lessV_asymm h2]; simp)]
          rfl
        rw [if_neg (by rw [ht]; simp), hpos]
        rfl
      · have h3 : lessV y.rep y.seq X.rep X.seq = true := by
          have := lessV_same y.rep y.seq X.rep X.seq
          rw [show sameI y.rep y.seq X.rep X.seq = false by simpa using h1, show lessV X.rep X.seq y.rep y.seq = false by simpa using h2] at this
          simpa using this
        rw [goP, if_neg h1, if_neg (by rw [show lessV X.rep X.seq y.rep y.seq = false by simpa using h2]; simp), goP_put (sortedE_iff.2 hp.2)]
        unfold putE
        have ht : thereE (y :: r) X.rep X.seq = thereE r X.rep X.seq := by unfold thereE; rw [List.any_cons, show sameI y.rep y.seq X.rep X.seq = false by simpa using h1]; rfl
        have hpos : posE (y :: r) X.rep X.seq = posE r X.rep X.seq + 1 := by
          unfold posE
          rw [List.takeWhile_cons, if_pos h3]
          rfl
        rw [ht, hpos]
        split
        · rw [List.map_cons, if_neg h1]
        · rfl
theorem app_plain (base : Nat) (W : World) (u : Value) (M : List Ent) (X : Ent) (hX : EntOk X) (hown : OwnE W base u M) (hl : M.length ≤ 1000) (hbase : base ≤ W.heap.size) (C : Array Value) (hC : C = entC X) :
    ∃ u2 W2, (Builtin.append_ #[22, 22] 22 #[u, .slice (some ⟨W.heap.size, 0, none⟩) 1 1]).run Tryd.prog (W.alloc (.cells C 29)) = .ok u2 W2 ∧ OwnE W2 base u2 (M ++ [X]) ∧ (∀ B, B ≤ base → Below B W W2) := by
  subst hC
  have hsz : (W.alloc (.cells (entC X) 29)).heap.size = W.heap.size + 1 := by rw [World.size_alloc]
  have hown1 : OwnK (W.alloc (.cells (entC X) 29)) base 29 15 u M.length (entsC M) := OwnK.alloc hown.1 _
  obtain ⟨v2, W2, hrun, hown2, hg2, _⟩ := run_appK (P := Tryd.prog) (W.alloc (.cells (entC X) 29)) (t := 22) (ty := 22) elemE hown1 (ok := fun _ => True) (A := some ⟨W.heap.size, 0, none⟩) (m := 1) (c := 1) (news := (entC X).toList) rfl ((Blk.new W 29 (entC X)).rd _ trivial) (entC_each X) (by omega) (by omega) (by omega)
  exact ⟨v2, W2, hrun, OwnE.app hown2 hown.2 hX, fun B hB => ((Below.refl B W).alloc (by omega) _).trans (hown1.below_of hg2 (by omega) hB)⟩

/-- What stands between two rounds. -/
def PutInv (w wb : World) (v : Value) (X : Ent) (L R : List Ent) (n : Nat) (a : Act) (x : World) : Prop :=
  ∃ (k : Nat) (p : Bool) (u : Value) (acc : List Ent), Hid (a.tmps.size = 67) ∧ Hid (a.defers = []) ∧ a.tmps[0]?.getD undef = v ∧ a.tmps[3]?.getD undef = .pointer (some ⟨w.heap.size, 0, none⟩) ∧ a.tmps[5]?.getD undef = u ∧ a.tmps[6]?.getD undef = .bool p ∧ a.tmps[7]?.getD undef = .int .i64 ((k : Nat) : Int) ∧ Hid (k ≤ L.length) ∧ Hid (OwnE x wb.heap.size u acc) ∧ Hid (Below wb.heap.size wb x) ∧ Hid (acc ++ goP X p (L.drop k) = R) ∧ Hid (acc.length ≤ 2 * k) ∧ n = L.length - k

set_option maxHeartbeats 8000000 in
theorem erefput_any (ok : Nat → Prop) (v : Value) (L : List Ent) (X : Ent) (w : World) (hL : IsL kEnt w ok v L) (hl : L.length ≤ 400) (hX : EntOk X) :
    Calls Tryd.prog 41 #[v, .agg (entC X)] w fun e w' => (∃ u, e = .returned u ∧ OwnE w' w.heap.size u (goP X false L)) ∧ Below w.heap.size w w' := by
  obtain ⟨R, hR⟩ : ∃ R, R = goP X false L := ⟨_, rfl⟩
  rw [← hR]
  have HR := Lib.hid hR
  obtain ⟨C, hC⟩ : ∃ C, C = entC X := ⟨_, rfl⟩
  have HC := Lib.hid hC
  obtain ⟨wb, hwb⟩ : ∃ wb, wb = w.alloc (.cells C 29) := ⟨_, rfl⟩
  have hbox : Blk wb w.heap.size 29 (entC X) := by rw [hwb, ← hC]; exact Blk.new _ _ _
  have Hbox := Lib.hid hbox
  have Hbel := Lib.hid (show Below w.heap.size w wb by rw [hwb]; exact (Below.refl _ _).alloc (Nat.le_refl _) _)
  have Hwb1 := Lib.hid (show w.heap.size ≤ wb.heap.size by rw [hwb]; simp)
  have hLb := hL.grow Hbel.out
  have Hvok := Lib.hid hL.entOk
  obtain ⟨A, c, rfl, hc1, hc2, hE⟩ := ent_at hLb
  have Hel := Lib.hid hE
  have HX := Lib.hid hX
  have Hl := Lib.hid hl
  have HW := Lib.hid hwb
  have hm : maxLen ≤ 9223372036854775807 := by decide
  obtain ⟨n, hn⟩ : ∃ n, n = L.length := ⟨_, rfl⟩
  rw [← hn] at hc1 ⊢
  have Hn := Lib.hid hn
  obtain ⟨IX, hIX⟩ : ∃ I, I = idC X.rep X.seq := ⟨_, rfl⟩
  obtain ⟨AX, hAX⟩ : ∃ A, A = av X.by_ := ⟨_, rfl⟩
  have HIX := Lib.hid hIX
  have HAX := Lib.hid hAX
  have HinfI := Lib.hid (show (Tryd.prog.info? 25).map (·.size) = some IX.toList.length by rw [hIX]; exact id_info)
  have HinfA := Lib.hid (show (Tryd.prog.info? 27).map (·.size) = some AX.toList.length by rw [hAX]; exact vec_info)
  have HinfC := Lib.hid (show (Tryd.prog.info? 29).map (·.size) = some C.toList.length by rw [hC]; exact ent_info)
  have hCs : C.size = 15 := by rw [hC]; rfl
  have hfc := fold_ent X
  rw [← hC] at hfc
  have HfC := Lib.hid hfc
  have HrI := Lib.hid (show ∀ z, Below wb.heap.size wb z → z.rangeAt w.heap.size 0 IX.toList from fun z hz => by rw [HIX.out]; exact (Hbox.out.grow hz).ent.id)
  have HrA := Lib.hid (show ∀ z, Below wb.heap.size wb z → z.rangeAt w.heap.size 7 AX.toList from fun z hz => by rw [HAX.out]; have h := (Hbox.out.grow hz).ent.by_; rw [Nat.zero_add] at h; exact h)
  have HrC := Lib.hid (show ∀ z, Below wb.heap.size wb z → z.rangeAt w.heap.size 0 C.toList from fun z hz => by rw [HC.out]; exact (Hbox.out.grow hz).ent.all)
  rw [← hC]
  clear hL hLb hE hX hl hwb hbox hn hIX hAX hfc hC hR
  go_enter Tryd.func41, Tryd.ntmps41
  refine enter_abs (N := 67) rfl rfl fun a0 hsz0 hde0 hk => ?_
  have f0 : a0.tmps[0]?.getD undef = .slice A n c := hk 0
  have f1 : a0.tmps[1]?.getD undef = .agg C := hk 1
  clear hk
  repeat with_reducible refine wp_seq ?_
  refine wp_region_lit ?_
  refine wpList_next rfl hsz0 hde0 3 rfl (by decide) fun K hK => ?_
  go_simp
  refine hK _ _ fun a1 hsz1 hde1 f3 hk => ?_
  clear hK K
  replace f0 := (hk 0 (by decide)).trans f0
  replace f1 := (hk 1 (by decide)).trans f1
  replace f3 : a1.tmps[3]?.getD undef = .pointer (some ⟨w.heap.size, 0, none⟩) := f3
  clear hk hsz0 hde0
  refine wpList_next rfl hsz1 hde1 4 rfl (by decide) fun K hK => ?_
  go_simp
  refine hK _ _ fun a2 hsz2 hde2 f4 hk => ?_
  clear hK K
  replace f0 := (hk 0 (by decide)).trans f0
  replace f1 := (hk 1 (by decide)).trans f1
  replace f3 := (hk 3 (by decide)).trans f3
  replace f4 : a2.tmps[4]?.getD undef = .slice none 0 0 := f4
  clear hk hsz1 hde1
  refine wpList_nil ?_
  clear f1 f4
  rw [← HW.out]
  refine then_go ?_
  repeat with_reducible refine wp_seq ?_
  refine wp_region_lit ?_
  refine wpList_next rfl hsz2 hde2 5 rfl (by decide) fun K hK => ?_
  go_simp
  refine hK _ _ fun a3 hsz3 hde3 f5 hk => ?_
  clear hK K
  replace f0 := (hk 0 (by decide)).trans f0
  replace f3 := (hk 3 (by decide)).trans f3
  replace f5 : a3.tmps[5]?.getD undef = .slice none 0 0 := f5
  clear hk hsz2 hde2
  refine wpList_nil ?_
  refine then_go ?_
  repeat with_reducible refine wp_seq ?_
  refine wp_region_lit ?_
  refine wpList_next rfl hsz3 hde3 6 rfl (by decide) fun K hK => ?_
  go_simp
  refine hK _ _ fun a4 hsz4 hde4 f6 hk => ?_
  clear hK K
  replace f0 := (hk 0 (by decide)).trans f0
  replace f3 := (hk 3 (by decide)).trans f3
  replace f5 := (hk 5 (by decide)).trans f5
  replace f6 : a4.tmps[6]?.getD undef = .bool false := f6
  clear hk hsz3 hde3
  refine wpList_nil ?_
  refine then_go ?_
  repeat with_reducible refine wp_seq ?_
  refine wp_region_lit ?_
  refine wpList_next rfl hsz4 hde4 7 rfl (by decide) fun K hK => ?_
  go_simp
  refine hK _ _ fun a5 hsz5 hde5 f7 hk => ?_
  clear hK K
  replace f0 := (hk 0 (by decide)).trans f0
  replace f3 := (hk 3 (by decide)).trans f3
  replace f5 := (hk 5 (by decide)).trans f5
  replace f6 := (hk 6 (by decide)).trans f6
  replace f7 : a5.tmps[7]?.getD undef = .int .i64 ((0 : Nat) : Int) := f7
  clear hk hsz4 hde4
  refine wpList_nil ?_
  refine then_go ?_
  repeat with_reducible refine wp_seq ?_
  refine wp_block ?_
  refine wp_loop_ghost (PutInv w wb (.slice A n c) X L R) (L.length - 0) ?_ ?_
  · exact ⟨0, false, _, [], hsz5, hde5, f0, f3, f5, f6, f7, Lib.hid (Nat.zero_le _), Lib.hid (OwnE.nil _ _), Lib.hid (Below.refl _ _), Lib.hid (by rw [HR.out]; rfl), Lib.hid (by simp), rfl⟩
  clear hsz5 hde5 f0 f3 f5 f6 f7
  intro n0 a9 wr hI
  obtain ⟨k, p, u, acc, hsz9, hde9, f0, f3, f5, f6, f7, Hk, Hown, Hbw, Hacc, Hlen, hn0⟩ := hI
  have Hn0 := Lib.hid hn0
  clear hn0
  have hkm : (k : Int) < 9223372036854775807 := by have := Hk.out; have := Hl.out; omega
  repeat with_reducible refine wp_seq ?_
  by_cases hlt : k < n
  · have hlt1 : decide ((k : Int) < (n : Int)) = true := decide_eq_true (by omega)
    refine wp_region_lit ?_
    refine wpList_next rfl hsz9 hde9 9 rfl (by decide) fun K hK => ?_
    go_simp
    refine hK _ _ fun a10 hsz10 hde10 f9 hk => ?_
    clear hK K
    replace f0 := (hk 0 (by decide)).trans f0
    replace f3 := (hk 3 (by decide)).trans f3
    replace f5 := (hk 5 (by decide)).trans f5
    replace f6 := (hk 6 (by decide)).trans f6
    replace f7 := (hk 7 (by decide)).trans f7
    replace f9 : a10.tmps[9]?.getD undef = .int .i64 ((k : Nat) : Int) := f9
    clear hk hsz9 hde9
    refine wpList_next rfl hsz10 hde10 10 rfl (by decide) fun K hK => ?_
    go_simp
    refine hK _ _ fun a11 hsz11 hde11 f10 hk => ?_
    clear hK K
    replace f0 := (hk 0 (by decide)).trans f0
    replace f3 := (hk 3 (by decide)).trans f3
    replace f5 := (hk 5 (by decide)).trans f5
    replace f6 := (hk 6 (by decide)).trans f6
    replace f7 := (hk 7 (by decide)).trans f7
    replace f9 := (hk 9 (by decide)).trans f9
    replace f10 : a11.tmps[10]?.getD undef = .slice A n c := f10
    clear hk hsz10 hde10
    refine wpList_next rfl hsz11 hde11 11 rfl (by decide) fun K hK => ?_
    go_simp
    refine hK _ _ fun a12 hsz12 hde12 f11 hk => ?_
    clear hK K
    replace f0 := (hk 0 (by decide)).trans f0
    replace f3 := (hk 3 (by decide)).trans f3
    replace f5 := (hk 5 (by decide)).trans f5
    replace f6 := (hk 6 (by decide)).trans f6
    replace f7 := (hk 7 (by decide)).trans f7
    replace f9 := (hk 9 (by decide)).trans f9
    replace f11 : a12.tmps[11]?.getD undef = .int .i64 (n : Int) := f11
    clear hk hsz11 hde11 f10
    refine wpList_next rfl hsz12 hde12 12 rfl (by decide) fun K hK => ?_
    go_simp
    refine hK _ _ fun a13 hsz13 hde13 f12 hk => ?_
    clear hK K
    replace f0 := (hk 0 (by decide)).trans f0
    replace f3 := (hk 3 (by decide)).trans f3
    replace f5 := (hk 5 (by decide)).trans f5
    replace f6 := (hk 6 (by decide)).trans f6
    replace f7 := (hk 7 (by decide)).trans f7
    clear hk hsz12 hde12 f9 f11
    replace f12 : a13.tmps[12]?.getD undef = .bool true := f12.trans (by first | rfl | simp [hlt])
    refine wpList_nil ?_
    refine then_go ?_
    repeat with_reducible refine wp_seq ?_
    refine wp_cond_true (eval_at f12) ?_
    refine wp_skip ?_
    refine then_go ?_
    clear f12
    repeat with_reducible refine wp_seq ?_
    refine wp_block ?_
    repeat with_reducible refine wp_seq ?_
    have hkl : k < L.length := by rw [← Hn.out]; exact hlt
    obtain ⟨b, off, rfl, _, _, hel⟩ := Hel.out (by intro e; subst e; simp at hkl)
    obtain ⟨Y, hY⟩ : ∃ Y, Y = L[k] := ⟨_, rfl⟩
    have HYok := Lib.hid (show EntOk Y by rw [hY]; exact Hvok.out _ (List.getElem_mem hkl))
    have HrY0 := Lib.hid (show ∀ z, Below wb.heap.size wb z → z.rangeAt b (off + k * 15) (entC Y).toList from fun z hz => by rw [hY]; exact range_ext (hel k hkl).1 hz)
    have HD := Lib.hid (show L.drop k = Y :: L.drop (k + 1) by rw [hY]; exact List.drop_eq_getElem_cons hkl)
    obtain ⟨CY, hCY⟩ : ∃ C, C = entC Y := ⟨_, rfl⟩
    obtain ⟨IY, hIY⟩ : ∃ C, C = idC Y.rep Y.seq := ⟨_, rfl⟩
    obtain ⟨AY, hAY⟩ : ∃ A, A = av Y.by_ := ⟨_, rfl⟩
    obtain ⟨AZ, hAZ⟩ : ∃ A, A = av (joinV Y.by_ X.by_) := ⟨_, rfl⟩
    obtain ⟨CZ, hCZ⟩ : ∃ C, C = entC (meltE Y X) := ⟨_, rfl⟩
    have HCY := Lib.hid hCY
    have HCZ := Lib.hid hCZ
    have HrY := Lib.hid (show ∀ z, Below wb.heap.size wb z → z.rangeAt b (off + k * 15) CY.toList from fun z hz => by rw [hCY]; exact HrY0.out z hz)
    have HiY := Lib.hid (show ∀ z, Below wb.heap.size wb z → z.rangeAt b (off + k * 15) IY.toList from fun z hz => by rw [hIY]; exact (entCells (HrY0.out z hz)).id)
    have HinfY := Lib.hid (show (Tryd.prog.info? 25).map (·.size) = some IY.toList.length by rw [hIY]; exact id_info)
    have HinfCY := Lib.hid (show (Tryd.prog.info? 29).map (·.size) = some CY.toList.length by rw [hCY]; exact ent_info)
    have HinfCZ := Lib.hid (show (Tryd.prog.info? 29).map (·.size) = some CZ.toList.length by rw [hCZ]; exact ent_info)
    have hCYs : CY.size = 15 := by rw [hCY]; rfl
    have hCZs : CZ.size = 15 := by rw [hCZ]; rfl
    have HinfCYs := Lib.hid (show (Tryd.prog.info? 29).map (·.size) = some CY.size by rw [hCY]; exact ent_info)
    have HoneCY := Lib.hid (show CY.all (·.oneCell') = true by rw [hCY]; exact entC_one Y)
    have HinfAY := Lib.hid (show (Tryd.prog.info? 27).map (·.size) = some AY.toList.length by rw [hAY]; exact vec_info)
    have HinfAZ := Lib.hid (show (Tryd.prog.info? 27).map (·.size) = some AZ.size by rw [hAZ]; exact vec_info)
    have HAZs := Lib.hid (show AZ.size = 8 by rw [hAZ]; rfl)
    have HAZ1 := Lib.hid (show AZ.all (·.oneCell') = true by rw [hAZ]; exact av_one _)
    have hfy := fold_ent Y
    have hfz := fold_ent (meltE Y X)
    rw [← hCY] at hfy
    rw [← hCZ] at hfz
    have HfY := Lib.hid hfy
    have HfZ := Lib.hid hfz
    have heq := fun z => ideq_run Y.rep Y.seq X.rep X.seq z
    have hls := fun z => refless_any X.rep X.seq Y.rep Y.seq z
    have hjn := fun z => refjoin_any Y.by_ X.by_ z
    simp only [idv_idC] at hls
    unfold vv at hjn
    rw [← HIX.out, ← hIY] at hls
    rw [← HIX.out, ← hIY] at heq
    rw [← HAX.out, ← hAY, ← hAZ] at hjn
    obtain ⟨q, hq⟩ : ∃ q, q = sameI Y.rep Y.seq X.rep X.seq := ⟨_, rfl⟩
    obtain ⟨l, hll⟩ : ∃ l, l = lessV X.rep X.seq Y.rep Y.seq := ⟨_, rfl⟩
    rw [← hq] at heq
    rw [← hll] at hls
    have Heq := Lib.hid heq
    have Hls := Lib.hid hls
    have Hjn := Lib.hid hjn
    have Hq := Lib.hid hq
    have Hll := Lib.hid hll
    have HrAY := Lib.hid (show ∀ z g, Blk z g 29 CY → z.rangeAt g 7 AY.toList from fun z g hz => by rw [HCY.out] at hz; rw [hAY]; have h := hz.ent.by_; rw [Nat.zero_add] at h; exact h)
    have HthY := Lib.hid (show ∀ z g, Blk z g 29 CY → z.there g 7 8 from fun z g hz => by rw [HCY.out] at hz; exact Blk.there (cs := (entC Y).toList) hz 7 8 (show 7 + 8 ≤ 15 by omega))
    have HstY := Lib.hid (show ∀ z g, Blk z g 29 CY → Blk (z.setCells g 7 AZ.toList) g 29 CZ from fun z g hz => by
      rw [HCY.out] at hz
      have h := Blk.setCells AZ.toList 7 z (entC Y).toList hz (by rw [hAZ]; exact Nat.le_refl _)
      have e : (splice (entC Y).toList 7 AZ.toList).toArray = CZ := by rw [hCZ, hAZ]; rfl
      rw [e] at h; exact h)
    have hk0 : (0 : Int) ≤ (k : Int) := by omega
    have hkn : (k : Int) < (n : Int) := by omega
    clear hel HrY0 hCY hIY hAY hAZ hCZ hfy hfz heq hls hjn hq hll hY
    refine wp_region_goodg (tblG [(15, .slice (some ⟨b, off, none⟩) n c), (16, .int .i64 ((k : Nat) : Int)), (17, .pointer (some ⟨b, off + k * 15, none⟩)), (18, .pointer (some ⟨b, off + k * 15, none⟩)), (19, .agg IY), (20, .pointer (some ⟨w.heap.size, 0, none⟩)), (21, .agg IX), (22, .bool q)]) 67 (by kernel_rfl) (by kernel_rfl) (by kernel_rfl) (by kernel_rfl) hsz13.out ?_ ?_ ?_
    · intro t v7 x x' h _ _
      exact h
    · intro i7 o hi7 a x hbx hsame hpre K hK
      have hlt7 : i7 < 8 := (Array.getElem?_eq_some_iff.1 hi7).1
      rcases (show i7 = 0 ∨ i7 = 1 ∨ i7 = 2 ∨ i7 = 3 ∨ i7 = 4 ∨ i7 = 5 ∨ i7 = 6 ∨ i7 = 7 by omega) with rfl | rfl | rfl | rfl | rfl | rfl | rfl | rfl
      all_goals (have ho := Option.some.inj hi7; subst ho; clear hi7 hlt7)
      · have q0 : a.tmps[0]?.getD undef = .slice (some ⟨b, off, none⟩) n c := (hsame 0 (by decide +kernel)).trans f0
        refine step_plain rfl ?_
        have hk := Lib.hid (show ∀ v7 x', v7 = .slice (some ⟨b, off, none⟩) n c → Below x.heap.size x x' → K (a.put (some 15) v7) x' from hK)
        have Hbx := Lib.hid hbx
        clear hsame hpre hK hbx
        go_simp
        exact hk.out _ _ rfl (Below.refl _ _)
      · have q7 : a.tmps[7]?.getD undef = .int .i64 ((k : Nat) : Int) := (hsame 7 (by decide +kernel)).trans f7
        refine step_plain rfl ?_
        have hk := Lib.hid (show ∀ v7 x', v7 = .int .i64 ((k : Nat) : Int) → Below x.heap.size x x' → K (a.put (some 16) v7) x' from hK)
        have Hbx := Lib.hid hbx
        clear hsame hpre hK hbx
        go_simp
        exact hk.out _ _ rfl (Below.refl _ _)
      · have q15 : a.tmps[15]?.getD undef = .slice (some ⟨b, off, none⟩) n c := hpre ⟨0, .data⟩ (by simp) rfl (by decide)
        have q16 : a.tmps[16]?.getD undef = .int .i64 ((k : Nat) : Int) := hpre ⟨1, .data⟩ (by simp) rfl (by decide)
        refine step_plain rfl ?_
        have hk := Lib.hid (show ∀ v7 x', v7 = .pointer (some ⟨b, off + k * 15, none⟩) → Below x.heap.size x x' → K (a.put (some 17) v7) x' from hK)
        have Hbx := Lib.hid hbx
        clear hsame hpre hK hbx
        go_simp
        exact hk.out _ _ rfl (Below.refl _ _)
      · have q17 : a.tmps[17]?.getD undef = .pointer (some ⟨b, off + k * 15, none⟩) := hpre ⟨2, .data⟩ (by simp) rfl (by decide)
        refine step_plain rfl ?_
        have hk := Lib.hid (show ∀ v7 x', v7 = .pointer (some ⟨b, off + k * 15, none⟩) → Below x.heap.size x x' → K (a.put (some 18) v7) x' from hK)
        have Hbx := Lib.hid hbx
        clear hsame hpre hK hbx
        go_simp
        exact hk.out _ _ rfl (Below.refl _ _)
      · have q18 : a.tmps[18]?.getD undef = .pointer (some ⟨b, off + k * 15, none⟩) := hpre ⟨3, .data⟩ (by simp) rfl (by decide)
        refine step_plain rfl ?_
        have hk := Lib.hid (show ∀ v7 x', v7 = .agg IY → Below x.heap.size x x' → K (a.put (some 19) v7) x' from hK)
        have Hbx := Lib.hid hbx
        clear hsame hpre hK hbx
        refine wp_load_mid 25 (.tmp 18) rfl b (off + k * 15) (eval_at q18) IY.toList _ (HiY.out _ (below_call Hbw.out Hbx.out)) Tryd.underlying25 rfl HinfY.out ?_
        exact hk.out _ _ rfl (Below.refl _ _)
      · have q3 : a.tmps[3]?.getD undef = .pointer (some ⟨w.heap.size, 0, none⟩) := (hsame 3 (by decide +kernel)).trans f3
        refine step_plain rfl ?_
        have hk := Lib.hid (show ∀ v7 x', v7 = .pointer (some ⟨w.heap.size, 0, none⟩) → Below x.heap.size x x' → K (a.put (some 20) v7) x' from hK)
        have Hbx := Lib.hid hbx
        clear hsame hpre hK hbx
        go_simp
        exact hk.out _ _ rfl (Below.refl _ _)
      · have q20 : a.tmps[20]?.getD undef = .pointer (some ⟨w.heap.size, 0, none⟩) := hpre ⟨5, .data⟩ (by simp) rfl (by decide)
        refine step_plain rfl ?_
        have hk := Lib.hid (show ∀ v7 x', v7 = .agg IX → Below x.heap.size x x' → K (a.put (some 21) v7) x' from hK)
        have Hbx := Lib.hid hbx
        clear hsame hpre hK hbx
        refine wp_load_mid 25 (.tmp 20) rfl w.heap.size 0 (eval_at q20) IX.toList _ (HrI.out _ (below_call Hbw.out Hbx.out)) Tryd.underlying25 rfl HinfI.out ?_
        exact hk.out _ _ rfl (Below.refl _ _)
      · have q19 : a.tmps[19]?.getD undef = .agg IY := hpre ⟨4, .data⟩ (by simp) rfl (by decide)
        have q21 : a.tmps[21]?.getD undef = .agg IX := hpre ⟨6, .data⟩ (by simp) rfl (by decide)
        refine step_plain rfl ?_
        have hk := Lib.hid (show ∀ v7 x', v7 = .bool q → Below x.heap.size x x' → K (a.put (some 22) v7) x' from hK)
        have Hbx := Lib.hid hbx
        clear hsame hpre hK hbx
        have heq := Heq.out
        go_simp
        exact hk.out _ _ rfl (Below.refl _ _)
    intro a14 x14 hbx hsame hG hsz14 hde14
    replace f0 := (hsame 0 (by decide +kernel)).trans f0
    replace f3 := (hsame 3 (by decide +kernel)).trans f3
    replace f5 := (hsame 5 (by decide +kernel)).trans f5
    replace f6 := (hsame 6 (by decide +kernel)).trans f6
    replace f7 := (hsame 7 (by decide +kernel)).trans f7
    have f22 : a14.tmps[22]?.getD undef = .bool q := hG 7 (by decide)
    have Hbx14 := Lib.hid hbx
    have hsz14h := Lib.hid hsz14
    have hde14h := Lib.hid (hde14.trans hde13.out)
    clear hsame hG hbx hsz14 hde14 hsz13 hde13
    have Hb6 := Lib.hid (below_call Hbw.out Hbx14.out)
    have Hown6 := Lib.hid (Hown.out.grow Hbx14.out)
    clear Hbx14
    refine then_go ?_
    repeat with_reducible refine wp_seq ?_
    cases q with
    | true =>
      refine wp_cond_true (eval_at f22) ?_
      clear f22
      repeat with_reducible refine wp_seq ?_
      refine wp_region_lit ?_
      refine wpList_next rfl hsz14h hde14h 23 rfl (by decide) fun K hK => ?_
      go_simp
      refine hK _ _ fun a15 hsz15 hde15 f23 hk => ?_
      clear hK K
      replace f0 := (hk 0 (by decide)).trans f0
      replace f3 := (hk 3 (by decide)).trans f3
      replace f5 := (hk 5 (by decide)).trans f5
      replace f6 := (hk 6 (by decide)).trans f6
      replace f7 := (hk 7 (by decide)).trans f7
      replace f23 : a15.tmps[23]?.getD undef = .slice (some ⟨b, off, none⟩) n c := f23
      clear hk hsz14h hde14h
      refine wpList_next rfl hsz15 hde15 24 rfl (by decide) fun K hK => ?_
      go_simp
      refine hK _ _ fun a16 hsz16 hde16 f24 hk => ?_
      clear hK K
      replace f0 := (hk 0 (by decide)).trans f0
      replace f3 := (hk 3 (by decide)).trans f3
      replace f5 := (hk 5 (by decide)).trans f5
      replace f6 := (hk 6 (by decide)).trans f6
      replace f7 := (hk 7 (by decide)).trans f7
      replace f23 := (hk 23 (by decide)).trans f23
      replace f24 : a16.tmps[24]?.getD undef = .int .i64 ((k : Nat) : Int) := f24
      clear hk hsz15 hde15
      refine wpList_next rfl hsz16 hde16 25 rfl (by decide) fun K hK => ?_
      go_simp
      refine hK _ _ fun a17 hsz17 hde17 f25 hk => ?_
      clear hK K
      replace f0 := (hk 0 (by decide)).trans f0
      replace f3 := (hk 3 (by decide)).trans f3
      replace f5 := (hk 5 (by decide)).trans f5
      replace f6 := (hk 6 (by decide)).trans f6
      replace f7 := (hk 7 (by decide)).trans f7
      replace f25 : a17.tmps[25]?.getD undef = .pointer (some ⟨b, off + k * 15, none⟩) := f25
      clear hk hsz16 hde16 f23 f24
      refine wpList_next rfl hsz17 hde17 26 rfl (by decide) fun K hK => ?_
      refine wp_load_mid 29 (.tmp 25) rfl b (off + k * 15) (eval_at f25) CY.toList _ (HrY.out _ Hb6.out) Tryd.underlying29 rfl HinfCY.out ?_
      refine hK _ _ fun a18 hsz18 hde18 f26 hk => ?_
      clear hK K
      replace f0 := (hk 0 (by decide)).trans f0
      replace f3 := (hk 3 (by decide)).trans f3
      replace f5 := (hk 5 (by decide)).trans f5
      replace f6 := (hk 6 (by decide)).trans f6
      replace f7 := (hk 7 (by decide)).trans f7
      replace f26 : a18.tmps[26]?.getD undef = .agg CY := f26
      clear hk hsz17 hde17 f25
      refine wpList_next rfl hsz18 hde18 8 rfl (by decide) fun K hK => ?_
      go_simp
      refine hK _ _ fun a19 hsz19 hde19 f8 hk => ?_
      clear hK K
      replace f0 := (hk 0 (by decide)).trans f0
      replace f3 := (hk 3 (by decide)).trans f3
      replace f5 := (hk 5 (by decide)).trans f5
      replace f6 := (hk 6 (by decide)).trans f6
      replace f7 := (hk 7 (by decide)).trans f7
      replace f26 := (hk 26 (by decide)).trans f26
      replace f8 : a19.tmps[8]?.getD undef = .pointer (some ⟨x14.heap.size, 0, none⟩) := f8
      clear hk hsz18 hde18
      refine wpList_next0 rfl rfl fun K hK => ?_
      refine wp_store_new 29 (.tmp 8) (.tmp 26) rfl zeroE CY (eval_at f8) (eval_at f26) HinfCYs.out (by rw [hCYs]; rfl) HoneCY.out ?_
      refine hK undef _ ?_
      clear hK K
      clear f26
      refine wpList_nil ?_
      obtain ⟨g, hg⟩ : ∃ g, g = x14.heap.size := ⟨_, rfl⟩
      obtain ⟨wa, hwa⟩ : ∃ wa, wa = x14.alloc (.cells CY 29) := ⟨_, rfl⟩
      have HPw := Lib.hid (show wb.heap.size ≤ g by rw [hg]; exact Hb6.out.size)
      have HPb := Lib.hid (show Blk wa g 29 CY by rw [hwa, hg]; exact Blk.new _ _ _)
      have HPo := Lib.hid (show OwnE wa wb.heap.size u acc by rw [hwa]; exact ⟨OwnK.alloc Hown6.out.1 _, Hown6.out.2⟩)
      have HPl := Lib.hid (show Below wb.heap.size wb wa by rw [hwa]; exact Hb6.out.alloc Hb6.out.size _)
      have HPn := Lib.hid (show ∀ g1, u.ownBlock = some g1 → g1 ≠ g from fun g1 hg1 => by have := (Hown6.out.lt g1 hg1).2; omega)
      rw [← hwa]
      rw [← hg] at f8
      clear hwa hg
      refine then_go ?_
      repeat with_reducible refine wp_seq ?_
      refine wp_region_lit ?_
      refine wpList_next rfl hsz19 hde19 27 rfl (by decide) fun K hK => ?_
      go_simp
      refine hK _ _ fun a20 hsz20 hde20 f27 hk => ?_
      clear hK K
      replace f0 := (hk 0 (by decide)).trans f0
      replace f3 := (hk 3 (by decide)).trans f3
      replace f5 := (hk 5 (by decide)).trans f5
      replace f6 := (hk 6 (by decide)).trans f6
      replace f7 := (hk 7 (by decide)).trans f7
      replace f8 := (hk 8 (by decide)).trans f8
      replace f27 : a20.tmps[27]?.getD undef = .pointer (some ⟨g, 7, none⟩) := f27
      clear hk hsz19 hde19
      refine wpList_next rfl hsz20 hde20 28 rfl (by decide) fun K hK => ?_
      refine wp_load_mid 27 (.tmp 27) rfl g 7 (eval_at f27) AY.toList _ (HrAY.out _ _ HPb.out) Tryd.underlying27 rfl HinfAY.out ?_
      refine hK _ _ fun a21 hsz21 hde21 f28 hk => ?_
      clear hK K
      replace f0 := (hk 0 (by decide)).trans f0
      replace f3 := (hk 3 (by decide)).trans f3
      replace f5 := (hk 5 (by decide)).trans f5
      replace f6 := (hk 6 (by decide)).trans f6
      replace f7 := (hk 7 (by decide)).trans f7
      replace f8 := (hk 8 (by decide)).trans f8
      replace f28 : a21.tmps[28]?.getD undef = .agg AY := f28
      clear hk hsz20 hde20 f27
      refine wpList_next rfl hsz21 hde21 29 rfl (by decide) fun K hK => ?_
      go_simp
      refine hK _ _ fun a22 hsz22 hde22 f29 hk => ?_
      clear hK K
      replace f0 := (hk 0 (by decide)).trans f0
      replace f3 := (hk 3 (by decide)).trans f3
      replace f5 := (hk 5 (by decide)).trans f5
      replace f6 := (hk 6 (by decide)).trans f6
      replace f7 := (hk 7 (by decide)).trans f7
      replace f8 := (hk 8 (by decide)).trans f8
      replace f28 := (hk 28 (by decide)).trans f28
      replace f29 : a22.tmps[29]?.getD undef = .pointer (some ⟨w.heap.size, 7, none⟩) := f29
      clear hk hsz21 hde21
      refine wpList_next rfl hsz22 hde22 30 rfl (by decide) fun K hK => ?_
      refine wp_load_mid 27 (.tmp 29) rfl w.heap.size 7 (eval_at f29) AX.toList _ (HrA.out _ HPl.out) Tryd.underlying27 rfl HinfA.out ?_
      refine hK _ _ fun a23 hsz23 hde23 f30 hk => ?_
      clear hK K
      replace f0 := (hk 0 (by decide)).trans f0
      replace f3 := (hk 3 (by decide)).trans f3
      replace f5 := (hk 5 (by decide)).trans f5
      replace f6 := (hk 6 (by decide)).trans f6
      replace f7 := (hk 7 (by decide)).trans f7
      replace f8 := (hk 8 (by decide)).trans f8
      replace f28 := (hk 28 (by decide)).trans f28
      replace f30 : a23.tmps[30]?.getD undef = .agg AX := f30
      clear hk hsz22 hde22 f29
      refine wpList_next rfl hsz23 hde23 31 rfl (by decide) fun K hK => ?_
      go_simp
      refine (Hjn.out _).mono ?_
      rintro e7 w7 ⟨rfl, hb7⟩
      go_simp
      refine hK _ _ fun a24 hsz24 hde24 f31 hk => ?_
      clear hK K
      replace f0 := (hk 0 (by decide)).trans f0
      replace f3 := (hk 3 (by decide)).trans f3
      replace f5 := (hk 5 (by decide)).trans f5
      replace f6 := (hk 6 (by decide)).trans f6
      replace f7 := (hk 7 (by decide)).trans f7
      replace f8 := (hk 8 (by decide)).trans f8
      replace f31 : a24.tmps[31]?.getD undef = .agg AZ := f31
      clear hk hsz23 hde23 f28 f30
      have HPb7 := Lib.hid (HPb.out.grow hb7)
      have HPo7 := Lib.hid (HPo.out.grow hb7)
      have HPl7 := Lib.hid (below_call HPl.out hb7)
      clear hb7
      refine wpList_next rfl hsz24 hde24 32 rfl (by decide) fun K hK => ?_
      go_simp
      refine hK _ _ fun a25 hsz25 hde25 f32 hk => ?_
      clear hK K
      replace f0 := (hk 0 (by decide)).trans f0
      replace f3 := (hk 3 (by decide)).trans f3
      replace f5 := (hk 5 (by decide)).trans f5
      replace f6 := (hk 6 (by decide)).trans f6
      replace f7 := (hk 7 (by decide)).trans f7
      replace f8 := (hk 8 (by decide)).trans f8
      replace f31 := (hk 31 (by decide)).trans f31
      replace f32 : a25.tmps[32]?.getD undef = .pointer (some ⟨g, 7, none⟩) := f32
      clear hk hsz24 hde24
      refine wpList_next0 rfl rfl fun K hK => ?_
      refine wp_store_mid 27 (.tmp 32) (.tmp 31) rfl g 7 AZ (eval_at f32) (eval_at f31) (by rw [HAZs.out]; exact HthY.out _ _ HPb7.out) HinfAZ.out HAZ1.out ?_
      refine hK undef _ ?_
      clear hK K
      clear f32 f31
      refine wpList_nil ?_
      obtain ⟨w8, hw8⟩ : ∃ w8, w8 = w7.setCells g 7 AZ.toList := ⟨_, rfl⟩
      have HPb8 := Lib.hid (show Blk w8 g 29 CZ by rw [hw8]; exact HstY.out _ _ HPb7.out)
      have HPo8 := Lib.hid (show OwnE w8 wb.heap.size u acc by rw [hw8]; exact ⟨OwnK.keep HPo7.out.1 fun g1 hg1 => heap_setCells g AZ.toList 7 w7 g1 (HPn.out g1 hg1), HPo7.out.2⟩)
      have HPl8 := Lib.hid (show Below wb.heap.size wb w8 by rw [hw8]; exact below_setCells HPl7.out HPw.out HPl7.out.size 7 _)
      have HrZ := Lib.hid (show w8.rangeAt g 0 CZ.toList from HPb8.out.range 0 CZ.toList fun j u hu => by rw [Nat.zero_add, ← Array.getElem?_toList]; exact hu)
      rw [← hw8]
      clear hw8 HPb HPo HPl HPb7 HPo7 HPl7
      refine then_go ?_
      repeat with_reducible refine wp_seq ?_
      have hWs3 := HPl8.out.size
      obtain ⟨v3, W3, hrun3, hown3, hb3⟩ := app_plain wb.heap.size w8 u acc (meltE Y X) (melt_ok HYok.out HX.out) HPo8.out (by have := Hlen.out; have := Hl.out; omega) hWs3 CZ HCZ.out
      have Hrun3 := Lib.hid hrun3
      have Hown3 := Lib.hid hown3
      have Hb3 := Lib.hid (HPl8.out.trans (hb3 wb.heap.size (Nat.le_refl _)))
      clear hrun3 hown3 hb3 hWs3
      refine wp_region_lit ?_
      refine wpList_next rfl hsz25 hde25 33 rfl (by decide) fun K hK => ?_
      go_simp
      refine hK _ _ fun a26 hsz26 hde26 f33 hk => ?_
      clear hK K
      replace f0 := (hk 0 (by decide)).trans f0
      replace f3 := (hk 3 (by decide)).trans f3
      replace f5 := (hk 5 (by decide)).trans f5
      replace f6 := (hk 6 (by decide)).trans f6
      replace f7 := (hk 7 (by decide)).trans f7
      replace f8 := (hk 8 (by decide)).trans f8
      replace f33 : a26.tmps[33]?.getD undef = u := f33
      clear hk hsz25 hde25
      refine wpList_next rfl hsz26 hde26 34 rfl (by decide) fun K hK => ?_
      refine wp_load_mid 29 (.tmp 8) rfl g 0 (eval_at f8) CZ.toList _ HrZ.out Tryd.underlying29 rfl HinfCZ.out ?_
      refine hK _ _ fun a27 hsz27 hde27 f34 hk => ?_
      clear hK K
      replace f0 := (hk 0 (by decide)).trans f0
      replace f3 := (hk 3 (by decide)).trans f3
      replace f5 := (hk 5 (by decide)).trans f5
      replace f6 := (hk 6 (by decide)).trans f6
      replace f7 := (hk 7 (by decide)).trans f7
      replace f8 := (hk 8 (by decide)).trans f8
      replace f33 := (hk 33 (by decide)).trans f33
      replace f34 : a27.tmps[34]?.getD undef = .agg CZ := f34
      clear hk hsz26 hde26
      refine wpList_next rfl hsz27 hde27 35 rfl (by decide) fun K hK => ?_
      go_simp
      refine hK _ _ fun a28 hsz28 hde28 f35 hk => ?_
      clear hK K
      replace f0 := (hk 0 (by decide)).trans f0
      replace f3 := (hk 3 (by decide)).trans f3
      replace f5 := (hk 5 (by decide)).trans f5
      replace f6 := (hk 6 (by decide)).trans f6
      replace f7 := (hk 7 (by decide)).trans f7
      replace f8 := (hk 8 (by decide)).trans f8
      replace f33 := (hk 33 (by decide)).trans f33
      replace f35 : a28.tmps[35]?.getD undef = .slice (some ⟨w8.heap.size, 0, none⟩) 1 1 := f35
      clear hk hsz27 hde27 f34
      rw [HfZ.out]
      refine wpList_next rfl hsz28 hde28 36 rfl (by decide) fun K hK => ?_
      refine wp_append (.tmp 33) (.tmp 35) 22 rfl (by rw [eval_at f33, eval_at f35]; exact Hrun3.out) ?_
      refine hK _ _ fun a29 hsz29 hde29 f36 hk => ?_
      clear hK K
      replace f0 := (hk 0 (by decide)).trans f0
      replace f3 := (hk 3 (by decide)).trans f3
      replace f5 := (hk 5 (by decide)).trans f5
      replace f6 := (hk 6 (by decide)).trans f6
      replace f7 := (hk 7 (by decide)).trans f7
      replace f8 := (hk 8 (by decide)).trans f8
      replace f36 : a29.tmps[36]?.getD undef = v3 := f36
      clear hk hsz28 hde28 f33 f35
      refine wpList_next rfl hsz29 hde29 5 rfl (by decide) fun K hK => ?_
      go_simp
      refine hK _ _ fun a30 hsz30 hde30 f5 hk => ?_
      clear hK K
      replace f0 := (hk 0 (by decide)).trans f0
      replace f3 := (hk 3 (by decide)).trans f3
      replace f6 := (hk 6 (by decide)).trans f6
      replace f7 := (hk 7 (by decide)).trans f7
      replace f8 := (hk 8 (by decide)).trans f8
      replace f5 : a30.tmps[5]?.getD undef = v3 := f5
      clear hk hsz29 hde29 f36
      refine wpList_nil ?_
      clear f8
      refine then_go ?_
      repeat with_reducible refine wp_seq ?_
      refine wp_region_lit ?_
      refine wpList_next rfl hsz30 hde30 6 rfl (by decide) fun K hK => ?_
      go_simp
      refine hK _ _ fun a31 hsz31 hde31 f6 hk => ?_
      clear hK K
      replace f0 := (hk 0 (by decide)).trans f0
      replace f3 := (hk 3 (by decide)).trans f3
      replace f7 := (hk 7 (by decide)).trans f7
      replace f5 := (hk 5 (by decide)).trans f5
      replace f6 : a31.tmps[6]?.getD undef = .bool true := f6
      clear hk hsz30 hde30
      refine wpList_nil ?_
      refine then_go ?_
      refine wp_exit ?_
      repeat with_reducible refine then_exit ?_
      refine block_exit ?_
      refine then_go ?_
      repeat with_reducible refine wp_seq ?_
      refine wp_region_lit ?_
      refine wpList_next rfl hsz31 hde31 13 rfl (by decide) fun K hK => ?_
      go_simp
      refine hK _ _ fun a32 hsz32 hde32 f13 hk => ?_
      clear hK K
      replace f0 := (hk 0 (by decide)).trans f0
      replace f3 := (hk 3 (by decide)).trans f3
      replace f7 := (hk 7 (by decide)).trans f7
      replace f5 := (hk 5 (by decide)).trans f5
      replace f6 := (hk 6 (by decide)).trans f6
      replace f13 : a32.tmps[13]?.getD undef = .int .i64 ((k : Nat) : Int) := f13
      clear hk hsz31 hde31
      refine wpList_next rfl hsz32 hde32 14 rfl (by decide) fun K hK => ?_
      go_simp
      refine hK _ _ fun a33 hsz33 hde33 f14 hk => ?_
      clear hK K
      replace f0 := (hk 0 (by decide)).trans f0
      replace f3 := (hk 3 (by decide)).trans f3
      replace f7 := (hk 7 (by decide)).trans f7
      replace f5 := (hk 5 (by decide)).trans f5
      replace f6 := (hk 6 (by decide)).trans f6
      clear hk hsz32 hde32 f13
      replace f14 : a33.tmps[14]?.getD undef = .int .i64 ((k + 1 : Nat) : Int) := f14.trans (by first | (congr 1; done) | (congr 1; rw [IntKind.wrap_i64] <;> omega))
      refine wpList_next rfl hsz33 hde33 7 rfl (by decide) fun K hK => ?_
      go_simp
      refine hK _ _ fun a34 hsz34 hde34 f7 hk => ?_
      clear hK K
      replace f0 := (hk 0 (by decide)).trans f0
      replace f3 := (hk 3 (by decide)).trans f3
      replace f5 := (hk 5 (by decide)).trans f5
      replace f6 := (hk 6 (by decide)).trans f6
      replace f7 : a34.tmps[7]?.getD undef = .int .i64 ((k + 1 : Nat) : Int) := f7
      clear hk hsz33 hde33 f14
      refine wpList_nil ?_
      refine then_go ?_
      exact ⟨L.length - (k + 1), by rw [Hn0.out]; omega, k + 1, true, v3, acc ++ [meltE Y X], hsz34, hde34, f0, f3, f5, f6, f7, Lib.hid (by omega), Hown3, Hb3, Lib.hid (by rw [← Hacc.out, HD.out]; rw [goP, if_pos Hq.out.symm]; simp), Lib.hid (by have := Hlen.out; simp; omega), rfl⟩
    | false =>
      refine wp_cond_false (eval_at f22) ?_
      refine wp_skip ?_
      refine then_go ?_
      clear f22
      repeat with_reducible refine wp_seq ?_
      cases p with
      | true =>
        refine wp_region_goodg (tblG [(37, .bool true), (38, .bool false), (39, .bool false), (40, undef), (41, undef), (42, undef), (43, undef), (44, undef), (45, undef), (46, undef), (47, undef), (48, .bool false)]) 67 (by kernel_rfl) (by kernel_rfl) (by kernel_rfl) (by kernel_rfl) hsz14h.out ?_ ?_ ?_
        · intro t v7 x x' h _ _
          exact h
        · intro i7 o hi7 a x hbx hsame hpre K hK
          have hlt7 : i7 < 12 := (Array.getElem?_eq_some_iff.1 hi7).1
          rcases (show i7 = 0 ∨ i7 = 1 ∨ i7 = 2 ∨ i7 = 3 ∨ i7 = 4 ∨ i7 = 5 ∨ i7 = 6 ∨ i7 = 7 ∨ i7 = 8 ∨ i7 = 9 ∨ i7 = 10 ∨ i7 = 11 by omega) with rfl | rfl | rfl | rfl | rfl | rfl | rfl | rfl | rfl | rfl | rfl | rfl
          all_goals (have ho := Option.some.inj hi7; subst ho; clear hi7 hlt7)
          · have q6 : a.tmps[6]?.getD undef = .bool true := (hsame 6 (by decide +kernel)).trans f6
            refine step_plain rfl ?_
            have hk := Lib.hid (show ∀ v7 x', v7 = .bool true → Below x.heap.size x x' → K (a.put (some 37) v7) x' from hK)
            have Hbx := Lib.hid hbx
            clear hsame hpre hK hbx
            go_simp
            exact hk.out _ _ rfl (Below.refl _ _)
          · have q37 : a.tmps[37]?.getD undef = .bool true := hpre ⟨0, .data⟩ (by simp) rfl (by decide)
            refine step_plain rfl ?_
            have hk := Lib.hid (show ∀ v7 x', v7 = .bool false → Below x.heap.size x x' → K (a.put (some 38) v7) x' from hK)
            have Hbx := Lib.hid hbx
            clear hsame hpre hK hbx
            go_simp
            exact hk.out _ _ rfl (Below.refl _ _)
          · have q38 : a.tmps[38]?.getD undef = .bool false := hpre ⟨1, .data⟩ (by simp) rfl (by decide)
            refine step_plain rfl ?_
            have hk := Lib.hid (show ∀ v7 x', v7 = .bool false → Below x.heap.size x x' → K (a.put (some 39) v7) x' from hK)
            have Hbx := Lib.hid hbx
            clear hsame hpre hK hbx
            go_simp
            exact hk.out _ _ rfl (Below.refl _ _)
          · have w39 : a.tmps[39]?.getD undef = .bool false := hpre ⟨2, .guard⟩ (by simp) rfl (by decide)
            refine step_left (not_wanted (j := 2) (t := 39) (b := true) rfl rfl (.inr w39)) ?_
            have hk := Lib.hid (show ∀ v7 x', v7 = undef → Below x.heap.size x x' → K (a.put (some 40) v7) x' from hK)
            have Hbx := Lib.hid hbx
            clear hsame hpre hK hbx w39
            exact hk.out _ _ rfl (Below.refl _ _)
          · have w39 : a.tmps[39]?.getD undef = .bool false := hpre ⟨2, .guard⟩ (by simp) rfl (by decide)
            refine step_left (not_wanted (j := 2) (t := 39) (b := true) rfl rfl (.inr w39)) ?_
            have hk := Lib.hid (show ∀ v7 x', v7 = undef → Below x.heap.size x x' → K (a.put (some 41) v7) x' from hK)
            have Hbx := Lib.hid hbx
            clear hsame hpre hK hbx w39
            exact hk.out _ _ rfl (Below.refl _ _)
          · have w39 : a.tmps[39]?.getD undef = .bool false := hpre ⟨2, .guard⟩ (by simp) rfl (by decide)
            refine step_left (not_wanted (j := 2) (t := 39) (b := true) rfl rfl (.inr w39)) ?_
            have hk := Lib.hid (show ∀ v7 x', v7 = undef → Below x.heap.size x x' → K (a.put (some 42) v7) x' from hK)
            have Hbx := Lib.hid hbx
            clear hsame hpre hK hbx w39
            exact hk.out _ _ rfl (Below.refl _ _)
          · have w39 : a.tmps[39]?.getD undef = .bool false := hpre ⟨2, .guard⟩ (by simp) rfl (by decide)
            refine step_left (not_wanted (j := 2) (t := 39) (b := true) rfl rfl (.inr w39)) ?_
            have hk := Lib.hid (show ∀ v7 x', v7 = undef → Below x.heap.size x x' → K (a.put (some 43) v7) x' from hK)
            have Hbx := Lib.hid hbx
            clear hsame hpre hK hbx w39
            exact hk.out _ _ rfl (Below.refl _ _)
          · have w39 : a.tmps[39]?.getD undef = .bool false := hpre ⟨2, .guard⟩ (by simp) rfl (by decide)
            refine step_left (not_wanted (j := 2) (t := 39) (b := true) rfl rfl (.inr w39)) ?_
            have hk := Lib.hid (show ∀ v7 x', v7 = undef → Below x.heap.size x x' → K (a.put (some 44) v7) x' from hK)
            have Hbx := Lib.hid hbx
            clear hsame hpre hK hbx w39
            exact hk.out _ _ rfl (Below.refl _ _)
          · have w39 : a.tmps[39]?.getD undef = .bool false := hpre ⟨2, .guard⟩ (by simp) rfl (by decide)
            refine step_left (not_wanted (j := 2) (t := 39) (b := true) rfl rfl (.inr w39)) ?_
            have hk := Lib.hid (show ∀ v7 x', v7 = undef → Below x.heap.size x x' → K (a.put (some 45) v7) x' from hK)
            have Hbx := Lib.hid hbx
            clear hsame hpre hK hbx w39
            exact hk.out _ _ rfl (Below.refl _ _)
          · have w39 : a.tmps[39]?.getD undef = .bool false := hpre ⟨2, .guard⟩ (by simp) rfl (by decide)
            refine step_left (not_wanted (j := 2) (t := 39) (b := true) rfl rfl (.inr w39)) ?_
            have hk := Lib.hid (show ∀ v7 x', v7 = undef → Below x.heap.size x x' → K (a.put (some 46) v7) x' from hK)
            have Hbx := Lib.hid hbx
            clear hsame hpre hK hbx w39
            exact hk.out _ _ rfl (Below.refl _ _)
          · have w39 : a.tmps[39]?.getD undef = .bool false := hpre ⟨2, .guard⟩ (by simp) rfl (by decide)
            refine step_left (not_wanted (j := 2) (t := 39) (b := true) rfl rfl (.inr w39)) ?_
            have hk := Lib.hid (show ∀ v7 x', v7 = undef → Below x.heap.size x x' → K (a.put (some 47) v7) x' from hK)
            have Hbx := Lib.hid hbx
            clear hsame hpre hK hbx w39
            exact hk.out _ _ rfl (Below.refl _ _)
          · have q39 : a.tmps[39]?.getD undef = .bool false := hpre ⟨2, .data⟩ (by simp) rfl (by decide)
            have q47 : a.tmps[47]?.getD undef = undef := hpre ⟨10, .data⟩ (by simp) rfl (by decide)
            refine step_plain rfl ?_
            have hk := Lib.hid (show ∀ v7 x', v7 = .bool false → Below x.heap.size x x' → K (a.put (some 48) v7) x' from hK)
            have Hbx := Lib.hid hbx
            clear hsame hpre hK hbx
            go_simp
            exact hk.out _ _ rfl (Below.refl _ _)
        intro a15 x15 hbx hsame hG hsz15 hde15
        replace f0 := (hsame 0 (by decide +kernel)).trans f0
        replace f3 := (hsame 3 (by decide +kernel)).trans f3
        replace f5 := (hsame 5 (by decide +kernel)).trans f5
        replace f6 := (hsame 6 (by decide +kernel)).trans f6
        replace f7 := (hsame 7 (by decide +kernel)).trans f7
        have f48 : a15.tmps[48]?.getD undef = .bool false := hG 11 (by decide)
        have Hbx15 := Lib.hid hbx
        have hsz15h := Lib.hid hsz15
        have hde15h := Lib.hid (hde15.trans hde14h.out)
        clear hsame hG hbx hsz15 hde15 hsz14h hde14h
        have Hb8 := Lib.hid (below_call Hb6.out Hbx15.out)
        have Hown8 := Lib.hid (Hown6.out.grow Hbx15.out)
        clear Hbx15
        refine then_go ?_
        repeat with_reducible refine wp_seq ?_
        refine wp_cond_false (eval_at f48) ?_
        refine wp_skip ?_
        refine then_go ?_
        clear f48
        repeat with_reducible refine wp_seq ?_
        have hWs4 := Hb8.out.size
        obtain ⟨v4, W4, hrun4, hown4, hb4⟩ := app_plain wb.heap.size x15 u acc Y HYok.out Hown8.out (by have := Hlen.out; have := Hl.out; omega) hWs4 CY HCY.out
        have Hrun4 := Lib.hid hrun4
        have Hown4 := Lib.hid hown4
        have Hb4 := Lib.hid (Hb8.out.trans (hb4 wb.heap.size (Nat.le_refl _)))
        clear hrun4 hown4 hb4 hWs4
        refine wp_region_lit ?_
        refine wpList_next rfl hsz15h hde15h 53 rfl (by decide) fun K hK => ?_
        go_simp
        refine hK _ _ fun a16 hsz16 hde16 f53 hk => ?_
        clear hK K
        replace f0 := (hk 0 (by decide)).trans f0
        replace f3 := (hk 3 (by decide)).trans f3
        replace f5 := (hk 5 (by decide)).trans f5
        replace f6 := (hk 6 (by decide)).trans f6
        replace f7 := (hk 7 (by decide)).trans f7
        replace f53 : a16.tmps[53]?.getD undef = u := f53
        clear hk hsz15h hde15h
        refine wpList_next rfl hsz16 hde16 54 rfl (by decide) fun K hK => ?_
        go_simp
        refine hK _ _ fun a17 hsz17 hde17 f54 hk => ?_
        clear hK K
        replace f0 := (hk 0 (by decide)).trans f0
        replace f3 := (hk 3 (by decide)).trans f3
        replace f5 := (hk 5 (by decide)).trans f5
        replace f6 := (hk 6 (by decide)).trans f6
        replace f7 := (hk 7 (by decide)).trans f7
        replace f53 := (hk 53 (by decide)).trans f53
        replace f54 : a17.tmps[54]?.getD undef = .slice (some ⟨b, off, none⟩) n c := f54
        clear hk hsz16 hde16
        refine wpList_next rfl hsz17 hde17 55 rfl (by decide) fun K hK => ?_
        go_simp
        refine hK _ _ fun a18 hsz18 hde18 f55 hk => ?_
        clear hK K
        replace f0 := (hk 0 (by decide)).trans f0
        replace f3 := (hk 3 (by decide)).trans f3
        replace f5 := (hk 5 (by decide)).trans f5
        replace f6 := (hk 6 (by decide)).trans f6
        replace f7 := (hk 7 (by decide)).trans f7
        replace f53 := (hk 53 (by decide)).trans f53
        replace f54 := (hk 54 (by decide)).trans f54
        replace f55 : a18.tmps[55]?.getD undef = .int .i64 ((k : Nat) : Int) := f55
        clear hk hsz17 hde17
        refine wpList_next rfl hsz18 hde18 56 rfl (by decide) fun K hK => ?_
        go_simp
        refine hK _ _ fun a19 hsz19 hde19 f56 hk => ?_
        clear hK K
        replace f0 := (hk 0 (by decide)).trans f0
        replace f3 := (hk 3 (by decide)).trans f3
        replace f5 := (hk 5 (by decide)).trans f5
        replace f6 := (hk 6 (by decide)).trans f6
        replace f7 := (hk 7 (by decide)).trans f7
        replace f53 := (hk 53 (by decide)).trans f53
        replace f56 : a19.tmps[56]?.getD undef = .pointer (some ⟨b, off + k * 15, none⟩) := f56
        clear hk hsz18 hde18 f54 f55
        refine wpList_next rfl hsz19 hde19 57 rfl (by decide) fun K hK => ?_
        refine wp_load_mid 29 (.tmp 56) rfl b (off + k * 15) (eval_at f56) CY.toList _ (HrY.out _ Hb8.out) Tryd.underlying29 rfl HinfCY.out ?_
        refine hK _ _ fun a20 hsz20 hde20 f57 hk => ?_
        clear hK K
        replace f0 := (hk 0 (by decide)).trans f0
        replace f3 := (hk 3 (by decide)).trans f3
        replace f5 := (hk 5 (by decide)).trans f5
        replace f6 := (hk 6 (by decide)).trans f6
        replace f7 := (hk 7 (by decide)).trans f7
        replace f53 := (hk 53 (by decide)).trans f53
        replace f57 : a20.tmps[57]?.getD undef = .agg CY := f57
        clear hk hsz19 hde19 f56
        refine wpList_next rfl hsz20 hde20 58 rfl (by decide) fun K hK => ?_
        go_simp
        refine hK _ _ fun a21 hsz21 hde21 f58 hk => ?_
        clear hK K
        replace f0 := (hk 0 (by decide)).trans f0
        replace f3 := (hk 3 (by decide)).trans f3
        replace f5 := (hk 5 (by decide)).trans f5
        replace f6 := (hk 6 (by decide)).trans f6
        replace f7 := (hk 7 (by decide)).trans f7
        replace f53 := (hk 53 (by decide)).trans f53
        replace f58 : a21.tmps[58]?.getD undef = .slice (some ⟨x15.heap.size, 0, none⟩) 1 1 := f58
        clear hk hsz20 hde20 f57
        rw [HfY.out]
        refine wpList_next rfl hsz21 hde21 59 rfl (by decide) fun K hK => ?_
        refine wp_append (.tmp 53) (.tmp 58) 22 rfl (by rw [eval_at f53, eval_at f58]; exact Hrun4.out) ?_
        refine hK _ _ fun a22 hsz22 hde22 f59 hk => ?_
        clear hK K
        replace f0 := (hk 0 (by decide)).trans f0
        replace f3 := (hk 3 (by decide)).trans f3
        replace f5 := (hk 5 (by decide)).trans f5
        replace f6 := (hk 6 (by decide)).trans f6
        replace f7 := (hk 7 (by decide)).trans f7
        replace f59 : a22.tmps[59]?.getD undef = v4 := f59
        clear hk hsz21 hde21 f53 f58
        refine wpList_next rfl hsz22 hde22 5 rfl (by decide) fun K hK => ?_
        go_simp
        refine hK _ _ fun a23 hsz23 hde23 f5 hk => ?_
        clear hK K
        replace f0 := (hk 0 (by decide)).trans f0
        replace f3 := (hk 3 (by decide)).trans f3
        replace f6 := (hk 6 (by decide)).trans f6
        replace f7 := (hk 7 (by decide)).trans f7
        replace f5 : a23.tmps[5]?.getD undef = v4 := f5
        clear hk hsz22 hde22 f59
        refine wpList_nil ?_
        refine block_go ?_
        refine then_go ?_
        repeat with_reducible refine wp_seq ?_
        refine wp_region_lit ?_
        refine wpList_next rfl hsz23 hde23 13 rfl (by decide) fun K hK => ?_
        go_simp
        refine hK _ _ fun a24 hsz24 hde24 f13 hk => ?_
        clear hK K
        replace f0 := (hk 0 (by decide)).trans f0
        replace f3 := (hk 3 (by decide)).trans f3
        replace f6 := (hk 6 (by decide)).trans f6
        replace f7 := (hk 7 (by decide)).trans f7
        replace f5 := (hk 5 (by decide)).trans f5
        replace f13 : a24.tmps[13]?.getD undef = .int .i64 ((k : Nat) : Int) := f13
        clear hk hsz23 hde23
        refine wpList_next rfl hsz24 hde24 14 rfl (by decide) fun K hK => ?_
        go_simp
        refine hK _ _ fun a25 hsz25 hde25 f14 hk => ?_
        clear hK K
        replace f0 := (hk 0 (by decide)).trans f0
        replace f3 := (hk 3 (by decide)).trans f3
        replace f6 := (hk 6 (by decide)).trans f6
        replace f7 := (hk 7 (by decide)).trans f7
        replace f5 := (hk 5 (by decide)).trans f5
        clear hk hsz24 hde24 f13
        replace f14 : a25.tmps[14]?.getD undef = .int .i64 ((k + 1 : Nat) : Int) := f14.trans (by first | (congr 1; done) | (congr 1; rw [IntKind.wrap_i64] <;> omega))
        refine wpList_next rfl hsz25 hde25 7 rfl (by decide) fun K hK => ?_
        go_simp
        refine hK _ _ fun a26 hsz26 hde26 f7 hk => ?_
        clear hK K
        replace f0 := (hk 0 (by decide)).trans f0
        replace f3 := (hk 3 (by decide)).trans f3
        replace f6 := (hk 6 (by decide)).trans f6
        replace f5 := (hk 5 (by decide)).trans f5
        replace f7 : a26.tmps[7]?.getD undef = .int .i64 ((k + 1 : Nat) : Int) := f7
        clear hk hsz25 hde25 f14
        refine wpList_nil ?_
        refine then_go ?_
        exact ⟨L.length - (k + 1), by rw [Hn0.out]; omega, k + 1, true, v4, acc ++ [Y], hsz26, hde26, f0, f3, f5, f6, f7, Lib.hid (by omega), Hown4, Hb4, Lib.hid (by rw [← Hacc.out, HD.out]; rw [goP, if_neg (by rw [← Hq.out]; simp), if_neg (by simp)]; simp), Lib.hid (by have := Hlen.out; simp; omega), rfl⟩
      | false =>
        refine wp_region_goodg (tblG [(37, .bool false), (38, .bool true), (39, .bool true), (40, .pointer (some ⟨w.heap.size, 0, none⟩)), (41, .agg IX), (42, .slice (some ⟨b, off, none⟩) n c), (43, .int .i64 ((k : Nat) : Int)), (44, .pointer (some ⟨b, off + k * 15, none⟩)), (45, .pointer (some ⟨b, off + k * 15, none⟩)), (46, .agg IY), (47, .bool l), (48, .bool l)]) 67 (by kernel_rfl) (by kernel_rfl) (by kernel_rfl) (by kernel_rfl) hsz14h.out ?_ ?_ ?_
        · intro t v7 x x' h _ _
          exact h
        · intro i7 o hi7 a x hbx hsame hpre K hK
          have hlt7 : i7 < 12 := (Array.getElem?_eq_some_iff.1 hi7).1
          rcases (show i7 = 0 ∨ i7 = 1 ∨ i7 = 2 ∨ i7 = 3 ∨ i7 = 4 ∨ i7 = 5 ∨ i7 = 6 ∨ i7 = 7 ∨ i7 = 8 ∨ i7 = 9 ∨ i7 = 10 ∨ i7 = 11 by omega) with rfl | rfl | rfl | rfl | rfl | rfl | rfl | rfl | rfl | rfl | rfl | rfl
          all_goals (have ho := Option.some.inj hi7; subst ho; clear hi7 hlt7)
          · have q6 : a.tmps[6]?.getD undef = .bool false := (hsame 6 (by decide +kernel)).trans f6
            refine step_plain rfl ?_
            have hk := Lib.hid (show ∀ v7 x', v7 = .bool false → Below x.heap.size x x' → K (a.put (some 37) v7) x' from hK)
            have Hbx := Lib.hid hbx
            clear hsame hpre hK hbx
            go_simp
            exact hk.out _ _ rfl (Below.refl _ _)
          · have q37 : a.tmps[37]?.getD undef = .bool false := hpre ⟨0, .data⟩ (by simp) rfl (by decide)
            refine step_plain rfl ?_
            have hk := Lib.hid (show ∀ v7 x', v7 = .bool true → Below x.heap.size x x' → K (a.put (some 38) v7) x' from hK)
            have Hbx := Lib.hid hbx
            clear hsame hpre hK hbx
            go_simp
            exact hk.out _ _ rfl (Below.refl _ _)
          · have q38 : a.tmps[38]?.getD undef = .bool true := hpre ⟨1, .data⟩ (by simp) rfl (by decide)
            refine step_plain rfl ?_
            have hk := Lib.hid (show ∀ v7 x', v7 = .bool true → Below x.heap.size x x' → K (a.put (some 39) v7) x' from hK)
            have Hbx := Lib.hid hbx
            clear hsame hpre hK hbx
            go_simp
            exact hk.out _ _ rfl (Below.refl _ _)
          · have q3 : a.tmps[3]?.getD undef = .pointer (some ⟨w.heap.size, 0, none⟩) := (hsame 3 (by decide +kernel)).trans f3
            have w39 : a.tmps[39]?.getD undef = .bool true := hpre ⟨2, .guard⟩ (by simp) rfl (by decide)
            refine step_wanted (wanted_of (j := 2) (t := 39) (b := true) rfl rfl w39) ?_
            have hk := Lib.hid (show ∀ v7 x', v7 = .pointer (some ⟨w.heap.size, 0, none⟩) → Below x.heap.size x x' → K (a.put (some 40) v7) x' from hK)
            have Hbx := Lib.hid hbx
            clear hsame hpre hK hbx w39
            go_simp
            exact hk.out _ _ rfl (Below.refl _ _)
          · have q40 : a.tmps[40]?.getD undef = .pointer (some ⟨w.heap.size, 0, none⟩) := hpre ⟨3, .data⟩ (by simp) rfl (by decide)
            have w39 : a.tmps[39]?.getD undef = .bool true := hpre ⟨2, .guard⟩ (by simp) rfl (by decide)
            refine step_wanted (wanted_of (j := 2) (t := 39) (b := true) rfl rfl w39) ?_
            have hk := Lib.hid (show ∀ v7 x', v7 = .agg IX → Below x.heap.size x x' → K (a.put (some 41) v7) x' from hK)
            have Hbx := Lib.hid hbx
            clear hsame hpre hK hbx w39
            refine wp_load_mid 25 (.tmp 40) rfl w.heap.size 0 (eval_at q40) IX.toList _ (HrI.out _ (below_call Hb6.out Hbx.out)) Tryd.underlying25 rfl HinfI.out ?_
            exact hk.out _ _ rfl (Below.refl _ _)
          · have q0 : a.tmps[0]?.getD undef = .slice (some ⟨b, off, none⟩) n c := (hsame 0 (by decide +kernel)).trans f0
            have w39 : a.tmps[39]?.getD undef = .bool true := hpre ⟨2, .guard⟩ (by simp) rfl (by decide)
            refine step_wanted (wanted_of (j := 2) (t := 39) (b := true) rfl rfl w39) ?_
            have hk := Lib.hid (show ∀ v7 x', v7 = .slice (some ⟨b, off, none⟩) n c → Below x.heap.size x x' → K (a.put (some 42) v7) x' from hK)
            have Hbx := Lib.hid hbx
            clear hsame hpre hK hbx w39
            go_simp
            exact hk.out _ _ rfl (Below.refl _ _)
          · have q7 : a.tmps[7]?.getD undef = .int .i64 ((k : Nat) : Int) := (hsame 7 (by decide +kernel)).trans f7
            have w39 : a.tmps[39]?.getD undef = .bool true := hpre ⟨2, .guard⟩ (by simp) rfl (by decide)
            refine step_wanted (wanted_of (j := 2) (t := 39) (b := true) rfl rfl w39) ?_
            have hk := Lib.hid (show ∀ v7 x', v7 = .int .i64 ((k : Nat) : Int) → Below x.heap.size x x' → K (a.put (some 43) v7) x' from hK)
            have Hbx := Lib.hid hbx
            clear hsame hpre hK hbx w39
            go_simp
            exact hk.out _ _ rfl (Below.refl _ _)
          · have q42 : a.tmps[42]?.getD undef = .slice (some ⟨b, off, none⟩) n c := hpre ⟨5, .data⟩ (by simp) rfl (by decide)
            have q43 : a.tmps[43]?.getD undef = .int .i64 ((k : Nat) : Int) := hpre ⟨6, .data⟩ (by simp) rfl (by decide)
            have w39 : a.tmps[39]?.getD undef = .bool true := hpre ⟨2, .guard⟩ (by simp) rfl (by decide)
            refine step_wanted (wanted_of (j := 2) (t := 39) (b := true) rfl rfl w39) ?_
            have hk := Lib.hid (show ∀ v7 x', v7 = .pointer (some ⟨b, off + k * 15, none⟩) → Below x.heap.size x x' → K (a.put (some 44) v7) x' from hK)
            have Hbx := Lib.hid hbx
            clear hsame hpre hK hbx w39
            go_simp
            exact hk.out _ _ rfl (Below.refl _ _)
          · have q44 : a.tmps[44]?.getD undef = .pointer (some ⟨b, off + k * 15, none⟩) := hpre ⟨7, .data⟩ (by simp) rfl (by decide)
            have w39 : a.tmps[39]?.getD undef = .bool true := hpre ⟨2, .guard⟩ (by simp) rfl (by decide)
            refine step_wanted (wanted_of (j := 2) (t := 39) (b := true) rfl rfl w39) ?_
            have hk := Lib.hid (show ∀ v7 x', v7 = .pointer (some ⟨b, off + k * 15, none⟩) → Below x.heap.size x x' → K (a.put (some 45) v7) x' from hK)
            have Hbx := Lib.hid hbx
            clear hsame hpre hK hbx w39
            go_simp
            exact hk.out _ _ rfl (Below.refl _ _)
          · have q45 : a.tmps[45]?.getD undef = .pointer (some ⟨b, off + k * 15, none⟩) := hpre ⟨8, .data⟩ (by simp) rfl (by decide)
            have w39 : a.tmps[39]?.getD undef = .bool true := hpre ⟨2, .guard⟩ (by simp) rfl (by decide)
            refine step_wanted (wanted_of (j := 2) (t := 39) (b := true) rfl rfl w39) ?_
            have hk := Lib.hid (show ∀ v7 x', v7 = .agg IY → Below x.heap.size x x' → K (a.put (some 46) v7) x' from hK)
            have Hbx := Lib.hid hbx
            clear hsame hpre hK hbx w39
            refine wp_load_mid 25 (.tmp 45) rfl b (off + k * 15) (eval_at q45) IY.toList _ (HiY.out _ (below_call Hb6.out Hbx.out)) Tryd.underlying25 rfl HinfY.out ?_
            exact hk.out _ _ rfl (Below.refl _ _)
          · have q41 : a.tmps[41]?.getD undef = .agg IX := hpre ⟨4, .data⟩ (by simp) rfl (by decide)
            have q46 : a.tmps[46]?.getD undef = .agg IY := hpre ⟨9, .data⟩ (by simp) rfl (by decide)
            have w39 : a.tmps[39]?.getD undef = .bool true := hpre ⟨2, .guard⟩ (by simp) rfl (by decide)
            refine step_wanted (wanted_of (j := 2) (t := 39) (b := true) rfl rfl w39) ?_
            have hk := Lib.hid (show ∀ v7 x', v7 = .bool l → Below x.heap.size x x' → K (a.put (some 47) v7) x' from hK)
            have Hbx := Lib.hid hbx
            clear hsame hpre hK hbx w39
            go_simp
            refine (Hls.out _).mono ?_
            rintro e7 w7 ⟨rfl, hb7⟩
            go_simp
            exact hk.out _ _ rfl hb7
          · have q39 : a.tmps[39]?.getD undef = .bool true := hpre ⟨2, .data⟩ (by simp) rfl (by decide)
            have q47 : a.tmps[47]?.getD undef = .bool l := hpre ⟨10, .data⟩ (by simp) rfl (by decide)
            refine step_plain rfl ?_
            have hk := Lib.hid (show ∀ v7 x', v7 = .bool l → Below x.heap.size x x' → K (a.put (some 48) v7) x' from hK)
            have Hbx := Lib.hid hbx
            clear hsame hpre hK hbx
            go_simp
            exact hk.out _ _ rfl (Below.refl _ _)
        intro a15 x15 hbx hsame hG hsz15 hde15
        replace f0 := (hsame 0 (by decide +kernel)).trans f0
        replace f3 := (hsame 3 (by decide +kernel)).trans f3
        replace f5 := (hsame 5 (by decide +kernel)).trans f5
        replace f6 := (hsame 6 (by decide +kernel)).trans f6
        replace f7 := (hsame 7 (by decide +kernel)).trans f7
        have f48 : a15.tmps[48]?.getD undef = .bool l := hG 11 (by decide)
        have Hbx15 := Lib.hid hbx
        have hsz15h := Lib.hid hsz15
        have hde15h := Lib.hid (hde15.trans hde14h.out)
        clear hsame hG hbx hsz15 hde15 hsz14h hde14h
        have Hb8 := Lib.hid (below_call Hb6.out Hbx15.out)
        have Hown8 := Lib.hid (Hown6.out.grow Hbx15.out)
        clear Hbx15
        refine then_go ?_
        repeat with_reducible refine wp_seq ?_
        cases l with
        | false =>
          refine wp_cond_false (eval_at f48) ?_
          refine wp_skip ?_
          refine then_go ?_
          clear f48
          repeat with_reducible refine wp_seq ?_
          have hWs4 := Hb8.out.size
          obtain ⟨v4, W4, hrun4, hown4, hb4⟩ := app_plain wb.heap.size x15 u acc Y HYok.out Hown8.out (by have := Hlen.out; have := Hl.out; omega) hWs4 CY HCY.out
          have Hrun4 := Lib.hid hrun4
          have Hown4 := Lib.hid hown4
          have Hb4 := Lib.hid (Hb8.out.trans (hb4 wb.heap.size (Nat.le_refl _)))
          clear hrun4 hown4 hb4 hWs4
          refine wp_region_lit ?_
          refine wpList_next rfl hsz15h hde15h 53 rfl (by decide) fun K hK => ?_
          go_simp
          refine hK _ _ fun a16 hsz16 hde16 f53 hk => ?_
          clear hK K
          replace f0 := (hk 0 (by decide)).trans f0
          replace f3 := (hk 3 (by decide)).trans f3
          replace f5 := (hk 5 (by decide)).trans f5
          replace f6 := (hk 6 (by decide)).trans f6
          replace f7 := (hk 7 (by decide)).trans f7
          replace f53 : a16.tmps[53]?.getD undef = u := f53
          clear hk hsz15h hde15h
          refine wpList_next rfl hsz16 hde16 54 rfl (by decide) fun K hK => ?_
          go_simp
          refine hK _ _ fun a17 hsz17 hde17 f54 hk => ?_
          clear hK K
          replace f0 := (hk 0 (by decide)).trans f0
          replace f3 := (hk 3 (by decide)).trans f3
          replace f5 := (hk 5 (by decide)).trans f5
          replace f6 := (hk 6 (by decide)).trans f6
          replace f7 := (hk 7 (by decide)).trans f7
          replace f53 := (hk 53 (by decide)).trans f53
          replace f54 : a17.tmps[54]?.getD undef = .slice (some ⟨b, off, none⟩) n c := f54
          clear hk hsz16 hde16
          refine wpList_next rfl hsz17 hde17 55 rfl (by decide) fun K hK => ?_
          go_simp
          refine hK _ _ fun a18 hsz18 hde18 f55 hk => ?_
          clear hK K
          replace f0 := (hk 0 (by decide)).trans f0
          replace f3 := (hk 3 (by decide)).trans f3
          replace f5 := (hk 5 (by decide)).trans f5
          replace f6 := (hk 6 (by decide)).trans f6
          replace f7 := (hk 7 (by decide)).trans f7
          replace f53 := (hk 53 (by decide)).trans f53
          replace f54 := (hk 54 (by decide)).trans f54
          replace f55 : a18.tmps[55]?.getD undef = .int .i64 ((k : Nat) : Int) := f55
          clear hk hsz17 hde17
          refine wpList_next rfl hsz18 hde18 56 rfl (by decide) fun K hK => ?_
          go_simp
          refine hK _ _ fun a19 hsz19 hde19 f56 hk => ?_
          clear hK K
          replace f0 := (hk 0 (by decide)).trans f0
          replace f3 := (hk 3 (by decide)).trans f3
          replace f5 := (hk 5 (by decide)).trans f5
          replace f6 := (hk 6 (by decide)).trans f6
          replace f7 := (hk 7 (by decide)).trans f7
          replace f53 := (hk 53 (by decide)).trans f53
          replace f56 : a19.tmps[56]?.getD undef = .pointer (some ⟨b, off + k * 15, none⟩) := f56
          clear hk hsz18 hde18 f54 f55
          refine wpList_next rfl hsz19 hde19 57 rfl (by decide) fun K hK => ?_
          refine wp_load_mid 29 (.tmp 56) rfl b (off + k * 15) (eval_at f56) CY.toList _ (HrY.out _ Hb8.out) Tryd.underlying29 rfl HinfCY.out ?_
          refine hK _ _ fun a20 hsz20 hde20 f57 hk => ?_
          clear hK K
          replace f0 := (hk 0 (by decide)).trans f0
          replace f3 := (hk 3 (by decide)).trans f3
          replace f5 := (hk 5 (by decide)).trans f5
          replace f6 := (hk 6 (by decide)).trans f6
          replace f7 := (hk 7 (by decide)).trans f7
          replace f53 := (hk 53 (by decide)).trans f53
          replace f57 : a20.tmps[57]?.getD undef = .agg CY := f57
          clear hk hsz19 hde19 f56
          refine wpList_next rfl hsz20 hde20 58 rfl (by decide) fun K hK => ?_
          go_simp
          refine hK _ _ fun a21 hsz21 hde21 f58 hk => ?_
          clear hK K
          replace f0 := (hk 0 (by decide)).trans f0
          replace f3 := (hk 3 (by decide)).trans f3
          replace f5 := (hk 5 (by decide)).trans f5
          replace f6 := (hk 6 (by decide)).trans f6
          replace f7 := (hk 7 (by decide)).trans f7
          replace f53 := (hk 53 (by decide)).trans f53
          replace f58 : a21.tmps[58]?.getD undef = .slice (some ⟨x15.heap.size, 0, none⟩) 1 1 := f58
          clear hk hsz20 hde20 f57
          rw [HfY.out]
          refine wpList_next rfl hsz21 hde21 59 rfl (by decide) fun K hK => ?_
          refine wp_append (.tmp 53) (.tmp 58) 22 rfl (by rw [eval_at f53, eval_at f58]; exact Hrun4.out) ?_
          refine hK _ _ fun a22 hsz22 hde22 f59 hk => ?_
          clear hK K
          replace f0 := (hk 0 (by decide)).trans f0
          replace f3 := (hk 3 (by decide)).trans f3
          replace f5 := (hk 5 (by decide)).trans f5
          replace f6 := (hk 6 (by decide)).trans f6
          replace f7 := (hk 7 (by decide)).trans f7
          replace f59 : a22.tmps[59]?.getD undef = v4 := f59
          clear hk hsz21 hde21 f53 f58
          refine wpList_next rfl hsz22 hde22 5 rfl (by decide) fun K hK => ?_
          go_simp
          refine hK _ _ fun a23 hsz23 hde23 f5 hk => ?_
          clear hK K
          replace f0 := (hk 0 (by decide)).trans f0
          replace f3 := (hk 3 (by decide)).trans f3
          replace f6 := (hk 6 (by decide)).trans f6
          replace f7 := (hk 7 (by decide)).trans f7
          replace f5 : a23.tmps[5]?.getD undef = v4 := f5
          clear hk hsz22 hde22 f59
          refine wpList_nil ?_
          refine block_go ?_
          refine then_go ?_
          repeat with_reducible refine wp_seq ?_
          refine wp_region_lit ?_
          refine wpList_next rfl hsz23 hde23 13 rfl (by decide) fun K hK => ?_
          go_simp
          refine hK _ _ fun a24 hsz24 hde24 f13 hk => ?_
          clear hK K
          replace f0 := (hk 0 (by decide)).trans f0
          replace f3 := (hk 3 (by decide)).trans f3
          replace f6 := (hk 6 (by decide)).trans f6
          replace f7 := (hk 7 (by decide)).trans f7
          replace f5 := (hk 5 (by decide)).trans f5
          replace f13 : a24.tmps[13]?.getD undef = .int .i64 ((k : Nat) : Int) := f13
          clear hk hsz23 hde23
          refine wpList_next rfl hsz24 hde24 14 rfl (by decide) fun K hK => ?_
          go_simp
          refine hK _ _ fun a25 hsz25 hde25 f14 hk => ?_
          clear hK K
          replace f0 := (hk 0 (by decide)).trans f0
          replace f3 := (hk 3 (by decide)).trans f3
          replace f6 := (hk 6 (by decide)).trans f6
          replace f7 := (hk 7 (by decide)).trans f7
          replace f5 := (hk 5 (by decide)).trans f5
          clear hk hsz24 hde24 f13
          replace f14 : a25.tmps[14]?.getD undef = .int .i64 ((k + 1 : Nat) : Int) := f14.trans (by first | (congr 1; done) | (congr 1; rw [IntKind.wrap_i64] <;> omega))
          refine wpList_next rfl hsz25 hde25 7 rfl (by decide) fun K hK => ?_
          go_simp
          refine hK _ _ fun a26 hsz26 hde26 f7 hk => ?_
          clear hK K
          replace f0 := (hk 0 (by decide)).trans f0
          replace f3 := (hk 3 (by decide)).trans f3
          replace f6 := (hk 6 (by decide)).trans f6
          replace f5 := (hk 5 (by decide)).trans f5
          replace f7 : a26.tmps[7]?.getD undef = .int .i64 ((k + 1 : Nat) : Int) := f7
          clear hk hsz25 hde25 f14
          refine wpList_nil ?_
          refine then_go ?_
          exact ⟨L.length - (k + 1), by rw [Hn0.out]; omega, k + 1, false, v4, acc ++ [Y], hsz26, hde26, f0, f3, f5, f6, f7, Lib.hid (by omega), Hown4, Hb4, Lib.hid (by rw [← Hacc.out, HD.out]; rw [goP, if_neg (by rw [← Hq.out]; simp), if_neg (by rw [← Hll.out]; simp)]; simp), Lib.hid (by have := Hlen.out; simp; omega), rfl⟩
        | true =>
          refine wp_cond_true (eval_at f48) ?_
          clear f48
          repeat with_reducible refine wp_seq ?_
          have hWs5 := Hb8.out.size
          obtain ⟨v5, W5, hrun5, hown5, hb5⟩ := app_plain wb.heap.size x15 u acc X HX.out Hown8.out (by have := Hlen.out; have := Hl.out; omega) hWs5 C HC.out
          have Hrun5 := Lib.hid hrun5
          have Hown5 := Lib.hid hown5
          have Hb5 := Lib.hid (Hb8.out.trans (hb5 wb.heap.size (Nat.le_refl _)))
          clear hrun5 hown5 hb5 hWs5
          refine wp_region_lit ?_
          refine wpList_next rfl hsz15h hde15h 49 rfl (by decide) fun K hK => ?_
          go_simp
          refine hK _ _ fun a16 hsz16 hde16 f49 hk => ?_
          clear hK K
          replace f0 := (hk 0 (by decide)).trans f0
          replace f3 := (hk 3 (by decide)).trans f3
          replace f5 := (hk 5 (by decide)).trans f5
          replace f6 := (hk 6 (by decide)).trans f6
          replace f7 := (hk 7 (by decide)).trans f7
          replace f49 : a16.tmps[49]?.getD undef = u := f49
          clear hk hsz15h hde15h
          refine wpList_next rfl hsz16 hde16 50 rfl (by decide) fun K hK => ?_
          refine wp_load_mid 29 (.tmp 3) rfl w.heap.size 0 (eval_at f3) C.toList _ (HrC.out _ Hb8.out) Tryd.underlying29 rfl HinfC.out ?_
          refine hK _ _ fun a17 hsz17 hde17 f50 hk => ?_
          clear hK K
          replace f0 := (hk 0 (by decide)).trans f0
          replace f3 := (hk 3 (by decide)).trans f3
          replace f5 := (hk 5 (by decide)).trans f5
          replace f6 := (hk 6 (by decide)).trans f6
          replace f7 := (hk 7 (by decide)).trans f7
          replace f49 := (hk 49 (by decide)).trans f49
          replace f50 : a17.tmps[50]?.getD undef = .agg C := f50
          clear hk hsz16 hde16
          refine wpList_next rfl hsz17 hde17 51 rfl (by decide) fun K hK => ?_
          go_simp
          refine hK _ _ fun a18 hsz18 hde18 f51 hk => ?_
          clear hK K
          replace f0 := (hk 0 (by decide)).trans f0
          replace f3 := (hk 3 (by decide)).trans f3
          replace f5 := (hk 5 (by decide)).trans f5
          replace f6 := (hk 6 (by decide)).trans f6
          replace f7 := (hk 7 (by decide)).trans f7
          replace f49 := (hk 49 (by decide)).trans f49
          replace f51 : a18.tmps[51]?.getD undef = .slice (some ⟨x15.heap.size, 0, none⟩) 1 1 := f51
          clear hk hsz17 hde17 f50
          rw [HfC.out]
          refine wpList_next rfl hsz18 hde18 52 rfl (by decide) fun K hK => ?_
          refine wp_append (.tmp 49) (.tmp 51) 22 rfl (by rw [eval_at f49, eval_at f51]; exact Hrun5.out) ?_
          refine hK _ _ fun a19 hsz19 hde19 f52 hk => ?_
          clear hK K
          replace f0 := (hk 0 (by decide)).trans f0
          replace f3 := (hk 3 (by decide)).trans f3
          replace f5 := (hk 5 (by decide)).trans f5
          replace f6 := (hk 6 (by decide)).trans f6
          replace f7 := (hk 7 (by decide)).trans f7
          replace f52 : a19.tmps[52]?.getD undef = v5 := f52
          clear hk hsz18 hde18 f49 f51
          refine wpList_next rfl hsz19 hde19 5 rfl (by decide) fun K hK => ?_
          go_simp
          refine hK _ _ fun a20 hsz20 hde20 f5 hk => ?_
          clear hK K
          replace f0 := (hk 0 (by decide)).trans f0
          replace f3 := (hk 3 (by decide)).trans f3
          replace f6 := (hk 6 (by decide)).trans f6
          replace f7 := (hk 7 (by decide)).trans f7
          replace f5 : a20.tmps[5]?.getD undef = v5 := f5
          clear hk hsz19 hde19 f52
          refine wpList_nil ?_
          refine then_go ?_
          repeat with_reducible refine wp_seq ?_
          refine wp_region_lit ?_
          refine wpList_next rfl hsz20 hde20 6 rfl (by decide) fun K hK => ?_
          go_simp
          refine hK _ _ fun a21 hsz21 hde21 f6 hk => ?_
          clear hK K
          replace f0 := (hk 0 (by decide)).trans f0
          replace f3 := (hk 3 (by decide)).trans f3
          replace f7 := (hk 7 (by decide)).trans f7
          replace f5 := (hk 5 (by decide)).trans f5
          replace f6 : a21.tmps[6]?.getD undef = .bool true := f6
          clear hk hsz20 hde20
          refine wpList_nil ?_
          refine then_go ?_
          repeat with_reducible refine wp_seq ?_
          have hWs6 := Hb5.out.size
          obtain ⟨v6, W6, hrun6, hown6, hb6⟩ := app_plain wb.heap.size W5 v5 (acc ++ [X]) Y HYok.out Hown5.out (by have := Hlen.out; have := Hl.out; simp; omega) hWs6 CY HCY.out
          have Hrun6 := Lib.hid hrun6
          have Hown6 := Lib.hid hown6
          have Hb6 := Lib.hid (Hb5.out.trans (hb6 wb.heap.size (Nat.le_refl _)))
          clear hrun6 hown6 hb6 hWs6
          refine wp_region_lit ?_
          refine wpList_next rfl hsz21 hde21 53 rfl (by decide) fun K hK => ?_
          go_simp
          refine hK _ _ fun a22 hsz22 hde22 f53 hk => ?_
          clear hK K
          replace f0 := (hk 0 (by decide)).trans f0
          replace f3 := (hk 3 (by decide)).trans f3
          replace f7 := (hk 7 (by decide)).trans f7
          replace f5 := (hk 5 (by decide)).trans f5
          replace f6 := (hk 6 (by decide)).trans f6
          replace f53 : a22.tmps[53]?.getD undef = v5 := f53
          clear hk hsz21 hde21
          refine wpList_next rfl hsz22 hde22 54 rfl (by decide) fun K hK => ?_
          go_simp
          refine hK _ _ fun a23 hsz23 hde23 f54 hk => ?_
          clear hK K
          replace f0 := (hk 0 (by decide)).trans f0
          replace f3 := (hk 3 (by decide)).trans f3
          replace f7 := (hk 7 (by decide)).trans f7
          replace f5 := (hk 5 (by decide)).trans f5
          replace f6 := (hk 6 (by decide)).trans f6
          replace f53 := (hk 53 (by decide)).trans f53
          replace f54 : a23.tmps[54]?.getD undef = .slice (some ⟨b, off, none⟩) n c := f54
          clear hk hsz22 hde22
          refine wpList_next rfl hsz23 hde23 55 rfl (by decide) fun K hK => ?_
          go_simp
          refine hK _ _ fun a24 hsz24 hde24 f55 hk => ?_
          clear hK K
          replace f0 := (hk 0 (by decide)).trans f0
          replace f3 := (hk 3 (by decide)).trans f3
          replace f7 := (hk 7 (by decide)).trans f7
          replace f5 := (hk 5 (by decide)).trans f5
          replace f6 := (hk 6 (by decide)).trans f6
          replace f53 := (hk 53 (by decide)).trans f53
          replace f54 := (hk 54 (by decide)).trans f54
          replace f55 : a24.tmps[55]?.getD undef = .int .i64 ((k : Nat) : Int) := f55
          clear hk hsz23 hde23
          refine wpList_next rfl hsz24 hde24 56 rfl (by decide) fun K hK => ?_
          go_simp
          refine hK _ _ fun a25 hsz25 hde25 f56 hk => ?_
          clear hK K
          replace f0 := (hk 0 (by decide)).trans f0
          replace f3 := (hk 3 (by decide)).trans f3
          replace f7 := (hk 7 (by decide)).trans f7
          replace f5 := (hk 5 (by decide)).trans f5
          replace f6 := (hk 6 (by decide)).trans f6
          replace f53 := (hk 53 (by decide)).trans f53
          replace f56 : a25.tmps[56]?.getD undef = .pointer (some ⟨b, off + k * 15, none⟩) := f56
          clear hk hsz24 hde24 f54 f55
          refine wpList_next rfl hsz25 hde25 57 rfl (by decide) fun K hK => ?_
          refine wp_load_mid 29 (.tmp 56) rfl b (off + k * 15) (eval_at f56) CY.toList _ (HrY.out _ Hb5.out) Tryd.underlying29 rfl HinfCY.out ?_
          refine hK _ _ fun a26 hsz26 hde26 f57 hk => ?_
          clear hK K
          replace f0 := (hk 0 (by decide)).trans f0
          replace f3 := (hk 3 (by decide)).trans f3
          replace f7 := (hk 7 (by decide)).trans f7
          replace f5 := (hk 5 (by decide)).trans f5
          replace f6 := (hk 6 (by decide)).trans f6
          replace f53 := (hk 53 (by decide)).trans f53
          replace f57 : a26.tmps[57]?.getD undef = .agg CY := f57
          clear hk hsz25 hde25 f56
          refine wpList_next rfl hsz26 hde26 58 rfl (by decide) fun K hK => ?_
          go_simp
          refine hK _ _ fun a27 hsz27 hde27 f58 hk => ?_
          clear hK K
          replace f0 := (hk 0 (by decide)).trans f0
          replace f3 := (hk 3 (by decide)).trans f3
          replace f7 := (hk 7 (by decide)).trans f7
          replace f5 := (hk 5 (by decide)).trans f5
          replace f6 := (hk 6 (by decide)).trans f6
          replace f53 := (hk 53 (by decide)).trans f53
          replace f58 : a27.tmps[58]?.getD undef = .slice (some ⟨W5.heap.size, 0, none⟩) 1 1 := f58
          clear hk hsz26 hde26 f57
          rw [HfY.out]
          refine wpList_next rfl hsz27 hde27 59 rfl (by decide) fun K hK => ?_
          refine wp_append (.tmp 53) (.tmp 58) 22 rfl (by rw [eval_at f53, eval_at f58]; exact Hrun6.out) ?_
          refine hK _ _ fun a28 hsz28 hde28 f59 hk => ?_
          clear hK K
          replace f0 := (hk 0 (by decide)).trans f0
          replace f3 := (hk 3 (by decide)).trans f3
          replace f7 := (hk 7 (by decide)).trans f7
          replace f5 := (hk 5 (by decide)).trans f5
          replace f6 := (hk 6 (by decide)).trans f6
          replace f59 : a28.tmps[59]?.getD undef = v6 := f59
          clear hk hsz27 hde27 f53 f58
          refine wpList_next rfl hsz28 hde28 5 rfl (by decide) fun K hK => ?_
          go_simp
          refine hK _ _ fun a29 hsz29 hde29 f5 hk => ?_
          clear hK K
          replace f0 := (hk 0 (by decide)).trans f0
          replace f3 := (hk 3 (by decide)).trans f3
          replace f7 := (hk 7 (by decide)).trans f7
          replace f6 := (hk 6 (by decide)).trans f6
          replace f5 : a29.tmps[5]?.getD undef = v6 := f5
          clear hk hsz28 hde28 f59
          refine wpList_nil ?_
          refine block_go ?_
          refine then_go ?_
          repeat with_reducible refine wp_seq ?_
          refine wp_region_lit ?_
          refine wpList_next rfl hsz29 hde29 13 rfl (by decide) fun K hK => ?_
          go_simp
          refine hK _ _ fun a30 hsz30 hde30 f13 hk => ?_
          clear hK K
          replace f0 := (hk 0 (by decide)).trans f0
          replace f3 := (hk 3 (by decide)).trans f3
          replace f7 := (hk 7 (by decide)).trans f7
          replace f6 := (hk 6 (by decide)).trans f6
          replace f5 := (hk 5 (by decide)).trans f5
          replace f13 : a30.tmps[13]?.getD undef = .int .i64 ((k : Nat) : Int) := f13
          clear hk hsz29 hde29
          refine wpList_next rfl hsz30 hde30 14 rfl (by decide) fun K hK => ?_
          go_simp
          refine hK _ _ fun a31 hsz31 hde31 f14 hk => ?_
          clear hK K
          replace f0 := (hk 0 (by decide)).trans f0
          replace f3 := (hk 3 (by decide)).trans f3
          replace f7 := (hk 7 (by decide)).trans f7
          replace f6 := (hk 6 (by decide)).trans f6
          replace f5 := (hk 5 (by decide)).trans f5
          clear hk hsz30 hde30 f13
          replace f14 : a31.tmps[14]?.getD undef = .int .i64 ((k + 1 : Nat) : Int) := f14.trans (by first | (congr 1; done) | (congr 1; rw [IntKind.wrap_i64] <;> omega))
          refine wpList_next rfl hsz31 hde31 7 rfl (by decide) fun K hK => ?_
          go_simp
          refine hK _ _ fun a32 hsz32 hde32 f7 hk => ?_
          clear hK K
          replace f0 := (hk 0 (by decide)).trans f0
          replace f3 := (hk 3 (by decide)).trans f3
          replace f6 := (hk 6 (by decide)).trans f6
          replace f5 := (hk 5 (by decide)).trans f5
          replace f7 : a32.tmps[7]?.getD undef = .int .i64 ((k + 1 : Nat) : Int) := f7
          clear hk hsz31 hde31 f14
          refine wpList_nil ?_
          refine then_go ?_
          exact ⟨L.length - (k + 1), by rw [Hn0.out]; omega, k + 1, true, v6, (acc ++ [X]) ++ [Y], hsz32, hde32, f0, f3, f5, f6, f7, Lib.hid (by omega), Hown6, Hb6, Lib.hid (by rw [← Hacc.out, HD.out]; rw [goP, if_neg (by rw [← Hq.out]; simp), if_pos (by rw [← Hll.out]; rfl)]; simp), Lib.hid (by have := Hlen.out; simp; omega), rfl⟩
  · have hkn : k = n := by have := Hk.out; have := Hn.out; omega
    have hlt1 : decide ((k : Int) < (n : Int)) = false := decide_eq_false (by omega)
    have Hend := Lib.hid (show L.drop k = [] by rw [hkn, Hn.out, List.drop_length])
    have Hkn := Lib.hid hkn
    clear hkn
    refine wp_region_lit ?_
    refine wpList_next rfl hsz9 hde9 9 rfl (by decide) fun K hK => ?_
    go_simp
    refine hK _ _ fun a10 hsz10 hde10 f9 hk => ?_
    clear hK K
    replace f0 := (hk 0 (by decide)).trans f0
    replace f3 := (hk 3 (by decide)).trans f3
    replace f5 := (hk 5 (by decide)).trans f5
    replace f6 := (hk 6 (by decide)).trans f6
    replace f7 := (hk 7 (by decide)).trans f7
    replace f9 : a10.tmps[9]?.getD undef = .int .i64 ((k : Nat) : Int) := f9
    clear hk hsz9 hde9
    refine wpList_next rfl hsz10 hde10 10 rfl (by decide) fun K hK => ?_
    go_simp
    refine hK _ _ fun a11 hsz11 hde11 f10 hk => ?_
    clear hK K
    replace f0 := (hk 0 (by decide)).trans f0
    replace f3 := (hk 3 (by decide)).trans f3
    replace f5 := (hk 5 (by decide)).trans f5
    replace f6 := (hk 6 (by decide)).trans f6
    replace f7 := (hk 7 (by decide)).trans f7
    replace f9 := (hk 9 (by decide)).trans f9
    replace f10 : a11.tmps[10]?.getD undef = .slice A n c := f10
    clear hk hsz10 hde10
    refine wpList_next rfl hsz11 hde11 11 rfl (by decide) fun K hK => ?_
    go_simp
    refine hK _ _ fun a12 hsz12 hde12 f11 hk => ?_
    clear hK K
    replace f0 := (hk 0 (by decide)).trans f0
    replace f3 := (hk 3 (by decide)).trans f3
    replace f5 := (hk 5 (by decide)).trans f5
    replace f6 := (hk 6 (by decide)).trans f6
    replace f7 := (hk 7 (by decide)).trans f7
    replace f9 := (hk 9 (by decide)).trans f9
    replace f11 : a12.tmps[11]?.getD undef = .int .i64 (n : Int) := f11
    clear hk hsz11 hde11 f10
    refine wpList_next rfl hsz12 hde12 12 rfl (by decide) fun K hK => ?_
    go_simp
    refine hK _ _ fun a13 hsz13 hde13 f12 hk => ?_
    clear hK K
    replace f0 := (hk 0 (by decide)).trans f0
    replace f3 := (hk 3 (by decide)).trans f3
    replace f5 := (hk 5 (by decide)).trans f5
    replace f6 := (hk 6 (by decide)).trans f6
    replace f7 := (hk 7 (by decide)).trans f7
    clear hk hsz12 hde12 f9 f11
    replace f12 : a13.tmps[12]?.getD undef = .bool false := f12.trans (by first | rfl | simp [hlt])
    refine wpList_nil ?_
    refine then_go ?_
    repeat with_reducible refine wp_seq ?_
    refine wp_cond_false (eval_at f12) ?_
    refine wp_exit ?_
    repeat with_reducible refine then_exit ?_
    refine block_exit ?_
    refine then_go ?_
    clear f12 f7 f0
    repeat with_reducible refine wp_seq ?_
    cases p with
    | true =>
      refine wp_region_lit ?_
      refine wpList_next rfl hsz13 hde13 60 rfl (by decide) fun K hK => ?_
      go_simp
      refine hK _ _ fun a14 hsz14 hde14 f60 hk => ?_
      clear hK K
      replace f3 := (hk 3 (by decide)).trans f3
      replace f5 := (hk 5 (by decide)).trans f5
      replace f6 := (hk 6 (by decide)).trans f6
      replace f60 : a14.tmps[60]?.getD undef = .bool true := f60
      clear hk hsz13 hde13
      refine wpList_next rfl hsz14 hde14 61 rfl (by decide) fun K hK => ?_
      go_simp
      refine hK _ _ fun a15 hsz15 hde15 f61 hk => ?_
      clear hK K
      replace f3 := (hk 3 (by decide)).trans f3
      replace f5 := (hk 5 (by decide)).trans f5
      replace f6 := (hk 6 (by decide)).trans f6
      replace f61 : a15.tmps[61]?.getD undef = .bool false := f61
      clear hk hsz14 hde14 f60
      refine wpList_nil ?_
      refine then_go ?_
      repeat with_reducible refine wp_seq ?_
      refine wp_cond_false (eval_at f61) ?_
      refine wp_skip ?_
      refine then_go ?_
      clear f61 f3 f6
      repeat with_reducible refine wp_seq ?_
      refine wp_region_lit ?_
      refine wpList_next rfl hsz15 hde15 66 rfl (by decide) fun K hK => ?_
      go_simp
      refine hK _ _ fun a16 hsz16 hde16 f66 hk => ?_
      clear hK K
      replace f5 := (hk 5 (by decide)).trans f5
      replace f66 : a16.tmps[66]?.getD undef = u := f66
      clear hk hsz15 hde15
      refine wpList_next rfl hsz16 hde16 4 rfl (by decide) fun K hK => ?_
      go_simp
      refine hK _ _ fun a17 hsz17 hde17 f4 hk => ?_
      clear hK K
      replace f5 := (hk 5 (by decide)).trans f5
      replace f4 : a17.tmps[4]?.getD undef = u := f4
      clear hk hsz16 hde16 f66
      refine wpList_nil ?_
      refine then_go ?_
      refine wp_ret ?_
      repeat first | with_reducible refine then_ret ?_ | with_reducible refine block_ret ?_
      refine ret_tmp Tryd.results41 hde17 f4 ?_
      refine ⟨⟨_, rfl, ?_⟩, below_call Hbel.out Hbw.out⟩
      have h := Hown.out.mono Hwb1.out
      have e := Hacc.out
      rw [Hend.out, goP, if_pos rfl, List.append_nil] at e
      rw [e] at h
      exact h
    | false =>
      refine wp_region_lit ?_
      refine wpList_next rfl hsz13 hde13 60 rfl (by decide) fun K hK => ?_
      go_simp
      refine hK _ _ fun a14 hsz14 hde14 f60 hk => ?_
      clear hK K
      replace f3 := (hk 3 (by decide)).trans f3
      replace f5 := (hk 5 (by decide)).trans f5
      replace f6 := (hk 6 (by decide)).trans f6
      replace f60 : a14.tmps[60]?.getD undef = .bool false := f60
      clear hk hsz13 hde13
      refine wpList_next rfl hsz14 hde14 61 rfl (by decide) fun K hK => ?_
      go_simp
      refine hK _ _ fun a15 hsz15 hde15 f61 hk => ?_
      clear hK K
      replace f3 := (hk 3 (by decide)).trans f3
      replace f5 := (hk 5 (by decide)).trans f5
      replace f6 := (hk 6 (by decide)).trans f6
      replace f61 : a15.tmps[61]?.getD undef = .bool true := f61
      clear hk hsz14 hde14 f60
      refine wpList_nil ?_
      refine then_go ?_
      repeat with_reducible refine wp_seq ?_
      refine wp_cond_true (eval_at f61) ?_
      clear f61 f6
      repeat with_reducible refine wp_seq ?_
      have hWs5 := Hbw.out.size
      obtain ⟨v5, W5, hrun5, hown5, hb5⟩ := app_plain wb.heap.size wr u acc X HX.out Hown.out (by have := Hlen.out; have := Hl.out; have := Hk.out; omega) hWs5 C HC.out
      have Hrun5 := Lib.hid hrun5
      have Hown5 := Lib.hid hown5
      have Hb5 := Lib.hid (Hbw.out.trans (hb5 wb.heap.size (Nat.le_refl _)))
      clear hrun5 hown5 hb5 hWs5
      refine wp_region_lit ?_
      refine wpList_next rfl hsz15 hde15 62 rfl (by decide) fun K hK => ?_
      go_simp
      refine hK _ _ fun a16 hsz16 hde16 f62 hk => ?_
      clear hK K
      replace f3 := (hk 3 (by decide)).trans f3
      replace f5 := (hk 5 (by decide)).trans f5
      replace f62 : a16.tmps[62]?.getD undef = u := f62
      clear hk hsz15 hde15
      refine wpList_next rfl hsz16 hde16 63 rfl (by decide) fun K hK => ?_
      refine wp_load_mid 29 (.tmp 3) rfl w.heap.size 0 (eval_at f3) C.toList _ (HrC.out _ Hbw.out) Tryd.underlying29 rfl HinfC.out ?_
      refine hK _ _ fun a17 hsz17 hde17 f63 hk => ?_
      clear hK K
      replace f3 := (hk 3 (by decide)).trans f3
      replace f5 := (hk 5 (by decide)).trans f5
      replace f62 := (hk 62 (by decide)).trans f62
      replace f63 : a17.tmps[63]?.getD undef = .agg C := f63
      clear hk hsz16 hde16
      refine wpList_next rfl hsz17 hde17 64 rfl (by decide) fun K hK => ?_
      go_simp
      refine hK _ _ fun a18 hsz18 hde18 f64 hk => ?_
      clear hK K
      replace f3 := (hk 3 (by decide)).trans f3
      replace f5 := (hk 5 (by decide)).trans f5
      replace f62 := (hk 62 (by decide)).trans f62
      replace f64 : a18.tmps[64]?.getD undef = .slice (some ⟨wr.heap.size, 0, none⟩) 1 1 := f64
      clear hk hsz17 hde17 f63
      rw [HfC.out]
      refine wpList_next rfl hsz18 hde18 65 rfl (by decide) fun K hK => ?_
      refine wp_append (.tmp 62) (.tmp 64) 22 rfl (by rw [eval_at f62, eval_at f64]; exact Hrun5.out) ?_
      refine hK _ _ fun a19 hsz19 hde19 f65 hk => ?_
      clear hK K
      replace f3 := (hk 3 (by decide)).trans f3
      replace f5 := (hk 5 (by decide)).trans f5
      replace f65 : a19.tmps[65]?.getD undef = v5 := f65
      clear hk hsz18 hde18 f62 f64
      refine wpList_next rfl hsz19 hde19 5 rfl (by decide) fun K hK => ?_
      go_simp
      refine hK _ _ fun a20 hsz20 hde20 f5 hk => ?_
      clear hK K
      replace f3 := (hk 3 (by decide)).trans f3
      replace f5 : a20.tmps[5]?.getD undef = v5 := f5
      clear hk hsz19 hde19 f65
      refine wpList_nil ?_
      refine then_go ?_
      clear f3
      repeat with_reducible refine wp_seq ?_
      refine wp_region_lit ?_
      refine wpList_next rfl hsz20 hde20 66 rfl (by decide) fun K hK => ?_
      go_simp
      refine hK _ _ fun a21 hsz21 hde21 f66 hk => ?_
      clear hK K
      replace f5 := (hk 5 (by decide)).trans f5
      replace f66 : a21.tmps[66]?.getD undef = v5 := f66
      clear hk hsz20 hde20
      refine wpList_next rfl hsz21 hde21 4 rfl (by decide) fun K hK => ?_
      go_simp
      refine hK _ _ fun a22 hsz22 hde22 f4 hk => ?_
      clear hK K
      replace f5 := (hk 5 (by decide)).trans f5
      replace f4 : a22.tmps[4]?.getD undef = v5 := f4
      clear hk hsz21 hde21 f66
      refine wpList_nil ?_
      refine then_go ?_
      refine wp_ret ?_
      repeat first | with_reducible refine then_ret ?_ | with_reducible refine block_ret ?_
      refine ret_tmp Tryd.results41 hde22 f4 ?_
      refine ⟨⟨_, rfl, ?_⟩, below_call Hbel.out Hb5.out⟩
      have h := Hown5.out.mono Hwb1.out
      have e := Hacc.out
      rw [Hend.out, goP, if_neg (by simp)] at e
      rw [e] at h
      exact h
end Go.Proofs.YtcpjgohclncbkaaDoor

namespace Go.Proofs.YtcpjgohclncbkaaDoor
open Go.RowKit
set_option maxRecDepth 100000

/-- What stands between two rounds of Has. -/
def HasInv (w wb : World) (v : Value) (r : Int) (s : Nat) (L : List Ent) (T : Bool) (n : Nat) (a : Act) (x : World) : Prop :=
  ∃ (k : Nat), Hid (a.tmps.size = 19) ∧ Hid (a.defers = []) ∧ a.tmps[0]?.getD undef = v ∧ a.tmps[3]?.getD undef = .pointer (some ⟨w.heap.size, 0, none⟩) ∧ a.tmps[5]?.getD undef = .int .i64 ((k : Nat) : Int) ∧ Hid (k ≤ L.length) ∧ Hid (Below wb.heap.size wb x) ∧ Hid (thereE (L.drop k) r s = T) ∧ n = L.length - k
set_option maxHeartbeats 4000000 in
theorem erefhas_any (ok : Nat → Prop) (v : Value) (L : List Ent) (r : Int) (s : Nat) (w : World) (hL : IsL kEnt w ok v L) (hl : L.length ≤ 1000) :
    Calls Tryd.prog 40 #[v, .agg (idC r s)] w fun e w' => e = .returned (.bool (thereE L r s)) ∧ Below w.heap.size w w' := by
  obtain ⟨T, hT⟩ : ∃ T, T = thereE L r s := ⟨_, rfl⟩
  rw [← hT]
  have HT := Lib.hid hT
  obtain ⟨IX, hIX⟩ : ∃ I, I = idC r s := ⟨_, rfl⟩
  have HIX := Lib.hid hIX
  obtain ⟨wb, hwb⟩ : ∃ wb, wb = w.alloc (.cells IX 25) := ⟨_, rfl⟩
  have Hbox := Lib.hid (show Blk wb w.heap.size 25 IX by rw [hwb]; exact Blk.new _ _ _)
  have Hbel := Lib.hid (show Below w.heap.size w wb by rw [hwb]; exact (Below.refl _ _).alloc (Nat.le_refl _) _)
  have HrI := Lib.hid (show ∀ z, Below wb.heap.size wb z → z.rangeAt w.heap.size 0 IX.toList from fun z hz => (Hbox.out.grow hz).range 0 IX.toList fun j u hu => by rw [Nat.zero_add, ← Array.getElem?_toList]; exact hu)
  have HinfI := Lib.hid (show (Tryd.prog.info? 25).map (·.size) = some IX.toList.length by rw [hIX]; exact id_info)
  have hLb := hL.grow Hbel.out
  obtain ⟨A, c, rfl, hc1, hc2, hE⟩ := ent_at hLb
  have Hel := Lib.hid hE
  have Hl := Lib.hid hl
  have HW := Lib.hid hwb
  have hm : maxLen ≤ 9223372036854775807 := by decide
  obtain ⟨n, hn⟩ : ∃ n, n = L.length := ⟨_, rfl⟩
  rw [← hn] at hc1 ⊢
  have Hn := Lib.hid hn
  rw [← hIX]
  clear hL hLb hE hl hwb hn hIX hT
  go_enter Tryd.func40, Tryd.ntmps40
  refine enter_abs (N := 19) rfl rfl fun a0 hsz0 hde0 hk => ?_
  have f0 : a0.tmps[0]?.getD undef = .slice A n c := hk 0
  have f1 : a0.tmps[1]?.getD undef = .agg IX := hk 1
  clear hk
  repeat with_reducible refine wp_seq ?_
  refine wp_region_lit ?_
  refine wpList_next rfl hsz0 hde0 3 rfl (by decide) fun K hK => ?_
  go_simp
  refine hK _ _ fun a1 hsz1 hde1 f3 hk => ?_
  clear hK K
  replace f0 := (hk 0 (by decide)).trans f0
  replace f1 := (hk 1 (by decide)).trans f1
  replace f3 : a1.tmps[3]?.getD undef = .pointer (some ⟨w.heap.size, 0, none⟩) := f3
  clear hk hsz0 hde0
  refine wpList_next rfl hsz1 hde1 4 rfl (by decide) fun K hK => ?_
  go_simp
  refine hK _ _ fun a2 hsz2 hde2 f4 hk => ?_
  clear hK K
  replace f0 := (hk 0 (by decide)).trans f0
  replace f1 := (hk 1 (by decide)).trans f1
  replace f3 := (hk 3 (by decide)).trans f3
  replace f4 : a2.tmps[4]?.getD undef = .bool false := f4
  clear hk hsz1 hde1
  refine wpList_nil ?_
  clear f1 f4
  rw [← HW.out]
  refine then_go ?_
  repeat with_reducible refine wp_seq ?_
  refine wp_region_lit ?_
  refine wpList_next rfl hsz2 hde2 5 rfl (by decide) fun K hK => ?_
  go_simp
  refine hK _ _ fun a3 hsz3 hde3 f5 hk => ?_
  clear hK K
  replace f0 := (hk 0 (by decide)).trans f0
  replace f3 := (hk 3 (by decide)).trans f3
  replace f5 : a3.tmps[5]?.getD undef = .int .i64 ((0 : Nat) : Int) := f5
  clear hk hsz2 hde2
  refine wpList_nil ?_
  refine then_go ?_
  repeat with_reducible refine wp_seq ?_
  refine wp_block ?_
  refine wp_loop_ghost (HasInv w wb (.slice A n c) r s L T) (L.length - 0) ?_ ?_
  · exact ⟨0, hsz3, hde3, f0, f3, f5, Lib.hid (Nat.zero_le _), Lib.hid (Below.refl _ _), Lib.hid HT.out.symm, rfl⟩
  clear hsz3 hde3 f0 f3 f5
  intro n0 a9 wr hI
  obtain ⟨k, hsz9, hde9, f0, f3, f5, Hk, Hbw, HTk, hn0⟩ := hI
  have Hn0 := Lib.hid hn0
  clear hn0
  have hkm : (k : Int) < 9223372036854775807 := by have := Hk.out; have := Hl.out; omega
  repeat with_reducible refine wp_seq ?_
  by_cases hlt : k < n
  · have hlt1 : decide ((k : Int) < (n : Int)) = true := decide_eq_true (by omega)
    refine wp_region_lit ?_
    refine wpList_next rfl hsz9 hde9 6 rfl (by decide) fun K hK => ?_
    go_simp
    refine hK _ _ fun a10 hsz10 hde10 f6 hk => ?_
    clear hK K
    replace f0 := (hk 0 (by decide)).trans f0
    replace f3 := (hk 3 (by decide)).trans f3
    replace f5 := (hk 5 (by decide)).trans f5
    replace f6 : a10.tmps[6]?.getD undef = .int .i64 ((k : Nat) : Int) := f6
    clear hk hsz9 hde9
    refine wpList_next rfl hsz10 hde10 7 rfl (by decide) fun K hK => ?_
    go_simp
    refine hK _ _ fun a11 hsz11 hde11 f7 hk => ?_
    clear hK K
    replace f0 := (hk 0 (by decide)).trans f0
    replace f3 := (hk 3 (by decide)).trans f3
    replace f5 := (hk 5 (by decide)).trans f5
    replace f6 := (hk 6 (by decide)).trans f6
    replace f7 : a11.tmps[7]?.getD undef = .slice A n c := f7
    clear hk hsz10 hde10
    refine wpList_next rfl hsz11 hde11 8 rfl (by decide) fun K hK => ?_
    go_simp
    refine hK _ _ fun a12 hsz12 hde12 f8 hk => ?_
    clear hK K
    replace f0 := (hk 0 (by decide)).trans f0
    replace f3 := (hk 3 (by decide)).trans f3
    replace f5 := (hk 5 (by decide)).trans f5
    replace f6 := (hk 6 (by decide)).trans f6
    replace f8 : a12.tmps[8]?.getD undef = .int .i64 (n : Int) := f8
    clear hk hsz11 hde11 f7
    refine wpList_next rfl hsz12 hde12 9 rfl (by decide) fun K hK => ?_
    go_simp
    refine hK _ _ fun a13 hsz13 hde13 f9 hk => ?_
    clear hK K
    replace f0 := (hk 0 (by decide)).trans f0
    replace f3 := (hk 3 (by decide)).trans f3
    replace f5 := (hk 5 (by decide)).trans f5
    clear hk hsz12 hde12 f6 f8
    replace f9 : a13.tmps[9]?.getD undef = .bool true := f9.trans (by first | rfl | simp [hlt])
    refine wpList_nil ?_
    refine then_go ?_
    repeat with_reducible refine wp_seq ?_
    refine wp_cond_true (eval_at f9) ?_
    refine wp_skip ?_
    refine then_go ?_
    clear f9
    repeat with_reducible refine wp_seq ?_
    refine wp_block ?_
    repeat with_reducible refine wp_seq ?_
    have hkl : k < L.length := by rw [← Hn.out]; exact hlt
    obtain ⟨b, off, rfl, _, _, hel⟩ := Hel.out (by intro e; subst e; simp at hkl)
    obtain ⟨Y, hY⟩ : ∃ Y, Y = L[k] := ⟨_, rfl⟩
    have HrY0 := Lib.hid (show ∀ z, Below wb.heap.size wb z → z.rangeAt b (off + k * 15) (entC Y).toList from fun z hz => by rw [hY]; exact range_ext (hel k hkl).1 hz)
    have HYok := Lib.hid (show EntOk Y by rw [hY]; exact (hel k hkl).2)
    have HD := Lib.hid (show L.drop k = Y :: L.drop (k + 1) by rw [hY]; exact List.drop_eq_getElem_cons hkl)
    have hk0 : (0 : Int) ≤ (k : Int) := by omega
    have hkn : (k : Int) < (n : Int) := by omega
    clear hel hY
    obtain ⟨IY, hIY⟩ : ∃ C, C = idC Y.rep Y.seq := ⟨_, rfl⟩
    have HinfY := Lib.hid (show (Tryd.prog.info? 25).map (·.size) = some IY.toList.length by rw [hIY]; exact id_info)
    have HiY := Lib.hid (show ∀ z, Below wb.heap.size wb z → z.rangeAt b (off + k * 15) IY.toList from fun z hz => by rw [hIY]; exact (entCells (HrY0.out z hz)).id)
    have heq := fun z => ideq_run Y.rep Y.seq r s z
    rw [← HIX.out, ← hIY] at heq
    obtain ⟨q, hq⟩ : ∃ q, q = sameI Y.rep Y.seq r s := ⟨_, rfl⟩
    rw [← hq] at heq
    have Heq := Lib.hid heq
    have Hq := Lib.hid hq
    clear HrY0 hIY heq hq
    refine wp_region_goodg (tblG [(12, .slice (some ⟨b, off, none⟩) n c), (13, .int .i64 ((k : Nat) : Int)), (14, .pointer (some ⟨b, off + k * 15, none⟩)), (15, .pointer (some ⟨b, off + k * 15, none⟩)), (16, .agg IY), (17, .agg IX), (18, .bool q)]) 19 (by kernel_rfl) (by kernel_rfl) (by kernel_rfl) (by kernel_rfl) hsz13.out ?_ ?_ ?_
    · intro t v7 x x' h _ _
      exact h
    · intro i7 o hi7 a x hbx hsame hpre K hK
      have hlt7 : i7 < 7 := (Array.getElem?_eq_some_iff.1 hi7).1
      rcases (show i7 = 0 ∨ i7 = 1 ∨ i7 = 2 ∨ i7 = 3 ∨ i7 = 4 ∨ i7 = 5 ∨ i7 = 6 by omega) with rfl | rfl | rfl | rfl | rfl | rfl | rfl
      all_goals (have ho := Option.some.inj hi7; subst ho; clear hi7 hlt7)
      · have q0 : a.tmps[0]?.getD undef = .slice (some ⟨b, off, none⟩) n c := (hsame 0 (by decide +kernel)).trans f0
        refine step_plain rfl ?_
        have hk := Lib.hid (show ∀ v7 x', v7 = .slice (some ⟨b, off, none⟩) n c → Below x.heap.size x x' → K (a.put (some 12) v7) x' from hK)
        have Hbx := Lib.hid hbx
        clear hsame hpre hK hbx
        go_simp
        exact hk.out _ _ rfl (Below.refl _ _)
      · have q5 : a.tmps[5]?.getD undef = .int .i64 ((k : Nat) : Int) := (hsame 5 (by decide +kernel)).trans f5
        refine step_plain rfl ?_
        have hk := Lib.hid (show ∀ v7 x', v7 = .int .i64 ((k : Nat) : Int) → Below x.heap.size x x' → K (a.put (some 13) v7) x' from hK)
        have Hbx := Lib.hid hbx
        clear hsame hpre hK hbx
        go_simp
        exact hk.out _ _ rfl (Below.refl _ _)
      · have q12 : a.tmps[12]?.getD undef = .slice (some ⟨b, off, none⟩) n c := hpre ⟨0, .data⟩ (by simp) rfl (by decide)
        have q13 : a.tmps[13]?.getD undef = .int .i64 ((k : Nat) : Int) := hpre ⟨1, .data⟩ (by simp) rfl (by decide)
        refine step_plain rfl ?_
        have hk := Lib.hid (show ∀ v7 x', v7 = .pointer (some ⟨b, off + k * 15, none⟩) → Below x.heap.size x x' → K (a.put (some 14) v7) x' from hK)
        have Hbx := Lib.hid hbx
        clear hsame hpre hK hbx
        go_simp
        exact hk.out _ _ rfl (Below.refl _ _)
      · have q14 : a.tmps[14]?.getD undef = .pointer (some ⟨b, off + k * 15, none⟩) := hpre ⟨2, .data⟩ (by simp) rfl (by decide)
        refine step_plain rfl ?_
        have hk := Lib.hid (show ∀ v7 x', v7 = .pointer (some ⟨b, off + k * 15, none⟩) → Below x.heap.size x x' → K (a.put (some 15) v7) x' from hK)
        have Hbx := Lib.hid hbx
        clear hsame hpre hK hbx
        go_simp
        exact hk.out _ _ rfl (Below.refl _ _)
      · have q15 : a.tmps[15]?.getD undef = .pointer (some ⟨b, off + k * 15, none⟩) := hpre ⟨3, .data⟩ (by simp) rfl (by decide)
        refine step_plain rfl ?_
        have hk := Lib.hid (show ∀ v7 x', v7 = .agg IY → Below x.heap.size x x' → K (a.put (some 16) v7) x' from hK)
        have Hbx := Lib.hid hbx
        clear hsame hpre hK hbx
        refine wp_load_mid 25 (.tmp 15) rfl b (off + k * 15) (eval_at q15) IY.toList _ (HiY.out _ (below_call Hbw.out Hbx.out)) Tryd.underlying25 rfl HinfY.out ?_
        exact hk.out _ _ rfl (Below.refl _ _)
      · have q3 : a.tmps[3]?.getD undef = .pointer (some ⟨w.heap.size, 0, none⟩) := (hsame 3 (by decide +kernel)).trans f3
        refine step_plain rfl ?_
        have hk := Lib.hid (show ∀ v7 x', v7 = .agg IX → Below x.heap.size x x' → K (a.put (some 17) v7) x' from hK)
        have Hbx := Lib.hid hbx
        clear hsame hpre hK hbx
        refine wp_load_mid 25 (.tmp 3) rfl w.heap.size 0 (eval_at q3) IX.toList _ (HrI.out _ (below_call Hbw.out Hbx.out)) Tryd.underlying25 rfl HinfI.out ?_
        exact hk.out _ _ rfl (Below.refl _ _)
      · have q16 : a.tmps[16]?.getD undef = .agg IY := hpre ⟨4, .data⟩ (by simp) rfl (by decide)
        have q17 : a.tmps[17]?.getD undef = .agg IX := hpre ⟨5, .data⟩ (by simp) rfl (by decide)
        refine step_plain rfl ?_
        have hk := Lib.hid (show ∀ v7 x', v7 = .bool q → Below x.heap.size x x' → K (a.put (some 18) v7) x' from hK)
        have Hbx := Lib.hid hbx
        clear hsame hpre hK hbx
        have heq := Heq.out
        go_simp
        exact hk.out _ _ rfl (Below.refl _ _)
    intro a14 x14 hbx hsame hG hsz14 hde14
    replace f0 := (hsame 0 (by decide +kernel)).trans f0
    replace f3 := (hsame 3 (by decide +kernel)).trans f3
    replace f5 := (hsame 5 (by decide +kernel)).trans f5
    have f18 : a14.tmps[18]?.getD undef = .bool q := hG 6 (by decide)
    have Hbx14 := Lib.hid hbx
    have hsz14h := Lib.hid hsz14
    have hde14h := Lib.hid (hde14.trans hde13.out)
    clear hsame hG hbx hsz14 hde14 hsz13 hde13
    have Hb6 := Lib.hid (below_call Hbw.out Hbx14.out)
    clear Hbx14
    refine then_go ?_
    repeat with_reducible refine wp_seq ?_
    cases q with
    | true =>
      refine wp_cond_true (eval_at f18) ?_
      clear f18
      repeat with_reducible refine wp_seq ?_
      refine wp_region_lit ?_
      refine wpList_next rfl hsz14h hde14h 4 rfl (by decide) fun K hK => ?_
      go_simp
      refine hK _ _ fun a15 hsz15 hde15 f4 hk => ?_
      clear hK K
      replace f0 := (hk 0 (by decide)).trans f0
      replace f3 := (hk 3 (by decide)).trans f3
      replace f5 := (hk 5 (by decide)).trans f5
      replace f4 : a15.tmps[4]?.getD undef = .bool true := f4
      clear hk hsz14h hde14h
      refine wpList_nil ?_
      refine then_go ?_
      have Hyes := Lib.hid (show T = true by rw [← HTk.out, HD.out]; unfold thereE; rw [List.any_cons, ← Hq.out]; rfl)
      refine wp_ret ?_
      repeat first | with_reducible refine then_ret ?_ | with_reducible refine block_ret ?_
      refine ret_tmp Tryd.results40 hde15 f4 ?_
      exact ⟨by rw [Hyes.out], below_call Hbel.out Hb6.out⟩
    | false =>
      refine wp_cond_false (eval_at f18) ?_
      refine wp_skip ?_
      refine block_go ?_
      refine then_go ?_
      clear f18
      repeat with_reducible refine wp_seq ?_
      refine wp_region_lit ?_
      refine wpList_next rfl hsz14h hde14h 10 rfl (by decide) fun K hK => ?_
      go_simp
      refine hK _ _ fun a15 hsz15 hde15 f10 hk => ?_
      clear hK K
      replace f0 := (hk 0 (by decide)).trans f0
      replace f3 := (hk 3 (by decide)).trans f3
      replace f5 := (hk 5 (by decide)).trans f5
      replace f10 : a15.tmps[10]?.getD undef = .int .i64 ((k : Nat) : Int) := f10
      clear hk hsz14h hde14h
      refine wpList_next rfl hsz15 hde15 11 rfl (by decide) fun K hK => ?_
      go_simp
      refine hK _ _ fun a16 hsz16 hde16 f11 hk => ?_
      clear hK K
      replace f0 := (hk 0 (by decide)).trans f0
      replace f3 := (hk 3 (by decide)).trans f3
      replace f5 := (hk 5 (by decide)).trans f5
      clear hk hsz15 hde15 f10
      replace f11 : a16.tmps[11]?.getD undef = .int .i64 ((k + 1 : Nat) : Int) := f11.trans (by first | (congr 1; done) | (congr 1; rw [IntKind.wrap_i64] <;> omega))
      refine wpList_next rfl hsz16 hde16 5 rfl (by decide) fun K hK => ?_
      go_simp
      refine hK _ _ fun a17 hsz17 hde17 f5 hk => ?_
      clear hK K
      replace f0 := (hk 0 (by decide)).trans f0
      replace f3 := (hk 3 (by decide)).trans f3
      replace f5 : a17.tmps[5]?.getD undef = .int .i64 ((k + 1 : Nat) : Int) := f5
      clear hk hsz16 hde16 f11
      refine wpList_nil ?_
      refine then_go ?_
      exact ⟨L.length - (k + 1), by rw [Hn0.out]; omega, k + 1, hsz17, hde17, f0, f3, f5, Lib.hid (by omega), Hb6, Lib.hid (by rw [← HTk.out, HD.out]; unfold thereE; rw [List.any_cons, ← Hq.out]; rfl), rfl⟩
  · have hkn : k = n := by have := Hk.out; have := Hn.out; omega
    have hlt1 : decide ((k : Int) < (n : Int)) = false := decide_eq_false (by omega)
    have Hend := Lib.hid (show L.drop k = [] by rw [hkn, Hn.out, List.drop_length])
    clear hkn
    refine wp_region_lit ?_
    refine wpList_next rfl hsz9 hde9 6 rfl (by decide) fun K hK => ?_
    go_simp
    refine hK _ _ fun a10 hsz10 hde10 f6 hk => ?_
    clear hK K
    replace f0 := (hk 0 (by decide)).trans f0
    replace f3 := (hk 3 (by decide)).trans f3
    replace f5 := (hk 5 (by decide)).trans f5
    replace f6 : a10.tmps[6]?.getD undef = .int .i64 ((k : Nat) : Int) := f6
    clear hk hsz9 hde9
    refine wpList_next rfl hsz10 hde10 7 rfl (by decide) fun K hK => ?_
    go_simp
    refine hK _ _ fun a11 hsz11 hde11 f7 hk => ?_
    clear hK K
    replace f0 := (hk 0 (by decide)).trans f0
    replace f3 := (hk 3 (by decide)).trans f3
    replace f5 := (hk 5 (by decide)).trans f5
    replace f6 := (hk 6 (by decide)).trans f6
    replace f7 : a11.tmps[7]?.getD undef = .slice A n c := f7
    clear hk hsz10 hde10
    refine wpList_next rfl hsz11 hde11 8 rfl (by decide) fun K hK => ?_
    go_simp
    refine hK _ _ fun a12 hsz12 hde12 f8 hk => ?_
    clear hK K
    replace f0 := (hk 0 (by decide)).trans f0
    replace f3 := (hk 3 (by decide)).trans f3
    replace f5 := (hk 5 (by decide)).trans f5
    replace f6 := (hk 6 (by decide)).trans f6
    replace f8 : a12.tmps[8]?.getD undef = .int .i64 (n : Int) := f8
    clear hk hsz11 hde11 f7
    refine wpList_next rfl hsz12 hde12 9 rfl (by decide) fun K hK => ?_
    go_simp
    refine hK _ _ fun a13 hsz13 hde13 f9 hk => ?_
    clear hK K
    replace f0 := (hk 0 (by decide)).trans f0
    replace f3 := (hk 3 (by decide)).trans f3
    replace f5 := (hk 5 (by decide)).trans f5
    clear hk hsz12 hde12 f6 f8
    replace f9 : a13.tmps[9]?.getD undef = .bool false := f9.trans (by first | rfl | simp [hlt])
    refine wpList_nil ?_
    refine then_go ?_
    repeat with_reducible refine wp_seq ?_
    refine wp_cond_false (eval_at f9) ?_
    refine wp_exit ?_
    repeat with_reducible refine then_exit ?_
    refine block_exit ?_
    refine then_go ?_
    clear f9 f5 f0 f3
    repeat with_reducible refine wp_seq ?_
    refine wp_region_lit ?_
    refine wpList_next rfl hsz13 hde13 4 rfl (by decide) fun K hK => ?_
    go_simp
    refine hK _ _ fun a14 hsz14 hde14 f4 hk => ?_
    clear hK K
    replace f4 : a14.tmps[4]?.getD undef = .bool false := f4
    clear hk hsz13 hde13
    refine wpList_nil ?_
    refine then_go ?_
    have Hno := Lib.hid (show T = false by rw [← HTk.out, Hend.out]; rfl)
    refine wp_ret ?_
    repeat first | with_reducible refine then_ret ?_ | with_reducible refine block_ret ?_
    refine ret_tmp Tryd.results40 hde14 f4 ?_
    exact ⟨by rw [Hno.out], below_call Hbel.out Hbw.out⟩

theorem put_add {L : List Ent} {X : Ent} (h : thereE L X.rep X.seq = false) : putE L X = addE L X := by unfold putE addE; rw [if_neg (by rw [h]; simp), if_neg (by rw [h]; simp)]
set_option maxHeartbeats 4000000 in
theorem erefadd_any (ok : Nat → Prop) (v : Value) (L : List Ent) (X : Ent) (w : World) (hL : IsL kEnt w ok v L) (hl : L.length ≤ 400) (hX : EntOk X) (hs : SortedE L) :
    Calls Tryd.prog 14 #[v, .agg (entC X)] w fun e w' => (∃ u ok', e = .returned u ∧ IsL kEnt w' ok' u (addE L X)) ∧ Below w.heap.size w w' := by
  obtain ⟨C, hC⟩ : ∃ C, C = entC X := ⟨_, rfl⟩
  obtain ⟨wb, hwb⟩ : ∃ wb, wb = w.alloc (.cells C 29) := ⟨_, rfl⟩
  have hbox : Blk wb w.heap.size 29 (entC X) := by rw [hwb, ← hC]; exact Blk.new _ _ _
  have Hbox := Lib.hid hbox
  have Hbel := Lib.hid (show Below w.heap.size w wb by rw [hwb]; exact (Below.refl _ _).alloc (Nat.le_refl _) _)
  have HLb := Lib.hid (hL.grow Hbel.out)
  obtain ⟨IX, hIX⟩ : ∃ I, I = idC X.rep X.seq := ⟨_, rfl⟩
  have HrI := Lib.hid (show ∀ z, Below wb.heap.size wb z → z.rangeAt w.heap.size 0 IX.toList from fun z hz => by rw [hIX]; exact (Hbox.out.grow hz).ent.id)
  have HrC := Lib.hid (show ∀ z, Below wb.heap.size wb z → z.rangeAt w.heap.size 0 C.toList from fun z hz => by rw [hC]; exact (Hbox.out.grow hz).ent.all)
  have HinfI := Lib.hid (show (Tryd.prog.info? 25).map (·.size) = some IX.toList.length by rw [hIX]; exact id_info)
  have HinfC := Lib.hid (show (Tryd.prog.info? 29).map (·.size) = some C.toList.length by rw [hC]; exact ent_info)
  have hhas := fun (z : World) (hz : Below wb.heap.size wb z) => erefhas_any ok v L X.rep X.seq z (HLb.out.grow hz) (by omega)
  have hput := fun (z : World) (hz : Below wb.heap.size wb z) => erefput_any ok v L X z (HLb.out.grow hz) hl hX
  rw [← hIX] at hhas
  rw [← hC, goP_put hs] at hput
  obtain ⟨q, hq⟩ : ∃ q, q = thereE L X.rep X.seq := ⟨_, rfl⟩
  rw [← hq] at hhas
  have Hhas := Lib.hid hhas
  have Hput := Lib.hid hput
  have Hq := Lib.hid hq
  have HW := Lib.hid hwb
  rw [← hC]
  clear hL hl hX hs hC hwb hbox hIX hhas hput hq
  go_enter Tryd.func14, Tryd.ntmps14
  refine enter_abs (N := 13) rfl rfl fun a0 hsz0 hde0 hk => ?_
  have f0 : a0.tmps[0]?.getD undef = v := hk 0
  have f1 : a0.tmps[1]?.getD undef = .agg C := hk 1
  clear hk
  repeat with_reducible refine wp_seq ?_
  refine wp_region_lit ?_
  refine wpList_next rfl hsz0 hde0 3 rfl (by decide) fun K hK => ?_
  go_simp
  refine hK _ _ fun a1 hsz1 hde1 f3 hk => ?_
  clear hK K
  replace f0 := (hk 0 (by decide)).trans f0
  replace f1 := (hk 1 (by decide)).trans f1
  replace f3 : a1.tmps[3]?.getD undef = .pointer (some ⟨w.heap.size, 0, none⟩) := f3
  clear hk hsz0 hde0
  refine wpList_next rfl hsz1 hde1 4 rfl (by decide) fun K hK => ?_
  go_simp
  refine hK _ _ fun a2 hsz2 hde2 f4 hk => ?_
  clear hK K
  replace f0 := (hk 0 (by decide)).trans f0
  replace f1 := (hk 1 (by decide)).trans f1
  replace f3 := (hk 3 (by decide)).trans f3
  replace f4 : a2.tmps[4]?.getD undef = .slice none 0 0 := f4
  clear hk hsz1 hde1
  refine wpList_nil ?_
  clear f1 f4
  rw [← HW.out]
  refine then_go ?_
  repeat with_reducible refine wp_seq ?_
  refine wp_region_lit ?_
  refine wpList_next rfl hsz2 hde2 5 rfl (by decide) fun K hK => ?_
  go_simp
  refine hK _ _ fun a3 hsz3 hde3 f5 hk => ?_
  clear hK K
  replace f0 := (hk 0 (by decide)).trans f0
  replace f3 := (hk 3 (by decide)).trans f3
  replace f5 : a3.tmps[5]?.getD undef = v := f5
  clear hk hsz2 hde2
  refine wpList_next rfl hsz3 hde3 6 rfl (by decide) fun K hK => ?_
  go_simp
  refine hK _ _ fun a4 hsz4 hde4 f6 hk => ?_
  clear hK K
  replace f0 := (hk 0 (by decide)).trans f0
  replace f3 := (hk 3 (by decide)).trans f3
  replace f5 := (hk 5 (by decide)).trans f5
  replace f6 : a4.tmps[6]?.getD undef = .pointer (some ⟨w.heap.size, 0, none⟩) := f6
  clear hk hsz3 hde3
  refine wpList_next rfl hsz4 hde4 7 rfl (by decide) fun K hK => ?_
  refine wp_load_mid 25 (.tmp 6) rfl w.heap.size 0 (eval_at f6) IX.toList _ (HrI.out _ (Below.refl _ _)) Tryd.underlying25 rfl HinfI.out ?_
  refine hK _ _ fun a5 hsz5 hde5 f7 hk => ?_
  clear hK K
  replace f0 := (hk 0 (by decide)).trans f0
  replace f3 := (hk 3 (by decide)).trans f3
  replace f5 := (hk 5 (by decide)).trans f5
  replace f7 : a5.tmps[7]?.getD undef = .agg IX := f7
  clear hk hsz4 hde4 f6
  refine wpList_next rfl hsz5 hde5 8 rfl (by decide) fun K hK => ?_
  go_simp
  refine (Hhas.out _ (Below.refl _ _)).mono ?_
  rintro e1 w1 ⟨rfl, hb1⟩
  go_simp
  refine hK _ _ fun a6 hsz6 hde6 f8 hk => ?_
  clear hK K
  replace f0 := (hk 0 (by decide)).trans f0
  replace f3 := (hk 3 (by decide)).trans f3
  replace f8 : a6.tmps[8]?.getD undef = .bool q := f8
  clear hk hsz5 hde5 f5 f7
  refine wpList_nil ?_
  have Hb1 := Lib.hid hb1
  clear hb1
  refine then_go ?_
  repeat with_reducible refine wp_seq ?_
  cases q with
  | true =>
    refine wp_cond_true (eval_at f8) ?_
    clear f8
    repeat with_reducible refine wp_seq ?_
    refine wp_region_lit ?_
    refine wpList_next rfl hsz6 hde6 9 rfl (by decide) fun K hK => ?_
    go_simp
    refine hK _ _ fun a7 hsz7 hde7 f9 hk => ?_
    clear hK K
    replace f0 := (hk 0 (by decide)).trans f0
    replace f3 := (hk 3 (by decide)).trans f3
    replace f9 : a7.tmps[9]?.getD undef = v := f9
    clear hk hsz6 hde6
    refine wpList_next rfl hsz7 hde7 4 rfl (by decide) fun K hK => ?_
    go_simp
    refine hK _ _ fun a8 hsz8 hde8 f4 hk => ?_
    clear hK K
    replace f0 := (hk 0 (by decide)).trans f0
    replace f3 := (hk 3 (by decide)).trans f3
    replace f4 : a8.tmps[4]?.getD undef = v := f4
    clear hk hsz7 hde7 f9
    refine wpList_nil ?_
    refine then_go ?_
    have Ha := Lib.hid (show addE L X = L by unfold addE; rw [if_pos Hq.out.symm])
    refine wp_ret ?_
    repeat first | with_reducible refine then_ret ?_ | with_reducible refine block_ret ?_
    refine ret_tmp Tryd.results14 hde8 f4 ?_
    exact ⟨⟨_, ok, rfl, by rw [Ha.out]; exact HLb.out.grow Hb1.out⟩, below_call Hbel.out Hb1.out⟩
  | false =>
    refine wp_cond_false (eval_at f8) ?_
    refine wp_skip ?_
    refine then_go ?_
    clear f8
    repeat with_reducible refine wp_seq ?_
    refine wp_region_lit ?_
    refine wpList_next rfl hsz6 hde6 10 rfl (by decide) fun K hK => ?_
    go_simp
    refine hK _ _ fun a7 hsz7 hde7 f10 hk => ?_
    clear hK K
    replace f0 := (hk 0 (by decide)).trans f0
    replace f3 := (hk 3 (by decide)).trans f3
    replace f10 : a7.tmps[10]?.getD undef = v := f10
    clear hk hsz6 hde6
    refine wpList_next rfl hsz7 hde7 11 rfl (by decide) fun K hK => ?_
    refine wp_load_mid 29 (.tmp 3) rfl w.heap.size 0 (eval_at f3) C.toList _ (HrC.out _ Hb1.out) Tryd.underlying29 rfl HinfC.out ?_
    refine hK _ _ fun a8 hsz8 hde8 f11 hk => ?_
    clear hK K
    replace f0 := (hk 0 (by decide)).trans f0
    replace f3 := (hk 3 (by decide)).trans f3
    replace f10 := (hk 10 (by decide)).trans f10
    replace f11 : a8.tmps[11]?.getD undef = .agg C := f11
    clear hk hsz7 hde7
    refine wpList_next rfl hsz8 hde8 12 rfl (by decide) fun K hK => ?_
    go_simp
    refine (Hput.out _ Hb1.out).mono ?_
    rintro e2 w2 ⟨⟨u2, rfl, hown2⟩, hb2⟩
    go_simp
    refine hK _ _ fun a9 hsz9 hde9 f12 hk => ?_
    clear hK K
    replace f0 := (hk 0 (by decide)).trans f0
    replace f3 := (hk 3 (by decide)).trans f3
    replace f12 : a9.tmps[12]?.getD undef = u2 := f12
    clear hk hsz8 hde8 f10 f11
    refine wpList_next rfl hsz9 hde9 4 rfl (by decide) fun K hK => ?_
    go_simp
    refine hK _ _ fun a10 hsz10 hde10 f4 hk => ?_
    clear hK K
    replace f0 := (hk 0 (by decide)).trans f0
    replace f3 := (hk 3 (by decide)).trans f3
    replace f4 : a10.tmps[4]?.getD undef = u2 := f4
    clear hk hsz9 hde9 f12
    refine wpList_nil ?_
    refine then_go ?_
    refine wp_ret ?_
    repeat first | with_reducible refine then_ret ?_ | with_reducible refine block_ret ?_
    refine ret_tmp Tryd.results14 hde10 f4 ?_
    exact ⟨⟨_, _, rfl, by rw [← put_add Hq.out.symm]; exact hown2.isL⟩, below_call Hbel.out (below_call Hb1.out hb2)⟩

theorem put_length (L : List Ent) (X : Ent) : (putE L X).length ≤ L.length + 1 := by
  unfold putE
  split
  · rw [List.length_map]; omega
  · unfold insE
    rw [List.length_append, List.length_cons, List.length_take, List.length_drop]
    omega
/-- What stands between two rounds of Join. -/
def RJoinInv (w : World) (v1 : Value) (M R : List Ent) (l0 n : Nat) (a : Act) (x : World) : Prop :=
  ∃ (k : Nat) (u : Value) (ok' : Nat → Prop) (B : List Ent), Hid (a.tmps.size = 19) ∧ Hid (a.defers = []) ∧ a.tmps[0]?.getD undef = u ∧ a.tmps[1]?.getD undef = v1 ∧ a.tmps[5]?.getD undef = .int .i64 ((k : Nat) : Int) ∧ Hid (k ≤ M.length) ∧ Hid (Below w.heap.size w x) ∧ Hid (IsL kEnt x ok' u B) ∧ Hid (SortedE B) ∧ Hid (B.length ≤ l0 + k) ∧ Hid ((M.drop k).foldl putE B = R) ∧ n = M.length - k
set_option maxHeartbeats 4000000 in
theorem erefjoin_any (ok ok2 : Nat → Prop) (v v1 : Value) (L0 L : List Ent) (w : World) (hL0 : IsL kEnt w ok v L0) (hL : IsL kEnt w ok2 v1 L) (hl0 : L0.length + L.length ≤ 400) (hs : SortedE L0) :
    Calls Tryd.prog 18 #[v, v1] w fun e w' => (∃ u ok', e = .returned u ∧ IsL kEnt w' ok' u (L.foldl putE L0)) ∧ Below w.heap.size w w' := by
  obtain ⟨R, hR⟩ : ∃ R, R = L.foldl putE L0 := ⟨_, rfl⟩
  rw [← hR]
  have HR := Lib.hid hR
  obtain ⟨A, c, rfl, hc1, hc2, hE⟩ := ent_at hL
  have Hel := Lib.hid hE
  have HL0 := Lib.hid hL0
  have Hs := Lib.hid hs
  have Hl := Lib.hid hl0
  have hm : maxLen ≤ 9223372036854775807 := by decide
  obtain ⟨n, hn⟩ : ∃ n, n = L.length := ⟨_, rfl⟩
  rw [← hn] at hc1 ⊢
  have Hn := Lib.hid hn
  obtain ⟨wb, hwb⟩ : ∃ wb, wb = w := ⟨_, rfl⟩
  have Hwb := Lib.hid hwb
  rw [← hwb] at Hel
  clear hL hL0 hE hl0 hs hn hR hwb
  go_enter Tryd.func18, Tryd.ntmps18
  refine enter_abs (N := 19) rfl rfl fun a0 hsz0 hde0 hk => ?_
  have f0 : a0.tmps[0]?.getD undef = v := hk 0
  have f1 : a0.tmps[1]?.getD undef = .slice A n c := hk 1
  clear hk
  repeat with_reducible refine wp_seq ?_
  refine wp_region_lit ?_
  refine wpList_next rfl hsz0 hde0 4 rfl (by decide) fun K hK => ?_
  go_simp
  refine hK _ _ fun a1 hsz1 hde1 f4 hk => ?_
  clear hK K
  replace f0 := (hk 0 (by decide)).trans f0
  replace f1 := (hk 1 (by decide)).trans f1
  replace f4 : a1.tmps[4]?.getD undef = .slice none 0 0 := f4
  clear hk hsz0 hde0
  refine wpList_nil ?_
  clear f4
  refine then_go ?_
  repeat with_reducible refine wp_seq ?_
  refine wp_region_lit ?_
  refine wpList_next rfl hsz1 hde1 5 rfl (by decide) fun K hK => ?_
  go_simp
  refine hK _ _ fun a2 hsz2 hde2 f5 hk => ?_
  clear hK K
  replace f0 := (hk 0 (by decide)).trans f0
  replace f1 := (hk 1 (by decide)).trans f1
  replace f5 : a2.tmps[5]?.getD undef = .int .i64 ((0 : Nat) : Int) := f5
  clear hk hsz1 hde1
  refine wpList_nil ?_
  refine then_go ?_
  repeat with_reducible refine wp_seq ?_
  refine wp_block ?_
  refine wp_loop_ghost (RJoinInv w (.slice A n c) L R L0.length) (L.length - 0) ?_ ?_
  · exact ⟨0, _, ok, L0, hsz2, hde2, f0, f1, f5, Lib.hid (Nat.zero_le _), Lib.hid (Below.refl _ _), HL0, Hs, Lib.hid (Nat.le_refl _), Lib.hid HR.out.symm, rfl⟩
  clear hsz2 hde2 f0 f1 f5 HL0 Hs
  intro n0 a9 wr hI
  obtain ⟨k, u, ok3, B, hsz9, hde9, f0, f1, f5, Hk, Hbw, HB, HS, Hlen, Hfold, hn0⟩ := hI
  have Hn0 := Lib.hid hn0
  clear hn0
  have hkm : (k : Int) < 9223372036854775807 := by have := Hk.out; have := Hl.out; omega
  repeat with_reducible refine wp_seq ?_
  by_cases hlt : k < n
  · have hlt1 : decide ((k : Int) < (n : Int)) = true := decide_eq_true (by omega)
    refine wp_region_lit ?_
    refine wpList_next rfl hsz9 hde9 6 rfl (by decide) fun K hK => ?_
    go_simp
    refine hK _ _ fun a10 hsz10 hde10 f6 hk => ?_
    clear hK K
    replace f0 := (hk 0 (by decide)).trans f0
    replace f1 := (hk 1 (by decide)).trans f1
    replace f5 := (hk 5 (by decide)).trans f5
    replace f6 : a10.tmps[6]?.getD undef = .int .i64 ((k : Nat) : Int) := f6
    clear hk hsz9 hde9
    refine wpList_next rfl hsz10 hde10 7 rfl (by decide) fun K hK => ?_
    go_simp
    refine hK _ _ fun a11 hsz11 hde11 f7 hk => ?_
    clear hK K
    replace f0 := (hk 0 (by decide)).trans f0
    replace f1 := (hk 1 (by decide)).trans f1
    replace f5 := (hk 5 (by decide)).trans f5
    replace f6 := (hk 6 (by decide)).trans f6
    replace f7 : a11.tmps[7]?.getD undef = .slice A n c := f7
    clear hk hsz10 hde10
    refine wpList_next rfl hsz11 hde11 8 rfl (by decide) fun K hK => ?_
    go_simp
    refine hK _ _ fun a12 hsz12 hde12 f8 hk => ?_
    clear hK K
    replace f0 := (hk 0 (by decide)).trans f0
    replace f1 := (hk 1 (by decide)).trans f1
    replace f5 := (hk 5 (by decide)).trans f5
    replace f6 := (hk 6 (by decide)).trans f6
    replace f8 : a12.tmps[8]?.getD undef = .int .i64 (n : Int) := f8
    clear hk hsz11 hde11 f7
    refine wpList_next rfl hsz12 hde12 9 rfl (by decide) fun K hK => ?_
    go_simp
    refine hK _ _ fun a13 hsz13 hde13 f9 hk => ?_
    clear hK K
    replace f0 := (hk 0 (by decide)).trans f0
    replace f1 := (hk 1 (by decide)).trans f1
    replace f5 := (hk 5 (by decide)).trans f5
    clear hk hsz12 hde12 f6 f8
    replace f9 : a13.tmps[9]?.getD undef = .bool true := f9.trans (by first | rfl | simp [hlt])
    refine wpList_nil ?_
    refine then_go ?_
    repeat with_reducible refine wp_seq ?_
    refine wp_cond_true (eval_at f9) ?_
    refine wp_skip ?_
    refine then_go ?_
    clear f9
    repeat with_reducible refine wp_seq ?_
    refine wp_block ?_
    repeat with_reducible refine wp_seq ?_
    have hkl : k < L.length := by rw [← Hn.out]; exact hlt
    obtain ⟨b, off, rfl, _, _, hel⟩ := Hel.out (by intro e; subst e; simp at hkl)
    obtain ⟨Y, hY⟩ : ∃ Y, Y = L[k] := ⟨_, rfl⟩
    have HrY0 := Lib.hid (show ∀ z, Below wb.heap.size wb z → z.rangeAt b (off + k * 15) (entC Y).toList from fun z hz => by rw [hY]; exact range_ext (hel k hkl).1 hz)
    have HYok := Lib.hid (show EntOk Y by rw [hY]; exact (hel k hkl).2)
    have HD := Lib.hid (show L.drop k = Y :: L.drop (k + 1) by rw [hY]; exact List.drop_eq_getElem_cons hkl)
    have hk0 : (0 : Int) ≤ (k : Int) := by omega
    have hkn : (k : Int) < (n : Int) := by omega
    clear hel hY
    obtain ⟨CY, hCY⟩ : ∃ C, C = entC Y := ⟨_, rfl⟩
    have HinfCY := Lib.hid (show (Tryd.prog.info? 29).map (·.size) = some CY.toList.length by rw [hCY]; exact ent_info)
    have HrY := Lib.hid (show wr.rangeAt b (off + k * 15) CY.toList by rw [hCY]; exact HrY0.out wr (by rw [Hwb.out]; exact Hbw.out))
    have hput := erefput_any ok3 u B Y wr HB.out (by have := Hlen.out; have := Hl.out; have := Hk.out; omega) HYok.out
    rw [← hCY, goP_put HS.out] at hput
    have Hput := Lib.hid hput
    clear hput hCY HrY0
    refine wp_region_lit ?_
    refine wpList_next rfl hsz13 hde13 12 rfl (by decide) fun K hK => ?_
    go_simp
    refine hK _ _ fun a14 hsz14 hde14 f12 hk => ?_
    clear hK K
    replace f0 := (hk 0 (by decide)).trans f0
    replace f1 := (hk 1 (by decide)).trans f1
    replace f5 := (hk 5 (by decide)).trans f5
    replace f12 : a14.tmps[12]?.getD undef = u := f12
    clear hk hsz13 hde13
    refine wpList_next rfl hsz14 hde14 13 rfl (by decide) fun K hK => ?_
    go_simp
    refine hK _ _ fun a15 hsz15 hde15 f13 hk => ?_
    clear hK K
    replace f0 := (hk 0 (by decide)).trans f0
    replace f1 := (hk 1 (by decide)).trans f1
    replace f5 := (hk 5 (by decide)).trans f5
    replace f12 := (hk 12 (by decide)).trans f12
    replace f13 : a15.tmps[13]?.getD undef = .slice (some ⟨b, off, none⟩) n c := f13
    clear hk hsz14 hde14
    refine wpList_next rfl hsz15 hde15 14 rfl (by decide) fun K hK => ?_
    go_simp
    refine hK _ _ fun a16 hsz16 hde16 f14 hk => ?_
    clear hK K
    replace f0 := (hk 0 (by decide)).trans f0
    replace f1 := (hk 1 (by decide)).trans f1
    replace f5 := (hk 5 (by decide)).trans f5
    replace f12 := (hk 12 (by decide)).trans f12
    replace f13 := (hk 13 (by decide)).trans f13
    replace f14 : a16.tmps[14]?.getD undef = .int .i64 ((k : Nat) : Int) := f14
    clear hk hsz15 hde15
    refine wpList_next rfl hsz16 hde16 15 rfl (by decide) fun K hK => ?_
    go_simp
    refine hK _ _ fun a17 hsz17 hde17 f15 hk => ?_
    clear hK K
    replace f0 := (hk 0 (by decide)).trans f0
    replace f1 := (hk 1 (by decide)).trans f1
    replace f5 := (hk 5 (by decide)).trans f5
    replace f12 := (hk 12 (by decide)).trans f12
    replace f15 : a17.tmps[15]?.getD undef = .pointer (some ⟨b, off + k * 15, none⟩) := f15
    clear hk hsz16 hde16 f13 f14
    refine wpList_next rfl hsz17 hde17 16 rfl (by decide) fun K hK => ?_
    refine wp_load_mid 29 (.tmp 15) rfl b (off + k * 15) (eval_at f15) CY.toList _ HrY.out Tryd.underlying29 rfl HinfCY.out ?_
    refine hK _ _ fun a18 hsz18 hde18 f16 hk => ?_
    clear hK K
    replace f0 := (hk 0 (by decide)).trans f0
    replace f1 := (hk 1 (by decide)).trans f1
    replace f5 := (hk 5 (by decide)).trans f5
    replace f12 := (hk 12 (by decide)).trans f12
    replace f16 : a18.tmps[16]?.getD undef = .agg CY := f16
    clear hk hsz17 hde17 f15
    refine wpList_next rfl hsz18 hde18 17 rfl (by decide) fun K hK => ?_
    go_simp
    refine (Hput.out).mono ?_
    rintro e7 w7 ⟨⟨u7, rfl, hown7⟩, hb7⟩
    go_simp
    refine hK _ _ fun a19 hsz19 hde19 f17 hk => ?_
    clear hK K
    replace f0 := (hk 0 (by decide)).trans f0
    replace f1 := (hk 1 (by decide)).trans f1
    replace f5 := (hk 5 (by decide)).trans f5
    replace f17 : a19.tmps[17]?.getD undef = u7 := f17
    clear hk hsz18 hde18 f12 f16
    refine wpList_next rfl hsz19 hde19 0 rfl (by decide) fun K hK => ?_
    go_simp
    refine hK _ _ fun a20 hsz20 hde20 f0 hk => ?_
    clear hK K
    replace f1 := (hk 1 (by decide)).trans f1
    replace f5 := (hk 5 (by decide)).trans f5
    replace f0 : a20.tmps[0]?.getD undef = u7 := f0
    clear hk hsz19 hde19 f17
    refine wpList_nil ?_
    have HB7 := Lib.hid hown7.isL
    have Hb7 := Lib.hid (below_call Hbw.out hb7)
    clear hown7 hb7
    refine block_go ?_
    refine then_go ?_
    repeat with_reducible refine wp_seq ?_
    refine wp_region_lit ?_
    refine wpList_next rfl hsz20 hde20 10 rfl (by decide) fun K hK => ?_
    go_simp
    refine hK _ _ fun a21 hsz21 hde21 f10 hk => ?_
    clear hK K
    replace f1 := (hk 1 (by decide)).trans f1
    replace f5 := (hk 5 (by decide)).trans f5
    replace f0 := (hk 0 (by decide)).trans f0
    replace f10 : a21.tmps[10]?.getD undef = .int .i64 ((k : Nat) : Int) := f10
    clear hk hsz20 hde20
    refine wpList_next rfl hsz21 hde21 11 rfl (by decide) fun K hK => ?_
    go_simp
    refine hK _ _ fun a22 hsz22 hde22 f11 hk => ?_
    clear hK K
    replace f1 := (hk 1 (by decide)).trans f1
    replace f5 := (hk 5 (by decide)).trans f5
    replace f0 := (hk 0 (by decide)).trans f0
    clear hk hsz21 hde21 f10
    replace f11 : a22.tmps[11]?.getD undef = .int .i64 ((k + 1 : Nat) : Int) := f11.trans (by first | (congr 1; done) | (congr 1; rw [IntKind.wrap_i64] <;> omega))
    refine wpList_next rfl hsz22 hde22 5 rfl (by decide) fun K hK => ?_
    go_simp
    refine hK _ _ fun a23 hsz23 hde23 f5 hk => ?_
    clear hK K
    replace f1 := (hk 1 (by decide)).trans f1
    replace f0 := (hk 0 (by decide)).trans f0
    replace f5 : a23.tmps[5]?.getD undef = .int .i64 ((k + 1 : Nat) : Int) := f5
    clear hk hsz22 hde22 f11
    refine wpList_nil ?_
    refine then_go ?_
    exact ⟨L.length - (k + 1), by rw [Hn0.out]; omega, k + 1, u7, _, putE B Y, hsz23, hde23, f0, f1, f5, Lib.hid (by omega), Hb7, HB7, Lib.hid (sorted_put HS.out Y), Lib.hid (by have := Hlen.out; have := put_length B Y; omega), Lib.hid (by rw [← Hfold.out, HD.out]; rfl), rfl⟩
  · have hkn : k = n := by have := Hk.out; have := Hn.out; omega
    have hlt1 : decide ((k : Int) < (n : Int)) = false := decide_eq_false (by omega)
    have Hend := Lib.hid (show L.drop k = [] by rw [hkn, Hn.out, List.drop_length])
    clear hkn
    refine wp_region_lit ?_
    refine wpList_next rfl hsz9 hde9 6 rfl (by decide) fun K hK => ?_
    go_simp
    refine hK _ _ fun a10 hsz10 hde10 f6 hk => ?_
    clear hK K
    replace f0 := (hk 0 (by decide)).trans f0
    replace f1 := (hk 1 (by decide)).trans f1
    replace f5 := (hk 5 (by decide)).trans f5
    replace f6 : a10.tmps[6]?.getD undef = .int .i64 ((k : Nat) : Int) := f6
    clear hk hsz9 hde9
    refine wpList_next rfl hsz10 hde10 7 rfl (by decide) fun K hK => ?_
    go_simp
    refine hK _ _ fun a11 hsz11 hde11 f7 hk => ?_
    clear hK K
    replace f0 := (hk 0 (by decide)).trans f0
    replace f1 := (hk 1 (by decide)).trans f1
    replace f5 := (hk 5 (by decide)).trans f5
    replace f6 := (hk 6 (by decide)).trans f6
    replace f7 : a11.tmps[7]?.getD undef = .slice A n c := f7
    clear hk hsz10 hde10
    refine wpList_next rfl hsz11 hde11 8 rfl (by decide) fun K hK => ?_
    go_simp
    refine hK _ _ fun a12 hsz12 hde12 f8 hk => ?_
    clear hK K
    replace f0 := (hk 0 (by decide)).trans f0
    replace f1 := (hk 1 (by decide)).trans f1
    replace f5 := (hk 5 (by decide)).trans f5
    replace f6 := (hk 6 (by decide)).trans f6
    replace f8 : a12.tmps[8]?.getD undef = .int .i64 (n : Int) := f8
    clear hk hsz11 hde11 f7
    refine wpList_next rfl hsz12 hde12 9 rfl (by decide) fun K hK => ?_
    go_simp
    refine hK _ _ fun a13 hsz13 hde13 f9 hk => ?_
    clear hK K
    replace f0 := (hk 0 (by decide)).trans f0
    replace f1 := (hk 1 (by decide)).trans f1
    replace f5 := (hk 5 (by decide)).trans f5
    clear hk hsz12 hde12 f6 f8
    replace f9 : a13.tmps[9]?.getD undef = .bool false := f9.trans (by first | rfl | simp [hlt])
    refine wpList_nil ?_
    refine then_go ?_
    repeat with_reducible refine wp_seq ?_
    refine wp_cond_false (eval_at f9) ?_
    refine wp_exit ?_
    repeat with_reducible refine then_exit ?_
    refine block_exit ?_
    refine then_go ?_
    clear f9 f5 f1
    repeat with_reducible refine wp_seq ?_
    refine wp_region_lit ?_
    refine wpList_next rfl hsz13 hde13 18 rfl (by decide) fun K hK => ?_
    go_simp
    refine hK _ _ fun a14 hsz14 hde14 f18 hk => ?_
    clear hK K
    replace f0 := (hk 0 (by decide)).trans f0
    replace f18 : a14.tmps[18]?.getD undef = u := f18
    clear hk hsz13 hde13
    refine wpList_next rfl hsz14 hde14 4 rfl (by decide) fun K hK => ?_
    go_simp
    refine hK _ _ fun a15 hsz15 hde15 f4 hk => ?_
    clear hK K
    replace f0 := (hk 0 (by decide)).trans f0
    replace f4 : a15.tmps[4]?.getD undef = u := f4
    clear hk hsz14 hde14 f18
    refine wpList_nil ?_
    refine then_go ?_
    refine wp_ret ?_
    repeat first | with_reducible refine then_ret ?_ | with_reducible refine block_ret ?_
    refine ret_tmp Tryd.results18 hde15 f4 ?_
    have h := HB.out
    have e := Hfold.out
    rw [Hend.out] at e
    rw [show B = R from e] at h
    exact ⟨⟨_, _, rfl, h⟩, Hbw.out⟩
end Go.Proofs.YtcpjgohclncbkaaDoor

namespace Go.Proofs.YtcpjgohclncbkaaDoor
open Go.RowKit
set_option maxRecDepth 100000

theorem died_ok {y : Ent} (hy : EntOk y) (r : Int) {s : Nat} (hs : s < 4294967296) : EntOk (diedE y r s) := ⟨hy.rep, hy.seq, hy.drep, hy.dseq, hy.data, hy.orep, hy.oseq, okV_with hy.by_ _ hs⟩
/-- What stands between two rounds of Kill. -/
def RKillInv (w wb : World) (v : Value) (r : Int) (s : Nat) (r' : Int) (s' : Nat) (L R : List Ent) (n : Nat) (a : Act) (x : World) : Prop :=
  ∃ (k : Nat) (u : Value) (acc : List Ent), Hid (a.tmps.size = 34) ∧ Hid (a.defers = []) ∧ a.tmps[0]?.getD undef = v ∧ a.tmps[4]?.getD undef = .pointer (some ⟨w.heap.size, 0, none⟩) ∧ a.tmps[5]?.getD undef = .pointer (some ⟨w.heap.size + 1, 0, none⟩) ∧ a.tmps[7]?.getD undef = u ∧ a.tmps[8]?.getD undef = .int .i64 ((k : Nat) : Int) ∧ Hid (k ≤ L.length) ∧ Hid (OwnE x wb.heap.size u acc) ∧ Hid (Below wb.heap.size wb x) ∧ Hid (acc ++ killE (L.drop k) r s r' s' = R) ∧ Hid (acc.length ≤ k) ∧ n = L.length - k
set_option maxHeartbeats 4000000 in
theorem erefkill_any (ok : Nat → Prop) (v : Value) (L : List Ent) (r : Int) (s : Nat) (r' : Int) (s' : Nat) (w : World) (hL : IsL kEnt w ok v L) (hl : L.length ≤ 400) (hs' : s' < 4294967296) :
    Calls Tryd.prog 16 #[v, .agg (idC r s), .agg (idC r' s')] w fun e w' => (∃ u, e = .returned u ∧ OwnE w' w.heap.size u (killE L r s r' s')) ∧ Below w.heap.size w w' := by
  obtain ⟨R, hR⟩ : ∃ R, R = killE L r s r' s' := ⟨_, rfl⟩
  rw [← hR]
  have HR := Lib.hid hR
  obtain ⟨IA, hIA⟩ : ∃ I, I = idC r s := ⟨_, rfl⟩
  obtain ⟨IB, hIB⟩ : ∃ I, I = idC r' s' := ⟨_, rfl⟩
  obtain ⟨wa, hwa⟩ : ∃ wa, wa = w.alloc (.cells IA 25) := ⟨_, rfl⟩
  obtain ⟨wb, hwb⟩ : ∃ wb, wb = wa.alloc (.cells IB 25) := ⟨_, rfl⟩
  have hwas : wa.heap.size = w.heap.size + 1 := by rw [hwa]; simp
  have hwbs : wb.heap.size = w.heap.size + 1 + 1 := by rw [hwb, World.size_alloc, hwas]
  have hab : Below w.heap.size w wa := by rw [hwa]; exact (Below.refl _ _).alloc (Nat.le_refl _) _
  have hbb : Below wa.heap.size wa wb := by rw [hwb]; exact (Below.refl _ _).alloc (Nat.le_refl _) _
  have Hbel := Lib.hid (below_call hab hbb)
  have hA : Blk wb w.heap.size 25 IA := Blk.grow (by rw [hwa]; exact Blk.new _ _ _) hbb
  have hB : Blk wb (w.heap.size + 1) 25 IB := by rw [hwb, ← hwas]; exact Blk.new _ _ _
  have HRA := Lib.hid (show ∀ x, Below wb.heap.size wb x → x.rangeAt w.heap.size 0 IA.toList from fun x hx => (hA.grow hx).range 0 IA.toList fun j u hu => by rw [Nat.zero_add, ← Array.getElem?_toList]; exact hu)
  have HRB := Lib.hid (show ∀ x, Below wb.heap.size wb x → x.rangeAt (w.heap.size + 1) 0 IB.toList from fun x hx => (hB.grow hx).range 0 IB.toList fun j u hu => by rw [Nat.zero_add, ← Array.getElem?_toList]; exact hu)
  have HinfA := Lib.hid (show (Tryd.prog.info? 25).map (·.size) = some IA.toList.length by rw [hIA]; exact id_info)
  have HinfB := Lib.hid (show (Tryd.prog.info? 25).map (·.size) = some IB.toList.length by rw [hIB]; exact id_info)
  have HW := Lib.hid (show wb = (w.alloc (.cells IA 25)).alloc (.cells IB 25) by rw [hwb, hwa])
  have Hwb1 := Lib.hid (show w.heap.size ≤ wb.heap.size by omega)
  have HIA := Lib.hid hIA
  have HIB := Lib.hid hIB
  have Hs' := Lib.hid hs'
  have hLb := hL.grow Hbel.out
  obtain ⟨A, c, rfl, hc1, hc2, hE⟩ := ent_at hLb
  have Hel := Lib.hid hE
  have Hl := Lib.hid hl
  have hm : maxLen ≤ 9223372036854775807 := by decide
  obtain ⟨n, hn⟩ : ∃ n, n = L.length := ⟨_, rfl⟩
  rw [← hn] at hc1 ⊢
  have Hn := Lib.hid hn
  rw [← hIA, ← hIB]
  clear hL hLb hE hl hwa hwb hwas hwbs hab hbb hA hB hn hIA hIB hR hs'
  go_enter Tryd.func16, Tryd.ntmps16
  refine enter_abs (N := 34) rfl rfl fun a0 hsz0 hde0 hk => ?_
  have f0 : a0.tmps[0]?.getD undef = .slice A n c := hk 0
  have f1 : a0.tmps[1]?.getD undef = .agg IA := hk 1
  have f2 : a0.tmps[2]?.getD undef = .agg IB := hk 2
  clear hk
  repeat with_reducible refine wp_seq ?_
  refine wp_region_lit ?_
  refine wpList_next rfl hsz0 hde0 4 rfl (by decide) fun K hK => ?_
  go_simp
  refine hK _ _ fun a1 hsz1 hde1 f4 hk => ?_
  clear hK K
  replace f0 := (hk 0 (by decide)).trans f0
  replace f1 := (hk 1 (by decide)).trans f1
  replace f2 := (hk 2 (by decide)).trans f2
  replace f4 : a1.tmps[4]?.getD undef = .pointer (some ⟨w.heap.size, 0, none⟩) := f4
  clear hk hsz0 hde0
  refine wpList_next rfl hsz1 hde1 5 rfl (by decide) fun K hK => ?_
  go_simp
  refine hK _ _ fun a2 hsz2 hde2 f5 hk => ?_
  clear hK K
  replace f0 := (hk 0 (by decide)).trans f0
  replace f1 := (hk 1 (by decide)).trans f1
  replace f2 := (hk 2 (by decide)).trans f2
  replace f4 := (hk 4 (by decide)).trans f4
  replace f5 : a2.tmps[5]?.getD undef = .pointer (some ⟨w.heap.size + 1, 0, none⟩) := f5
  clear hk hsz1 hde1
  refine wpList_next rfl hsz2 hde2 6 rfl (by decide) fun K hK => ?_
  go_simp
  refine hK _ _ fun a3 hsz3 hde3 f6 hk => ?_
  clear hK K
  replace f0 := (hk 0 (by decide)).trans f0
  replace f1 := (hk 1 (by decide)).trans f1
  replace f2 := (hk 2 (by decide)).trans f2
  replace f4 := (hk 4 (by decide)).trans f4
  replace f5 := (hk 5 (by decide)).trans f5
  replace f6 : a3.tmps[6]?.getD undef = .slice none 0 0 := f6
  clear hk hsz2 hde2
  refine wpList_nil ?_
  clear f1 f2 f6
  rw [← HW.out]
  refine then_go ?_
  repeat with_reducible refine wp_seq ?_
  refine wp_region_lit ?_
  refine wpList_next rfl hsz3 hde3 7 rfl (by decide) fun K hK => ?_
  go_simp
  refine hK _ _ fun a4 hsz4 hde4 f7 hk => ?_
  clear hK K
  replace f0 := (hk 0 (by decide)).trans f0
  replace f4 := (hk 4 (by decide)).trans f4
  replace f5 := (hk 5 (by decide)).trans f5
  replace f7 : a4.tmps[7]?.getD undef = .slice none 0 0 := f7
  clear hk hsz3 hde3
  refine wpList_nil ?_
  refine then_go ?_
  repeat with_reducible refine wp_seq ?_
  refine wp_region_lit ?_
  refine wpList_next rfl hsz4 hde4 8 rfl (by decide) fun K hK => ?_
  go_simp
  refine hK _ _ fun a5 hsz5 hde5 f8 hk => ?_
  clear hK K
  replace f0 := (hk 0 (by decide)).trans f0
  replace f4 := (hk 4 (by decide)).trans f4
  replace f5 := (hk 5 (by decide)).trans f5
  replace f7 := (hk 7 (by decide)).trans f7
  replace f8 : a5.tmps[8]?.getD undef = .int .i64 ((0 : Nat) : Int) := f8
  clear hk hsz4 hde4
  refine wpList_nil ?_
  refine then_go ?_
  repeat with_reducible refine wp_seq ?_
  refine wp_block ?_
  refine wp_loop_ghost (RKillInv w wb (.slice A n c) r s r' s' L R) (L.length - 0) ?_ ?_
  · exact ⟨0, _, [], hsz5, hde5, f0, f4, f5, f7, f8, Lib.hid (Nat.zero_le _), Lib.hid (OwnE.nil _ _), Lib.hid (Below.refl _ _), Lib.hid (by rw [HR.out]; rfl), Lib.hid (by simp), rfl⟩
  clear hsz5 hde5 f0 f4 f5 f7 f8
  intro n0 a9 wr hI
  obtain ⟨k, u, acc, hsz9, hde9, f0, f4, f5, f7, f8, Hk, Hown, Hbw, Hacc, Hlen, hn0⟩ := hI
  have Hn0 := Lib.hid hn0
  clear hn0
  have hkm : (k : Int) < 9223372036854775807 := by have := Hk.out; have := Hl.out; omega
  repeat with_reducible refine wp_seq ?_
  by_cases hlt : k < n
  · have hlt1 : decide ((k : Int) < (n : Int)) = true := decide_eq_true (by omega)
    refine wp_region_lit ?_
    refine wpList_next rfl hsz9 hde9 10 rfl (by decide) fun K hK => ?_
    go_simp
    refine hK _ _ fun a10 hsz10 hde10 f10 hk => ?_
    clear hK K
    replace f0 := (hk 0 (by decide)).trans f0
    replace f4 := (hk 4 (by decide)).trans f4
    replace f5 := (hk 5 (by decide)).trans f5
    replace f7 := (hk 7 (by decide)).trans f7
    replace f8 := (hk 8 (by decide)).trans f8
    replace f10 : a10.tmps[10]?.getD undef = .int .i64 ((k : Nat) : Int) := f10
    clear hk hsz9 hde9
    refine wpList_next rfl hsz10 hde10 11 rfl (by decide) fun K hK => ?_
    go_simp
    refine hK _ _ fun a11 hsz11 hde11 f11 hk => ?_
    clear hK K
    replace f0 := (hk 0 (by decide)).trans f0
    replace f4 := (hk 4 (by decide)).trans f4
    replace f5 := (hk 5 (by decide)).trans f5
    replace f7 := (hk 7 (by decide)).trans f7
    replace f8 := (hk 8 (by decide)).trans f8
    replace f10 := (hk 10 (by decide)).trans f10
    replace f11 : a11.tmps[11]?.getD undef = .slice A n c := f11
    clear hk hsz10 hde10
    refine wpList_next rfl hsz11 hde11 12 rfl (by decide) fun K hK => ?_
    go_simp
    refine hK _ _ fun a12 hsz12 hde12 f12 hk => ?_
    clear hK K
    replace f0 := (hk 0 (by decide)).trans f0
    replace f4 := (hk 4 (by decide)).trans f4
    replace f5 := (hk 5 (by decide)).trans f5
    replace f7 := (hk 7 (by decide)).trans f7
    replace f8 := (hk 8 (by decide)).trans f8
    replace f10 := (hk 10 (by decide)).trans f10
    replace f12 : a12.tmps[12]?.getD undef = .int .i64 (n : Int) := f12
    clear hk hsz11 hde11 f11
    refine wpList_next rfl hsz12 hde12 13 rfl (by decide) fun K hK => ?_
    go_simp
    refine hK _ _ fun a13 hsz13 hde13 f13 hk => ?_
    clear hK K
    replace f0 := (hk 0 (by decide)).trans f0
    replace f4 := (hk 4 (by decide)).trans f4
    replace f5 := (hk 5 (by decide)).trans f5
    replace f7 := (hk 7 (by decide)).trans f7
    replace f8 := (hk 8 (by decide)).trans f8
    clear hk hsz12 hde12 f10 f12
    replace f13 : a13.tmps[13]?.getD undef = .bool true := f13.trans (by first | rfl | simp [hlt])
    refine wpList_nil ?_
    refine then_go ?_
    repeat with_reducible refine wp_seq ?_
    refine wp_cond_true (eval_at f13) ?_
    refine wp_skip ?_
    refine then_go ?_
    clear f13
    repeat with_reducible refine wp_seq ?_
    refine wp_block ?_
    repeat with_reducible refine wp_seq ?_
    have hkl : k < L.length := by rw [← Hn.out]; exact hlt
    obtain ⟨b, off, rfl, _, _, hel⟩ := Hel.out (by intro e; subst e; simp at hkl)
    obtain ⟨Y, hY⟩ : ∃ Y, Y = L[k] := ⟨_, rfl⟩
    have HrY0 := Lib.hid (show ∀ z, Below wb.heap.size wb z → z.rangeAt b (off + k * 15) (entC Y).toList from fun z hz => by rw [hY]; exact range_ext (hel k hkl).1 hz)
    have HYok := Lib.hid (show EntOk Y by rw [hY]; exact (hel k hkl).2)
    have HD := Lib.hid (show L.drop k = Y :: L.drop (k + 1) by rw [hY]; exact List.drop_eq_getElem_cons hkl)
    have hk0 : (0 : Int) ≤ (k : Int) := by omega
    have hkn : (k : Int) < (n : Int) := by omega
    clear hel hY
    obtain ⟨CY, hCY⟩ : ∃ C, C = entC Y := ⟨_, rfl⟩
    obtain ⟨IY, hIY⟩ : ∃ C, C = idC Y.rep Y.seq := ⟨_, rfl⟩
    obtain ⟨AY, hAY⟩ : ∃ A, A = av Y.by_ := ⟨_, rfl⟩
    obtain ⟨AZ, hAZ⟩ : ∃ A, A = av (withV Y.by_ r' s') := ⟨_, rfl⟩
    obtain ⟨CZ, hCZ⟩ : ∃ C, C = entC (diedE Y r' s') := ⟨_, rfl⟩
    have HCY := Lib.hid hCY
    have HCZ := Lib.hid hCZ
    have HrY := Lib.hid (show wr.rangeAt b (off + k * 15) CY.toList by rw [hCY]; exact HrY0.out wr Hbw.out)
    have HinfY := Lib.hid (show (Tryd.prog.info? 25).map (·.size) = some IY.toList.length by rw [hIY]; exact id_info)
    have HinfCY := Lib.hid (show (Tryd.prog.info? 29).map (·.size) = some CY.toList.length by rw [hCY]; exact ent_info)
    have HinfCZ := Lib.hid (show (Tryd.prog.info? 29).map (·.size) = some CZ.toList.length by rw [hCZ]; exact ent_info)
    have hCYs : CY.size = 15 := by rw [hCY]; rfl
    have hCZs : CZ.size = 15 := by rw [hCZ]; rfl
    have HinfCYs := Lib.hid (show (Tryd.prog.info? 29).map (·.size) = some CY.size by rw [hCY]; exact ent_info)
    have HoneCY := Lib.hid (show CY.all (·.oneCell') = true by rw [hCY]; exact entC_one Y)
    have HinfAY := Lib.hid (show (Tryd.prog.info? 27).map (·.size) = some AY.toList.length by rw [hAY]; exact vec_info)
    have HinfAZ := Lib.hid (show (Tryd.prog.info? 27).map (·.size) = some AZ.size by rw [hAZ]; exact vec_info)
    have HAZs := Lib.hid (show AZ.size = 8 by rw [hAZ]; rfl)
    have HAZ1 := Lib.hid (show AZ.all (·.oneCell') = true by rw [hAZ]; exact av_one _)
    have hfy := fold_ent Y
    have hfz := fold_ent (diedE Y r' s')
    rw [← hCY] at hfy
    rw [← hCZ] at hfz
    have HfY := Lib.hid hfy
    have HfZ := Lib.hid hfz
    have heq := fun z => ideq_run Y.rep Y.seq r s z
    have hwt := fun z => refwith_any Y.by_ r' s' z
    rw [← HIA.out, ← hIY] at heq
    unfold vv at hwt
    rw [idv_idC, ← HIB.out, ← hAY, ← hAZ] at hwt
    obtain ⟨q, hq⟩ : ∃ q, q = sameI Y.rep Y.seq r s := ⟨_, rfl⟩
    rw [← hq] at heq
    have Heq := Lib.hid heq
    have Hwt := Lib.hid hwt
    have Hq := Lib.hid hq
    have HrIY := Lib.hid (show ∀ z g, Blk z g 29 CY → z.rangeAt g 0 IY.toList from fun z g hz => by rw [HCY.out] at hz; rw [hIY]; exact hz.ent.id)
    have HrCY := Lib.hid (show ∀ z g, Blk z g 29 CY → z.rangeAt g 0 CY.toList from fun z g hz => hz.range 0 CY.toList fun j u hu => by rw [Nat.zero_add, ← Array.getElem?_toList]; exact hu)
    have HrAY := Lib.hid (show ∀ z g, Blk z g 29 CY → z.rangeAt g 7 AY.toList from fun z g hz => by rw [HCY.out] at hz; rw [hAY]; have h := hz.ent.by_; rw [Nat.zero_add] at h; exact h)
    have HthY := Lib.hid (show ∀ z g, Blk z g 29 CY → z.there g 7 8 from fun z g hz => by rw [HCY.out] at hz; exact Blk.there (cs := (entC Y).toList) hz 7 8 (show 7 + 8 ≤ 15 by omega))
    have HstY := Lib.hid (show ∀ z g, Blk z g 29 CY → Blk (z.setCells g 7 AZ.toList) g 29 CZ from fun z g hz => by
      rw [HCY.out] at hz
      have h := Blk.setCells AZ.toList 7 z (entC Y).toList hz (by rw [hAZ]; exact Nat.le_refl _)
      have e : (splice (entC Y).toList 7 AZ.toList).toArray = CZ := by rw [hCZ, hAZ]; rfl
      rw [e] at h; exact h)
    clear HrY0 hCY hIY hAY hAZ hCZ hfy hfz heq hwt hq
    refine wp_region_lit ?_
    refine wpList_next rfl hsz13 hde13 16 rfl (by decide) fun K hK => ?_
    go_simp
    refine hK _ _ fun a14 hsz14 hde14 f16 hk => ?_
    clear hK K
    replace f0 := (hk 0 (by decide)).trans f0
    replace f4 := (hk 4 (by decide)).trans f4
    replace f5 := (hk 5 (by decide)).trans f5
    replace f7 := (hk 7 (by decide)).trans f7
    replace f8 := (hk 8 (by decide)).trans f8
    replace f16 : a14.tmps[16]?.getD undef = .slice (some ⟨b, off, none⟩) n c := f16
    clear hk hsz13 hde13
    refine wpList_next rfl hsz14 hde14 17 rfl (by decide) fun K hK => ?_
    go_simp
    refine hK _ _ fun a15 hsz15 hde15 f17 hk => ?_
    clear hK K
    replace f0 := (hk 0 (by decide)).trans f0
    replace f4 := (hk 4 (by decide)).trans f4
    replace f5 := (hk 5 (by decide)).trans f5
    replace f7 := (hk 7 (by decide)).trans f7
    replace f8 := (hk 8 (by decide)).trans f8
    replace f16 := (hk 16 (by decide)).trans f16
    replace f17 : a15.tmps[17]?.getD undef = .int .i64 ((k : Nat) : Int) := f17
    clear hk hsz14 hde14
    refine wpList_next rfl hsz15 hde15 18 rfl (by decide) fun K hK => ?_
    go_simp
    refine hK _ _ fun a16 hsz16 hde16 f18 hk => ?_
    clear hK K
    replace f0 := (hk 0 (by decide)).trans f0
    replace f4 := (hk 4 (by decide)).trans f4
    replace f5 := (hk 5 (by decide)).trans f5
    replace f7 := (hk 7 (by decide)).trans f7
    replace f8 := (hk 8 (by decide)).trans f8
    replace f18 : a16.tmps[18]?.getD undef = .pointer (some ⟨b, off + k * 15, none⟩) := f18
    clear hk hsz15 hde15 f16 f17
    refine wpList_next rfl hsz16 hde16 19 rfl (by decide) fun K hK => ?_
    refine wp_load_mid 29 (.tmp 18) rfl b (off + k * 15) (eval_at f18) CY.toList _ HrY.out Tryd.underlying29 rfl HinfCY.out ?_
    refine hK _ _ fun a17 hsz17 hde17 f19 hk => ?_
    clear hK K
    replace f0 := (hk 0 (by decide)).trans f0
    replace f4 := (hk 4 (by decide)).trans f4
    replace f5 := (hk 5 (by decide)).trans f5
    replace f7 := (hk 7 (by decide)).trans f7
    replace f8 := (hk 8 (by decide)).trans f8
    replace f19 : a17.tmps[19]?.getD undef = .agg CY := f19
    clear hk hsz16 hde16 f18
    refine wpList_next rfl hsz17 hde17 9 rfl (by decide) fun K hK => ?_
    go_simp
    refine hK _ _ fun a18 hsz18 hde18 f9 hk => ?_
    clear hK K
    replace f0 := (hk 0 (by decide)).trans f0
    replace f4 := (hk 4 (by decide)).trans f4
    replace f5 := (hk 5 (by decide)).trans f5
    replace f7 := (hk 7 (by decide)).trans f7
    replace f8 := (hk 8 (by decide)).trans f8
    replace f19 := (hk 19 (by decide)).trans f19
    replace f9 : a18.tmps[9]?.getD undef = .pointer (some ⟨wr.heap.size, 0, none⟩) := f9
    clear hk hsz17 hde17
    refine wpList_next0 rfl rfl fun K hK => ?_
    refine wp_store_new 29 (.tmp 9) (.tmp 19) rfl zeroE CY (eval_at f9) (eval_at f19) HinfCYs.out (by rw [hCYs]; rfl) HoneCY.out ?_
    refine hK undef _ ?_
    clear hK K
    clear f19
    refine wpList_nil ?_
    obtain ⟨g, hg⟩ : ∃ g, g = wr.heap.size := ⟨_, rfl⟩
    obtain ⟨wc, hwc⟩ : ∃ wc, wc = wr.alloc (.cells CY 29) := ⟨_, rfl⟩
    have HPw := Lib.hid (show wb.heap.size ≤ g by rw [hg]; exact Hbw.out.size)
    have HPb := Lib.hid (show Blk wc g 29 CY by rw [hwc, hg]; exact Blk.new _ _ _)
    have HPo := Lib.hid (show OwnE wc wb.heap.size u acc by rw [hwc]; exact ⟨OwnK.alloc Hown.out.1 _, Hown.out.2⟩)
    have HPl := Lib.hid (show Below wb.heap.size wb wc by rw [hwc]; exact Hbw.out.alloc Hbw.out.size _)
    have HPn := Lib.hid (show ∀ g1, u.ownBlock = some g1 → g1 ≠ g from fun g1 hg1 => by have := (Hown.out.lt g1 hg1).2; omega)
    rw [← hwc]
    rw [← hg] at f9
    clear hwc hg
    refine then_go ?_
    repeat with_reducible refine wp_seq ?_
    refine wp_region_lit ?_
    refine wpList_next rfl hsz18 hde18 20 rfl (by decide) fun K hK => ?_
    go_simp
    refine hK _ _ fun a19 hsz19 hde19 f20 hk => ?_
    clear hK K
    replace f0 := (hk 0 (by decide)).trans f0
    replace f4 := (hk 4 (by decide)).trans f4
    replace f5 := (hk 5 (by decide)).trans f5
    replace f7 := (hk 7 (by decide)).trans f7
    replace f8 := (hk 8 (by decide)).trans f8
    replace f9 := (hk 9 (by decide)).trans f9
    replace f20 : a19.tmps[20]?.getD undef = .pointer (some ⟨g, 0, none⟩) := f20
    clear hk hsz18 hde18
    refine wpList_next rfl hsz19 hde19 21 rfl (by decide) fun K hK => ?_
    refine wp_load_mid 25 (.tmp 20) rfl g 0 (eval_at f20) IY.toList _ (HrIY.out _ _ HPb.out) Tryd.underlying25 rfl HinfY.out ?_
    refine hK _ _ fun a20 hsz20 hde20 f21 hk => ?_
    clear hK K
    replace f0 := (hk 0 (by decide)).trans f0
    replace f4 := (hk 4 (by decide)).trans f4
    replace f5 := (hk 5 (by decide)).trans f5
    replace f7 := (hk 7 (by decide)).trans f7
    replace f8 := (hk 8 (by decide)).trans f8
    replace f9 := (hk 9 (by decide)).trans f9
    replace f21 : a20.tmps[21]?.getD undef = .agg IY := f21
    clear hk hsz19 hde19 f20
    refine wpList_next rfl hsz20 hde20 22 rfl (by decide) fun K hK => ?_
    refine wp_load_mid 25 (.tmp 4) rfl w.heap.size 0 (eval_at f4) IA.toList _ (HRA.out _ HPl.out) Tryd.underlying25 rfl HinfA.out ?_
    refine hK _ _ fun a21 hsz21 hde21 f22 hk => ?_
    clear hK K
    replace f0 := (hk 0 (by decide)).trans f0
    replace f4 := (hk 4 (by decide)).trans f4
    replace f5 := (hk 5 (by decide)).trans f5
    replace f7 := (hk 7 (by decide)).trans f7
    replace f8 := (hk 8 (by decide)).trans f8
    replace f9 := (hk 9 (by decide)).trans f9
    replace f21 := (hk 21 (by decide)).trans f21
    replace f22 : a21.tmps[22]?.getD undef = .agg IA := f22
    clear hk hsz20 hde20
    refine wpList_next rfl hsz21 hde21 23 rfl (by decide) fun K hK => ?_
    have heq := Heq.out
    go_simp
    refine hK _ _ fun a22 hsz22 hde22 f23 hk => ?_
    clear hK K
    replace f0 := (hk 0 (by decide)).trans f0
    replace f4 := (hk 4 (by decide)).trans f4
    replace f5 := (hk 5 (by decide)).trans f5
    replace f7 := (hk 7 (by decide)).trans f7
    replace f8 := (hk 8 (by decide)).trans f8
    replace f9 := (hk 9 (by decide)).trans f9
    replace f23 : a22.tmps[23]?.getD undef = .bool q := f23
    clear hk hsz21 hde21 f21 f22
    clear heq
    refine wpList_nil ?_
    refine then_go ?_
    repeat with_reducible refine wp_seq ?_
    cases q with
    | false =>
      refine wp_cond_false (eval_at f23) ?_
      refine wp_skip ?_
      refine then_go ?_
      clear f23
      repeat with_reducible refine wp_seq ?_
      have hWs3 := HPl.out.size
      obtain ⟨v3, W3, hrun3, hown3, hb3⟩ := app_plain wb.heap.size wc u acc Y HYok.out HPo.out (by have := Hlen.out; have := Hl.out; omega) hWs3 CY HCY.out
      have Hrun3 := Lib.hid hrun3
      have Hown3 := Lib.hid hown3
      have Hb3 := Lib.hid (HPl.out.trans (hb3 wb.heap.size (Nat.le_refl _)))
      clear hrun3 hown3 hb3 hWs3
      refine wp_region_lit ?_
      refine wpList_next rfl hsz22 hde22 29 rfl (by decide) fun K hK => ?_
      go_simp
      refine hK _ _ fun a23 hsz23 hde23 f29 hk => ?_
      clear hK K
      replace f0 := (hk 0 (by decide)).trans f0
      replace f4 := (hk 4 (by decide)).trans f4
      replace f5 := (hk 5 (by decide)).trans f5
      replace f7 := (hk 7 (by decide)).trans f7
      replace f8 := (hk 8 (by decide)).trans f8
      replace f9 := (hk 9 (by decide)).trans f9
      replace f29 : a23.tmps[29]?.getD undef = u := f29
      clear hk hsz22 hde22
      refine wpList_next rfl hsz23 hde23 30 rfl (by decide) fun K hK => ?_
      refine wp_load_mid 29 (.tmp 9) rfl g 0 (eval_at f9) CY.toList _ (HrCY.out _ _ HPb.out) Tryd.underlying29 rfl HinfCY.out ?_
      refine hK _ _ fun a24 hsz24 hde24 f30 hk => ?_
      clear hK K
      replace f0 := (hk 0 (by decide)).trans f0
      replace f4 := (hk 4 (by decide)).trans f4
      replace f5 := (hk 5 (by decide)).trans f5
      replace f7 := (hk 7 (by decide)).trans f7
      replace f8 := (hk 8 (by decide)).trans f8
      replace f9 := (hk 9 (by decide)).trans f9
      replace f29 := (hk 29 (by decide)).trans f29
      replace f30 : a24.tmps[30]?.getD undef = .agg CY := f30
      clear hk hsz23 hde23
      refine wpList_next rfl hsz24 hde24 31 rfl (by decide) fun K hK => ?_
      go_simp
      refine hK _ _ fun a25 hsz25 hde25 f31 hk => ?_
      clear hK K
      replace f0 := (hk 0 (by decide)).trans f0
      replace f4 := (hk 4 (by decide)).trans f4
      replace f5 := (hk 5 (by decide)).trans f5
      replace f7 := (hk 7 (by decide)).trans f7
      replace f8 := (hk 8 (by decide)).trans f8
      replace f9 := (hk 9 (by decide)).trans f9
      replace f29 := (hk 29 (by decide)).trans f29
      replace f31 : a25.tmps[31]?.getD undef = .slice (some ⟨wc.heap.size, 0, none⟩) 1 1 := f31
      clear hk hsz24 hde24 f30
      rw [HfY.out]
      refine wpList_next rfl hsz25 hde25 32 rfl (by decide) fun K hK => ?_
      refine wp_append (.tmp 29) (.tmp 31) 22 rfl (by rw [eval_at f29, eval_at f31]; exact Hrun3.out) ?_
      refine hK _ _ fun a26 hsz26 hde26 f32 hk => ?_
      clear hK K
      replace f0 := (hk 0 (by decide)).trans f0
      replace f4 := (hk 4 (by decide)).trans f4
      replace f5 := (hk 5 (by decide)).trans f5
      replace f7 := (hk 7 (by decide)).trans f7
      replace f8 := (hk 8 (by decide)).trans f8
      replace f9 := (hk 9 (by decide)).trans f9
      replace f32 : a26.tmps[32]?.getD undef = v3 := f32
      clear hk hsz25 hde25 f29 f31
      refine wpList_next rfl hsz26 hde26 7 rfl (by decide) fun K hK => ?_
      go_simp
      refine hK _ _ fun a27 hsz27 hde27 f7 hk => ?_
      clear hK K
      replace f0 := (hk 0 (by decide)).trans f0
      replace f4 := (hk 4 (by decide)).trans f4
      replace f5 := (hk 5 (by decide)).trans f5
      replace f8 := (hk 8 (by decide)).trans f8
      replace f9 := (hk 9 (by decide)).trans f9
      replace f7 : a27.tmps[7]?.getD undef = v3 := f7
      clear hk hsz26 hde26 f32
      refine wpList_nil ?_
      clear f9
      refine block_go ?_
      refine then_go ?_
      repeat with_reducible refine wp_seq ?_
      refine wp_region_lit ?_
      refine wpList_next rfl hsz27 hde27 14 rfl (by decide) fun K hK => ?_
      go_simp
      refine hK _ _ fun a28 hsz28 hde28 f14 hk => ?_
      clear hK K
      replace f0 := (hk 0 (by decide)).trans f0
      replace f4 := (hk 4 (by decide)).trans f4
      replace f5 := (hk 5 (by decide)).trans f5
      replace f8 := (hk 8 (by decide)).trans f8
      replace f7 := (hk 7 (by decide)).trans f7
      replace f14 : a28.tmps[14]?.getD undef = .int .i64 ((k : Nat) : Int) := f14
      clear hk hsz27 hde27
      refine wpList_next rfl hsz28 hde28 15 rfl (by decide) fun K hK => ?_
      go_simp
      refine hK _ _ fun a29 hsz29 hde29 f15 hk => ?_
      clear hK K
      replace f0 := (hk 0 (by decide)).trans f0
      replace f4 := (hk 4 (by decide)).trans f4
      replace f5 := (hk 5 (by decide)).trans f5
      replace f8 := (hk 8 (by decide)).trans f8
      replace f7 := (hk 7 (by decide)).trans f7
      clear hk hsz28 hde28 f14
      replace f15 : a29.tmps[15]?.getD undef = .int .i64 ((k + 1 : Nat) : Int) := f15.trans (by first | (congr 1; done) | (congr 1; rw [IntKind.wrap_i64] <;> omega))
      refine wpList_next rfl hsz29 hde29 8 rfl (by decide) fun K hK => ?_
      go_simp
      refine hK _ _ fun a30 hsz30 hde30 f8 hk => ?_
      clear hK K
      replace f0 := (hk 0 (by decide)).trans f0
      replace f4 := (hk 4 (by decide)).trans f4
      replace f5 := (hk 5 (by decide)).trans f5
      replace f7 := (hk 7 (by decide)).trans f7
      replace f8 : a30.tmps[8]?.getD undef = .int .i64 ((k + 1 : Nat) : Int) := f8
      clear hk hsz29 hde29 f15
      refine wpList_nil ?_
      refine then_go ?_
      exact ⟨L.length - (k + 1), by rw [Hn0.out]; omega, k + 1, v3, acc ++ [Y], hsz30, hde30, f0, f4, f5, f7, f8, Lib.hid (by omega), Hown3, Hb3, Lib.hid (by rw [← Hacc.out, HD.out]; unfold killE; rw [List.map_cons, if_neg (by rw [← Hq.out]; simp)]; simp), Lib.hid (by have := Hlen.out; simp; omega), rfl⟩
    | true =>
      refine wp_cond_true (eval_at f23) ?_
      clear f23
      repeat with_reducible refine wp_seq ?_
      refine wp_region_lit ?_
      refine wpList_next rfl hsz22 hde22 24 rfl (by decide) fun K hK => ?_
      go_simp
      refine hK _ _ fun a23 hsz23 hde23 f24 hk => ?_
      clear hK K
      replace f0 := (hk 0 (by decide)).trans f0
      replace f4 := (hk 4 (by decide)).trans f4
      replace f5 := (hk 5 (by decide)).trans f5
      replace f7 := (hk 7 (by decide)).trans f7
      replace f8 := (hk 8 (by decide)).trans f8
      replace f9 := (hk 9 (by decide)).trans f9
      replace f24 : a23.tmps[24]?.getD undef = .pointer (some ⟨g, 7, none⟩) := f24
      clear hk hsz22 hde22
      refine wpList_next rfl hsz23 hde23 25 rfl (by decide) fun K hK => ?_
      refine wp_load_mid 27 (.tmp 24) rfl g 7 (eval_at f24) AY.toList _ (HrAY.out _ _ HPb.out) Tryd.underlying27 rfl HinfAY.out ?_
      refine hK _ _ fun a24 hsz24 hde24 f25 hk => ?_
      clear hK K
      replace f0 := (hk 0 (by decide)).trans f0
      replace f4 := (hk 4 (by decide)).trans f4
      replace f5 := (hk 5 (by decide)).trans f5
      replace f7 := (hk 7 (by decide)).trans f7
      replace f8 := (hk 8 (by decide)).trans f8
      replace f9 := (hk 9 (by decide)).trans f9
      replace f25 : a24.tmps[25]?.getD undef = .agg AY := f25
      clear hk hsz23 hde23 f24
      refine wpList_next rfl hsz24 hde24 26 rfl (by decide) fun K hK => ?_
      refine wp_load_mid 25 (.tmp 5) rfl (w.heap.size + 1) 0 (eval_at f5) IB.toList _ (HRB.out _ HPl.out) Tryd.underlying25 rfl HinfB.out ?_
      refine hK _ _ fun a25 hsz25 hde25 f26 hk => ?_
      clear hK K
      replace f0 := (hk 0 (by decide)).trans f0
      replace f4 := (hk 4 (by decide)).trans f4
      replace f5 := (hk 5 (by decide)).trans f5
      replace f7 := (hk 7 (by decide)).trans f7
      replace f8 := (hk 8 (by decide)).trans f8
      replace f9 := (hk 9 (by decide)).trans f9
      replace f25 := (hk 25 (by decide)).trans f25
      replace f26 : a25.tmps[26]?.getD undef = .agg IB := f26
      clear hk hsz24 hde24
      refine wpList_next rfl hsz25 hde25 27 rfl (by decide) fun K hK => ?_
      go_simp
      refine (Hwt.out _).mono ?_
      rintro e7 w7 ⟨rfl, hb7⟩
      go_simp
      refine hK _ _ fun a26 hsz26 hde26 f27 hk => ?_
      clear hK K
      replace f0 := (hk 0 (by decide)).trans f0
      replace f4 := (hk 4 (by decide)).trans f4
      replace f5 := (hk 5 (by decide)).trans f5
      replace f7 := (hk 7 (by decide)).trans f7
      replace f8 := (hk 8 (by decide)).trans f8
      replace f9 := (hk 9 (by decide)).trans f9
      replace f27 : a26.tmps[27]?.getD undef = .agg AZ := f27
      clear hk hsz25 hde25 f25 f26
      have HPb7 := Lib.hid (HPb.out.grow hb7)
      have HPo7 := Lib.hid (HPo.out.grow hb7)
      have HPl7 := Lib.hid (below_call HPl.out hb7)
      clear hb7
      refine wpList_next rfl hsz26 hde26 28 rfl (by decide) fun K hK => ?_
      go_simp
      refine hK _ _ fun a27 hsz27 hde27 f28 hk => ?_
      clear hK K
      replace f0 := (hk 0 (by decide)).trans f0
      replace f4 := (hk 4 (by decide)).trans f4
      replace f5 := (hk 5 (by decide)).trans f5
      replace f7 := (hk 7 (by decide)).trans f7
      replace f8 := (hk 8 (by decide)).trans f8
      replace f9 := (hk 9 (by decide)).trans f9
      replace f27 := (hk 27 (by decide)).trans f27
      replace f28 : a27.tmps[28]?.getD undef = .pointer (some ⟨g, 7, none⟩) := f28
      clear hk hsz26 hde26
      refine wpList_next0 rfl rfl fun K hK => ?_
      refine wp_store_mid 27 (.tmp 28) (.tmp 27) rfl g 7 AZ (eval_at f28) (eval_at f27) (by rw [HAZs.out]; exact HthY.out _ _ HPb7.out) HinfAZ.out HAZ1.out ?_
      refine hK undef _ ?_
      clear hK K
      clear f27 f28
      refine wpList_nil ?_
      obtain ⟨w8, hw8⟩ : ∃ w8, w8 = w7.setCells g 7 AZ.toList := ⟨_, rfl⟩
      have HPb8 := Lib.hid (show Blk w8 g 29 CZ by rw [hw8]; exact HstY.out _ _ HPb7.out)
      have HPo8 := Lib.hid (show OwnE w8 wb.heap.size u acc by rw [hw8]; exact ⟨OwnK.keep HPo7.out.1 fun g1 hg1 => heap_setCells g AZ.toList 7 w7 g1 (HPn.out g1 hg1), HPo7.out.2⟩)
      have HPl8 := Lib.hid (show Below wb.heap.size wb w8 by rw [hw8]; exact below_setCells HPl7.out HPw.out HPl7.out.size 7 _)
      have HrZ := Lib.hid (show w8.rangeAt g 0 CZ.toList from HPb8.out.range 0 CZ.toList fun j u hu => by rw [Nat.zero_add, ← Array.getElem?_toList]; exact hu)
      rw [← hw8]
      clear hw8 HPb HPo HPl HPb7 HPo7 HPl7
      refine then_go ?_
      repeat with_reducible refine wp_seq ?_
      have hWs3 := HPl8.out.size
      obtain ⟨v3, W3, hrun3, hown3, hb3⟩ := app_plain wb.heap.size w8 u acc (diedE Y r' s') (died_ok HYok.out r' Hs'.out) HPo8.out (by have := Hlen.out; have := Hl.out; omega) hWs3 CZ HCZ.out
      have Hrun3 := Lib.hid hrun3
      have Hown3 := Lib.hid hown3
      have Hb3 := Lib.hid (HPl8.out.trans (hb3 wb.heap.size (Nat.le_refl _)))
      clear hrun3 hown3 hb3 hWs3
      refine wp_region_lit ?_
      refine wpList_next rfl hsz27 hde27 29 rfl (by decide) fun K hK => ?_
      go_simp
      refine hK _ _ fun a28 hsz28 hde28 f29 hk => ?_
      clear hK K
      replace f0 := (hk 0 (by decide)).trans f0
      replace f4 := (hk 4 (by decide)).trans f4
      replace f5 := (hk 5 (by decide)).trans f5
      replace f7 := (hk 7 (by decide)).trans f7
      replace f8 := (hk 8 (by decide)).trans f8
      replace f9 := (hk 9 (by decide)).trans f9
      replace f29 : a28.tmps[29]?.getD undef = u := f29
      clear hk hsz27 hde27
      refine wpList_next rfl hsz28 hde28 30 rfl (by decide) fun K hK => ?_
      refine wp_load_mid 29 (.tmp 9) rfl g 0 (eval_at f9) CZ.toList _ HrZ.out Tryd.underlying29 rfl HinfCZ.out ?_
      refine hK _ _ fun a29 hsz29 hde29 f30 hk => ?_
      clear hK K
      replace f0 := (hk 0 (by decide)).trans f0
      replace f4 := (hk 4 (by decide)).trans f4
      replace f5 := (hk 5 (by decide)).trans f5
      replace f7 := (hk 7 (by decide)).trans f7
      replace f8 := (hk 8 (by decide)).trans f8
      replace f9 := (hk 9 (by decide)).trans f9
      replace f29 := (hk 29 (by decide)).trans f29
      replace f30 : a29.tmps[30]?.getD undef = .agg CZ := f30
      clear hk hsz28 hde28
      refine wpList_next rfl hsz29 hde29 31 rfl (by decide) fun K hK => ?_
      go_simp
      refine hK _ _ fun a30 hsz30 hde30 f31 hk => ?_
      clear hK K
      replace f0 := (hk 0 (by decide)).trans f0
      replace f4 := (hk 4 (by decide)).trans f4
      replace f5 := (hk 5 (by decide)).trans f5
      replace f7 := (hk 7 (by decide)).trans f7
      replace f8 := (hk 8 (by decide)).trans f8
      replace f9 := (hk 9 (by decide)).trans f9
      replace f29 := (hk 29 (by decide)).trans f29
      replace f31 : a30.tmps[31]?.getD undef = .slice (some ⟨w8.heap.size, 0, none⟩) 1 1 := f31
      clear hk hsz29 hde29 f30
      rw [HfZ.out]
      refine wpList_next rfl hsz30 hde30 32 rfl (by decide) fun K hK => ?_
      refine wp_append (.tmp 29) (.tmp 31) 22 rfl (by rw [eval_at f29, eval_at f31]; exact Hrun3.out) ?_
      refine hK _ _ fun a31 hsz31 hde31 f32 hk => ?_
      clear hK K
      replace f0 := (hk 0 (by decide)).trans f0
      replace f4 := (hk 4 (by decide)).trans f4
      replace f5 := (hk 5 (by decide)).trans f5
      replace f7 := (hk 7 (by decide)).trans f7
      replace f8 := (hk 8 (by decide)).trans f8
      replace f9 := (hk 9 (by decide)).trans f9
      replace f32 : a31.tmps[32]?.getD undef = v3 := f32
      clear hk hsz30 hde30 f29 f31
      refine wpList_next rfl hsz31 hde31 7 rfl (by decide) fun K hK => ?_
      go_simp
      refine hK _ _ fun a32 hsz32 hde32 f7 hk => ?_
      clear hK K
      replace f0 := (hk 0 (by decide)).trans f0
      replace f4 := (hk 4 (by decide)).trans f4
      replace f5 := (hk 5 (by decide)).trans f5
      replace f8 := (hk 8 (by decide)).trans f8
      replace f9 := (hk 9 (by decide)).trans f9
      replace f7 : a32.tmps[7]?.getD undef = v3 := f7
      clear hk hsz31 hde31 f32
      refine wpList_nil ?_
      clear f9
      refine block_go ?_
      refine then_go ?_
      repeat with_reducible refine wp_seq ?_
      refine wp_region_lit ?_
      refine wpList_next rfl hsz32 hde32 14 rfl (by decide) fun K hK => ?_
      go_simp
      refine hK _ _ fun a33 hsz33 hde33 f14 hk => ?_
      clear hK K
      replace f0 := (hk 0 (by decide)).trans f0
      replace f4 := (hk 4 (by decide)).trans f4
      replace f5 := (hk 5 (by decide)).trans f5
      replace f8 := (hk 8 (by decide)).trans f8
      replace f7 := (hk 7 (by decide)).trans f7
      replace f14 : a33.tmps[14]?.getD undef = .int .i64 ((k : Nat) : Int) := f14
      clear hk hsz32 hde32
      refine wpList_next rfl hsz33 hde33 15 rfl (by decide) fun K hK => ?_
      go_simp
      refine hK _ _ fun a34 hsz34 hde34 f15 hk => ?_
      clear hK K
      replace f0 := (hk 0 (by decide)).trans f0
      replace f4 := (hk 4 (by decide)).trans f4
      replace f5 := (hk 5 (by decide)).trans f5
      replace f8 := (hk 8 (by decide)).trans f8
      replace f7 := (hk 7 (by decide)).trans f7
      clear hk hsz33 hde33 f14
      replace f15 : a34.tmps[15]?.getD undef = .int .i64 ((k + 1 : Nat) : Int) := f15.trans (by first | (congr 1; done) | (congr 1; rw [IntKind.wrap_i64] <;> omega))
      refine wpList_next rfl hsz34 hde34 8 rfl (by decide) fun K hK => ?_
      go_simp
      refine hK _ _ fun a35 hsz35 hde35 f8 hk => ?_
      clear hK K
      replace f0 := (hk 0 (by decide)).trans f0
      replace f4 := (hk 4 (by decide)).trans f4
      replace f5 := (hk 5 (by decide)).trans f5
      replace f7 := (hk 7 (by decide)).trans f7
      replace f8 : a35.tmps[8]?.getD undef = .int .i64 ((k + 1 : Nat) : Int) := f8
      clear hk hsz34 hde34 f15
      refine wpList_nil ?_
      refine then_go ?_
      exact ⟨L.length - (k + 1), by rw [Hn0.out]; omega, k + 1, v3, acc ++ [diedE Y r' s'], hsz35, hde35, f0, f4, f5, f7, f8, Lib.hid (by omega), Hown3, Hb3, Lib.hid (by rw [← Hacc.out, HD.out]; unfold killE; rw [List.map_cons, if_pos Hq.out.symm]; simp), Lib.hid (by have := Hlen.out; simp; omega), rfl⟩
  · have hkn : k = n := by have := Hk.out; have := Hn.out; omega
    have hlt1 : decide ((k : Int) < (n : Int)) = false := decide_eq_false (by omega)
    have Hend := Lib.hid (show L.drop k = [] by rw [hkn, Hn.out, List.drop_length])
    clear hkn
    refine wp_region_lit ?_
    refine wpList_next rfl hsz9 hde9 10 rfl (by decide) fun K hK => ?_
    go_simp
    refine hK _ _ fun a10 hsz10 hde10 f10 hk => ?_
    clear hK K
    replace f0 := (hk 0 (by decide)).trans f0
    replace f4 := (hk 4 (by decide)).trans f4
    replace f5 := (hk 5 (by decide)).trans f5
    replace f7 := (hk 7 (by decide)).trans f7
    replace f8 := (hk 8 (by decide)).trans f8
    replace f10 : a10.tmps[10]?.getD undef = .int .i64 ((k : Nat) : Int) := f10
    clear hk hsz9 hde9
    refine wpList_next rfl hsz10 hde10 11 rfl (by decide) fun K hK => ?_
    go_simp
    refine hK _ _ fun a11 hsz11 hde11 f11 hk => ?_
    clear hK K
    replace f0 := (hk 0 (by decide)).trans f0
    replace f4 := (hk 4 (by decide)).trans f4
    replace f5 := (hk 5 (by decide)).trans f5
    replace f7 := (hk 7 (by decide)).trans f7
    replace f8 := (hk 8 (by decide)).trans f8
    replace f10 := (hk 10 (by decide)).trans f10
    replace f11 : a11.tmps[11]?.getD undef = .slice A n c := f11
    clear hk hsz10 hde10
    refine wpList_next rfl hsz11 hde11 12 rfl (by decide) fun K hK => ?_
    go_simp
    refine hK _ _ fun a12 hsz12 hde12 f12 hk => ?_
    clear hK K
    replace f0 := (hk 0 (by decide)).trans f0
    replace f4 := (hk 4 (by decide)).trans f4
    replace f5 := (hk 5 (by decide)).trans f5
    replace f7 := (hk 7 (by decide)).trans f7
    replace f8 := (hk 8 (by decide)).trans f8
    replace f10 := (hk 10 (by decide)).trans f10
    replace f12 : a12.tmps[12]?.getD undef = .int .i64 (n : Int) := f12
    clear hk hsz11 hde11 f11
    refine wpList_next rfl hsz12 hde12 13 rfl (by decide) fun K hK => ?_
    go_simp
    refine hK _ _ fun a13 hsz13 hde13 f13 hk => ?_
    clear hK K
    replace f0 := (hk 0 (by decide)).trans f0
    replace f4 := (hk 4 (by decide)).trans f4
    replace f5 := (hk 5 (by decide)).trans f5
    replace f7 := (hk 7 (by decide)).trans f7
    replace f8 := (hk 8 (by decide)).trans f8
    clear hk hsz12 hde12 f10 f12
    replace f13 : a13.tmps[13]?.getD undef = .bool false := f13.trans (by first | rfl | simp [hlt])
    refine wpList_nil ?_
    refine then_go ?_
    repeat with_reducible refine wp_seq ?_
    refine wp_cond_false (eval_at f13) ?_
    refine wp_exit ?_
    repeat with_reducible refine then_exit ?_
    refine block_exit ?_
    refine then_go ?_
    clear f13 f8 f0 f4 f5
    repeat with_reducible refine wp_seq ?_
    refine wp_region_lit ?_
    refine wpList_next rfl hsz13 hde13 33 rfl (by decide) fun K hK => ?_
    go_simp
    refine hK _ _ fun a14 hsz14 hde14 f33 hk => ?_
    clear hK K
    replace f7 := (hk 7 (by decide)).trans f7
    replace f33 : a14.tmps[33]?.getD undef = u := f33
    clear hk hsz13 hde13
    refine wpList_next rfl hsz14 hde14 6 rfl (by decide) fun K hK => ?_
    go_simp
    refine hK _ _ fun a15 hsz15 hde15 f6 hk => ?_
    clear hK K
    replace f7 := (hk 7 (by decide)).trans f7
    replace f6 : a15.tmps[6]?.getD undef = u := f6
    clear hk hsz14 hde14 f33
    refine wpList_nil ?_
    refine then_go ?_
    refine wp_ret ?_
    repeat first | with_reducible refine then_ret ?_ | with_reducible refine block_ret ?_
    refine ret_tmp Tryd.results16 hde15 f6 ?_
    refine ⟨⟨_, rfl, ?_⟩, below_call Hbel.out Hbw.out⟩
    have h := Hown.out.mono Hwb1.out
    have e := Hacc.out
    rw [Hend.out] at e
    rw [show acc = R by rw [← e]; exact (List.append_nil _).symm] at h
    exact h
end Go.Proofs.YtcpjgohclncbkaaDoor
