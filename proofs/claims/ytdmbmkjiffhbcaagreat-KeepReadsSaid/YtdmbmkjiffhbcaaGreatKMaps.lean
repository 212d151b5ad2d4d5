/-
  A loop over an iterator, by footprints: what the caller has laid and what the iterator has laid stay apart. The iterator's word (Iter2), and what the caller owes (wp_range2).
  Maps keyed by uint64 whose elements are slices of bytes: what block g holds, as a function from keys to slices.
  The keys of a map keyed by uint64, as they come: maps.Keys and its iterator.
  slices.AppendSeq at uint64, over whatever iterator: what comes is collected, in the order in which it comes.
  Maps keyed by uint64 whose elements are texts: what is made, stored, deleted, gone over.
-/
import Derived.RangeFuncNested
import Derived.OwnWalkIn
import Derived.Test.YtdmbmkjiffhbcaaGreatWordsB
import Derived.Maps.OwnSet
import Derived.Maps.OwnOps
import Derived.Maps.RangeWalk
import Derived.Maps.OwnIn
import Derived.Maps.Ext
import Derived.Sort.MapsRangeIn
import Derived.RangeFuncBound
import Derived.RangeFuncCalls
import Derived.RangeFuncLeaves
import Derived.Shelf.Abstract
import Derived.Shelf.RegionOpen
import Derived.WalkKit
import Derived.TacticsInMore
import Derived.LoopNIn
import Derived.LoopIn
import Derived.Lib.Hide
import Derived.Test.YtdmbmkjiffhbcaaGreatRange
namespace Go.Proofs.YtdmbmkjiffhbcaaGreat
open Go.RowKit

/-- The blocks of 'mine' are as they were; memory has only grown. -/
structure Hold (mine : Nat → Prop) (W W' : World) : Prop where
  os : W'.os = W.os
  tape : W'.tape = W.tape
  output : W'.output = W.output
  size : W.heap.size ≤ W'.heap.size
  block : ∀ k, k < W.heap.size → mine k → W'.heap[k]? = W.heap[k]?
theorem Hold.refl (mine : Nat → Prop) (W : World) : Hold mine W W := ⟨rfl, rfl, rfl, Nat.le_refl _, fun _ _ _ => rfl⟩
theorem Hold.trans {mine : Nat → Prop} {A B C : World} (h : Hold mine A B) (g : Hold mine B C) : Hold mine A C :=
  ⟨g.os.trans h.os, g.tape.trans h.tape, g.output.trans h.output, Nat.le_trans h.size g.size, fun k hk hm => (g.block k (Nat.lt_of_lt_of_le hk h.size) hm).trans (h.block k hk hm)⟩
theorem Hold.weaken {mine mine' : Nat → Prop} {A B : World} (h : Hold mine A B) (hk : ∀ k, k < A.heap.size → mine' k → mine k) : Hold mine' A B :=
  ⟨h.os, h.tape, h.output, h.size, fun k hl hm => h.block k hl (hk k hl hm)⟩
theorem Below.hold {A W : World} (h : Below A.heap.size A W) (mine : Nat → Prop) : Hold mine A W := ⟨h.os, h.tape, h.output, h.size, fun k hk _ => h.block k hk⟩
theorem Hold.below {base : Nat} {mine : Nat → Prop} {A W : World} (h : Hold mine A W) (hm : ∀ k, k < base → mine k) (hb : base ≤ A.heap.size) : Below base A W :=
  ⟨h.os, h.tape, h.output, h.size, fun k hk => h.block k (Nat.lt_of_lt_of_le hk hb) (hm k hk)⟩
theorem Hold.grown {A W : World} {row : Option Nat} (h : A.grownBy W row) (mine : Nat → Prop) (hr : ∀ g, row = some g → ¬ mine g) : Hold mine A W :=
  ⟨h.os, h.tape, h.output, h.size, fun k hk hm => h.block k hk fun e => hr k e.symm hm⟩
theorem Hold.putObj (W : World) (l : Nat) (o : Obj) (mine : Nat → Prop) (h : ¬ mine l) : Hold mine W (W.putObj l o) :=
  ⟨rfl, rfl, rfl, by simp, fun k _ hm => World.putObj_heap_other (fun e => h (e ▸ hm))⟩
theorem Hold.setCell (W : World) (a : Addr) (v : Value) (mine : Nat → Prop) (h : ¬ mine a.block) : Hold mine W (W.setCell a v) := by
  have hb := (Below.refl a.block W).setCell (p := a) (Nat.le_refl _) v
  exact ⟨hb.os, hb.tape, hb.output, hb.size, fun k _ hm => Below.heap_setCell W a v k fun e => h (e ▸ hm)⟩
theorem Hold.alloc (W : World) (o : Obj) (mine : Nat → Prop) : Hold mine W (W.alloc o) := Below.hold ((Below.refl _ _).alloc (Nat.le_refl _) o) mine

/-- What the caller has laid by now, against what it had laid. -/
def Sub2 (M M' : Nat → Prop) (W W' : World) : Prop := ∀ k, M' k → (M k ∨ W.heap.size ≤ k) ∧ k < W'.heap.size

/-- The iterator's word. M: the blocks at 'base' or above that are the caller's; N: it yields no more often. -/
def Iter2 {α : Type} (n : Nat) (P : Program) (gf : FuncId) (lb : Array Value) (encs : α → Array Value) (keep : Nat → Prop) (N : Nat) (S Sp : List α → Prop) (w : World) : Prop :=
  ∀ (l : Nat) (J Jx : (Nat → Prop) → List α → World → Prop) (M : Nat → Prop) (W : World), Below w.heap.size w W → (∀ k, M k → w.heap.size ≤ k ∧ k < W.heap.size) →
    (∀ M pre x W0 W1, J M pre W0 → w.heap.size ≤ W0.heap.size → Hold (fun k => k < w.heap.size ∨ M k) W0 W1 → pre.length < N →
      YieldAt Fence.wide (n - 1) P l (encs x) W1 fun e W2 =>
        (e = .returned (.bool true) ∧ ∃ M', J M' (pre ++ [x]) W2 ∧ Sub2 M M' W1 W2 ∧ Hold (fun k => ¬ M k ∧ (w.heap.size ≤ k ∨ keep k)) W1 W2) ∨
        (e = .returned (.bool false) ∧ ∃ M', Jx M' (pre ++ [x]) W2 ∧ Sub2 M M' W1 W2 ∧ W1.heap.size ≤ W2.heap.size)) →
    J M [] W →
    CallsIn Fence.wide n P gf (#[.func (.yield l) #[] #[]] ++ lb) W fun e W' =>
      (∃ v, e = .returned v) ∧ ((∃ M xs W0, S xs ∧ J M xs W0 ∧ w.heap.size ≤ W0.heap.size ∧ Hold (fun k => k < w.heap.size ∨ M k) W0 W') ∨
        (∃ M xs W0, Sp xs ∧ Jx M xs W0 ∧ w.heap.size ≤ W0.heap.size ∧ Hold (fun k => k < w.heap.size ∨ M k) W0 W'))

/-- How the body of a round may be left. -/
def roundEnd2 {α : Type} (B : Nat) (keep : Nat → Prop) (I : (Nat → Prop) → List α → World → Prop) (Ix : Code → (Nat → Prop) → List α → World → Prop) (M : Nat → Prop) (xs : List α) (W : World) : Exit → Act → World → Prop
  | .normal, _, W' => ∃ M', I M' xs W' ∧ Sub2 M M' W W' ∧ Hold (fun k => ¬ M k ∧ (B ≤ k ∨ keep k)) W W'
  | .ret, _, W' => ∃ M', Ix .ret M' xs W' ∧ Sub2 M M' W W' ∧ Hold (fun k => ¬ M k ∧ (B ≤ k ∨ keep k)) W W'
  | .exit id, _, W' => ∃ M', Ix (.exit id) M' xs W' ∧ Sub2 M M' W W' ∧ Hold (fun k => ¬ M k ∧ (B ≤ k ∨ keep k)) W W'
  | .goto t, _, W' => ∃ M', Ix (.goto t) M' xs W' ∧ Sub2 M M' W W' ∧ Hold (fun k => ¬ M k ∧ (B ≤ k ∨ keep k)) W W'
  | .panic _, _, _ => False
  | .outgrown, _, _ => False

theorem wp_range2 {α : Type} {n : Nat} {P : Program} {g : Operand} {ps : Array Tmp} {assign body : Code} {Q : Exit → Act → World → Prop} {a : Act} {w : World}
    {gf : Nat} {lb : Array Value} (hg : a.eval g = .func (.func gf) #[] lb) (eg : ∀ args w, (callFunc gf args).run P w = .ok (.enter gf args) w)
    {encs : α → Array Value} {keep : Nat → Prop} {N : Nat} {S Sp : List α → Prop} (hiter : Iter2 (n - 1) P gf lb encs keep N S Sp w) (hps : ∀ x, (encs x).size = ps.size)
    (I : (Nat → Prop) → List α → World → Prop) (Ix : Code → (Nat → Prop) → List α → World → Prop)
    (hI : ∀ M xs A W, I M xs A → w.heap.size ≤ A.heap.size → Hold (fun k => k < w.heap.size ∨ M k) A W → I M xs W)
    (hIx : ∀ c M xs A W, Ix c M xs A → w.heap.size ≤ A.heap.size → Hold (fun k => k < w.heap.size ∨ M k) A W → Ix c M xs W)
    (h0 : I (fun _ => False) [] w) (a₁ : α → Act)
    (hassign : ∀ (l : Nat) (x : α) (W : World) (K : Act → World → Prop), K (a₁ x) W →
      assign.wpIn (Fence.wide.inRound l) (n - 1 - 1) P (Exit.then K (fun _ _ _ => False)) { tmps := (ps.zip (encs x)).foldl (fun t (p, v) => t.setIfInBounds p v) a.tmps, defers := [] } W)
    (hbody : ∀ (l : Nat) (M : Nat → Prop) (pre : List α) (x : α) (W : World), I M pre W → (∀ k, M k → w.heap.size + 2 ≤ k ∧ k < W.heap.size) → w.heap.size + 2 ≤ W.heap.size → pre.length < N →
      body.wpIn (Fence.wide.inRound l) (n - 1 - 1) P (roundEnd2 w.heap.size keep I Ix M (pre ++ [x]) W) (a₁ x) W)
    (hdone : ∀ (D : Nat) (M : Nat → Prop) (xs : List α) (W : World), w.heap.size ≤ D → S xs → I M xs W → W.heap[D]? = some (.deferred (some [])) → w.heap.size ≤ W.heap.size → ¬ M D → Q .normal { a with defers := { target := .collected D, args := #[] } :: a.defers } W)
    (hstop : ∀ (D : Nat) (c : Code) (M : Nat → Prop) (xs : List α) (W : World), w.heap.size ≤ D → Ix c M xs W → W.heap[D]? = some (.deferred (some [])) → w.heap.size ≤ W.heap.size → ¬ M D → c.wpIn Fence.wide n P Q { a with defers := { target := .collected D, args := #[] } :: a.defers } W) :
    (Code.rangeFunc g ps assign body).wpIn Fence.wide n P Q a w := by
  refine wpIn_rangeFunc fun fn hfn => ?_
  show ∃ (l : Nat) (mark : List Deferred) (w₁ : World) (d : Deferred) (w₁' : World) (f : FuncId) (args : Array Value) (w₂ : World), (Instr.enterLoop fn a.tmps ps assign body none).run P w = _ ∧ _
  obtain ⟨D, hD⟩ : ∃ D, D = w.heap.size := ⟨_, rfl⟩
  obtain ⟨rec, hrec⟩ : ∃ rec : LoopState → Option Code → Loop, rec = fun st pe => { state := st, pending := pe, fn, tmps := a.tmps, params := ps, assign, body, defers := w.heap.size } := ⟨_, rfl⟩
  have hent := run_enterLoop_outer (P := P) (w := w) fn a.tmps ps assign body
  obtain ⟨W1, hW1⟩ : ∃ W1, W1 = (w.alloc (.deferred (some []))).alloc (.loop (rec .ready none)) := ⟨_, rfl⟩
  have hsz : W1.heap.size = D + 2 := by rw [hW1, hD]; simp
  have hbel : Below w.heap.size w W1 := by rw [hW1]; exact ((Below.refl _ w).alloc (Nat.le_refl _) _).alloc (by simp) _
  have hL : W1.heap[D + 1]? = some (.loop (rec .ready none)) := by
    have := World.alloc_heap_new (w.alloc (.deferred (some []))) (.loop (rec .ready none))
    rw [World.size_alloc] at this
    rw [hW1, hD]; exact this
  have hDf : W1.heap[D]? = some (.deferred (some [])) := by
    rw [hW1, hD]
    exact (Below.heap_alloc _ _ _ (by simp)).trans (World.alloc_heap_new w _)
  refine ⟨D + 1, [{ target := .collected D, args := #[] }], W1, { target := .fn (.func gf) lb, args := #[.func (.yield (D + 1)) #[] #[]] }, W1, gf, #[.func (.yield (D + 1)) #[] #[]] ++ lb, W1, ?_, ?_, ?_, ?_, ?_, ?_⟩
  · rw [hent, hW1, hD, hrec]
  · simp only [resolve, hg]
    simp [go_sem]
  · intro f' _; trivial
  · simp [invoke, go_sem, eg]
  · intro h; cases h
  -- J: the caller's own word, and the loop's two blocks
  refine (hiter (D + 1)
    (fun M xs W => ∃ M0, M = (fun k => k = D ∨ k = D + 1 ∨ M0 k) ∧ I M0 xs W ∧ (∀ k, M0 k → D + 2 ≤ k ∧ k < W.heap.size) ∧ W.heap[D + 1]? = some (.loop (rec .ready none)) ∧ W.heap[D]? = some (.deferred (some [])))
    (fun M xs W => ∃ M0 c, M = (fun k => k = D ∨ k = D + 1 ∨ M0 k) ∧ Ix c M0 xs W ∧ (∀ k, M0 k → D + 2 ≤ k ∧ k < W.heap.size) ∧ W.heap[D + 1]? = some (.loop (rec .done (some c))) ∧ W.heap[D]? = some (.deferred (some [])))
    (fun k => k = D ∨ k = D + 1 ∨ False) W1 hbel (by rintro k (rfl | rfl | h) <;> first | omega | exact h.elim) ?_ ⟨fun _ => False, rfl, hI _ _ _ _ h0 (Nat.le_refl _) (Below.hold hbel _), fun k h => h.elim, hL, hDf⟩).mono ?_
  · -- a round
    rintro M pre x W0 W ⟨M0, rfl, hi0, hM0, hl0, hd0⟩ hsz0 hh hN
    have hlt0 : D + 1 < W0.heap.size := (Array.getElem?_eq_some_iff.1 hl0).1
    have hl : W.heap[D + 1]? = some (.loop (rec .ready none)) := (hh.block _ hlt0 (.inr (.inr (.inl rfl)))).trans hl0
    have hd : W.heap[D]? = some (.deferred (some [])) := (hh.block _ (by omega) (.inr (.inl rfl))).trans hd0
    have hi := hI _ _ _ _ hi0 hsz0 (hh.weaken fun k _ h => by rcases h with h | h; exact .inl h; exact .inr (.inr (.inr h)))
    have hlt : D + 1 < W.heap.size := Nat.lt_of_lt_of_le hlt0 hh.size
    have hy := run_yield (P := P) (args := encs x) hl (by rw [hrec]; exact hps x)
    rw [hrec] at hy
    refine ⟨fn, _, assign, body, hy, roundIn_of_wpIn trivial (hassign _ x W _ ⟨_, run_beginRound hl (by rw [hrec]), ?_⟩)⟩
    clear hy
    obtain ⟨Wb, hWb⟩ : ∃ Wb, Wb = W.putObj (D + 1) (.loop { rec .ready none with state := .busy }) := ⟨_, rfl⟩
    have hlb : Wb.heap[D + 1]? = some (.loop { rec .ready none with state := .busy }) := by rw [hWb]; exact World.putObj_heap_same hlt
    have hdb : Wb.heap[D]? = some (.deferred (some [])) := by rw [hWb]; exact (World.putObj_heap_other (by omega)).trans hd
    have hszb : Wb.heap.size = W.heap.size := by rw [hWb]; simp
    have hholdb : ∀ mine : Nat → Prop, ¬ mine (D + 1) → Hold mine W Wb := fun mine h => by rw [hWb]; exact Hold.putObj _ _ _ _ h
    have hnl : ∀ M1 : Nat → Prop, (∀ k, M1 k → D + 2 ≤ k) → ¬ (D + 1 < w.heap.size ∨ M1 (D + 1)) := fun M1 h h' => by
      rcases h' with h' | h'
      · omega
      · have := h _ h'; omega
    have hib : I M0 pre Wb := hI _ _ _ _ hi (by omega) (hholdb _ (hnl _ fun k h => (hM0 k h).1))
    rw [← hWb]
    refine wpIn_mono (hbody _ M0 pre x Wb hib (fun k h => by have := hM0 k h; have := hh.size; omega) (by omega) hN) ?_
    have fin : ∀ (jump : Option Code) (W3 : World), Hold (fun k => ¬ M0 k ∧ (w.heap.size ≤ k ∨ keep k)) Wb W3 → ∃ W4, (Instr.endRound (D + 1) jump).run P W3 = .ok (.bool jump.isNone) W4 ∧ W4 = W3.putObj (D + 1) (.loop (rec (if jump.isNone then .ready else .done) jump)) ∧
        W4.heap[D + 1]? = some (.loop (rec (if jump.isNone then .ready else .done) jump)) ∧ W4.heap[D]? = some (.deferred (some [])) ∧ W4.heap.size = W3.heap.size := fun jump W3 hk3 => by
      have hl3 := (hk3.block (D + 1) (by omega) ⟨fun h => by have := hM0 _ h; omega, .inl (by omega)⟩).trans hlb
      have hd3 := (hk3.block D (by omega) ⟨fun h => by have := hM0 _ h; omega, .inl (by omega)⟩).trans hdb
      have hr := run_endRound (P := P) jump hl3
      refine ⟨_, ?_, rfl, World.putObj_heap_same (Array.getElem?_eq_some_iff.1 hl3).1, (World.putObj_heap_other (by omega)).trans hd3, by simp⟩
      rw [hr, hrec]
    have subs : ∀ (M' : Nat → Prop) (W3 W4 : World), Sub2 M0 M' Wb W3 → W4.heap.size = W3.heap.size → Wb.heap.size ≤ W3.heap.size → Sub2 (fun k => k = D ∨ k = D + 1 ∨ M0 k) (fun k => k = D ∨ k = D + 1 ∨ M' k) W W4 := fun M' W3 W4 h h4 h3 k hk => by
      rcases hk with hk | hk | hk
      · exact ⟨.inl (.inl hk), by omega⟩
      · exact ⟨.inl (.inr (.inl hk)), by omega⟩
      · obtain ⟨h1, h2⟩ := h k hk
        refine ⟨?_, by omega⟩
        rcases h1 with h1 | h1
        · exact .inl (.inr (.inr h1))
        · exact .inr (by omega)
    have high : ∀ (M' : Nat → Prop) (W3 W4 : World), Sub2 M0 M' Wb W3 → W4.heap.size = W3.heap.size → ∀ k, M' k → D + 2 ≤ k ∧ k < W4.heap.size := fun M' W3 W4 h h4 k hk => by
      obtain ⟨h1, h2⟩ := h k hk
      rcases h1 with h1 | h1
      · exact ⟨(hM0 k h1).1, by omega⟩
      · exact ⟨by omega, by omega⟩
    have hback : ∀ (M' : Nat → Prop) (W3 : World) (o : Obj), (∀ k, M' k → D + 2 ≤ k) → Hold (fun k => k < w.heap.size ∨ M' k) W3 (W3.putObj (D + 1) o) := fun M' W3 o h => Hold.putObj _ _ _ _ (hnl M' h)
    have hall : ∀ (M' : Nat → Prop) (W3 : World) (o : Obj), Hold (fun k => ¬ M0 k ∧ (w.heap.size ≤ k ∨ keep k)) Wb W3 → Hold (fun k => ¬ (k = D ∨ k = D + 1 ∨ M0 k) ∧ (w.heap.size ≤ k ∨ keep k)) W (W3.putObj (D + 1) o) := fun M' W3 o h =>
      ((hholdb _ fun h => h.1 (.inr (.inl rfl))).trans (h.weaken fun k _ hk => ⟨fun hm => hk.1 (.inr (.inr hm)), hk.2⟩)).trans (Hold.putObj _ _ _ _ fun h => h.1 (.inr (.inl rfl)))
    rintro e a3 W3 hp
    cases e with
    | normal =>
      obtain ⟨M', hi3, hsub, hk3⟩ := hp
      obtain ⟨W4, hr, h4, hl4, hd4, hs4⟩ := fin none W3 hk3
      have hh4 := high M' W3 W4 hsub hs4
      refine ⟨_, W4, hr, .inl ⟨rfl, fun k => k = D ∨ k = D + 1 ∨ M' k, ⟨M', rfl, hI _ _ _ _ hi3 (by have := hk3.size; omega) (by rw [h4]; exact hback _ _ _ fun k h => (hh4 k h).1), hh4, hl4, hd4⟩, subs M' W3 W4 hsub hs4 hk3.size, by rw [h4]; exact hall M' _ _ hk3⟩⟩
    | ret =>
      obtain ⟨M', hi3, hsub, hk3⟩ := hp
      obtain ⟨W4, hr, h4, hl4, hd4, hs4⟩ := fin (some .ret) W3 hk3
      have hh4 := high M' W3 W4 hsub hs4
      exact ⟨_, W4, hr, .inr ⟨rfl, fun k => k = D ∨ k = D + 1 ∨ M' k, ⟨M', .ret, rfl, hIx _ _ _ _ _ hi3 (by have := hk3.size; omega) (by rw [h4]; exact hback _ _ _ fun k h => (hh4 k h).1), hh4, hl4, hd4⟩, subs M' W3 W4 hsub hs4 hk3.size, by have := hk3.size; omega⟩⟩
    | exit id =>
      obtain ⟨M', hi3, hsub, hk3⟩ := hp
      obtain ⟨W4, hr, h4, hl4, hd4, hs4⟩ := fin (some (.exit id)) W3 hk3
      have hh4 := high M' W3 W4 hsub hs4
      exact ⟨_, W4, hr, .inr ⟨rfl, fun k => k = D ∨ k = D + 1 ∨ M' k, ⟨M', (.exit id), rfl, hIx _ _ _ _ _ hi3 (by have := hk3.size; omega) (by rw [h4]; exact hback _ _ _ fun k h => (hh4 k h).1), hh4, hl4, hd4⟩, subs M' W3 W4 hsub hs4 hk3.size, by have := hk3.size; omega⟩⟩
    | goto t =>
      obtain ⟨M', hi3, hsub, hk3⟩ := hp
      obtain ⟨W4, hr, h4, hl4, hd4, hs4⟩ := fin (some (.goto t)) W3 hk3
      have hh4 := high M' W3 W4 hsub hs4
      exact ⟨_, W4, hr, .inr ⟨rfl, fun k => k = D ∨ k = D + 1 ∨ M' k, ⟨M', (.goto t), rfl, hIx _ _ _ _ _ hi3 (by have := hk3.size; omega) (by rw [h4]; exact hback _ _ _ fun k h => (hh4 k h).1), hh4, hl4, hd4⟩, subs M' W3 W4 hsub hs4 hk3.size, by have := hk3.size; omega⟩⟩
    | panic ch => exact hp.elim
    | outgrown => exact hp.elim
  · -- behind the loop
    rintro e W2 ⟨⟨v, rfl⟩, (⟨M, xs, W0, hS, ⟨M0, rfl, hi0, hM0, hl0, hd0⟩, hsz0, hh⟩ | ⟨M, xs, W0, _, ⟨M0, c, rfl, hi0, hM0, hl0, hd0⟩, hsz0, hh⟩)⟩
    · have hlt0 : D + 1 < W0.heap.size := (Array.getElem?_eq_some_iff.1 hl0).1
      have hl := (hh.block _ hlt0 (.inr (.inr (.inl rfl)))).trans hl0
      have hd := (hh.block _ (show D < W0.heap.size by omega) (.inr (.inl rfl))).trans hd0
      have hr := run_endLoop (P := P) hl (by rw [hrec]; simp)
      have hi1 := hI _ _ _ _ hi0 hsz0 (hh.weaken fun k _ h => by rcases h with h | h; exact .inl h; exact .inr (.inr (.inr h)))
      have hno : ¬ (D + 1 < w.heap.size ∨ M0 (D + 1)) := fun h => by
        rcases h with h | h
        · omega
        · have := hM0 _ h; omega
      refine ⟨none, W2.putObj (D + 1) (.loop (rec .exhausted none)), ?_, hdone D M0 xs _ (by omega) hS (hI _ _ _ _ hi1 (by have := hh.size; omega) (Hold.putObj _ _ _ _ hno)) ((World.putObj_heap_other (by omega)).trans hd) (by have := hh.size; simp; omega) (fun h => by have := hM0 _ h; omega)⟩
      rw [hr, hrec]
    · have hlt0 : D + 1 < W0.heap.size := (Array.getElem?_eq_some_iff.1 hl0).1
      have hl := (hh.block _ hlt0 (.inr (.inr (.inl rfl)))).trans hl0
      have hd := (hh.block _ (show D < W0.heap.size by omega) (.inr (.inl rfl))).trans hd0
      have hr := run_endLoop (P := P) hl (by rw [hrec]; simp)
      have hi1 := hIx _ _ _ _ _ hi0 hsz0 (hh.weaken fun k _ h => by rcases h with h | h; exact .inl h; exact .inr (.inr (.inr h)))
      have hno : ¬ (D + 1 < w.heap.size ∨ M0 (D + 1)) := fun h => by
        rcases h with h | h
        · omega
        · have := hM0 _ h; omega
      refine ⟨some c, W2.putObj (D + 1) (.loop (rec .exhausted (some c))), ?_, hstop D c M0 xs _ (by omega) (hIx _ _ _ _ _ hi1 (by have := hh.size; omega) (Hold.putObj _ _ _ _ hno)) ((World.putObj_heap_other (by omega)).trans hd) (by have := hh.size; simp; omega) (fun h => by have := hM0 _ h; omega)⟩
      rw [hr, hrec]
end Go.Proofs.YtdmbmkjiffhbcaaGreat

namespace Go.Proofs.YtdmbmkjiffhbcaaGreat
open Go.RowKit Go.Maps
set_option maxRecDepth 100000

theorem keyU : Keyed Tryz.prog 46 := int_keyed Tryz.underlying46
theorem zeroB (w : World) : (zeroValue 47).run Tryz.prog w = .ok (.slice none 0 0) w := by kernel_rfl
/-- An element is read as it stands. -/
def opq (v : Value) : Option (DataW Value × List MemPlace) := some (.held v, [])
def kU (k : Nat) : Lit := .int .u64 (k : Int)
theorem keyOf_U {k : Nat} (h : k < 18446744073709551616) : keyOf Tryz.prog 46 (.int .u64 (k : Int)) = some (kU k) :=
  keyOf_int_mk Tryz.underlying46 (by simp [Lit.wf, IntKind.min, IntKind.max, IntKind.signed, IntKind.bits]; omega)
theorem kU_key (k : Nat) : WideAt.IsKeyLit (kU k) := by
  unfold WideAt.IsKeyLit kU
  simp
theorem kU_ne {a b : Nat} (h : a ≠ b) : kU a ≠ kU b := fun e => by
  unfold kU at e
  injection e with _ e
  omega
/-- A function turned at one key. -/
def updU (F : Nat → Option Value) (k : Nat) (v : Option Value) (j : Nat) : Option Value := if j = k then v else F j
theorem updU_same (F : Nat → Option Value) (k : Nat) (v : Option Value) : updU F k v k = v := if_pos rfl
theorem updU_other (F : Nat → Option Value) {k j : Nat} (v : Option Value) (h : j ≠ k) : updU F k v j = F j := if_neg h
/-- What a datum holds at the keys. -/
def HoldsU (D : DataW Value) (F : Nat → Option Value) : Prop := ∀ k, k < 18446744073709551616 → (has D (kU k) = (F k).isSome) ∧ ∀ z, D.atKey (kU k) (.held z) = .held ((F k).getD z)
/-- Block g is a map of at most n entries. -/
def MapU (w : World) (g n : Nat) (F : Nat → Option Value) : Prop := ∃ D : DataW Value, w.ownsMap Tryz.prog 46 opq g n D ∧ HoldsU D F
theorem MapU.mono {w : World} {g n n' : Nat} {F : Nat → Option Value} (h : MapU w g n F) (hn : n ≤ n') : MapU w g n' F := by
  obtain ⟨D, h1, h2⟩ := h
  exact ⟨D, h1.mono hn, h2⟩
theorem MapU.lt {w : World} {g n : Nat} {F : Nat → Option Value} (h : MapU w g n F) : g < w.heap.size := by
  obtain ⟨D, h1, _⟩ := h
  exact h1.lt
theorem MapU.keep {w w' : World} {g n : Nat} {F : Nat → Option Value} (h : MapU w g n F) (hk : w'.heap[g]? = w.heap[g]?) : MapU w' g n F := by
  obtain ⟨D, ⟨es, clock, hb, h1⟩, h2⟩ := h
  exact ⟨D, ⟨es, clock, hk.trans hb, h1⟩, h2⟩
theorem MapU.made (w : World) : MapU (w.alloc (.map #[] 0)) w.heap.size 0 (fun _ => none) :=
  ⟨.map [], World.ownsMap_made _ _ _ _, fun _ _ => ⟨rfl, fun _ => rfl⟩⟩
theorem HoldsU.put {D : DataW Value} {F : Nat → Option Value} (h : HoldsU D F) (hm : IsMap D) {k : Nat} (hk : k < 18446744073709551616) (v : Value) : HoldsU (D.put (kU k) (.held v)) (updU F k (some v)) := fun j hj => by
  by_cases e : j = k
  · subst e
    rw [updU_same, has_put_same hm (kU_key j)]
    exact ⟨rfl, fun z => by rw [atKey_put_same hm (kU_key j)]; rfl⟩
  · rw [updU_other F _ e, has_put_other (kU_ne e)]
    exact ⟨(h j hj).1, fun z => by rw [atKey_put_other (kU_ne e)]; exact (h j hj).2 z⟩
theorem HoldsU.del {D : DataW Value} {F : Nat → Option Value} (h : HoldsU D F) {k : Nat} (_hk : k < 18446744073709551616) : HoldsU (D.del (kU k)) (updU F k none) := fun j hj => by
  by_cases e : j = k
  · subst e
    rw [updU_same, has_del_same]
    exact ⟨rfl, fun z => by rw [atKey_del_same]; rfl⟩
  · rw [updU_other F _ e, has_del_other (kU_ne e)]
    exact ⟨(h j hj).1, fun z => by rw [atKey_del_other (kU_ne e)]; exact (h j hj).2 z⟩

section
variable (w : World) {ops : Array Oper} {rest : List Oper} {o : Oper} {a : Act} {Q : Exit → Act → World → Prop}
/-- 'v, ok := m[k]'. -/
theorem wpList_lookupU (hg : o.guard = none) (m x : Operand) (hop : o.op = Op.lookup 69 m x true) (g n : Nat) (F : Nat → Option Value) (hm : a.eval m = .map (some g)) (hown : MapU w g n F) (k : Nat) (hk : k < 18446744073709551616) (hx : a.eval x = .int .u64 (k : Int))
    (hK : wpList Tryz.prog ops Q rest (a.put o.dst (.tuple #[(F k).getD (.slice none 0 0), .bool (F k).isSome])) w) : wpList Tryz.prog ops Q (o :: rest) a w := by
  obtain ⟨D, h1, h2⟩ := hown
  refine wpList_lookup_own_ok w hg m x 69 hop 46 47 keyU Tryz.underlying69 opq (zeroB w) (.held (.slice none 0 0)) [] rfl g n D hm h1 _ (kU k) hx (keyOf_U hk) ?_
  intro v ps hv
  obtain ⟨e1, e2⟩ := h2 k hk
  rw [e2] at hv
  have hv2 : v = (F k).getD (.slice none 0 0) := by
    unfold opq at hv
    injection hv with hv
    injection hv with hv _
    injection hv
  rw [hv2, e1]
  exact hK
/-- 'm[k] = v'. -/
theorem wpList_storeU (hg : o.guard = none) (m x v : Operand) (hop : o.op = Op.mapUpdate 69 m x v) (g n : Nat) (F : Nat → Option Value) (hm : a.eval m = .map (some g)) (hown : MapU w g n F) (hn : n < maxLen) (k : Nat) (hk : k < 18446744073709551616) (hx : a.eval x = .int .u64 (k : Int)) (val : Value) (hv : a.eval v = val)
    (hK : ∀ w', MapU w' g (n + 1) (updU F k (some val)) → w.grownBy w' (some g) → wpList Tryz.prog ops Q rest (a.put o.dst undef) w') : wpList Tryz.prog ops Q (o :: rest) a w := by
  obtain ⟨D, h1, h2⟩ := hown
  refine wpList_mapUpdate_own w hg m x v 69 hop 46 47 keyU Tryz.underlying69 opq g n D hm h1 hn _ val (kU k) hx hv (keyOf_U hk) (.held val) [] rfl ?_
  intro w' h3 h4
  exact hK w' ⟨_, h3, h2.put h1.isMap hk val⟩ h4
/-- 'delete(m, k)'. -/
theorem wpList_deleteU (hg : o.guard = none) (m x : Operand) (hop : o.op = Op.call { callee := Callee.builtin Builtin.delete, args := #[m, x], argTypes := #[69, 46] }) (g n : Nat) (F : Nat → Option Value) (hm : a.eval m = .map (some g)) (hown : MapU w g n F) (k : Nat) (hk : k < 18446744073709551616) (hx : a.eval x = .int .u64 (k : Int))
    (hK : ∀ w', MapU w' g n (updU F k none) → w.grownBy w' (some g) → wpList Tryz.prog ops Q rest (a.put o.dst (.tuple #[])) w') : wpList Tryz.prog ops Q (o :: rest) a w := by
  obtain ⟨D, h1, h2⟩ := hown
  refine wpList_delete_own w hg m x 69 46 hop 47 keyU Tryz.underlying69 opq g n D hm h1 _ (kU k) hx (keyOf_U hk) ?_
  intro w' h3 h4
  exact hK w' ⟨_, h3, h2.del hk⟩ h4.grown
end
end Go.Proofs.YtdmbmkjiffhbcaaGreat

namespace Go.Proofs.YtdmbmkjiffhbcaaGreat
open Go.RowKit Go.Shelf Go.Maps
set_option maxRecDepth 100000
attribute [local go_sem] Oper.semAt_some

theorem ranges_keep {w w' : World} {b r n : Nat} {D : DataW Value} {left : Lit → Bool} {cnt : Nat} (h : w.ranges Tryz.prog 46 opq b r n D left cnt) (hb : w'.heap[b]? = w.heap[b]?) (hr : w'.heap[r]? = w.heap[r]?) : w'.ranges Tryz.prog 46 opq b r n D left cnt := by
  obtain ⟨es, clock, since, seen, c0, h1, h2, h3, h4, h5, h6⟩ := h
  exact ⟨es, clock, since, seen, c0, hb.trans h1, h2, h3, h4, hr.trans h5, h6⟩
theorem same_self (a : Nat) : (kU a).sameKey (kU a) = true := by
  unfold kU
  simp [Lit.sameKey]
/-- Which keys have come. -/
def Got (D : DataW Value) (left : Lit → Bool) (pre : List Nat) : Prop := pre.Nodup ∧ ∀ x, x ∈ pre ↔ x < 18446744073709551616 ∧ has D (kU x) = true ∧ left (kU x) = false
theorem Got.start (D : DataW Value) : Got D (has D) [] := ⟨List.nodup_nil, fun x => ⟨fun h => (by cases h), fun h => (by rw [h.2.1] at h; cases h.2.2)⟩⟩
theorem Got.step {D : DataW Value} {left : Lit → Bool} {pre : List Nat} (h : Got D left pre) {x : Nat} (hx : x < 18446744073709551616) (hl : left (kU x) = true) {y : DataW Value} (hat : ∀ z, D.atKey (kU x) z = y) : Got D (fun z => left z && !z.sameKey (kU x)) (pre ++ [x]) := by
  have hno : x ∉ pre := fun hm => by
    have := ((h.2 x).1 hm).2.2
    rw [hl] at this
    cases this
  refine ⟨List.nodup_append.2 ⟨h.1, by simp, fun a ha b hb => by rw [List.mem_singleton.1 hb]; rintro rfl; exact hno ha⟩, fun z => ?_⟩
  rw [List.mem_append, List.mem_singleton]
  by_cases e : z = x
  · subst e
    constructor
    · intro _
      exact ⟨hx, has_true_of_atKey hat, by show (left (kU z) && !(kU z).sameKey (kU z)) = false; rw [same_self]; simp⟩
    · intro _
      exact .inr rfl
  · show _ ↔ z < 18446744073709551616 ∧ has D (kU z) = true ∧ (left (kU z) && !(kU z).sameKey (kU x)) = false
    rw [sameKey_ne (kU_ne e)]
    constructor
    · rintro (h1 | h1)
      · have := (h.2 z).1 h1
        exact ⟨this.1, this.2.1, by rw [this.2.2]; rfl⟩
      · exact absurd h1 e
    · rintro ⟨h1, h2, h3⟩
      exact .inl ((h.2 z).2 ⟨h1, h2, by simpa using h3⟩)
/-- All keys of a map, in some order. -/
def AllKeys (F : Nat → Option Value) (xs : List Nat) : Prop := xs.Nodup ∧ ∀ x, x ∈ xs ↔ x < 18446744073709551616 ∧ (F x).isSome = true
theorem Got.all {D : DataW Value} {F : Nat → Option Value} {left : Lit → Bool} {pre : List Nat} (h : Got D left pre) (hl : ∀ z, left z = false) (hF : HoldsU D F) : AllKeys F pre := by
  refine ⟨h.1, fun x => ?_⟩
  rw [h.2 x]
  constructor
  · rintro ⟨h1, h2, _⟩
    exact ⟨h1, by rw [← (hF x h1).1]; exact h2⟩
  · rintro ⟨h1, h2⟩
    exact ⟨h1, by rw [(hF x h1).1]; exact h2, hl _⟩
def encU (x : Nat) : Array Value := #[.int .u64 (x : Int)]
theorem key_inv {key : Value} {kl : Lit} (h : keyOf Tryz.prog 46 key = some kl) : ∃ x : Nat, key = .int .u64 (x : Int) ∧ kl = kU x ∧ x < 18446744073709551616 := by
  obtain ⟨x, rfl, rfl, hw⟩ := keyOf_int_inv Tryz.underlying46 h
  simp [Lit.wf, IntKind.min, IntKind.max, IntKind.signed, IntKind.bits] at hw
  refine ⟨x.toNat, ?_, ?_, by omega⟩
  · rw [Int.toNat_of_nonneg (by omega)]
  · unfold kU
    rw [Int.toNat_of_nonneg (by omega)]

set_option maxHeartbeats 1000000 in
/-- The iterator that maps.Keys hands back. -/
theorem keys_iter (n : Nat) (Bm g nn : Nat) (F : Nat → Option Value) (w : World) (hBm : w.cell? ⟨Bm, 0, none⟩ = some (.map (some g))) (hg : MapU w g nn F) :
    Iter2 n Tryz.prog 89 #[.pointer (some ⟨Bm, 0, none⟩)] encU (fun k => k = g) nn (fun xs => AllKeys F xs ∧ xs.length ≤ nn) (fun _ => True) w := by
  intro l J Jx M W hbel hM hY h0
  obtain ⟨D, hown0, hF⟩ := hg
  have hglt := hown0.lt
  have hown : W.ownsMap Tryz.prog 46 opq g nn D := by
    obtain ⟨es, clock, hb, h1⟩ := hown0
    exact ⟨es, clock, (hbel.block _ hglt).trans hb, h1⟩
  have hcell : W.cell? ⟨Bm, 0, none⟩ = some (.map (some g)) := (hbel.cell (p := ⟨Bm, 0, none⟩) (by
    rcases Nat.lt_or_ge Bm w.heap.size with h | h
    · exact h
    · unfold World.cell? at hBm; rw [Array.getElem?_eq_none h] at hBm; simp at hBm)).trans hBm
  have Hown := Lib.hid hown
  have HF := Lib.hid hF
  have HM := Lib.hid hM
  have HY := Lib.hid hY
  have Hbel := Lib.hid hbel
  clear hown0 hF hM hY hBm hbel
  refine callsIn_of_wp Tryz.func89 rfl trivial ?_ rfl
  simp only [Tryz.ntmps89, List.size_toArray, List.length_cons, List.length_nil, Nat.reduceAdd, Nat.reduceSub, Array.replicate_succ, Array.replicate_zero, List.push_toArray, List.append_toArray, List.nil_append, List.cons_append]
  gi_wp2_with (first
    | (gi_at_range; refine wpListIn_range_own _ rfl _ 69 rfl 46 47 keyU Tryz.underlying69 opq g nn _ rfl Hown.out ?_; intro w0 hrg0 hg0 hs0)
    | gi_in)
  try go_frame
  gi_loopw [3] (fun _ wr => ∃ (left : Lit → Bool) (cnt : Nat) (pre : List Nat) (M : Nat → Prop) (W0 : World), wr.ranges Tryz.prog 46 opq g W.heap.size nn D left cnt ∧ Got D left pre ∧ J M pre W0 ∧ w.heap.size ≤ W0.heap.size ∧ Hold (fun k => k < w.heap.size ∨ M k) W0 wr ∧ (∀ k, M k → w.heap.size ≤ k ∧ k < W0.heap.size) ∧ ¬ M W.heap.size ∧ pre.length + cnt ≤ nn)
    (fun _ wr => wr.rangeLeft g W.heap.size)
  case atStart =>
    exact ⟨_, _, [], M, W, hrg0, Got.start D, h0, Hbel.out.size, Hold.grown hg0 _ (fun _ e => (by cases e)), HM.out, fun h => by have := HM.out _ h; omega, by have := Hown.out.size_le; simpa using this⟩
  case round =>
    obtain ⟨left, cnt, pre, M1, W0, hrg, hgot, hJ, hsz, hh, hM1, hno, hcn⟩ := hrel
    have Hcn := Lib.hid hcn
    have Hgot := Lib.hid hgot
    have HJ := Lib.hid hJ
    have Hh := Lib.hid hh
    have HM1 := Lib.hid hM1
    have Hno := Lib.hid hno
    clear hgot hJ hh hM1 hno hcn
    gi_wp2_with (first
      | (gi_at_next; refine wpListIn_next_ranges _ rfl _ rfl 46 keyU opq (fun x : Nat => Value.int .u64 (x : Int)) id (fun key kl hk => by obtain ⟨x, hx, _⟩ := key_inv hk; exact ⟨x, hx⟩) (fun v _ _ => ⟨v, rfl⟩) g W.heap.size nn _ _ _ rfl hrg ?_ ?_)
      | gi_in)
    · intro hc0 hl0
      gi_wp2
      go_end0
      exact ⟨⟨_, rfl⟩, .inl ⟨M1, pre, W0, ⟨Hgot.out.all hl0 HF.out, by have := Hcn.out; omega⟩, HJ.out, hsz, Hh.out⟩⟩
    · intro x c kl yd yp w2 cnt2 hkey hlk hv hat hrg2 hlt hg2 hs2 hen
      obtain ⟨x', ex, rfl, hx64⟩ := key_inv hkey
      obtain rfl : x = x' := by
        injection ex with _ ex
        omega
      have hh2 : Hold (fun k => k < w.heap.size ∨ M1 k) W0 w2 := Hh.out.trans (Hold.grown hg2 _ (fun r e => by
        cases e
        rintro (h | h)
        · have := Hbel.out.size; omega
        · exact Hno.out h))
      obtain ⟨fn, tmps, assign, body, hy, hR⟩ := HY.out M1 pre x W0 w2 HJ.out hsz hh2 (by have := Hcn.out; omega)
      unfold encU at hy
      clear hs2
      gi_wp2
      refine ⟨Bool.noConfusion, hR.mono ?_⟩
      rintro e W3 (⟨rfl, M', hJ3, hsub, hk3⟩ | ⟨rfl, M', hJx3, hsub, hk3⟩)
      · gi_wp2
        have hg2 : g < w2.heap.size := hrg2.owns.lt
        have hr2 : W.heap.size < w2.heap.size := hrg2.lt
        have hrg3 := ranges_keep hrg2 (hk3.block _ hg2 ⟨fun h => by have := HM1.out _ h; omega, .inr rfl⟩) (hk3.block _ hr2 ⟨Hno.out, .inl Hbel.out.size⟩)
        go_roundw
        case rel =>
          refine ⟨_, cnt2, pre ++ [x], M', W3, hrg3, Hgot.out.step hx64 hlk hat, hJ3, by have := hk3.size; have := hh2.size; omega, Hold.refl _ _, fun k h => ?_, fun h => ?_, by have := Hcn.out; simp; omega⟩
          · obtain ⟨h1, h2⟩ := hsub k h
            rcases h1 with h1 | h1
            · exact ⟨(HM1.out k h1).1, h2⟩
            · exact ⟨by have := hh2.size; omega, h2⟩
          · rcases (hsub _ h).1 with h1 | h1
            · exact Hno.out h1
            · omega
        case measure => rw [hrg3.left_eq, hrg.left_eq]; exact hlt
      · gi_wp2
        refine bodyPost_ret (results_none rfl _ _ _) rfl ?_
        exact ⟨⟨_, rfl⟩, .inr ⟨M', pre ++ [x], W3, trivial, hJx3, by have := hh2.size; omega, Hold.refl _ _⟩⟩
theorem mapkeys_any (g : Nat) (w : World) : Calls Tryz.prog 68 #[.map (some g)] w fun e w' => e = .returned (.func (.func 89) #[] #[.pointer (some ⟨w.heap.size, 0, none⟩)]) ∧ w' = w.alloc (.cells #[.map (some g)] 69) := by
  go_enter Tryz.func68, Tryz.ntmps68
  go_wp2
  go_ret
  exact ⟨rfl, rfl⟩
end Go.Proofs.YtdmbmkjiffhbcaaGreat

namespace Go.Proofs.YtdmbmkjiffhbcaaGreat
open Go.RowKit Go.Shelf
set_option maxRecDepth 100000
attribute [local go_sem] Oper.semAt_some

theorem elemU : ElemT Tryz.prog 61 46 8 := ElemT.mk_ (z := .int .u64 0) Tryz.underlying61 (by kernel_rfl) rfl
def numV (x : Nat) : Value := .int .u64 (x : Int)
/-- What has been collected: the variable's box, and its row. -/
def Coll (w : World) (M : Nat → Prop) (pre : List Nat) (W : World) : Prop :=
  ∃ v, Blk W w.heap.size 61 #[v] ∧ Own1 W (w.heap.size + 1) 46 v (pre.map numV) ∧ (∀ k, v.ownBlock = some k → M k) ∧ Below w.heap.size w W
theorem Coll.hold {w : World} {M : Nat → Prop} {pre : List Nat} {A W : World} (h : Coll w M pre A) (hs : w.heap.size + 1 ≤ A.heap.size) (hh : Hold (fun k => k < w.heap.size + 1 ∨ M k) A W) : Coll w M pre W := by
  obtain ⟨v, h1, h2, h3, h4⟩ := h
  exact ⟨v, h1.keep (hh.block _ (by omega) (.inl (by omega))), h2.keep (fun k hk => hh.block k (h2.lt k hk).2 (.inr (h3 k hk))), h3, h4.trans (hh.below (fun k hk => .inl (by omega)) (by omega))⟩

set_option maxHeartbeats 1000000 in
theorem appendseq_any (gf : Nat) (lb : Array Value) (keep : Nat → Prop) (N : Nat) (S Sp : List Nat → Prop) (w : World) (eg : ∀ args w, (callFunc gf args).run Tryz.prog w = .ok (.enter gf args) w) (hN : N ≤ 1099511627776) (hkeep : ∀ k, keep k → k < w.heap.size)
    (hit : ∀ z, Below w.heap.size w z → Iter2 8 Tryz.prog gf lb encU keep N S Sp z) :
    Calls Tryz.prog 95 #[.slice none 0 0, .func (.func gf) #[] lb] w fun e w' => (∃ v xs, e = .returned v ∧ S xs ∧ Own1 w' (w.heap.size + 1) 46 v (xs.map numV)) ∧ Below w.heap.size w w' := by
  rw [← callsIn_wide (n := 9)]
  refine callsIn_of_wp_marks Tryz.func95 rfl trivial ?_ rfl
  simp only [Tryz.ntmps95, List.size_toArray, List.length_cons, List.length_nil, Nat.reduceAdd, Nat.reduceSub, Array.replicate_succ, Array.replicate_zero, List.push_toArray, List.append_toArray, List.nil_append, List.cons_append]
  gi_wp2
  have hb1 : Below w.heap.size w (w.alloc (.cells #[.slice none 0 0] 61)) := (Below.refl _ _).alloc (Nat.le_refl _) _
  have hsz1 : (w.alloc (.cells #[.slice none 0 0] 61)).heap.size = w.heap.size + 1 := World.size_alloc _ _
  have hC0 : Coll w (fun _ => False) [] (w.alloc (.cells #[.slice none 0 0] 61)) := ⟨_, Blk.new w _ _, Own1.nil _ _ _, fun k h => (by cases h), hb1⟩
  have hit1 := hit _ hb1
  obtain ⟨w1, hw1⟩ : ∃ w1, w1 = w.alloc (.cells #[.slice none 0 0] 61) := ⟨_, rfl⟩
  rw [← hw1] at hsz1 hC0 hit1 hb1 ⊢
  clear hw1 hit
  refine wp_range2 (gf := gf) (lb := lb) rfl eg hit1 (fun _ => rfl)
    (Coll w) (fun _ _ _ _ => False) (fun M xs A W h hs hh => h.hold (by omega) (by rw [hsz1] at hh; exact hh)) (fun _ _ _ _ _ h => h.elim) hC0
    (fun x => { tmps := #[.slice none 0 0, .func (.func gf) #[] lb, .pointer (some ⟨w.heap.size, 0, none⟩), undef, .slice none 0 0, .int .u64 (x : Int), .func (.func gf) #[] lb, .int .u64 (x : Int), undef, undef, undef, undef, undef], defers := [] }) ?assign ?body ?done ?stop
  case assign =>
    intro L x W K hK
    unfold encU
    gi_wp2
    exact hK
  case body =>
    rintro L M pre x W ⟨v, hbox, hown, hM, hbel⟩ hMb hs2 hlt
    have c2 := hbox.cell 0
    have z2 := hbox.frozen 0
    simp only [List.getElem?_toArray, List.getElem?_cons_zero] at c2
    obtain ⟨Av, cv, hv, hvc, hvm, _⟩ := hown.form
    rw [List.length_map] at hv hvc
    subst hv
    have hown0 : ∀ k, (Value.slice Av pre.length cv).ownBlock = some k → w.heap.size + 1 ≤ k ∧ k < W.heap.size := fun k hk => hown.lt k hk
    have HM := Lib.hid hM
    have HMb := Lib.hid hMb
    have H0 := Lib.hid hown0
    clear hM hMb hown0
    gi_wp2_with (first | (gi_at_builtin; refine wpListIn_app1_one _ elemU rfl (.tmp 8) (.tmp 10) rfl (w.heap.size + 1) _ _ rfl hown (.int .u64 (x : Int)) _ rfl rfl (by simp; omega) (by simp; omega) (by omega) ?_; intro v3 w3 hown3 hgr3 hat3; obtain ⟨A3, n3, hv3, hc3, hm3, _⟩ := hown3.form; rw [List.length_append, List.length_map, List.length_singleton] at hv3 hc3; subst hv3; have hb3 := (hbox.alloc _).grown hgr3 (fun h => by have := (H0.out _ h).1; omega); have c3 := hb3.cell 0; have z3 := hb3.frozen 0; simp only [List.getElem?_toArray, List.getElem?_cons_zero] at c3))
    have hbw : Below w.heap.size w w3 := (hbel.alloc hbel.size _).grown hgr3 (by simp; omega) (fun k hk => by have := (H0.out k hk).1; omega)
    have hs3 : W.heap.size + 1 ≤ w3.heap.size := by have := hgr3.size; simpa using this
    have hlt3 := hown3.lt
    refine ⟨fun k => M k ∨ (Value.slice A3 (pre.length + 1) n3).ownBlock = some k, ⟨_, hb3.set_ 0 _, ?_, fun k hk => .inr hk, hbw.setCell (p := ⟨w.heap.size, 0, none⟩) (Nat.le_refl _) _⟩, fun k hk => ?_, ?_⟩
    · rw [List.map_append]
      exact hown3.keep fun k hk => Below.heap_setCell _ _ _ k (by have := (hlt3 k hk).1; show k ≠ w.heap.size; omega)
    · rcases hk with hk | hk
      · refine ⟨.inl hk, ?_⟩
        have := (HMb.out k hk).2
        simp
        omega
      · refine ⟨?_, by simp; exact (hlt3 k hk).2⟩
        rcases hat3 with h | h
        · rw [h] at hk; exact .inl (HM.out k hk)
        · rw [h] at hk; cases hk; exact .inr (Nat.le_succ _)
    · refine ((Hold.alloc W _ _).trans (Hold.grown hgr3 _ fun g e h => h.1 (HM.out g e))).trans (Hold.setCell _ _ _ _ ?_)
      rintro ⟨_, h | h⟩
      · rw [hsz1] at h
        have : w.heap.size + 1 ≤ w.heap.size := h
        omega
      · have := hkeep _ h
        have h2 : w.heap.size < w.heap.size := this
        omega
  case done =>
    rintro D M xs W hD hS ⟨v, hbox, hown, hM, hbel⟩ hK hW hMD
    have c2 := hbox.cell 0
    simp only [List.getElem?_toArray, List.getElem?_cons_zero] at c2
    obtain ⟨Av, cv, hv, hvc, hvm, _⟩ := hown.form
    rw [List.length_map] at hv hvc
    subst hv
    have HS := Lib.hid hS
    clear hS
    gi_wp2
    refine ⟨by simp, .inl ⟨_, _, rfl, run_takeDeferred hK, ?_⟩⟩
    have hlt := hown.lt
    have hown2 : Own1 (W.putObj D (.deferred none)) (w.heap.size + 1) 46 (.slice Av xs.length cv) (xs.map numV) := hown.keep fun k hk => World.putObj_heap_other (fun e => hMD (e ▸ hM k hk))
    refine ⟨.slice Av xs.length cv, by simp [results, Tryz.f95, go_sem], ⟨_, xs, rfl, HS.out, hown2⟩, hbel.trans ⟨rfl, rfl, rfl, by simp, fun k hk => World.putObj_heap_other (by omega)⟩⟩
  case stop =>
    rintro D c M xs W hD h
    exact h.elim
end Go.Proofs.YtdmbmkjiffhbcaaGreat

namespace Go.Proofs.YtdmbmkjiffhbcaaGreat
open Go.RowKit Go.Maps
set_option maxRecDepth 100000

section
variable (w : World) {ops : Array Oper} {rest : List Oper} {o : Oper} {a : Act} {Q : Exit → Act → World → Prop}
/-- Going over such a map: block g is the map, block r where it stands; what it holds stays. -/
def RunU (w : World) (g r n : Nat) (F : Nat → Option Value) (left : Lit → Bool) (cnt : Nat) : Prop := ∃ D : DataW Value, w.ranges Tryz.prog 46 opq g r n D left cnt ∧ HoldsU D F
theorem RunU.keep {w w' : World} {g r n : Nat} {F : Nat → Option Value} {left : Lit → Bool} {cnt : Nat} (h : RunU w g r n F left cnt) (hb : w'.heap[g]? = w.heap[g]?) (hr : w'.heap[r]? = w.heap[r]?) : RunU w' g r n F left cnt := by
  obtain ⟨D, h1, h2⟩ := h
  exact ⟨D, ranges_keep h1 hb hr, h2⟩
theorem RunU.lt {w : World} {g r n : Nat} {F : Nat → Option Value} {left : Lit → Bool} {cnt : Nat} (h : RunU w g r n F left cnt) : g < w.heap.size ∧ r < w.heap.size := by
  obtain ⟨D, h1, _⟩ := h
  exact ⟨h1.owns.lt, h1.lt⟩
theorem RunU.left_eq {w : World} {g r n : Nat} {F : Nat → Option Value} {left : Lit → Bool} {cnt : Nat} (h : RunU w g r n F left cnt) : w.rangeLeft g r = cnt := by
  obtain ⟨D, h1, _⟩ := h
  exact h1.left_eq
theorem wpList_nextS (hg : o.guard = none) (it : Operand) (hop : o.op = Op.next it false) (g r n : Nat) (F : Nat → Option Value) (left : Lit → Bool) (cnt : Nat) (hit : a.eval it = .pointer (some ⟨r, 0, none⟩)) (h : RunU w g r n F left cnt)
    (hDone : wpList Tryz.prog ops Q rest (a.put o.dst (.tuple #[.bool false])) w)
    (hMore : ∀ (x : Nat) (c : Value) (w' : World) (left' : Lit → Bool) (cnt' : Nat), x < 18446744073709551616 → F x = some c → RunU w' g r n F left' cnt' → cnt' < cnt → w.grownBy w' (some r) → w'.heap.size = w.heap.size →
      (Instr.entry (.pointer (some ⟨r, 0, none⟩))).run Tryz.prog w' = .ok (.tuple #[.int .u64 (x : Int), c]) w' → wpList Tryz.prog ops Q rest (a.put o.dst (.tuple #[.bool true, .int .u64 (x : Int), c])) w') : wpList Tryz.prog ops Q (o :: rest) a w := by
  obtain ⟨D, h1, h2⟩ := h
  refine wpList_next_ranges w hg it hop 46 keyU opq (fun x : Nat => Value.int .u64 (x : Int)) id (fun key kl hk => by obtain ⟨x, hx, _⟩ := key_inv hk; exact ⟨x, hx⟩) (fun v _ _ => ⟨v, rfl⟩) g r n D left cnt hit h1 (fun _ _ => hDone) ?_
  intro x c kl y w' cnt' hkey hlk hv hat hrg hlt hgr hsz hen
  obtain ⟨x', ex, rfl, hx64⟩ := key_inv hkey
  obtain rfl : x = x' := by
    injection ex with _ ex
    omega
  obtain ⟨e1, e2⟩ := h2 x hx64
  have hat1 := hat (.held c)
  rw [e2] at hat1
  have hy : y = (.held c, []) := by
    unfold opq at hv
    injection hv with hv
    exact hv.symm
  rw [hy] at hat1
  have hhas : (F x).isSome = true := by
    rw [← e1]
    exact has_true_of_atKey hat
  have hF : F x = some c := by
    cases hq : F x with
    | none => rw [hq] at hhas; cases hhas
    | some u =>
      rw [hq] at hat1
      injection hat1 with hat1
      rw [← hat1]
      rfl
  exact hMore x c w' _ cnt' hx64 hF ⟨D, hrg, h2⟩ hlt hgr hsz hen
end
end Go.Proofs.YtdmbmkjiffhbcaaGreat
