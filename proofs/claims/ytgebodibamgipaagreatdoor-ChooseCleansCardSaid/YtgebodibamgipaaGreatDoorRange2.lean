/-
  A loop over an iterator, by footprints: what the caller has laid and what the iterator has laid stay apart. The iterator's word (Iter2), and what the caller owes (wp_range2).
-/
import Derived.RangeFuncNested
import Derived.OwnWalkIn
import Derived.Test.YtgebodibamgipaaGreatDoorWordsB
import Derived.RangeFuncBound
import Derived.RangeFuncCalls
import Derived.RangeFuncLeaves
import Derived.Shelf.Abstract
import Derived.Shelf.RegionOpen
import Derived.WalkKit
import Derived.TacticsInMore
import Derived.LoopNIn
import Derived.LoopIn
import Derived.Lib.Hide
import Derived.Test.YtgebodibamgipaaGreatDoorRange
namespace Go.Proofs.YtgebodibamgipaaGreatDoor
open Go.RowKit

/-- The blocks of 'mine' are as they were; memory has only grown. -/
structure Hold (mine : Nat → Prop) (W W' : World) : Prop where
  os : W'.os = W.os
  tape : W'.tape = W.tape
  output : W'.output = W.output
  size : W.heap.size ≤ W'.heap.size
  block : ∀ k, k < W.heap.size → mine k → W'.heap[k]? = W.heap[k]?
theorem Hold.refl (mine : Nat → Prop) (W : World) : Hold mine W W := ⟨rfl, rfl, rfl, Nat.le_refl _, fun _ _ _ => rfl⟩
theorem Hold.trans {mine : Nat → Prop} {A B C : World} (h : Hold mine A B) (g : Hold mine B C) : Hold mine A C :=
  ⟨g.os.trans h.os, g.tape.trans h.tape, g.output.trans h.output, Nat.le_trans h.size g.size, fun k hk hm => (g.block k (Nat.lt_of_lt_of_le hk h.size) hm).trans (h.block k hk hm)⟩
theorem Hold.weaken {mine mine' : Nat → Prop} {A B : World} (h : Hold mine A B) (hk : ∀ k, k < A.heap.size → mine' k → mine k) : Hold mine' A B :=
  ⟨h.os, h.tape, h.output, h.size, fun k hl hm => h.block k hl (hk k hl hm)⟩
theorem Below.hold {A W : World} (h : Below A.heap.size A W) (mine : Nat → Prop) : Hold mine A W := ⟨h.os, h.tape, h.output, h.size, fun k hk _ => h.block k hk⟩
theorem Hold.below {base : Nat} {mine : Nat → Prop} {A W : World} (h : Hold mine A W) (hm : ∀ k, k < base → mine k) (hb : base ≤ A.heap.size) : Below base A W :=
  ⟨h.os, h.tape, h.output, h.size, fun k hk => h.block k (Nat.lt_of_lt_of_le hk hb) (hm k hk)⟩
theorem Hold.grown {A W : World} {row : Option Nat} (h : A.grownBy W row) (mine : Nat → Prop) (hr : ∀ g, row = some g → ¬ mine g) : Hold mine A W :=
  ⟨h.os, h.tape, h.output, h.size, fun k hk hm => h.block k hk fun e => hr k e.symm hm⟩
theorem Hold.putObj (W : World) (l : Nat) (o : Obj) (mine : Nat → Prop) (h : ¬ mine l) : Hold mine W (W.putObj l o) :=
  ⟨rfl, rfl, rfl, by simp, fun k _ hm => World.putObj_heap_other (fun e => h (e ▸ hm))⟩
theorem Hold.setCell (W : World) (a : Addr) (v : Value) (mine : Nat → Prop) (h : ¬ mine a.block) : Hold mine W (W.setCell a v) := by
  have hb := (Below.refl a.block W).setCell (p := a) (Nat.le_refl _) v
  exact ⟨hb.os, hb.tape, hb.output, hb.size, fun k _ hm => Below.heap_setCell W a v k fun e => h (e ▸ hm)⟩
theorem Hold.alloc (W : World) (o : Obj) (mine : Nat → Prop) : Hold mine W (W.alloc o) := Below.hold ((Below.refl _ _).alloc (Nat.le_refl _) o) mine

/-- What the caller has laid by now, against what it had laid. -/
def Sub2 (M M' : Nat → Prop) (W W' : World) : Prop := ∀ k, M' k → (M k ∨ W.heap.size ≤ k) ∧ k < W'.heap.size

/-- The iterator's word. M: the blocks at 'base' or above that are the caller's; N: it yields no more often. -/
def Iter2 {α : Type} (n : Nat) (P : Program) (gf : FuncId) (lb : Array Value) (encs : α → Array Value) (keep : Nat → Prop) (N : Nat) (S Sp : List α → Prop) (w : World) : Prop :=
  ∀ (l : Nat) (J Jx : (Nat → Prop) → List α → World → Prop) (M : Nat → Prop) (W : World), Below w.heap.size w W → (∀ k, M k → w.heap.size ≤ k ∧ k < W.heap.size) →
    (∀ M pre x W0 W1, J M pre W0 → w.heap.size ≤ W0.heap.size → Hold (fun k => k < w.heap.size ∨ M k) W0 W1 → pre.length < N →
      YieldAt Fence.wide (n - 1) P l (encs x) W1 fun e W2 =>
        (e = .returned (.bool true) ∧ ∃ M', J M' (pre ++ [x]) W2 ∧ Sub2 M M' W1 W2 ∧ Hold (fun k => ¬ M k ∧ (w.heap.size ≤ k ∨ keep k)) W1 W2) ∨
        (e = .returned (.bool false) ∧ ∃ M', Jx M' (pre ++ [x]) W2 ∧ Sub2 M M' W1 W2 ∧ W1.heap.size ≤ W2.heap.size)) →
    J M [] W →
    CallsIn Fence.wide n P gf (#[.func (.yield l) #[] #[]] ++ lb) W fun e W' =>
      (∃ v, e = .returned v) ∧ ((∃ M xs W0, S xs ∧ J M xs W0 ∧ w.heap.size ≤ W0.heap.size ∧ Hold (fun k => k < w.heap.size ∨ M k) W0 W') ∨
        (∃ M xs W0, Sp xs ∧ Jx M xs W0 ∧ w.heap.size ≤ W0.heap.size ∧ Hold (fun k => k < w.heap.size ∨ M k) W0 W'))

/-- How the body of a round may be left. -/
def roundEnd2 {α : Type} (B : Nat) (keep : Nat → Prop) (I : (Nat → Prop) → List α → World → Prop) (Ix : Code → (Nat → Prop) → List α → World → Prop) (M : Nat → Prop) (xs : List α) (W : World) : Exit → Act → World → Prop
  | .normal, _, W' => ∃ M', I M' xs W' ∧ Sub2 M M' W W' ∧ Hold (fun k => ¬ M k ∧ (B ≤ k ∨ keep k)) W W'
  | .ret, _, W' => ∃ M', Ix .ret M' xs W' ∧ Sub2 M M' W W' ∧ Hold (fun k => ¬ M k ∧ (B ≤ k ∨ keep k)) W W'
  | .exit id, _, W' => ∃ M', Ix (.exit id) M' xs W' ∧ Sub2 M M' W W' ∧ Hold (fun k => ¬ M k ∧ (B ≤ k ∨ keep k)) W W'
  | .goto t, _, W' => ∃ M', Ix (.goto t) M' xs W' ∧ Sub2 M M' W W' ∧ Hold (fun k => ¬ M k ∧ (B ≤ k ∨ keep k)) W W'
  | .panic _, _, _ => False
  | .outgrown, _, _ => False

theorem wp_range2 {α : Type} {n : Nat} {P : Program} {g : Operand} {ps : Array Tmp} {assign body : Code} {Q : Exit → Act → World → Prop} {a : Act} {w : World}
    {gf : Nat} {lb : Array Value} (hg : a.eval g = .func (.func gf) #[] lb) (eg : ∀ args w, (callFunc gf args).run P w = .ok (.enter gf args) w)
    {encs : α → Array Value} {keep : Nat → Prop} {N : Nat} {S Sp : List α → Prop} (hiter : Iter2 (n - 1) P gf lb encs keep N S Sp w) (hps : ∀ x, (encs x).size = ps.size)
    (I : (Nat → Prop) → List α → World → Prop) (Ix : Code → (Nat → Prop) → List α → World → Prop)
    (hI : ∀ M xs A W, I M xs A → w.heap.size ≤ A.heap.size → Hold (fun k => k < w.heap.size ∨ M k) A W → I M xs W)
    (hIx : ∀ c M xs A W, Ix c M xs A → w.heap.size ≤ A.heap.size → Hold (fun k => k < w.heap.size ∨ M k) A W → Ix c M xs W)
    (h0 : I (fun _ => False) [] w) (a₁ : α → Act)
    (hassign : ∀ (l : Nat) (x : α) (W : World) (K : Act → World → Prop), K (a₁ x) W →
      assign.wpIn (Fence.wide.inRound l) (n - 1 - 1) P (Exit.then K (fun _ _ _ => False)) { tmps := (ps.zip (encs x)).foldl (fun t (p, v) => t.setIfInBounds p v) a.tmps, defers := [] } W)
    (hbody : ∀ (l : Nat) (M : Nat → Prop) (pre : List α) (x : α) (W : World), I M pre W → (∀ k, M k → w.heap.size + 2 ≤ k ∧ k < W.heap.size) → w.heap.size + 2 ≤ W.heap.size → pre.length < N →
      body.wpIn (Fence.wide.inRound l) (n - 1 - 1) P (roundEnd2 w.heap.size keep I Ix M (pre ++ [x]) W) (a₁ x) W)
    (hdone : ∀ (D : Nat) (M : Nat → Prop) (xs : List α) (W : World), w.heap.size ≤ D → S xs → I M xs W → W.heap[D]? = some (.deferred (some [])) → w.heap.size ≤ W.heap.size → ¬ M D → Q .normal { a with defers := { target := .collected D, args := #[] } :: a.defers } W)
    (hstop : ∀ (D : Nat) (c : Code) (M : Nat → Prop) (xs : List α) (W : World), w.heap.size ≤ D → Ix c M xs W → W.heap[D]? = some (.deferred (some [])) → w.heap.size ≤ W.heap.size → ¬ M D → c.wpIn Fence.wide n P Q { a with defers := { target := .collected D, args := #[] } :: a.defers } W) :
    (Code.rangeFunc g ps assign body).wpIn Fence.wide n P Q a w := by
  refine wpIn_rangeFunc fun fn hfn => ?_
  show ∃ (l : Nat) (mark : List Deferred) (w₁ : World) (d : Deferred) (w₁' : World) (f : FuncId) (args : Array Value) (w₂ : World), (Instr.enterLoop fn a.tmps ps assign body none).run P w = _ ∧ _
  obtain ⟨D, hD⟩ : ∃ D, D = w.heap.size := ⟨_, rfl⟩
  obtain ⟨rec, hrec⟩ : ∃ rec : LoopState → Option Code → Loop, rec = fun st pe => { state := st, pending := pe, fn, tmps := a.tmps, params := ps, assign, body, defers := w.heap.size } := ⟨_, rfl⟩
  have hent := run_enterLoop_outer (P := P) (w := w) fn a.tmps ps assign body
  obtain ⟨W1, hW1⟩ : ∃ W1, W1 = (w.alloc (.deferred (some []))).alloc (.loop (rec .ready none)) := ⟨_, rfl⟩
  have hsz : W1.heap.size = D + 2 := by rw [hW1, hD]; simp
  have hbel : Below w.heap.size w W1 := by rw [hW1]; exact ((Below.refl _ w).alloc (Nat.le_refl _) _).alloc (by simp) _
  have hL : W1.heap[D + 1]? = some (.loop (rec .ready none)) := by
    have := World.alloc_heap_new (w.alloc (.deferred (some []))) (.loop (rec .ready none))
    rw [World.size_alloc] at this
    rw [hW1, hD]; exact this
  have hDf : W1.heap[D]? = some (.deferred (some [])) := by
    rw [hW1, hD]
    exact (Below.heap_alloc _ _ _ (by simp)).trans (World.alloc_heap_new w _)
  refine ⟨D + 1, [{ target := .collected D, args := #[] }], W1, { target := .fn (.func gf) lb, args := #[.func (.yield (D + 1)) #[] #[]] }, W1, gf, #[.func (.yield (D + 1)) #[] #[]] ++ lb, W1, ?_, ?_, ?_, ?_, ?_, ?_⟩
  · rw [hent, hW1, hD, hrec]
  · simp only [resolve, hg]
    simp [go_sem]
  · intro f' _; trivial
  · simp [invoke, go_sem, eg]
  · intro h; cases h
  -- J: the caller's own word, and the loop's two blocks
  refine (hiter (D + 1)
    (fun M xs W => ∃ M0, M = (fun k => k = D ∨ k = D + 1 ∨ M0 k) ∧ I M0 xs W ∧ (∀ k, M0 k → D + 2 ≤ k ∧ k < W.heap.size) ∧ W.heap[D + 1]? = some (.loop (rec .ready none)) ∧ W.heap[D]? = some (.deferred (some [])))
    (fun M xs W => ∃ M0 c, M = (fun k => k = D ∨ k = D + 1 ∨ M0 k) ∧ Ix c M0 xs W ∧ (∀ k, M0 k → D + 2 ≤ k ∧ k < W.heap.size) ∧ W.heap[D + 1]? = some (.loop (rec .done (some c))) ∧ W.heap[D]? = some (.deferred (some [])))
    (fun k => k = D ∨ k = D + 1 ∨ False) W1 hbel (by rintro k (rfl | rfl | h) <;> first | omega | exact h.elim) ?_ ⟨fun _ => False, rfl, hI _ _ _ _ h0 (Nat.le_refl _) (Below.hold hbel _), fun k h => h.elim, hL, hDf⟩).mono ?_
  · -- a round
    rintro M pre x W0 W ⟨M0, rfl, hi0, hM0, hl0, hd0⟩ hsz0 hh hN
    have hlt0 : D + 1 < W0.heap.size := (Array.getElem?_eq_some_iff.1 hl0).1
    have hl : W.heap[D + 1]? = some (.loop (rec .ready none)) := (hh.block _ hlt0 (.inr (.inr (.inl rfl)))).trans hl0
    have hd : W.heap[D]? = some (.deferred (some [])) := (hh.block _ (by omega) (.inr (.inl rfl))).trans hd0
    have hi := hI _ _ _ _ hi0 hsz0 (hh.weaken fun k _ h => by rcases h with h | h; exact .inl h; exact .inr (.inr (.inr h)))
    have hlt : D + 1 < W.heap.size := Nat.lt_of_lt_of_le hlt0 hh.size
    have hy := run_yield (P := P) (args := encs x) hl (by rw [hrec]; exact hps x)
    rw [hrec] at hy
    refine ⟨fn, _, assign, body, hy, roundIn_of_wpIn trivial (hassign _ x W _ ⟨_, run_beginRound hl (by rw [hrec]), ?_⟩)⟩
    clear hy
    obtain ⟨Wb, hWb⟩ : ∃ Wb, Wb = W.putObj (D + 1) (.loop { rec .ready none with state := .busy }) := ⟨_, rfl⟩
    have hlb : Wb.heap[D + 1]? = some (.loop { rec .ready none with state := .busy }) := by rw [hWb]; exact World.putObj_heap_same hlt
    have hdb : Wb.heap[D]? = some (.deferred (some [])) := by rw [hWb]; exact (World.putObj_heap_other (by omega)).trans hd
    have hszb : Wb.heap.size = W.heap.size := by rw [hWb]; simp
    have hholdb : ∀ mine : Nat → Prop, ¬ mine (D + 1) → Hold mine W Wb := fun mine h => by rw [hWb]; exact Hold.putObj _ _ _ _ h
    have hnl : ∀ M1 : Nat → Prop, (∀ k, M1 k → D + 2 ≤ k) → ¬ (D + 1 < w.heap.size ∨ M1 (D + 1)) := fun M1 h h' => by
      rcases h' with h' | h'
      · omega
      · have := h _ h'; omega
    have hib : I M0 pre Wb := hI _ _ _ _ hi (by omega) (hholdb _ (hnl _ fun k h => (hM0 k h).1))
    rw [← hWb]
    refine wpIn_mono (hbody _ M0 pre x Wb hib (fun k h => by have := hM0 k h; have := hh.size; omega) (by omega) hN) ?_
    have fin : ∀ (jump : Option Code) (W3 : World), Hold (fun k => ¬ M0 k ∧ (w.heap.size ≤ k ∨ keep k)) Wb W3 → ∃ W4, (Instr.endRound (D + 1) jump).run P W3 = .ok (.bool jump.isNone) W4 ∧ W4 = W3.putObj (D + 1) (.loop (rec (if jump.isNone then .ready else .done) jump)) ∧
        W4.heap[D + 1]? = some (.loop (rec (if jump.isNone then .ready else .done) jump)) ∧ W4.heap[D]? = some (.deferred (some [])) ∧ W4.heap.size = W3.heap.size := fun jump W3 hk3 => by
      have hl3 := (hk3.block (D + 1) (by omega) ⟨fun h => by have := hM0 _ h; omega, .inl (by omega)⟩).trans hlb
      have hd3 := (hk3.block D (by omega) ⟨fun h => by have := hM0 _ h; omega, .inl (by omega)⟩).trans hdb
      have hr := run_endRound (P := P) jump hl3
      refine ⟨_, ?_, rfl, World.putObj_heap_same (Array.getElem?_eq_some_iff.1 hl3).1, (World.putObj_heap_other (by omega)).trans hd3, by simp⟩
      rw [hr, hrec]
    have subs : ∀ (M' : Nat → Prop) (W3 W4 : World), Sub2 M0 M' Wb W3 → W4.heap.size = W3.heap.size → Wb.heap.size ≤ W3.heap.size → Sub2 (fun k => k = D ∨ k = D + 1 ∨ M0 k) (fun k => k = D ∨ k = D + 1 ∨ M' k) W W4 := fun M' W3 W4 h h4 h3 k hk => by
      rcases hk with hk | hk | hk
      · exact ⟨.inl (.inl hk), by omega⟩
      · exact ⟨.inl (.inr (.inl hk)), by omega⟩
      · obtain ⟨h1, h2⟩ := h k hk
        refine ⟨?_, by omega⟩
        rcases h1 with h1 | h1
        · exact .inl (.inr (.inr h1))
        · exact .inr (by omega)
    have high : ∀ (M' : Nat → Prop) (W3 W4 : World), Sub2 M0 M' Wb W3 → W4.heap.size = W3.heap.size → ∀ k, M' k → D + 2 ≤ k ∧ k < W4.heap.size := fun M' W3 W4 h h4 k hk => by
      obtain ⟨h1, h2⟩ := h k hk
      rcases h1 with h1 | h1
      · exact ⟨(hM0 k h1).1, by omega⟩
      · exact ⟨by omega, by omega⟩
    have hback : ∀ (M' : Nat → Prop) (W3 : World) (o : Obj), (∀ k, M' k → D + 2 ≤ k) → Hold (fun k => k < w.heap.size ∨ M' k) W3 (W3.putObj (D + 1) o) := fun M' W3 o h => Hold.putObj _ _ _ _ (hnl M' h)
    have hall : ∀ (M' : Nat → Prop) (W3 : World) (o : Obj), Hold (fun k => ¬ M0 k ∧ (w.heap.size ≤ k ∨ keep k)) Wb W3 → Hold (fun k => ¬ (k = D ∨ k = D + 1 ∨ M0 k) ∧ (w.heap.size ≤ k ∨ keep k)) W (W3.putObj (D + 1) o) := fun M' W3 o h =>
      ((hholdb _ fun h => h.1 (.inr (.inl rfl))).trans (h.weaken fun k _ hk => ⟨fun hm => hk.1 (.inr (.inr hm)), hk.2⟩)).trans (Hold.putObj _ _ _ _ fun h => h.1 (.inr (.inl rfl)))
    rintro e a3 W3 hp
    cases e with
    | normal =>
      obtain ⟨M', hi3, hsub, hk3⟩ := hp
      obtain ⟨W4, hr, h4, hl4, hd4, hs4⟩ := fin none W3 hk3
      have hh4 := high M' W3 W4 hsub hs4
      refine ⟨_, W4, hr, .inl ⟨rfl, fun k => k = D ∨ k = D + 1 ∨ M' k, ⟨M', rfl, hI _ _ _ _ hi3 (by have := hk3.size; omega) (by rw [h4]; exact hback _ _ _ fun k h => (hh4 k h).1), hh4, hl4, hd4⟩, subs M' W3 W4 hsub hs4 hk3.size, by rw [h4]; exact hall M' _ _ hk3⟩⟩
    | ret =>
      obtain ⟨M', hi3, hsub, hk3⟩ := hp
      obtain ⟨W4, hr, h4, hl4, hd4, hs4⟩ := fin (some .ret) W3 hk3
      have hh4 := high M' W3 W4 hsub hs4
      exact ⟨_, W4, hr, .inr ⟨rfl, fun k => k = D ∨ k = D + 1 ∨ M' k, ⟨M', .ret, rfl, hIx _ _ _ _ _ hi3 (by have := hk3.size; omega) (by rw [h4]; exact hback _ _ _ fun k h => (hh4 k h).1), hh4, hl4, hd4⟩, subs M' W3 W4 hsub hs4 hk3.size, by have := hk3.size; omega⟩⟩
    | exit id =>
      obtain ⟨M', hi3, hsub, hk3⟩ := hp
      obtain ⟨W4, hr, h4, hl4, hd4, hs4⟩ := fin (some (.exit id)) W3 hk3
      have hh4 := high M' W3 W4 hsub hs4
      exact ⟨_, W4, hr, .inr ⟨rfl, fun k => k = D ∨ k = D + 1 ∨ M' k, ⟨M', (.exit id), rfl, hIx _ _ _ _ _ hi3 (by have := hk3.size; omega) (by rw [h4]; exact hback _ _ _ fun k h => (hh4 k h).1), hh4, hl4, hd4⟩, subs M' W3 W4 hsub hs4 hk3.size, by have := hk3.size; omega⟩⟩
    | goto t =>
      obtain ⟨M', hi3, hsub, hk3⟩ := hp
      obtain ⟨W4, hr, h4, hl4, hd4, hs4⟩ := fin (some (.goto t)) W3 hk3
      have hh4 := high M' W3 W4 hsub hs4
      exact ⟨_, W4, hr, .inr ⟨rfl, fun k => k = D ∨ k = D + 1 ∨ M' k, ⟨M', (.goto t), rfl, hIx _ _ _ _ _ hi3 (by have := hk3.size; omega) (by rw [h4]; exact hback _ _ _ fun k h => (hh4 k h).1), hh4, hl4, hd4⟩, subs M' W3 W4 hsub hs4 hk3.size, by have := hk3.size; omega⟩⟩
    | panic ch => exact hp.elim
    | outgrown => exact hp.elim
  · -- behind the loop
    rintro e W2 ⟨⟨v, rfl⟩, (⟨M, xs, W0, hS, ⟨M0, rfl, hi0, hM0, hl0, hd0⟩, hsz0, hh⟩ | ⟨M, xs, W0, _, ⟨M0, c, rfl, hi0, hM0, hl0, hd0⟩, hsz0, hh⟩)⟩
    · have hlt0 : D + 1 < W0.heap.size := (Array.getElem?_eq_some_iff.1 hl0).1
      have hl := (hh.block _ hlt0 (.inr (.inr (.inl rfl)))).trans hl0
      have hd := (hh.block _ (show D < W0.heap.size by omega) (.inr (.inl rfl))).trans hd0
      have hr := run_endLoop (P := P) hl (by rw [hrec]; simp)
      have hi1 := hI _ _ _ _ hi0 hsz0 (hh.weaken fun k _ h => by rcases h with h | h; exact .inl h; exact .inr (.inr (.inr h)))
      have hno : ¬ (D + 1 < w.heap.size ∨ M0 (D + 1)) := fun h => by
        rcases h with h | h
        · omega
        · have := hM0 _ h; omega
      refine ⟨none, W2.putObj (D + 1) (.loop (rec .exhausted none)), ?_, hdone D M0 xs _ (by omega) hS (hI _ _ _ _ hi1 (by have := hh.size; omega) (Hold.putObj _ _ _ _ hno)) ((World.putObj_heap_other (by omega)).trans hd) (by have := hh.size; simp; omega) (fun h => by have := hM0 _ h; omega)⟩
      rw [hr, hrec]
    · have hlt0 : D + 1 < W0.heap.size := (Array.getElem?_eq_some_iff.1 hl0).1
      have hl := (hh.block _ hlt0 (.inr (.inr (.inl rfl)))).trans hl0
      have hd := (hh.block _ (show D < W0.heap.size by omega) (.inr (.inl rfl))).trans hd0
      have hr := run_endLoop (P := P) hl (by rw [hrec]; simp)
      have hi1 := hIx _ _ _ _ _ hi0 hsz0 (hh.weaken fun k _ h => by rcases h with h | h; exact .inl h; exact .inr (.inr (.inr h)))
      have hno : ¬ (D + 1 < w.heap.size ∨ M0 (D + 1)) := fun h => by
        rcases h with h | h
        · omega
        · have := hM0 _ h; omega
      refine ⟨some c, W2.putObj (D + 1) (.loop (rec .exhausted (some c))), ?_, hstop D c M0 xs _ (by omega) (hIx _ _ _ _ _ hi1 (by have := hh.size; omega) (Hold.putObj _ _ _ _ hno)) ((World.putObj_heap_other (by omega)).trans hd) (by have := hh.size; simp; omega) (fun h => by have := hM0 _ h; omega)⟩
      rw [hr, hrec]
end Go.Proofs.YtgebodibamgipaaGreatDoor
