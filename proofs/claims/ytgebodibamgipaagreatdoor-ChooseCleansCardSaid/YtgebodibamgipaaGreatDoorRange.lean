/-
  A loop over an iterator that hands out memory of its own: the iterator's word (Iter), and what the caller owes (wp_range).
-/
import Derived.RangeFuncNested
import Derived.OwnWalkIn
import Derived.Test.YtgebodibamgipaaGreatDoorWordsB
namespace Go.Proofs.YtgebodibamgipaaGreatDoor
open Go.RowKit

/-- The iterator's word, for whatever loop body keeps the blocks of 'keep': each element comes with what X says of it, in memory that is new since the round before it. -/
def Iter {α : Type} (n : Nat) (P : Program) (gf : FuncId) (lb : Array Value) (encs : α → Array Value) (keep : Nat → Prop) (X : List α → α → World → World → Prop) (S Sp : List α → Prop) (w : World) : Prop :=
  ∀ (l : Nat) (J Jx : List α → World → Prop) (W : World), (∀ k, keep k → W.heap[k]? = w.heap[k]?) → w.heap.size ≤ W.heap.size →
    (∀ pre x W0 W1, J pre W0 → Below W0.heap.size W0 W1 → X pre x W0 W1 →
      YieldAt Fence.wide (n - 1) P l (encs x) W1 fun e W2 => (e = .returned (.bool true) ∧ J (pre ++ [x]) W2 ∧ W1.heap.size ≤ W2.heap.size ∧ ∀ k, keep k → W2.heap[k]? = W1.heap[k]?) ∨ (e = .returned (.bool false) ∧ Jx (pre ++ [x]) W2)) →
    J [] W →
    CallsIn Fence.wide n P gf (#[.func (.yield l) #[] #[]] ++ lb) W fun e W' =>
      (∃ v, e = .returned v) ∧ ((∃ xs W0, S xs ∧ J xs W0 ∧ Below W0.heap.size W0 W') ∨ (∃ xs W0, Sp xs ∧ Jx xs W0 ∧ Below W0.heap.size W0 W'))

/-- How the body of a round may be left. -/
def roundEnd {α : Type} (B : Nat) (keep : Nat → Prop) (I : List α → World → Prop) (Ix : Code → List α → World → Prop) (xs : List α) (W : World) : Exit → Act → World → Prop
  | .normal, _, W' => KeepsFrom B W W' ∧ (∀ k, keep k → W'.heap[k]? = W.heap[k]?) ∧ I xs W'
  | .ret, _, W' => KeepsFrom B W W' ∧ Ix .ret xs W'
  | .exit id, _, W' => KeepsFrom B W W' ∧ Ix (.exit id) xs W'
  | .goto t, _, W' => KeepsFrom B W W' ∧ Ix (.goto t) xs W'
  | .panic _, _, _ => False
  | .outgrown, _, _ => False

theorem OwnFrom.below {β : Type} {B : Nat} {I : β → World → Prop} (h : OwnFrom B I) {s : β} {A W : World} (hs : I s A) (hb : Below A.heap.size A W) : I s W :=
  h s A W none hs ⟨hb.os, hb.tape, hb.output, hb.size, fun k hk _ => hb.block k hk⟩ (fun r e => by cases e)

theorem wp_range {α : Type} {n : Nat} {P : Program} {g : Operand} {ps : Array Tmp} {assign body : Code} {Q : Exit → Act → World → Prop} {a : Act} {w : World}
    {gf : Nat} {lb : Array Value} (hg : a.eval g = .func (.func gf) #[] lb) (eg : ∀ args w, (callFunc gf args).run P w = .ok (.enter gf args) w)
    {encs : α → Array Value} {keep : Nat → Prop} {X : List α → α → World → World → Prop} {S Sp : List α → Prop} (hiter : Iter (n - 1) P gf lb encs keep X S Sp w) (hkeep : ∀ k, keep k → k < w.heap.size)
    (hX : ∀ pre x W0, OwnFrom w.heap.size (fun (_ : Unit) W => X pre x W0 W)) (hps : ∀ x, (encs x).size = ps.size)
    (I : List α → World → Prop) (Ix : Code → List α → World → Prop) (hI : OwnFrom w.heap.size I) (hIx : ∀ c, OwnFrom w.heap.size (Ix c)) (h0 : I [] w) (a₁ : α → Act)
    (hassign : ∀ (l : Nat) (x : α) (W : World) (K : Act → World → Prop), K (a₁ x) W →
      assign.wpIn (Fence.wide.inRound l) (n - 1 - 1) P (Exit.then K (fun _ _ _ => False)) { tmps := (ps.zip (encs x)).foldl (fun t (p, v) => t.setIfInBounds p v) a.tmps, defers := [] } W)
    (hbody : ∀ (l : Nat) (pre : List α) (x : α) (W0 W : World), I pre W0 → W0.heap.size ≤ W.heap.size → X pre x W0 W → I pre W → w.heap.size + 2 ≤ W0.heap.size →
      body.wpIn (Fence.wide.inRound l) (n - 1 - 1) P (roundEnd w.heap.size keep I Ix (pre ++ [x]) W) (a₁ x) W)
    (hdone : ∀ (D : Nat) (xs : List α) (W : World), w.heap.size ≤ D → S xs → I xs W → W.heap[D]? = some (.deferred (some [])) → Q .normal { a with defers := { target := .collected D, args := #[] } :: a.defers } W)
    (hstop : ∀ (D : Nat) (c : Code) (xs : List α) (W : World), w.heap.size ≤ D → Ix c xs W → W.heap[D]? = some (.deferred (some [])) → c.wpIn Fence.wide n P Q { a with defers := { target := .collected D, args := #[] } :: a.defers } W) :
    (Code.rangeFunc g ps assign body).wpIn Fence.wide n P Q a w := by
  refine wpIn_rangeFunc fun fn hfn => ?_
  show ∃ (l : Nat) (mark : List Deferred) (w₁ : World) (d : Deferred) (w₁' : World) (f : FuncId) (args : Array Value) (w₂ : World), (Instr.enterLoop fn a.tmps ps assign body none).run P w = _ ∧ _
  obtain ⟨D, hD⟩ : ∃ D, D = w.heap.size := ⟨_, rfl⟩
  obtain ⟨rec, hrec⟩ : ∃ rec : LoopState → Option Code → Loop, rec = fun st pe => { state := st, pending := pe, fn, tmps := a.tmps, params := ps, assign, body, defers := w.heap.size } := ⟨_, rfl⟩
  have hent := run_enterLoop_outer (P := P) (w := w) fn a.tmps ps assign body
  obtain ⟨W1, hW1⟩ : ∃ W1, W1 = (w.alloc (.deferred (some []))).alloc (.loop (rec .ready none)) := ⟨_, rfl⟩
  have hsz : W1.heap.size = D + 2 := by rw [hW1, hD]; simp
  have hbel : Below w.heap.size w W1 := by rw [hW1]; exact ((Below.refl _ w).alloc (Nat.le_refl _) _).alloc (by simp) _
  have hL : W1.heap[D + 1]? = some (.loop (rec .ready none)) := by
    have := World.alloc_heap_new (w.alloc (.deferred (some []))) (.loop (rec .ready none))
    rw [World.size_alloc] at this
    rw [hW1, hD]; exact this
  have hDf : W1.heap[D]? = some (.deferred (some [])) := by
    rw [hW1, hD]
    exact (Below.heap_alloc _ _ _ (by simp)).trans (World.alloc_heap_new w _)
  refine ⟨D + 1, [{ target := .collected D, args := #[] }], W1, { target := .fn (.func gf) lb, args := #[.func (.yield (D + 1)) #[] #[]] }, W1, gf, #[.func (.yield (D + 1)) #[] #[]] ++ lb, W1, ?_, ?_, ?_, ?_, ?_, ?_⟩
  · rw [hent, hW1, hD, hrec]
  · simp only [resolve, hg]
    simp [go_sem]
  · intro f' _; trivial
  · simp [invoke, go_sem, eg]
  · intro h; cases h
  refine (hiter (D + 1)
    (fun xs W => I xs W ∧ W.heap[D + 1]? = some (.loop (rec .ready none)) ∧ W.heap[D]? = some (.deferred (some [])))
    (fun xs W => ∃ c, Ix c xs W ∧ W.heap[D + 1]? = some (.loop (rec .done (some c))) ∧ W.heap[D]? = some (.deferred (some [])))
    W1 (fun k hk => hbel.block k (hkeep k hk)) (by rw [hsz, hD]; omega) ?_ ⟨OwnFrom.below hI h0 hbel, hL, hDf⟩).mono ?_
  · -- a round
    rintro pre x W0 W ⟨hi0, hl0, hd0⟩ hb hx
    have hlt0 : D + 1 < W0.heap.size := (Array.getElem?_eq_some_iff.1 hl0).1
    have hl : W.heap[D + 1]? = some (.loop (rec .ready none)) := (hb.block _ hlt0).trans hl0
    have hd : W.heap[D]? = some (.deferred (some [])) := (hb.block _ (by omega)).trans hd0
    have hi := OwnFrom.below hI hi0 hb
    have hlt : D + 1 < W.heap.size := Nat.lt_of_lt_of_le hlt0 hb.size
    have hy := run_yield (P := P) (args := encs x) hl (by rw [hrec]; exact hps x)
    rw [hrec] at hy
    refine ⟨fn, _, assign, body, hy, roundIn_of_wpIn trivial (hassign _ x W _ ⟨_, run_beginRound hl (by rw [hrec]), ?_⟩)⟩
    clear hy
    obtain ⟨Wb, hWb⟩ : ∃ Wb, Wb = W.putObj (D + 1) (.loop { rec .ready none with state := .busy }) := ⟨_, rfl⟩
    have hlb : Wb.heap[D + 1]? = some (.loop { rec .ready none with state := .busy }) := by rw [hWb]; exact World.putObj_heap_same hlt
    have hdb : Wb.heap[D]? = some (.deferred (some [])) := by rw [hWb]; exact (World.putObj_heap_other (by omega)).trans hd
    have hkb : ∀ k, keep k → Wb.heap[k]? = W.heap[k]? := fun k hk => by
      have := hkeep k hk
      rw [hWb]
      exact World.putObj_heap_other (by omega)
    have hszb : Wb.heap.size = W.heap.size := by rw [hWb]; simp
    have hib : I pre Wb := by rw [hWb]; exact hI.putObj _ hi (by omega) hl rfl
    have hxb : X pre x W0 Wb := by rw [hWb]; exact (hX pre x W0).putObj (s := ()) _ hx (by omega) hl rfl
    rw [← hWb]
    refine wpIn_mono (hbody _ pre x W0 Wb hi0 (by rw [hszb]; exact hb.size) hxb hib (by omega)) ?_
    have fin : ∀ (jump : Option Code) (W3 : World), KeepsFrom w.heap.size Wb W3 → ∃ W4, (Instr.endRound (D + 1) jump).run P W3 = .ok (.bool jump.isNone) W4 ∧ W4 = W3.putObj (D + 1) (.loop (rec (if jump.isNone then .ready else .done) jump)) ∧
        W3.heap[D + 1]? = some (.loop { rec .ready none with state := .busy }) ∧ W4.heap[D + 1]? = some (.loop (rec (if jump.isNone then .ready else .done) jump)) ∧ W4.heap[D]? = some (.deferred (some [])) := fun jump W3 hk3 => by
      have hl3 := hk3.same _ _ (by omega) hlb rfl
      have hd3 := hk3.same _ _ (by omega) hdb rfl
      have hr := run_endRound (P := P) jump hl3
      refine ⟨_, ?_, rfl, hl3, World.putObj_heap_same (Array.getElem?_eq_some_iff.1 hl3).1, (World.putObj_heap_other (by omega)).trans hd3⟩
      rw [hr, hrec]
    rintro e a3 W3 hp
    cases e with
    | normal =>
      obtain ⟨hk3, hkp3, hi3⟩ := hp
      obtain ⟨W4, hr, h4, hl3, hl4, hd4⟩ := fin none W3 hk3
      refine ⟨_, W4, hr, .inl ⟨rfl, ⟨?_, hl4, hd4⟩, ?_, ?_⟩⟩
      · rw [h4]; exact hI.putObj _ hi3 (by omega) hl3 rfl
      · rw [h4]; simp only [World.putObj_size]; have := hk3.size; omega
      · intro k hk
        have := hkeep k hk
        rw [h4, World.putObj_heap_other (by omega), hkp3 k hk, hkb k hk]
    | ret =>
      obtain ⟨hk3, hi3⟩ := hp
      obtain ⟨W4, hr, h4, hl3, hl4, hd4⟩ := fin (some .ret) W3 hk3
      exact ⟨_, W4, hr, .inr ⟨rfl, .ret, by rw [h4]; exact (hIx _).putObj _ hi3 (by omega) hl3 rfl, hl4, hd4⟩⟩
    | exit id =>
      obtain ⟨hk3, hi3⟩ := hp
      obtain ⟨W4, hr, h4, hl3, hl4, hd4⟩ := fin (some (.exit id)) W3 hk3
      exact ⟨_, W4, hr, .inr ⟨rfl, .exit id, by rw [h4]; exact (hIx _).putObj _ hi3 (by omega) hl3 rfl, hl4, hd4⟩⟩
    | goto t =>
      obtain ⟨hk3, hi3⟩ := hp
      obtain ⟨W4, hr, h4, hl3, hl4, hd4⟩ := fin (some (.goto t)) W3 hk3
      exact ⟨_, W4, hr, .inr ⟨rfl, .goto t, by rw [h4]; exact (hIx _).putObj _ hi3 (by omega) hl3 rfl, hl4, hd4⟩⟩
    | panic ch => exact hp.elim
    | outgrown => exact hp.elim
  · -- behind the loop
    rintro e W2 ⟨⟨v, rfl⟩, (⟨xs, W0, hS, ⟨hi0, hl0, hd0⟩, hb⟩ | ⟨xs, W0, _, ⟨c, hi0, hl0, hd0⟩, hb⟩)⟩
    · have hlt0 : D + 1 < W0.heap.size := (Array.getElem?_eq_some_iff.1 hl0).1
      have hl := (hb.block _ hlt0).trans hl0
      have hd := (hb.block _ (show D < W0.heap.size by omega)).trans hd0
      have hr := run_endLoop (P := P) hl (by rw [hrec]; simp)
      refine ⟨none, W2.putObj (D + 1) (.loop (rec .exhausted none)), ?_, hdone D xs _ (by omega) hS (hI.putObj _ (OwnFrom.below hI hi0 hb) (by omega) hl rfl) ((World.putObj_heap_other (by omega)).trans hd)⟩
      rw [hr, hrec]
    · have hlt0 : D + 1 < W0.heap.size := (Array.getElem?_eq_some_iff.1 hl0).1
      have hl := (hb.block _ hlt0).trans hl0
      have hd := (hb.block _ (show D < W0.heap.size by omega)).trans hd0
      have hr := run_endLoop (P := P) hl (by rw [hrec]; simp)
      refine ⟨some c, W2.putObj (D + 1) (.loop (rec .exhausted (some c))), ?_, hstop D c xs _ (by omega) ((hIx c).putObj _ (OwnFrom.below (hIx c) hi0 hb) (by omega) hl rfl) ((World.putObj_heap_other (by omega)).trans hd)⟩
      rw [hr, hrec]
/-- append of one element, inside a fence. -/
theorem wpListIn_app1_one {F : Fence} {n : Nat} {P : Program} (w : World) {t e : TypeId} {bytes : Nat} (het : ElemT P t e bytes) {ops : Array Oper} {rest : List Oper} {o : Oper} {a : Act} {Q : Exit → Act → World → Prop} (hgd : o.guard = none) (s x : Operand)
    (ho : o.op = .call { callee := .builtin .append, args := #[s, x], argTypes := #[t, t] })
    (base : Nat) (v : Value) (xs : List Value) (hs : a.eval s = v) (hown : Own1 w base e v xs)
    (u : Value) (te : TypeId) (hx : a.eval x = .slice (some ⟨w.heap.size, 0, none⟩) 1 1) (h1 : u.oneCell' = true)
    (hbytes : (xs.length + 1) * bytes ≤ 140737488355328) (h63 : xs.length + 1 ≤ 140737488355328) (hbase : base ≤ w.heap.size)
    (h : ∀ v' w', Own1 w' base e v' (xs ++ [u]) → (w.alloc (.cells #[u] te)).grownBy w' v.ownBlock → (v'.ownBlock = v.ownBlock ∨ v'.ownBlock = some (w.heap.size + 1)) → wpListIn F n P ops Q rest (a.put o.dst v') w') :
    wpListIn F n P ops Q (o :: rest) a (w.alloc (.cells #[u] te)) := by
  obtain ⟨v', w', hrun, h2, h3, h4⟩ := run_app1 (P := P) (w.alloc (.cells #[u] te)) (ty := o.type) het (hown.alloc _) (c := 1) ((Blk.new w te #[u]).rd (fun _ => True) trivial) (fun y hy => by simp at hy; subst hy; exact h1) hbytes h63 (by simp; omega)
  refine wpListIn_plain hgd fun K hK' => ?_
  unfold Oper.wpIn
  refine ⟨?_, ?_⟩
  · simp [Oper.about, ho, resolve, Target.leads, Sem.run_pure]
  · rw [Oper.semAt_plain F _ _ (by rw [ho]; intro c hc'; cases hc')]
    have hrun' : (Builtin.append_ #[t, t] o.type #[v, .slice (some ⟨w.heap.size, 0, none⟩) 1 1]).run P (w.alloc (.cells #[u] te)) = .ok v' w' := hrun
    simp only [execOp, ho, resolve, invoke, builtin, Sem.run_bind, Sem.run_pure, Result.andThen_ok, List.map_toArray, List.map_cons, List.map_nil, hs, hx, hrun']
    exact hK' _ _ (h v' w' h2 h3 (by simpa using h4))
end Go.Proofs.YtgebodibamgipaaGreatDoor
