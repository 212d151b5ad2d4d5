/-
  A walk over a frame that is known by some of its slots alone: one law for each operation, each turn of the way.
-/
import Derived.Test.YtcpjgohclncbkaaDoorVePlain
import Derived.Test.YtcpjgohclncbkaaDoorKinds2
import Derived.Lib.Hide
import Derived.Deep.WholeRow
namespace Go.Proofs.YtcpjgohclncbkaaDoor
open Go.RowKit
set_option maxRecDepth 100000

/-- What an operation leaves behind it. -/
def Left (P : Program) (ops : Array Oper) (Q : Exit → Act → World → Prop) (rest : List Oper) (N : Nat) (a : Act) (s : Nat) (v : Value) (w : World) : Prop :=
  ∀ a' : Act, Hid (a'.tmps.size = N) → Hid (a'.defers = []) → a'.tmps[s]?.getD undef = v → (∀ t, t ≠ s → a'.tmps[t]?.getD undef = a.tmps[t]?.getD undef) → wpList P ops Q rest a' w
section
variable {P : Program} {ops : Array Oper} {Q : Exit → Act → World → Prop} {rest : List Oper} {o : Oper} {a : Act} {w : World} {N : Nat}
theorem left_put (hsz : Hid (a.tmps.size = N)) (hde : Hid (a.defers = [])) {s : Nat} (hs : s < N) {v : Value} (h : Left P ops Q rest N a s v w) : wpList P ops Q rest (a.put (some s) v) w :=
  h _ (Lib.hid (by show (a.tmps.setIfInBounds _ _).size = N; rw [Array.size_setIfInBounds]; exact hsz.out)) (Lib.hid hde.out) (at_put_self (by rw [hsz.out]; exact hs)) (fun t ht => at_put (a := a) (v := v) ht)
theorem wpList_next (hg : o.guard = none) (hsz : Hid (a.tmps.size = N)) (hde : Hid (a.defers = [])) (s : Nat) (_hd : o.dst = some s) (hs : s < N)
    (h : ∀ K : Act → World → Prop, (∀ v w', Left P ops Q rest N a s v w' → K (a.put (some s) v) w') → o.wp P a w K Q) : wpList P ops Q (o :: rest) a w :=
  wpList_plain hg fun K hK => h K fun _ _ hl => hK _ _ (left_put hsz hde hs hl)
theorem wpList_nextg (hw : Region.wanted o (yielded ops a.tmps) = true) (hsz : Hid (a.tmps.size = N)) (hde : Hid (a.defers = [])) (s : Nat) (_hd : o.dst = some s) (hs : s < N)
    (h : ∀ K : Act → World → Prop, (∀ v w', Left P ops Q rest N a s v w' → K (a.put (some s) v) w') → o.wp P a w K Q) : wpList P ops Q (o :: rest) a w :=
  wpList_step fun K hK => by
    rw [if_pos hw]
    exact h K fun _ _ hl => hK _ _ (left_put hsz hde hs hl)
theorem wpList_leave (hw : Region.wanted o (yielded ops a.tmps) = false) (hsz : Hid (a.tmps.size = N)) (hde : Hid (a.defers = [])) (s : Nat) (hd : o.dst = some s) (hs : s < N)
    (h : Left P ops Q rest N a s undef w) : wpList P ops Q (o :: rest) a w :=
  wpList_step fun K hK => by
    rw [if_neg (by rw [hw]; simp), hd]
    exact hK _ _ (left_put hsz hde hs h)
theorem wpList_next0 (hg : o.guard = none) (_hd : o.dst = none)
    (h : ∀ K : Act → World → Prop, (∀ v w', wpList P ops Q rest a w' → K (a.put none v) w') → o.wp P a w K Q) : wpList P ops Q (o :: rest) a w :=
  wpList_plain hg fun K hK => h K fun _ _ hl => hK _ _ hl
end
section
variable {P : Program} {Q : Exit → Act → World → Prop} {a : Act} {w : World} {next : Act → World → Prop}
theorem then_go (h : next a w) : Exit.then next Q .normal a w := h
theorem then_ret (h : Q .ret a w) : Exit.then next Q .ret a w := h
theorem then_exit {k : Nat} (h : Q (.exit k) a w) : Exit.then next Q (.exit k) a w := h
theorem block_ret {k : Nat} (h : Q .ret a w) : Exit.inBlock k Q .ret a w := h
theorem block_go {k : Nat} (h : Q .normal a w) : Exit.inBlock k Q .normal a w := h
theorem block_exit {k : Nat} (h : Q .normal a w) : Exit.inBlock k Q (.exit k) a w := by simp only [Exit.inBlock, if_true]; exact h
end
/-- A store into the block that has just been made. -/
theorem wp_store_new {P : Program} {Q : Exit → Act → World → Prop} {o : Oper} {a : Act} {w : World} {K : Act → World → Prop} (ty : TypeId) (x y : Operand) (ho : o.op = .store ty x y) (c c' : Array Value) (hx : a.eval x = .pointer (some ⟨w.heap.size, 0, none⟩)) (hy : a.eval y = .agg c')
    (hi : (P.info? ty).map (·.size) = some c'.size) (hs : c.size = c'.size) (h1 : c'.all (·.oneCell') = true) (hk : K (a.put o.dst undef) (w.alloc (.cells c' ty))) : o.wp P a (w.alloc (.cells c ty)) K Q := by
  unfold Oper.wp execOp
  simp only [ho, hx, hy, Sem.run_bind, run_storeAt_new w ty c c' hi hs h1, Result.andThen_ok, Sem.run_pure]
  exact hk
/-- The frame as it is at the call, known by its slots. -/
theorem enter_abs {P : Program} {Q : Exit → Act → World → Prop} {c : Code} {a : Act} {w : World} {N : Nat} (hs : a.tmps.size = N) (hd : a.defers = [])
    (h : ∀ a' : Act, Hid (a'.tmps.size = N) → Hid (a'.defers = []) → (∀ t : Nat, a'.tmps[t]?.getD undef = a.tmps[t]?.getD undef) → c.wp P Q a' w) : c.wp P Q a w := by
  refine h a (Lib.hid hs) (Lib.hid hd) ?_
  intro t
  rfl
/-- The answer of a function with one result slot. -/
theorem ret_tmp {P : Program} {fn : Func} {R : Ending → World → Prop} {a : Act} {w : World} {s : Nat} {v : Value} (hr : fn.results = #[.tmp s]) (hde : Hid (a.defers = [])) (hs : a.tmps[s]?.getD undef = v) (h : R (.returned v) w) : bodyPost P fn R .ret a w := by
  refine bodyPost_ret (results_tmp hr _ _ _) hde.out ?_
  rw [Array.getD_eq_getD_getElem?, hs]
  exact h
end Go.Proofs.YtcpjgohclncbkaaDoor
