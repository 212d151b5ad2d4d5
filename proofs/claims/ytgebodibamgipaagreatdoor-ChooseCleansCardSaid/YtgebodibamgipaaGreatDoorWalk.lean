/-
  A walk over a frame that is known by some of its slots alone: one law for each operation, each turn of the way.
-/
import Derived.Test.YtgebodibamgipaaGreatDoorVePlain
import Derived.Test.YtgebodibamgipaaGreatDoorKinds2
import Derived.Lib.Hide
import Derived.Deep.WholeRow
namespace Go.Proofs.YtgebodibamgipaaGreatDoor
open Go.RowKit
set_option maxRecDepth 100000

/-- What an operation leaves behind it. -/
def Left (P : Program) (ops : Array Oper) (Q : Exit → Act → World → Prop) (rest : List Oper) (N : Nat) (a : Act) (s : Nat) (v : Value) (w : World) : Prop :=
  ∀ a' : Act, Hid (a'.tmps.size = N) → Hid (a'.defers = []) → a'.tmps[s]?.getD undef = v → (∀ t, t ≠ s → a'.tmps[t]?.getD undef = a.tmps[t]?.getD undef) → wpList P ops Q rest a' w
section
variable {P : Program} {ops : Array Oper} {Q : Exit → Act → World → Prop} {rest : List Oper} {o : Oper} {a : Act} {w : World} {N : Nat}
theorem left_put (hsz : Hid (a.tmps.size = N)) (hde : Hid (a.defers = [])) {s : Nat} (hs : s < N) {v : Value} (h : Left P ops Q rest N a s v w) : wpList P ops Q rest (a.put (some s) v) w :=
  h _ (Lib.hid (by show (a.tmps.setIfInBounds _ _).size = N; rw [Array.size_setIfInBounds]; exact hsz.out)) (Lib.hid hde.out) (at_put_self (by rw [hsz.out]; exact hs)) (fun t ht => at_put (a := a) (v := v) ht)
theorem wpList_next (hg : o.guard = none) (hsz : Hid (a.tmps.size = N)) (hde : Hid (a.defers = [])) (s : Nat) (_hd : o.dst = some s) (hs : s < N)
    (h : ∀ K : Act → World → Prop, (∀ v w', Left P ops Q rest N a s v w' → K (a.put (some s) v) w') → o.wp P a w K Q) : wpList P ops Q (o :: rest) a w :=
  wpList_plain hg fun K hK => h K fun _ _ hl => hK _ _ (left_put hsz hde hs hl)
theorem wpList_nextg (hw : Region.wanted o (yielded ops a.tmps) = true) (hsz : Hid (a.tmps.size = N)) (hde : Hid (a.defers = [])) (s : Nat) (_hd : o.dst = some s) (hs : s < N)
    (h : ∀ K : Act → World → Prop, (∀ v w', Left P ops Q rest N a s v w' → K (a.put (some s) v) w') → o.wp P a w K Q) : wpList P ops Q (o :: rest) a w :=
  wpList_step fun K hK => by
    rw [if_pos hw]
    exact h K fun _ _ hl => hK _ _ (left_put hsz hde hs hl)
theorem wpList_leave (hw : Region.wanted o (yielded ops a.tmps) = false) (hsz : Hid (a.tmps.size = N)) (hde : Hid (a.defers = [])) (s : Nat) (hd : o.dst = some s) (hs : s < N)
    (h : Left P ops Q rest N a s undef w) : wpList P ops Q (o :: rest) a w :=
  wpList_step fun K hK => by
    rw [if_neg (by rw [hw]; simp), hd]
    exact hK _ _ (left_put hsz hde hs h)
theorem wpList_next0 (hg : o.guard = none) (_hd : o.dst = none)
    (h : ∀ K : Act → World → Prop, (∀ v w', wpList P ops Q rest a w' → K (a.put none v) w') → o.wp P a w K Q) : wpList P ops Q (o :: rest) a w :=
  wpList_plain hg fun K hK => h K fun _ _ hl => hK _ _ hl
end
section
variable {P : Program} {Q : Exit → Act → World → Prop} {a : Act} {w : World} {next : Act → World → Prop}
theorem then_go (h : next a w) : Exit.then next Q .normal a w := h
theorem then_ret (h : Q .ret a w) : Exit.then next Q .ret a w := h
theorem then_exit {k : Nat} (h : Q (.exit k) a w) : Exit.then next Q (.exit k) a w := h
theorem block_ret {k : Nat} (h : Q .ret a w) : Exit.inBlock k Q .ret a w := h
theorem block_go {k : Nat} (h : Q .normal a w) : Exit.inBlock k Q .normal a w := h
theorem block_exit {k : Nat} (h : Q .normal a w) : Exit.inBlock k Q (.exit k) a w := by simp only [Exit.inBlock, if_true]; exact h
theorem block_other {k j : Nat} (hj : j ≠ k) (h : Q (.exit j) a w) : Exit.inBlock k Q (.exit j) a w := by simp only [Exit.inBlock, if_neg hj]; exact h
end
/-- A store into the block that has just been made. -/
theorem wp_store_new {P : Program} {Q : Exit → Act → World → Prop} {o : Oper} {a : Act} {w : World} {K : Act → World → Prop} (ty : TypeId) (x y : Operand) (ho : o.op = .store ty x y) (c c' : Array Value) (hx : a.eval x = .pointer (some ⟨w.heap.size, 0, none⟩)) (hy : a.eval y = .agg c')
    (hi : (P.info? ty).map (·.size) = some c'.size) (hs : c.size = c'.size) (h1 : c'.all (·.oneCell') = true) (hk : K (a.put o.dst undef) (w.alloc (.cells c' ty))) : o.wp P a (w.alloc (.cells c ty)) K Q := by
  unfold Oper.wp execOp
  simp only [ho, hx, hy, Sem.run_bind, run_storeAt_new w ty c c' hi hs h1, Result.andThen_ok, Sem.run_pure]
  exact hk
/-- append, as an operation of a walk. -/
theorem wp_appK {P : Program} {Q : Exit → Act → World → Prop} {o : Oper} {a : Act} {w : World} {K : Act → World → Prop} {t e : TypeId} {k bytes : Nat} (het : ElemK P t e k bytes) (s x : Operand)
    (ho : o.op = .call { callee := .builtin .append, args := #[s, x], argTypes := #[t, t] })
    (base n : Nat) (v : Value) (xs : List Value) (hs : a.eval s = v) (hown : OwnK w base e k v n xs)
    (ok : Nat → Prop) (A : Option Addr) (m c : Nat) (news : List Value) (hm : news.length = m * k) (hx : a.eval x = .slice A m c) (hr : Rd w ok A news) (h1 : ∀ u ∈ news, u.oneCell' = true)
    (hbytes : (n + m) * bytes ≤ 140737488355328) (h63 : n + m ≤ 140737488355328) (hbase : base ≤ w.heap.size)
    (h : ∀ v' w', OwnK w' base e k v' (n + m) (xs ++ news) → w.grownBy w' v.ownBlock → (v'.ownBlock = v.ownBlock ∨ v'.ownBlock = some w.heap.size) → K (a.put o.dst v') w') : o.wp P a w K Q := by
  obtain ⟨v', w', hrun, h2, h3, h4⟩ := run_appK (P := P) w (ty := o.type) het hown (c := c) hm hr h1 hbytes h63 hbase
  unfold Oper.wp execOp
  simp only [ho, resolve, invoke, builtin, Sem.run_bind, Sem.run_pure, Result.andThen_ok, List.map_toArray, List.map_cons, List.map_nil, hs, hx, hrun]
  exact h v' w' h2 h3 h4
/-- append of what lies in a new block. -/
theorem wp_appK_new {P : Program} {Q : Exit → Act → World → Prop} {o : Oper} {a : Act} (w : World) {K : Act → World → Prop} {t e : TypeId} {k bytes : Nat} (het : ElemK P t e k bytes) (s x : Operand)
    (ho : o.op = .call { callee := .builtin .append, args := #[s, x], argTypes := #[t, t] })
    (base n : Nat) (v : Value) (xs : List Value) (hs : a.eval s = v) (hown : OwnK w base e k v n xs)
    (us : List Value) (m : Nat) (hm : us.length = m * k) (te : TypeId) (hx : a.eval x = .slice (some ⟨w.heap.size, 0, none⟩) m m) (h1 : ∀ u ∈ us, u.oneCell' = true)
    (hbytes : (n + m) * bytes ≤ 140737488355328) (h63 : n + m ≤ 140737488355328) (hbase : base ≤ w.heap.size)
    (h : ∀ v' w', OwnK w' base e k v' (n + m) (xs ++ us) → w.grownBy w' v.ownBlock → K (a.put o.dst v') w') : o.wp P a (w.alloc (.cells us.toArray te)) K Q := by
  refine wp_appK het s x ho base n v xs hs (hown.alloc _) (fun _ => True) (some ⟨w.heap.size, 0, none⟩) m m us hm hx ?_ h1 hbytes h63 (by simp; omega) ?_
  · exact (Blk.new w te us.toArray).rd _ trivial
  · intro v' w' h2 h3 _
    exact h v' w' h2 ((World.grownBy_alloc w _ _).trans h3)
/-- The frame as it is at the call, known by its slots. -/
theorem enter_abs {P : Program} {Q : Exit → Act → World → Prop} {c : Code} {a : Act} {w : World} {N : Nat} (hs : a.tmps.size = N) (hd : a.defers = [])
    (h : ∀ a' : Act, Hid (a'.tmps.size = N) → Hid (a'.defers = []) → (∀ t : Nat, a'.tmps[t]?.getD undef = a.tmps[t]?.getD undef) → c.wp P Q a' w) : c.wp P Q a w := by
  refine h a (Lib.hid hs) (Lib.hid hd) ?_
  intro t
  rfl
/-- The answer of a function with one result slot. -/
theorem ret_tmp {P : Program} {fn : Func} {R : Ending → World → Prop} {a : Act} {w : World} {s : Nat} {v : Value} (hr : fn.results = #[.tmp s]) (hde : Hid (a.defers = [])) (hs : a.tmps[s]?.getD undef = v) (h : R (.returned v) w) : bodyPost P fn R .ret a w := by
  refine bodyPost_ret (results_tmp hr _ _ _) hde.out ?_
  rw [Array.getD_eq_getD_getElem?, hs]
  exact h
end Go.Proofs.YtgebodibamgipaaGreatDoor
