/-
  Steps of the walk for arrays and rows of the device: make, alloc, build, load, store, append within regions.
-/
import Derived.Test.YtffmnhjkfeoofaaDev
import Derived.Deep.RegionHeld3
import Derived.Deep.OwnRows
import Derived.Deep.WholeRow
import Derived.Laws.Tables
import Derived.Great.BuildSlice
import Derived.OwnWalk
import Derived.IntWalk
namespace Go.Proofs.Ytffmnhjkfeoofaa
open Go.RowKit
set_option maxRecDepth 100000

theorem elemI : ElemK Try.prog 32 3 1 8 := ElemK.mk_ (z := .int .i64 0) Try.underlying32 (by kernel_rfl) rfl (by decide)
theorem info_int : (Try.prog.info? 3).map (fun i => (i.zero, i.size, i.bytes)) = some (some (.int .i64 0), 1, 8) := by kernel_rfl
def zeroSec : Array Value := Array.replicate 256 (.int .u8 0)
def zeroWr : Array Value := #[.int .i64 0] ++ Array.replicate 256 (.int .u8 0)
theorem info_sec : (Try.prog.info? 91).map (fun i => (i.zero, i.size, i.bytes)) = some (some (.agg zeroSec), 256, 256) := by kernel_rfl
theorem info_wr : (Try.prog.info? 115).map (fun i => (i.zero, i.size, i.bytes)) = some (some (.agg zeroWr), 257, 264) := by kernel_rfl
theorem elemW : ElemK Try.prog 78 115 257 264 := ElemK.mk_ (z := .agg zeroWr) Try.underlying78 info_wr (by simp [Value.cells, zeroWr]) (by decide)
theorem size_sec : (Try.prog.info? 91).map (·.size) = some 256 := by kernel_rfl
theorem size_wr : (Try.prog.info? 115).map (·.size) = some 257 := by kernel_rfl

theorem madeCells_rep (v : Value) (k n : Nat) (hk : 0 < k) : madeCells (Array.replicate k v) n = Array.replicate n v := by
  apply Array.ext_getElem?
  intro i
  unfold madeCells
  by_cases h : i < n
  · have : i % k < k := Nat.mod_lt _ hk
    simp [h, this]
  · simp [h]
theorem run_secs (n : Nat) (h : n ≤ 1099511627776) (u : World) : (Instr.makeSlice 77 (.int .i64 (n : Int)) (.int .i64 (n : Int))).run Try.prog u = .ok (.slice (some ⟨u.heap.size, 0, none⟩) n n) (u.alloc (.cells (Array.replicate (n * 256) (.int .u8 0)) 91)) := by
  obtain ⟨i0, hi, hz0, hz1, hz2⟩ := info_parts info_sec
  have hr := run_make (P := Try.prog) u 77 91 i0 _ Try.underlying77 hi hz0 .i64 .i64 n n (by omega) (Int.le_refl _) (by rw [hz2]; omega) (by omega)
  simp only [Int.toNat_natCast, hz1] at hr
  rw [hr]
  show Result.ok _ (u.alloc (.cells (madeCells zeroSec _) _)) = _
  rw [show madeCells zeroSec (n * 256) = _ from madeCells_rep _ 256 _ (by decide)]
theorem run_ints (n : Nat) (h : n ≤ 1099511627776) (u : World) : (Instr.makeSlice 32 (.int .i64 (n : Int)) (.int .i64 (n : Int))).run Try.prog u = .ok (.slice (some ⟨u.heap.size, 0, none⟩) n n) (u.alloc (.cells (Array.replicate n (.int .i64 0)) 3)) := by
  have hr := run_make_row' (P := Try.prog) 32 3 (.int .i64 0) 8 Try.underlying32 info_int rfl .i64 .i64 n (by omega) (by omega) u
  rw [show (#[Value.int .i64 0] : Array Value) = Array.replicate 1 (.int .i64 0) from rfl, madeCells_rep _ 1 _ (by decide)] at hr
  exact hr
theorem zero_secs (n : Nat) : (Array.replicate (n * 256) (Value.int .u8 0)) = (many secC (List.replicate n (List.replicate 256 (0 : UInt8)))).toArray := by
  have : many secC (List.replicate n (List.replicate 256 (0 : UInt8))) = List.replicate (n * 256) (.int .u8 0) := by
    induction n with
    | zero => simp [many]
    | succ n ih =>
      rw [List.replicate_succ, show many secC (List.replicate 256 0 :: List.replicate n (List.replicate 256 0)) = secC (List.replicate 256 0) ++ many secC (List.replicate n (List.replicate 256 0)) from rfl, ih]
      rw [secC, List.map_replicate, show u8 0 = .int .u8 0 from rfl, List.replicate_append_replicate]
      congr 1
      omega
  rw [this]
  simp

/-- A fact about a cell, later. -/
theorem Fr.cell {F F' : Nat → Prop} {w w' : World} (h : Fr F F' w w') {p : Addr} {v : Value} (hc : w.cell? p = some v) (hp : ¬ F p.block) : w'.cell? p = some v :=
  (World.cell?_of_block (w := w) (h.block p.block (World.block_lt_of_cell? w _ hc) hp).2).trans hc
theorem Fr.froz {F F' : Nat → Prop} {w w' : World} (h : Fr F F' w w') {p : Addr} {v : Value} (hc : w.cell? p = some v) (hf : w.frozen? p = false) (hp : ¬ F p.block) : w'.frozen? p = false :=
  (World.frozen?_of_block (w := w) (h.block p.block (World.block_lt_of_cell? w _ hc) hp).2).trans hf
theorem Fr.range {F F' : Nat → Prop} {w w' : World} (h : Fr F F' w w') {b o : Nat} {cs : List Value} (hc : w.rangeAt b o cs) (hb : b < w.heap.size) (hp : ¬ F b) : w'.rangeAt b o cs := range_same hc (h.block b hb hp).2
theorem cell_then {u w2 : World} {a : Addr} {v : Value} (h2 : Below u.heap.size u w2) (h : u.cell? a = some v) : w2.cell? a = some v := (h2.cell (World.block_lt_of_cell? u a h)).trans h
theorem below_on {W u w2 : World} (h : Below W.heap.size W u) (h2 : Below u.heap.size u w2) : Below W.heap.size W w2 := h.trans (h2.mono h.size)
theorem zeroWr_size : zeroWr.size = 257 := by simp [zeroWr]
theorem zero_wr (u : World) : (zeroValue 115).run Try.prog u = .ok (.agg zeroWr) u := (zero_of_info (n := 257) (by kernel_rfl)).1 u
theorem Fr.setRow (g : Nat) (w : World) (cs : Array Value) : Fr (· = g) (· = g) w (w.setRow g cs) := ⟨rfl, rfl, rfl, by simp [World.setRow], fun k _ hF => ⟨hF, setRow_other w g k cs (fun e => hF e)⟩⟩
section
variable {P : Program} {ops : Array Oper} {o : Oper} {a : Act} {w : World}
/-- copy into a block that is known whole: the block behind it; all others stay. -/
theorem wp_copy_fr {K : Act → World → Prop} {Q : Exit → Act → World → Prop} (d s : Operand) (dT sT : TypeId)
    (ho : o.op = .call { callee := .builtin .copy, args := #[d, s], argTypes := #[dT, sT] }) (elem : TypeId) (hu : P.underlying dT = some (.slice elem)) (hsz : (P.info? elem).map (·.size) = some 1)
    (dp sp : Option Addr) (dLen dCap sLen sCap : Nat) (hd : a.eval d = .slice dp dLen dCap) (hs : a.eval s = .slice sp sLen sCap)
    (g off : Nat) (cur : List Value) (t : TypeId) (hg : Blk w g t cur.toArray) (cs : List Value) (hn : cs.length = Nat.min sLen dLen)
    (hpos : 0 < cs.length → dp = some ⟨g, off, none⟩ ∧ ∃ ad, sp = some ad ∧ ∀ j v, cs[j]? = some v → w.cell? (ad.add j) = some v)
    (hfit : off + cs.length ≤ cur.length) (h1 : ∀ v ∈ cs, v.oneCell' = true)
    (h : ∀ w', Blk w' g t (splice cur off cs).toArray → Fr (· = g) (· = g) w w' → K (a.put o.dst (goInt cs.length)) w') : Oper.wp P o a w K Q := by
  by_cases h0 : cs.length = 0
  · obtain rfl : cs = [] := List.eq_nil_of_length_eq_zero h0
    have hrun := run_copy_none (P := P) w dT sT o.type elem dp sp dLen dCap sLen sCap hu hsz (by simpa using hn.symm)
    unfold Oper.wp
    simp [execOp, ho, resolve, invoke, builtin, hd, hs, hrun, Result.andThen]
    exact h w (show _ = _ by have : splice cur off [] = cur := by simp [splice]
                             rw [this]; exact hg) (Fr.refl _ _)
  · obtain ⟨rfl, ad, rfl, hsrc⟩ := hpos (by omega)
    have hrun := run_copy_row (P := P) w dT sT o.type elem g off dLen dCap ad sLen sCap cur.toArray t cs hu hsz hg hn hsrc (by simpa using hfit) h1
    unfold Oper.wp
    simp [execOp, ho, resolve, invoke, builtin, hd, hs, hrun, Result.andThen]
    exact h _ (show _ = _ by simpa [splice] using setRow_heap w g _ _ t _ hg) (Fr.setRow _ _ _)
theorem step_copy_fr {K : Act → World → Prop} {Q : Exit → Act → World → Prop} {E : Prop} (hgd : o.guard = none) (d s : Operand) (dT sT : TypeId)
    (ho : o.op = .call { callee := .builtin .copy, args := #[d, s], argTypes := #[dT, sT] }) (elem : TypeId) (hu : P.underlying dT = some (.slice elem)) (hsz : (P.info? elem).map (·.size) = some 1)
    (dp sp : Option Addr) (dLen dCap sLen sCap : Nat) (hd : a.eval d = .slice dp dLen dCap) (hs : a.eval s = .slice sp sLen sCap)
    (g off : Nat) (cur : List Value) (t : TypeId) (hg : Blk w g t cur.toArray) (cs : List Value) (hn : cs.length = Nat.min sLen dLen)
    (hpos : 0 < cs.length → dp = some ⟨g, off, none⟩ ∧ ∃ ad, sp = some ad ∧ ∀ j v, cs[j]? = some v → w.cell? (ad.add j) = some v)
    (hfit : off + cs.length ≤ cur.length) (h1 : ∀ v ∈ cs, v.oneCell' = true)
    (h : ∀ w', Blk w' g t (splice cur off cs).toArray → Fr (· = g) (· = g) w w' → K (a.put o.dst (goInt cs.length)) w') : if Region.wanted o (yielded ops a.tmps) = true then Oper.wp P o a w K Q else E := by
  have hw : Region.wanted o (yielded ops a.tmps) = true := by simp [Region.wanted, hgd]
  rw [if_pos hw]
  exact wp_copy_fr d s dT sT ho elem hu hsz dp sp dLen dCap sLen sCap hd hs g off cur t hg cs hn hpos hfit h1 h
theorem wpList_copy_fr {rest : List Oper} {Q : Exit → Act → World → Prop} (hgd : o.guard = none) (d s : Operand) (dT sT : TypeId)
    (ho : o.op = .call { callee := .builtin .copy, args := #[d, s], argTypes := #[dT, sT] }) (elem : TypeId) (hu : P.underlying dT = some (.slice elem)) (hsz : (P.info? elem).map (·.size) = some 1)
    (dp sp : Option Addr) (dLen dCap sLen sCap : Nat) (hd : a.eval d = .slice dp dLen dCap) (hs : a.eval s = .slice sp sLen sCap)
    (g off : Nat) (cur : List Value) (t : TypeId) (hg : Blk w g t cur.toArray) (cs : List Value) (hn : cs.length = Nat.min sLen dLen)
    (hpos : 0 < cs.length → dp = some ⟨g, off, none⟩ ∧ ∃ ad, sp = some ad ∧ ∀ j v, cs[j]? = some v → w.cell? (ad.add j) = some v)
    (hfit : off + cs.length ≤ cur.length) (h1 : ∀ v ∈ cs, v.oneCell' = true)
    (h : ∀ w', Blk w' g t (splice cur off cs).toArray → Fr (· = g) (· = g) w w' → wpList P ops Q rest (a.put o.dst (goInt cs.length)) w') : wpList P ops Q (o :: rest) a w :=
  wpList_plain hgd fun _ hK => wp_copy_fr d s dT sT ho elem hu hsz dp sp dLen dCap sLen sCap hd hs g off cur t hg cs hn hpos hfit h1 fun w' h1 h2 => hK _ _ (h w' h1 h2)
end
section
variable {P : Program} {ops : Array Oper} {rest : List Oper} {op : Oper} {a : Act} {w : World} {Q : Exit → Act → World → Prop}
/-- A whole array or struct goes into the block that was made last. -/
theorem wpList_store_new (hgd : op.guard = none) (ty : TypeId) (x y : Operand) (ho : op.op = .store ty x y) (c c' : Array Value) (hx : a.eval x = .pointer (some ⟨w.heap.size, 0, none⟩)) (hy : a.eval y = .agg c')
    (hi : (P.info? ty).map (·.size) = some c'.size) (hs : c.size = c'.size) (h1 : c'.all (·.oneCell') = true)
    (h : wpList P ops Q rest (a.put op.dst undef) (w.alloc (.cells c' ty))) : wpList P ops Q (op :: rest) a (w.alloc (.cells c ty)) :=
  wpList_plain hgd fun _ hK => by
    unfold Oper.wp execOp
    simp only [ho, hx, hy, Sem.run_bind, run_storeAt_new w ty c c' hi hs h1, Result.andThen_ok, Sem.run_pure]
    exact hK _ _ h
end
section
variable {P : Program} (w : World)
theorem step_appK {t e : TypeId} {k bytes : Nat} (het : ElemK P t e k bytes) {ops : Array Oper} {o : Oper} {a : Act} {K : Act → World → Prop} {Q : Exit → Act → World → Prop} {E : Prop} (hgd : o.guard = none) (s x : Operand)
    (ho : o.op = .call { callee := .builtin .append, args := #[s, x], argTypes := #[t, t] })
    (base n : Nat) (v : Value) (xs : List Value) (hs : a.eval s = v) (hown : OwnK w base e k v n xs)
    (ok : Nat → Prop) (A : Option Addr) (m c : Nat) (news : List Value) (hm : news.length = m * k) (hx : a.eval x = .slice A m c) (hr : Rd w ok A news) (h1 : ∀ u ∈ news, u.oneCell' = true)
    (hbytes : (n + m) * bytes ≤ 140737488355328) (h63 : n + m ≤ 140737488355328) (hbase : base ≤ w.heap.size)
    (h : ∀ v' w', OwnK w' base e k v' (n + m) (xs ++ news) → w.grownBy w' v.ownBlock → (v'.ownBlock = v.ownBlock ∨ v'.ownBlock = some w.heap.size) → K (a.put o.dst v') w') : if Region.wanted o (yielded ops a.tmps) = true then Oper.wp P o a w K Q else E := by
  have hw : Region.wanted o (yielded ops a.tmps) = true := by simp [Region.wanted, hgd]
  rw [if_pos hw]
  obtain ⟨v', w', hrun, h2, h3, h4⟩ := run_appK (P := P) w (ty := o.type) het hown (c := c) hm hr h1 hbytes h63 hbase
  unfold Oper.wp execOp
  simp only [ho, resolve, invoke, builtin, Sem.run_bind, Sem.run_pure, Result.andThen_ok, List.map_toArray, List.map_cons, List.map_nil, hs, hx, hrun]
  exact h v' w' h2 h3 h4
end
theorem wp_val {P : Program} {o : Oper} {a : Act} {w w' : World} {K : Act → World → Prop} {Q : Exit → Act → World → Prop} {v : Value} (hr : (execOp a.eval o).run P w = .ok (.value v) w') (h : K (a.put o.dst v) w') : Oper.wp P o a w K Q := by
  unfold Oper.wp
  rw [hr]
  exact h
/-- A slice literal of one write. -/
theorem run_one_wr (x : Nat × List UInt8) (h : (wrC x).length = 257) (u : World) : (Instr.buildSlice 78 1 #[(0, .agg (wrC x).toArray)]).run Try.prog u = .ok (.slice (some ⟨u.heap.size, 0, none⟩) 1 1) (u.alloc (.cells (wrC x).toArray 115)) := by
  obtain ⟨i0, hi, hz0, hz1, hz2⟩ := info_parts info_wr
  refine run_buildSlice u _ _ 1 _ _ i0 _ Try.underlying78 hi hz0 (by rw [hz1]; decide) (by rw [hz1]; decide) ?_
  rw [hz1]
  have := Great.fill_whole (s := 257) (by decide) [.agg (wrC x).toArray] ((Array.range (1 * 257)).map ((Value.agg zeroWr).cells[· % (Value.agg zeroWr).cells.size]!)) (by intro v hv; simp at hv; subst hv; simpa [Value.cells] using h) (by simp)
  simpa [Value.cells] using this
theorem size_u8 : (Try.prog.info? 5).map (·.size) = some 1 := by kernel_rfl
/-- Where the loose writes lie. -/
theorem wr_range {w : World} {base : Nat} {e : TypeId} {v : Value} {L : List (Nat × List UInt8)} (h : OwnK w base e 257 v L.length (many wrC L)) (hl : ∀ x ∈ L, (wrC x).length = 257) (m : Nat) (hm : m < L.length) :
    ∃ gw cap cur, v = .slice (some ⟨gw, 0, none⟩) L.length cap ∧ base ≤ gw ∧ Blk w gw e cur ∧ L.length ≤ cap ∧ w.rangeAt gw (m * 257) (wrC L[m]) := by
  obtain ⟨gw, cap, cur, hv, hb, hblk, hc, _, hcur⟩ := h.addr (by omega)
  refine ⟨gw, cap, cur, hv, hb, hblk, hc, fun j u hj => ?_⟩
  have hlt : j < (wrC L[m]).length := (List.getElem?_eq_some_iff.1 hj).1
  have hat := many_at wrC 257 L hl m hm
  have hfit := many_fits wrC 257 L hl m hm
  have h257 := hl _ (List.getElem_mem hm)
  have hj2 : m * 257 + j < (many wrC L).length := by omega
  rw [hblk.cell, hcur _ hj2, ← List.getElem?_eq_getElem hj2]
  rw [← hat, List.getElem?_take, if_pos hlt, List.getElem?_drop] at hj
  exact hj
end Go.Proofs.Ytffmnhjkfeoofaa
