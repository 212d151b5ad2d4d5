/-
  Frames: what stays and what is written; many cells stored at once; copies of a text into bytes.
-/
import Derived.Test.YtcpjgohclncbkaaDoorKinds2
import Derived.Test.YtcpjgohclncbkaaDoorPlainKit
import Derived.Deep.MidRow
import Derived.Laws.CopyOwn
import Derived.Lib.Hide
import Derived.WalkSpells
import Derived.Deep.RegionHeld3
import Derived.Deep.OwnRows
import Derived.Deep.WholeRow
import Derived.Laws.Tables
import Derived.OwnWalk
import Derived.IntWalk
namespace Go.Proofs.YtcpjgohclncbkaaDoor
open Go.RowKit

/-- From w to w' only blocks of F were written; what is there anew may be F's, or not. -/
structure Fr (F F' : Nat → Prop) (w w' : World) : Prop where
  os : w'.os = w.os
  tape : w'.tape = w.tape
  output : w'.output = w.output
  size : w.heap.size ≤ w'.heap.size
  block : ∀ k, k < w.heap.size → ¬ F k → ¬ F' k ∧ w'.heap[k]? = w.heap[k]?
section
variable {F F' F1 : Nat → Prop} {w w' w1 : World}
theorem Fr.refl (F : Nat → Prop) (w : World) : Fr F F w w := ⟨rfl, rfl, rfl, Nat.le_refl _, fun _ _ h => ⟨h, rfl⟩⟩
theorem Fr.trans (h : Fr F F1 w w1) (h' : Fr F1 F' w1 w') : Fr F F' w w' :=
  ⟨h'.os.trans h.os, h'.tape.trans h.tape, h'.output.trans h.output, Nat.le_trans h.size h'.size, fun k hk hF => by
    obtain ⟨a, b⟩ := h.block k hk hF
    obtain ⟨c, d⟩ := h'.block k (Nat.lt_of_lt_of_le hk h.size) a
    exact ⟨c, d.trans b⟩⟩
theorem Fr.below {B : Nat} (h : Fr F F' w w') (hF : ∀ k, F k → B ≤ k) (hB : B ≤ w.heap.size) : Below B w w' :=
  ⟨h.os, h.tape, h.output, h.size, fun k hk => (h.block k (by omega) (fun hf => by have := hF k hf; omega)).2⟩
theorem Fr.of_below (h : Below w.heap.size w w') (F : Nat → Prop) : Fr F F w w' := ⟨h.os, h.tape, h.output, h.size, fun k hk hF => ⟨hF, h.block k hk⟩⟩
theorem Fr.alloc (h : Fr F F' w w') (o : Obj) : Fr F F' w (w'.alloc o) := h.trans (Fr.of_below ((Below.refl _ _).alloc (Nat.le_refl _) o) _)
theorem Fr.drew (h : Fr F F' w w') : Fr F F' w w'.drew := ⟨h.os, h.tape, h.output, h.size, h.block⟩
theorem Fr.drewN (h : Fr F F' w w') (n : Nat) : Fr F F' w (w'.drewN n) := ⟨h.os, h.tape, h.output, h.size, h.block⟩
theorem Fr.setCell (h : Fr F F' w w') {p : Addr} (hp : F' p.block) (u : Value) : Fr F F' w (w'.setCell p u) :=
  h.trans ⟨rfl, rfl, rfl, by simp [World.setCell], fun k _ hF => ⟨hF, Below.heap_setCell _ _ _ _ (fun e => hF (e ▸ hp))⟩⟩
theorem heap_setCells (b : Nat) (vs : List Value) (o : Nat) (w : World) (k : Nat) (h : k ≠ b) : (w.setCells b o vs).heap[k]? = w.heap[k]? := by
  induction vs generalizing o w with
  | nil => rfl
  | cons v r ih => rw [World.setCells, ih, Below.heap_setCell _ _ _ _ (by simpa using h)]
theorem size_setCells (b : Nat) (vs : List Value) (o : Nat) (w : World) : (w.setCells b o vs).heap.size = w.heap.size := by
  induction vs generalizing o w with
  | nil => rfl
  | cons v r ih => rw [World.setCells, ih]; simp [World.setCell]
theorem same_setCells (b : Nat) (vs : List Value) (o : Nat) (w : World) : (w.setCells b o vs).os = w.os ∧ (w.setCells b o vs).tape = w.tape ∧ (w.setCells b o vs).output = w.output := by
  induction vs generalizing o w with
  | nil => exact ⟨rfl, rfl, rfl⟩
  | cons v r ih => rw [World.setCells]; exact ih _ _
theorem Fr.setCells (h : Fr F F' w w') {b : Nat} (hb : F' b) (o : Nat) (vs : List Value) : Fr F F' w (w'.setCells b o vs) :=
  h.trans ⟨(same_setCells b vs o w').1, (same_setCells b vs o w').2.1, (same_setCells b vs o w').2.2, by rw [size_setCells]; exact Nat.le_refl _, fun k _ hF => ⟨hF, heap_setCells _ _ _ _ _ (fun e => hF (e ▸ hb))⟩⟩
theorem Fr.grown (h : Fr F F' w w') {w2 : World} {row : Option Nat} (hg : w'.grownBy w2 row) (hr : ∀ k, row = some k → F' k) : Fr F F' w w2 :=
  h.trans ⟨hg.os, hg.tape, hg.output, hg.size, fun k hk hF => ⟨hF, hg.block k hk (fun e => hF (hr k e.symm))⟩⟩
/-- The set may grow by what is new. -/
theorem Fr.more {F2 : Nat → Prop} (h : Fr F F' w w') (hm : ∀ k, F2 k → F' k ∨ w.heap.size ≤ k) : Fr F F2 w w' :=
  ⟨h.os, h.tape, h.output, h.size, fun k hk hF => ⟨fun h2 => by rcases hm k h2 with h3 | h3; exact (h.block k hk hF).1 h3; omega, (h.block k hk hF).2⟩⟩
theorem Fr.less {F2 : Nat → Prop} (h : Fr F F' w w') (hm : ∀ k, F k → F2 k) : Fr F2 F2 w w' :=
  ⟨h.os, h.tape, h.output, h.size, fun k hk hF => ⟨hF, (h.block k hk (fun h1 => hF (hm k h1))).2⟩⟩
theorem Fr.kind {α : Type} (K : Kind α) (h : Fr F F' w w') {cs : List Value} {a : α} (hr : K.R w (fun k => ¬ F k) cs a) : K.R w' (fun k => ¬ F' k) cs a := K.move hr fun k hk hl => h.block k hl hk
theorem Fr.isL {α : Type} {K : Kind α} (h : Fr F F' w w') {v : Value} {L : List α} (hr : IsL K w (fun k => ¬ F k) v L) : IsL K w' (fun k => ¬ F' k) v L := hr.move fun k hk hl => h.block k hl hk
theorem Fr.rd (h : Fr F F' w w') {A : Option Addr} {xs : List Value} (hr : Rd w (fun k => ¬ F k) A xs) : Rd w' (fun k => ¬ F' k) A xs := hr.move fun k hk hl => h.block k hl hk
theorem Fr.isB (h : Fr F F' w w') {v : Value} {l : List UInt8} (hr : IsB w (fun k => ¬ F k) v l) : IsB w' (fun k => ¬ F' k) v l := by
  obtain ⟨A, c, e, h1, h2, h3⟩ := hr
  exact ⟨A, c, e, h1, h2, h.rd h3⟩
theorem Fr.blk (h : Fr F F' w w') {g : Nat} {t : TypeId} {cs : Array Value} (hb : Blk w g t cs) (hn : ¬ F g) : ¬ F' g ∧ Blk w' g t cs := ⟨(h.block g hb.lt hn).1, hb.keep (h.block g hb.lt hn).2⟩
theorem Fr.ownK (h : Fr F F' w w') {base k n : Nat} {e : TypeId} {v : Value} {xs : List Value} (ho : OwnK w base e k v n xs) (hn : ∀ g, v.ownBlock = some g → ¬ F g) : (∀ g, v.ownBlock = some g → ¬ F' g) ∧ OwnK w' base e k v n xs :=
  ⟨fun g hg => (h.block g (ho.lt g hg).2 (hn g hg)).1, ho.keep fun g hg => (h.block g (ho.lt g hg).2 (hn g hg)).2⟩
end

/-! ### Many cells of a block that is known whole -/
section
variable {w : World} {g : Nat} {t : TypeId}
theorem Blk.setCells (vs : List Value) : ∀ (o : Nat) (w : World) (cs : List Value), Blk w g t cs.toArray → o + vs.length ≤ cs.length → Blk (w.setCells g o vs) g t (splice cs o vs).toArray := by
  induction vs with
  | nil =>
    intro o w cs h _
    show Blk w g t _
    rw [show splice cs o [] = cs by simp [splice]]
    exact h
  | cons v r ih =>
    intro o w cs h hl
    rw [List.length_cons] at hl
    have h1 := h.set_ o v
    rw [List.setIfInBounds_toArray] at h1
    have h2 := ih (o + 1) _ _ h1 (by rw [List.length_set]; omega)
    have e : splice (cs.set o v) (o + 1) r = splice cs o (v :: r) := by
      have := list_seg_step cs o v r (by omega)
      unfold splice
      rw [List.append_assoc] at this
      rw [this, List.append_assoc, List.length_cons]
    rw [e] at h2
    exact h2

theorem Blk.there {cs : List Value} (h : Blk w g t cs.toArray) (o n : Nat) (hn : o + n ≤ cs.length) : w.there g o n := fun j hj => by
  refine ⟨?_, h.frozen _⟩
  rw [h.cell]
  simp
  omega
theorem Rd.range {ok : Nat → Prop} {b off : Nat} {xs : List Value} (h : Rd w ok (some ⟨b, off, none⟩) xs) : w.rangeAt b off xs := fun j v hj => by
  have hn : xs ≠ [] := by intro e; subst e; simp at hj
  obtain ⟨b', off', e, _, _, hc⟩ := h.at' hn
  cases e
  obtain ⟨hlt, rfl⟩ := List.getElem?_eq_some_iff.1 hj
  exact hc j hlt
theorem rd_of_range {ok : Nat → Prop} {b off : Nat} {xs : List Value} (ho : ok b) (h : w.rangeAt b off xs) : Rd w ok (some ⟨b, off, none⟩) xs := Rd.of_cells ho fun k hk => h k _ (List.getElem?_eq_getElem hk)
theorem range_same {w' : World} {b off : Nat} {xs : List Value} (h : w.rangeAt b off xs) (hb : w'.heap[b]? = w.heap[b]?) : w'.rangeAt b off xs := fun j v hj => (World.cell?_of_block (w := w) hb).trans (h j v hj)
end

/-! ### Elements of so many cells, one behind the other -/
section
variable {α : Type}
/-- The cells of a list of elements. -/
def many (f : α → List Value) (L : List α) : List Value := (L.map f).flatten
theorem many_length (f : α → List Value) (m : Nat) (L : List α) (h : ∀ x ∈ L, (f x).length = m) : (many f L).length = L.length * m := by
  induction L with
  | nil => simp [many]
  | cons a L ih =>
    have := ih fun x hx => h x (by simp [hx])
    unfold many at *
    rw [List.map_cons, List.flatten_cons, List.length_append, this, h a (by simp), List.length_cons, Nat.add_mul]
    omega
theorem many_append (f : α → List Value) (L M : List α) : many f (L ++ M) = many f L ++ many f M := by simp [many]
theorem many_split (f : α → List Value) (m : Nat) (L : List α) (h : ∀ x ∈ L, (f x).length = m) (i : Nat) (hi : i < L.length) :
    ∃ P S, many f L = P ++ (f L[i] ++ S) ∧ P.length = i * m ∧ ∀ y, many f (L.set i y) = P ++ (f y ++ S) := by
  have e : L = L.take i ++ (L[i] :: L.drop (i + 1)) := by rw [← List.drop_eq_getElem_cons hi, List.take_append_drop]
  have hl : (L.take i).length = i := by rw [List.length_take]; omega
  refine ⟨many f (L.take i), many f (L.drop (i + 1)), ?_, ?_, fun y => ?_⟩
  · refine (congrArg (many f) e).trans ?_
    rw [many_append]
    show _ ++ (List.map f (L[i] :: _)).flatten = _
    rw [List.map_cons, List.flatten_cons]
    rfl
  · rw [many_length f m _ (fun x hx => h x (List.mem_of_mem_take hx)), hl]
  · rw [List.set_eq_take_append_cons_drop, if_pos hi, many_append]
    simp [many]
theorem many_at (f : α → List Value) (m : Nat) (L : List α) (h : ∀ x ∈ L, (f x).length = m) (i : Nat) (hi : i < L.length) : ((many f L).drop (i * m)).take (f L[i]).length = f L[i] := by
  obtain ⟨P, S, e, hP, _⟩ := many_split f m L h i hi
  rw [e, List.drop_left' hP, List.take_left]
theorem many_fits (f : α → List Value) (m : Nat) (L : List α) (h : ∀ x ∈ L, (f x).length = m) (i : Nat) (hi : i < L.length) : i * m + m ≤ (many f L).length := by
  rw [many_length f m L h]
  have := Nat.mul_le_mul_right m (show i + 1 ≤ L.length by omega)
  rw [Nat.add_mul] at this
  omega
/-- Part of an element is written over, from its head on. -/
theorem many_splice (f : α → List Value) (m : Nat) (L : List α) (h : ∀ x ∈ L, (f x).length = m) (i : Nat) (hi : i < L.length) (y : α) (cs : List Value) (hc : cs.length ≤ m) (hy : f y = cs ++ (f L[i]).drop cs.length) :
    splice (many f L) (i * m) cs = many f (L.set i y) := by
  obtain ⟨P, S, e, hP, hs⟩ := many_split f m L h i hi
  have hm := h _ (List.getElem_mem hi)
  rw [hs, e]
  unfold splice
  rw [List.take_left' hP, ← List.drop_drop, List.drop_left' hP, List.drop_append_of_le_length (by omega), hy, List.append_assoc]
end
theorem Fr.setRow (g : Nat) (w : World) (cs : Array Value) : Fr (· = g) (· = g) w (w.setRow g cs) := ⟨rfl, rfl, rfl, by simp [World.setRow], fun k _ hF => ⟨hF, setRow_other w g k cs (fun e => hF e)⟩⟩
theorem size_u8 : (Tryd.prog.info? 5).map (·.size) = some 1 := by kernel_rfl
section
variable {P : Program} {w : World}
theorem run_copy_str (dT sT ty elem : TypeId) (g o dLen dCap : Nat) (l : List UInt8) (cur : List Value) (t : TypeId)
    (hu : P.underlying dT = some (.slice elem)) (hs : (P.info? elem).map (·.size) = some 1) (hg : Blk w g t cur.toArray) (hfit : o + (l.take dLen).length ≤ cur.length) :
    (Builtin.copy_ #[dT, sT] ty #[.slice (some ⟨g, o, none⟩) dLen dCap, str l]).run P w = .ok (goInt ((l.take dLen).length : Nat)) (w.setRow g (splice cur o ((l.take dLen).map u8)).toArray) := by
  have hst := run_storeCells_at P g o t ((l.take dLen).map u8) 0 cur.toArray w hg (by rw [List.length_map]; simpa using hfit) (u8_oneCell _)
  have hlen : (⟨l.toArray⟩ : ByteArray).size = l.length := by simp [ByteArray.size]
  have htk : List.take (Nat.min l.length dLen) (List.map (fun b : UInt8 => Value.int IntKind.u8 (b.toNat : Int)) l) = (l.take dLen).map u8 := by
    rw [List.map_take]
    show List.take (min l.length dLen) (l.map u8) = _
    rcases Nat.le_total l.length dLen with h | h
    · rw [Nat.min_eq_left h, List.take_of_length_le (by simp), List.take_of_length_le (by simpa using h)]
    · rw [Nat.min_eq_right h]
  rw [List.length_map] at hst
  simp only [Nat.add_zero] at hst
  cases hq : P.info? elem with
  | none => simp [hq] at hs
  | some i =>
    simp [Builtin.copy_, run_underlying hu, Builtin.lenOf, Builtin.firstCells, sizeOf, typeInfo, hq, hlen]
    rw [htk, hst]
    simp [Result.andThen, splice, Nat.min_comm]
theorem wpList_copy_str {ops : Array Oper} {o : Oper} {a : Act} {rest : List Oper} {Q : Exit → Act → World → Prop} (hgd : o.guard = none) (d s : Operand) (dT sT : TypeId)
    (ho : o.op = .call { callee := .builtin .copy, args := #[d, s], argTypes := #[dT, sT] }) (elem : TypeId) (hu : P.underlying dT = some (.slice elem)) (hsz : (P.info? elem).map (·.size) = some 1)
    (g off dLen dCap : Nat) (l : List UInt8) (hd : a.eval d = .slice (some ⟨g, off, none⟩) dLen dCap) (hs : a.eval s = str l)
    (cur : List Value) (t : TypeId) (hg : Blk w g t cur.toArray) (hfit : off + (l.take dLen).length ≤ cur.length)
    (h : ∀ w', Blk w' g t (splice cur off ((l.take dLen).map u8)).toArray → Fr (· = g) (· = g) w w' → wpList P ops Q rest (a.put o.dst (goInt ((l.take dLen).length : Nat))) w') : wpList P ops Q (o :: rest) a w :=
  wpList_plain hgd fun _ hK => by
    have hrun := run_copy_str (P := P) dT sT o.type elem g off dLen dCap l cur t hu hsz hg hfit
    unfold Oper.wp
    simp [execOp, ho, resolve, invoke, builtin, hd, hs, hrun, Result.andThen]
    refine hK _ _ ?_
    have := h _ (show _ = _ by simpa using setRow_heap w g _ _ t _ hg) (Fr.setRow _ _ _)
    simpa using this
end
theorem madeCells_rep (v : Value) (k n : Nat) (hk : 0 < k) : madeCells (Array.replicate k v) n = Array.replicate n v := by
  apply Array.ext_getElem?
  intro i
  unfold madeCells
  by_cases h : i < n
  · have : i % k < k := Nat.mod_lt _ hk
    simp [h, this]
  · simp [h]
theorem run_bytesN (n : Nat) (h : n ≤ 1099511627776) (u : World) : (Instr.makeSlice 87 (.int .i64 (n : Int)) (.int .i64 (n : Int))).run Tryd.prog u = .ok (.slice (some ⟨u.heap.size, 0, none⟩) n n) (u.alloc (.cells (Array.replicate n (.int .u8 0)) 5)) := by
  have hr := run_make_row' (P := Tryd.prog) 87 5 (.int .u8 0) 1 Tryd.underlying87 (by kernel_rfl) rfl .i64 .i64 n (by omega) (by omega) u
  rw [show (#[Value.int .u8 0] : Array Value) = Array.replicate 1 (.int .u8 0) from rfl, madeCells_rep _ 1 _ (by decide)] at hr
  exact hr
theorem zeros_u8 (c : UInt8) (n : Nat) : ((List.replicate 0 c ++ List.replicate n (0 : UInt8)).map u8).toArray = Array.replicate n (.int .u8 0) := by
  rw [List.replicate_zero, List.nil_append, List.map_replicate]
  simp [u8]

theorem conv_is {w : World} {ok : Nat → Prop} {A : Option Addr} {n c : Nat} {l : List UInt8} (h : IsB w ok (.slice A n c) l) : (convert 87 9 (.slice A n c)).run Tryd.prog w = .ok (str l) w := by
  obtain ⟨A', c', e, _, _, hr⟩ := h
  cases e
  exact run_bytes_str 87 9 5 Tryd.underlying87 Tryd.underlying5 Tryd.underlying9 hr

end Go.Proofs.YtcpjgohclncbkaaDoor
