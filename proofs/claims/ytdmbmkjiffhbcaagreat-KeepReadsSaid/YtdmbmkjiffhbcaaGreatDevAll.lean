/-
  Footprints: what a call may write (a set of blocks), and what stays; many cells of a block that is known whole.
  The device in memory: where its parts lie, and the calls that read it.
  Steps of the walk for arrays and rows of the device: make, alloc, build, load, store, append within regions.
-/
import Derived.Test.YtdmbmkjiffhbcaaGreatKinds2
import Derived.Deep.MidRow
import Derived.Laws.CopyOwn
import Derived.Lib.Hide
import Derived.Test.YtdmbmkjiffhbcaaGreatDevMath
import Derived.Test.YtdmbmkjiffhbcaaGreatPlainKit
import Derived.WalkSpells
import Derived.Deep.RegionHeld3
import Derived.Deep.OwnRows
import Derived.Deep.WholeRow
import Derived.Laws.Tables
import Derived.Great.BuildSlice
import Derived.OwnWalk
import Derived.IntWalk
namespace Go.Proofs.YtdmbmkjiffhbcaaGreat
open Go.RowKit

/-- From w to w' only blocks of F were written; what is there anew may be F's, or not. -/
structure Fr (F F' : Nat → Prop) (w w' : World) : Prop where
  os : w'.os = w.os
  tape : w'.tape = w.tape
  output : w'.output = w.output
  size : w.heap.size ≤ w'.heap.size
  block : ∀ k, k < w.heap.size → ¬ F k → ¬ F' k ∧ w'.heap[k]? = w.heap[k]?
section
variable {F F' F1 : Nat → Prop} {w w' w1 : World}
theorem Fr.refl (F : Nat → Prop) (w : World) : Fr F F w w := ⟨rfl, rfl, rfl, Nat.le_refl _, fun _ _ h => ⟨h, rfl⟩⟩
theorem Fr.trans (h : Fr F F1 w w1) (h' : Fr F1 F' w1 w') : Fr F F' w w' :=
  ⟨h'.os.trans h.os, h'.tape.trans h.tape, h'.output.trans h.output, Nat.le_trans h.size h'.size, fun k hk hF => by
    obtain ⟨a, b⟩ := h.block k hk hF
    obtain ⟨c, d⟩ := h'.block k (Nat.lt_of_lt_of_le hk h.size) a
    exact ⟨c, d.trans b⟩⟩
theorem Fr.below {B : Nat} (h : Fr F F' w w') (hF : ∀ k, F k → B ≤ k) (hB : B ≤ w.heap.size) : Below B w w' :=
  ⟨h.os, h.tape, h.output, h.size, fun k hk => (h.block k (by omega) (fun hf => by have := hF k hf; omega)).2⟩
theorem Fr.of_below (h : Below w.heap.size w w') (F : Nat → Prop) : Fr F F w w' := ⟨h.os, h.tape, h.output, h.size, fun k hk hF => ⟨hF, h.block k hk⟩⟩
theorem Fr.alloc (h : Fr F F' w w') (o : Obj) : Fr F F' w (w'.alloc o) := h.trans (Fr.of_below ((Below.refl _ _).alloc (Nat.le_refl _) o) _)
theorem Fr.drew (h : Fr F F' w w') : Fr F F' w w'.drew := ⟨h.os, h.tape, h.output, h.size, h.block⟩
theorem Fr.drewN (h : Fr F F' w w') (n : Nat) : Fr F F' w (w'.drewN n) := ⟨h.os, h.tape, h.output, h.size, h.block⟩
theorem Fr.setCell (h : Fr F F' w w') {p : Addr} (hp : F' p.block) (u : Value) : Fr F F' w (w'.setCell p u) :=
  h.trans ⟨rfl, rfl, rfl, by simp [World.setCell], fun k _ hF => ⟨hF, Below.heap_setCell _ _ _ _ (fun e => hF (e ▸ hp))⟩⟩
theorem heap_setCells (b : Nat) (vs : List Value) (o : Nat) (w : World) (k : Nat) (h : k ≠ b) : (w.setCells b o vs).heap[k]? = w.heap[k]? := by
  induction vs generalizing o w with
  | nil => rfl
  | cons v r ih => rw [World.setCells, ih, Below.heap_setCell _ _ _ _ (by simpa using h)]
theorem size_setCells (b : Nat) (vs : List Value) (o : Nat) (w : World) : (w.setCells b o vs).heap.size = w.heap.size := by
  induction vs generalizing o w with
  | nil => rfl
  | cons v r ih => rw [World.setCells, ih]; simp [World.setCell]
theorem same_setCells (b : Nat) (vs : List Value) (o : Nat) (w : World) : (w.setCells b o vs).os = w.os ∧ (w.setCells b o vs).tape = w.tape ∧ (w.setCells b o vs).output = w.output := by
  induction vs generalizing o w with
  | nil => exact ⟨rfl, rfl, rfl⟩
  | cons v r ih => rw [World.setCells]; exact ih _ _
theorem Fr.setCells (h : Fr F F' w w') {b : Nat} (hb : F' b) (o : Nat) (vs : List Value) : Fr F F' w (w'.setCells b o vs) :=
  h.trans ⟨(same_setCells b vs o w').1, (same_setCells b vs o w').2.1, (same_setCells b vs o w').2.2, by rw [size_setCells]; exact Nat.le_refl _, fun k _ hF => ⟨hF, heap_setCells _ _ _ _ _ (fun e => hF (e ▸ hb))⟩⟩
theorem Fr.grown (h : Fr F F' w w') {w2 : World} {row : Option Nat} (hg : w'.grownBy w2 row) (hr : ∀ k, row = some k → F' k) : Fr F F' w w2 :=
  h.trans ⟨hg.os, hg.tape, hg.output, hg.size, fun k hk hF => ⟨hF, hg.block k hk (fun e => hF (hr k e.symm))⟩⟩
/-- The set may grow by what is new. -/
theorem Fr.more {F2 : Nat → Prop} (h : Fr F F' w w') (hm : ∀ k, F2 k → F' k ∨ w.heap.size ≤ k) : Fr F F2 w w' :=
  ⟨h.os, h.tape, h.output, h.size, fun k hk hF => ⟨fun h2 => by rcases hm k h2 with h3 | h3; exact (h.block k hk hF).1 h3; omega, (h.block k hk hF).2⟩⟩
theorem Fr.less {F2 : Nat → Prop} (h : Fr F F' w w') (hm : ∀ k, F k → F2 k) : Fr F2 F2 w w' :=
  ⟨h.os, h.tape, h.output, h.size, fun k hk hF => ⟨hF, (h.block k hk (fun h1 => hF (hm k h1))).2⟩⟩
theorem Fr.kind {α : Type} (K : Kind α) (h : Fr F F' w w') {cs : List Value} {a : α} (hr : K.R w (fun k => ¬ F k) cs a) : K.R w' (fun k => ¬ F' k) cs a := K.move hr fun k hk hl => h.block k hl hk
theorem Fr.isL {α : Type} {K : Kind α} (h : Fr F F' w w') {v : Value} {L : List α} (hr : IsL K w (fun k => ¬ F k) v L) : IsL K w' (fun k => ¬ F' k) v L := hr.move fun k hk hl => h.block k hl hk
theorem Fr.rd (h : Fr F F' w w') {A : Option Addr} {xs : List Value} (hr : Rd w (fun k => ¬ F k) A xs) : Rd w' (fun k => ¬ F' k) A xs := hr.move fun k hk hl => h.block k hl hk
theorem Fr.isB (h : Fr F F' w w') {v : Value} {l : List UInt8} (hr : IsB w (fun k => ¬ F k) v l) : IsB w' (fun k => ¬ F' k) v l := by
  obtain ⟨A, c, e, h1, h2, h3⟩ := hr
  exact ⟨A, c, e, h1, h2, h.rd h3⟩
theorem Fr.blk (h : Fr F F' w w') {g : Nat} {t : TypeId} {cs : Array Value} (hb : Blk w g t cs) (hn : ¬ F g) : ¬ F' g ∧ Blk w' g t cs := ⟨(h.block g hb.lt hn).1, hb.keep (h.block g hb.lt hn).2⟩
theorem Fr.ownK (h : Fr F F' w w') {base k n : Nat} {e : TypeId} {v : Value} {xs : List Value} (ho : OwnK w base e k v n xs) (hn : ∀ g, v.ownBlock = some g → ¬ F g) : (∀ g, v.ownBlock = some g → ¬ F' g) ∧ OwnK w' base e k v n xs :=
  ⟨fun g hg => (h.block g (ho.lt g hg).2 (hn g hg)).1, ho.keep fun g hg => (h.block g (ho.lt g hg).2 (hn g hg)).2⟩
end

/-! ### Many cells of a block that is known whole -/
section
variable {w : World} {g : Nat} {t : TypeId}
theorem Blk.setCells (vs : List Value) : ∀ (o : Nat) (w : World) (cs : List Value), Blk w g t cs.toArray → o + vs.length ≤ cs.length → Blk (w.setCells g o vs) g t (splice cs o vs).toArray := by
  induction vs with
  | nil =>
    intro o w cs h _
    show Blk w g t _
    rw [show splice cs o [] = cs by simp [splice]]
    exact h
  | cons v r ih =>
    intro o w cs h hl
    rw [List.length_cons] at hl
    have h1 := h.set_ o v
    rw [List.setIfInBounds_toArray] at h1
    have h2 := ih (o + 1) _ _ h1 (by rw [List.length_set]; omega)
    have e : splice (cs.set o v) (o + 1) r = splice cs o (v :: r) := by
      have := list_seg_step cs o v r (by omega)
      unfold splice
      rw [List.append_assoc] at this
      rw [this, List.append_assoc, List.length_cons]
    rw [e] at h2
    exact h2
theorem Blk.range {cs : List Value} (h : Blk w g t cs.toArray) (o : Nat) (vs : List Value) (hv : (cs.drop o).take vs.length = vs) : w.rangeAt g o vs := fun j v hj => by
  rw [h.cell]
  have hlt : j < vs.length := (List.getElem?_eq_some_iff.1 hj).1
  have : ((cs.drop o).take vs.length)[j]? = some v := by rw [hv]; exact hj
  rw [List.getElem?_take, if_pos hlt, List.getElem?_drop] at this
  simpa using this
theorem Blk.there {cs : List Value} (h : Blk w g t cs.toArray) (o n : Nat) (hn : o + n ≤ cs.length) : w.there g o n := fun j hj => by
  refine ⟨?_, h.frozen _⟩
  rw [h.cell]
  simp
  omega
theorem Rd.range {ok : Nat → Prop} {b off : Nat} {xs : List Value} (h : Rd w ok (some ⟨b, off, none⟩) xs) : w.rangeAt b off xs := fun j v hj => by
  have hn : xs ≠ [] := by intro e; subst e; simp at hj
  obtain ⟨b', off', e, _, _, hc⟩ := h.at' hn
  cases e
  obtain ⟨hlt, rfl⟩ := List.getElem?_eq_some_iff.1 hj
  exact hc j hlt
theorem rd_of_range {ok : Nat → Prop} {b off : Nat} {xs : List Value} (ho : ok b) (h : w.rangeAt b off xs) : Rd w ok (some ⟨b, off, none⟩) xs := Rd.of_cells ho fun k hk => h k _ (List.getElem?_eq_getElem hk)
theorem range_same {w' : World} {b off : Nat} {xs : List Value} (h : w.rangeAt b off xs) (hb : w'.heap[b]? = w.heap[b]?) : w'.rangeAt b off xs := fun j v hj => (World.cell?_of_block (w := w) hb).trans (h j v hj)
end

/-! ### Elements of so many cells, one behind the other -/
section
variable {α : Type}
/-- The cells of a list of elements. -/
def many (f : α → List Value) (L : List α) : List Value := (L.map f).flatten
theorem many_length (f : α → List Value) (m : Nat) (L : List α) (h : ∀ x ∈ L, (f x).length = m) : (many f L).length = L.length * m := by
  induction L with
  | nil => simp [many]
  | cons a L ih =>
    have := ih fun x hx => h x (by simp [hx])
    unfold many at *
    rw [List.map_cons, List.flatten_cons, List.length_append, this, h a (by simp), List.length_cons, Nat.add_mul]
    omega
theorem many_append (f : α → List Value) (L M : List α) : many f (L ++ M) = many f L ++ many f M := by simp [many]
theorem many_split (f : α → List Value) (m : Nat) (L : List α) (h : ∀ x ∈ L, (f x).length = m) (i : Nat) (hi : i < L.length) :
    ∃ P S, many f L = P ++ (f L[i] ++ S) ∧ P.length = i * m ∧ ∀ y, many f (L.set i y) = P ++ (f y ++ S) := by
  have e : L = L.take i ++ (L[i] :: L.drop (i + 1)) := by rw [← List.drop_eq_getElem_cons hi, List.take_append_drop]
  have hl : (L.take i).length = i := by rw [List.length_take]; omega
  refine ⟨many f (L.take i), many f (L.drop (i + 1)), ?_, ?_, fun y => ?_⟩
  · refine (congrArg (many f) e).trans ?_
    rw [many_append]
    show _ ++ (List.map f (L[i] :: _)).flatten = _
    rw [List.map_cons, List.flatten_cons]
    rfl
  · rw [many_length f m _ (fun x hx => h x (List.mem_of_mem_take hx)), hl]
  · rw [List.set_eq_take_append_cons_drop, if_pos hi, many_append]
    simp [many]
theorem many_at (f : α → List Value) (m : Nat) (L : List α) (h : ∀ x ∈ L, (f x).length = m) (i : Nat) (hi : i < L.length) : ((many f L).drop (i * m)).take (f L[i]).length = f L[i] := by
  obtain ⟨P, S, e, hP, _⟩ := many_split f m L h i hi
  rw [e, List.drop_left' hP, List.take_left]
theorem many_fits (f : α → List Value) (m : Nat) (L : List α) (h : ∀ x ∈ L, (f x).length = m) (i : Nat) (hi : i < L.length) : i * m + m ≤ (many f L).length := by
  rw [many_length f m L h]
  have := Nat.mul_le_mul_right m (show i + 1 ≤ L.length by omega)
  rw [Nat.add_mul] at this
  omega
/-- Part of an element is written over, from its head on. -/
theorem many_splice (f : α → List Value) (m : Nat) (L : List α) (h : ∀ x ∈ L, (f x).length = m) (i : Nat) (hi : i < L.length) (y : α) (cs : List Value) (hc : cs.length ≤ m) (hy : f y = cs ++ (f L[i]).drop cs.length) :
    splice (many f L) (i * m) cs = many f (L.set i y) := by
  obtain ⟨P, S, e, hP, hs⟩ := many_split f m L h i hi
  have hm := h _ (List.getElem_mem hi)
  rw [hs, e]
  unfold splice
  rw [List.take_left' hP, ← List.drop_drop, List.drop_left' hP, List.drop_append_of_le_length (by omega), hy, List.append_assoc]
end
end Go.Proofs.YtdmbmkjiffhbcaaGreat

namespace Go.Proofs.YtdmbmkjiffhbcaaGreat
open Go.RowKit
set_option maxRecDepth 100000

def secC (s : List UInt8) : List Value := s.map u8
def wrC (x : Nat × List UInt8) : List Value := .int .i64 (x.1 : Int) :: x.2.map u8
theorem secC_oneCell (s : List UInt8) : ∀ u ∈ secC s, u.oneCell' = true := u8_oneCell s
theorem wrC_oneCell (x : Nat × List UInt8) : ∀ u ∈ wrC x, u.oneCell' = true := by
  intro u hu
  rcases List.mem_cons.1 hu with rfl | h
  · rfl
  · exact u8_oneCell _ u h
theorem many_wr_oneCell (L : List (Nat × List UInt8)) : ∀ u ∈ many wrC L, u.oneCell' = true := by
  intro u hu
  obtain ⟨l, hl, hu⟩ := List.mem_flatten.1 hu
  obtain ⟨x, _, rfl⟩ := List.mem_map.1 hl
  exact wrC_oneCell x u hu

/-- The plan of a cut, if there is one. -/
def PlanAt (w : World) (base : Nat) (F : Nat → Prop) (vp : Value) (left : Int) (c : Choice) : Prop :=
  (left = -1 ∧ vp = .pointer none) ∨
  (0 ≤ left ∧ left ≤ 9223372036854775807 ∧ ∃ gp vk, vp = .pointer (some ⟨gp, 0, none⟩) ∧ F gp ∧ base ≤ gp ∧ (∀ k, vk.ownBlock = some k → F k) ∧
    Blk w gp 80 #[.int .i64 left, vk, .int .i64 c.torn, .int .i64 c.half] ∧ OwnL (kInt .i64) w base 3 vk c.kept)
/-- Where the parts of a device lie. -/
structure DevIn (w : World) (base : Nat) (F : Nat → Prop) (g gs gl : Nat) (vl vp : Value) (n : Nat) (D : Dev) : Prop where
  blk : Blk w g 67 #[.slice (some ⟨gs, 0, none⟩) n n, .slice (some ⟨gl, 0, none⟩) n n, vl, vp, .bool D.off, .int .i64 (D.changes : Int)]
  sure : Blk w gs 83 (many secC D.sure).toArray
  last : Blk w gl 83 (many secC (applyW D.sure D.loose)).toArray
  ne : gs ≠ gl
  loose : OwnK w base 85 257 vl D.loose.length (many wrC D.loose)
  plan : PlanAt w base F vp D.left D.choice
  fg : F g
  fs : F gs
  fl : F gl
  fv : ∀ k, vl.ownBlock = some k → F k
  low : ∀ k, F k → base ≤ k ∧ k < w.heap.size
  len : D.sure.length = n
  wf : D.Wf
/-- A device at a pointer. -/
def DevAt (w : World) (base : Nat) (F : Nat → Prop) (g : Nat) (D : Dev) : Prop := ∃ gs gl vl vp n, DevIn w base F g gs gl vl vp n D ∧ 0 < n ∧ n ≤ 4096

section
variable {w w' : World} {base : Nat} {F F' : Nat → Prop} {g gs gl n : Nat} {vl vp : Value} {D : Dev}
theorem DevIn.secs (h : DevIn w base F g gs gl vl vp n D) : ∀ x ∈ D.sure, (secC x).length = 256 := fun x hx => by unfold secC; rw [List.length_map]; exact h.wf.sure x hx
theorem applied (h : D.Wf) : ∀ x ∈ applyW D.sure D.loose, x.length = 256 := applyW_wf _ _ h.sure fun x hx => (h.loose x hx).2
theorem DevIn.lasts (h : DevIn w base F g gs gl vl vp n D) : ∀ x ∈ applyW D.sure D.loose, (secC x).length = 256 := fun x hx => by unfold secC; rw [List.length_map]; exact applied h.wf x hx
theorem DevIn.wrs (h : DevIn w base F g gs gl vl vp n D) : ∀ x ∈ D.loose, (wrC x).length = 257 := fun x hx => by unfold wrC; rw [List.length_cons, List.length_map, (h.wf.loose x hx).2]
theorem applied_len (h : D.sure.length = n) : (applyW D.sure D.loose).length = n := (applyW_length _ _).trans h
/-- All that it is made of stays. -/
theorem PlanAt.keep {left : Int} {c : Choice} (h : PlanAt w base F vp left c) (hF : ∀ k, F k → F' k) (hk : ∀ k, F k → w'.heap[k]? = w.heap[k]?) : PlanAt w' base F' vp left c := by
  rcases h with h | ⟨h0, h1, gp, vk, e, hf, hb, hfk, hblk, hown⟩
  · exact .inl h
  · refine .inr ⟨h0, h1, gp, vk, e, hF _ hf, hb, fun k h => hF _ (hfk k h), hblk.keep (hk _ hf), ?_⟩
    obtain ⟨xs, ho, hm⟩ := hown
    exact ⟨xs, ho.keep fun k h => hk _ (hfk k h), hm.flat (kInt_flat _)⟩
theorem DevIn.keep (h : DevIn w base F g gs gl vl vp n D) (hk : ∀ k, F k → w'.heap[k]? = w.heap[k]?) (hs : w.heap.size ≤ w'.heap.size) : DevIn w' base F g gs gl vl vp n D :=
  ⟨h.blk.keep (hk _ h.fg), h.sure.keep (hk _ h.fs), h.last.keep (hk _ h.fl), h.ne, h.loose.keep fun k hk' => hk _ (h.fv k hk'), h.plan.keep (fun _ h => h) hk, h.fg, h.fs, h.fl, h.fv, fun k hk' => ⟨(h.low k hk').1, Nat.lt_of_lt_of_le (h.low k hk').2 hs⟩, h.len, h.wf⟩
theorem DevAt.keep (h : DevAt w base F g D) (hk : ∀ k, F k → w'.heap[k]? = w.heap[k]?) (hs : w.heap.size ≤ w'.heap.size) : DevAt w' base F g D := by
  obtain ⟨gs, gl, vl, vp, n, h, hn⟩ := h
  exact ⟨gs, gl, vl, vp, n, h.keep hk hs, hn⟩
theorem DevAt.low (h : DevAt w base F g D) : ∀ k, F k → base ≤ k ∧ k < w.heap.size := by
  obtain ⟨gs, gl, vl, vp, n, h, hn⟩ := h
  exact h.low
theorem DevAt.wf (h : DevAt w base F g D) : D.Wf := by
  obtain ⟨gs, gl, vl, vp, n, h, hn⟩ := h
  exact h.wf
theorem DevAt.lens (h : DevAt w base F g D) : 0 < D.sure.length ∧ D.sure.length ≤ 4096 := by
  obtain ⟨gs, gl, vl, vp, n, h, hn⟩ := h
  rw [h.len]
  exact hn
theorem DevAt.grow (h : DevAt w base F g D) (hb : Below w.heap.size w w') : DevAt w' base F g D := h.keep (fun k hk => hb.block k (h.low k hk).2) hb.size
theorem DevAt.mono {base' : Nat} (h : DevAt w base F g D) (hb : base' ≤ base) : DevAt w base' F g D := by
  obtain ⟨gs, gl, vl, vp, n, h, hn⟩ := h
  refine ⟨gs, gl, vl, vp, n, ⟨h.blk, h.sure, h.last, h.ne, h.loose.mono hb, ?_, h.fg, h.fs, h.fl, h.fv, fun k hk => ⟨Nat.le_trans hb (h.low k hk).1, (h.low k hk).2⟩, h.len, h.wf⟩, hn⟩
  rcases h.plan with h | ⟨h0, h1, gp, vk, e, hf, hg, hfk, hblk, hown⟩
  · exact .inl h
  · exact .inr ⟨h0, h1, gp, vk, e, hf, by omega, hfk, hblk, hown.mono hb⟩
end

/-! ### The calls that only read -/
theorem off_nil (w : World) : Calls Tryz.prog 30 #[.pointer none] w fun e w' => e = .returned (.bool true) ∧ w = w' := by
  go_enter Tryz.func30, Tryz.ntmps30
  go_wp2
  go_ret
  exact ⟨rfl, rfl⟩
theorem off_cell (g : Nat) (b : Bool) (w : World) (h : w.cell? ⟨g, 4, none⟩ = some (.bool b)) : Calls Tryz.prog 30 #[.pointer (some ⟨g, 0, none⟩)] w fun e w' => e = .returned (.bool b) ∧ w = w' := by
  go_enter Tryz.func30, Tryz.ntmps30
  go_wp2
  go_ret
  exact ⟨rfl, rfl⟩
section
variable {w : World} {base : Nat} {F : Nat → Prop} {g gs gl n : Nat} {vl vp : Value} {D : Dev}
theorem DevIn.cells (h : DevIn w base F g gs gl vl vp n D) :
    w.cell? ⟨g, 0, none⟩ = some (.slice (some ⟨gs, 0, none⟩) n n) ∧ w.cell? ⟨g, 1, none⟩ = some (.slice (some ⟨gl, 0, none⟩) n n) ∧ w.cell? ⟨g, 2, none⟩ = some vl ∧ w.cell? ⟨g, 3, none⟩ = some vp ∧ w.cell? ⟨g, 4, none⟩ = some (.bool D.off) ∧ w.cell? ⟨g, 5, none⟩ = some (.int .i64 (D.changes : Int)) := by
  refine ⟨?_, ?_, ?_, ?_, ?_, ?_⟩ <;> rw [h.blk.cell] <;> rfl
end
theorem off_any (base : Nat) (F : Nat → Prop) (g : Nat) (D : Dev) (w : World) (h : DevAt w base F g D) : Calls Tryz.prog 30 #[.pointer (some ⟨g, 0, none⟩)] w fun e w' => e = .returned (.bool D.off) ∧ w = w' := by
  obtain ⟨gs, gl, vl, vp, n, h, hn⟩ := h
  exact off_cell g D.off w h.cells.2.2.2.2.1
theorem size_nil (w : World) : Calls Tryz.prog 32 #[.pointer none] w fun e w' => e = .returned (.int .i64 0) ∧ w = w' := by
  go_enter Tryz.func32, Tryz.ntmps32
  go_wp2
  go_ret
  exact ⟨rfl, rfl⟩
theorem size_any (base : Nat) (F : Nat → Prop) (g : Nat) (D : Dev) (w : World) (h : DevAt w base F g D) : Calls Tryz.prog 32 #[.pointer (some ⟨g, 0, none⟩)] w fun e w' => e = .returned (.int .i64 (D.sure.length : Int)) ∧ w = w' := by
  obtain ⟨gs, gl, vl, vp, n, h, hn⟩ := h
  obtain ⟨_, h1, _⟩ := h.cells
  have hl := Lib.hid h.len
  clear h
  go_enter Tryz.func32, Tryz.ntmps32
  go_wp2
  go_ret
  exact ⟨by rw [hl.out]; rfl, rfl⟩
theorem find_nil (i : Int) (w : World) : Calls Tryz.prog 75 #[.pointer none, .int .i64 i] w fun e w' => e = .returned (.int .i64 6) ∧ w = w' := by
  go_enter Tryz.func75, Tryz.ntmps75
  go_wp2_with fail
  refine (off_nil _).mono ?_
  rintro e w' ⟨rfl, rfl⟩
  go_wp2_with fail
  go_ret
  exact ⟨rfl, rfl⟩
theorem find_any (base : Nat) (F : Nat → Prop) (g : Nat) (D : Dev) (i : Int) (w : World) (h : DevAt w base F g D) : Calls Tryz.prog 75 #[.pointer (some ⟨g, 0, none⟩), .int .i64 i] w fun e w' => e = .returned (.int .i64 (D.why i)) ∧ w = w' := by
  have H := Lib.hid h
  obtain ⟨gs, gl, vl, vp, n, h, hn⟩ := h
  obtain ⟨_, h1, _⟩ := h.cells
  have Hl := Lib.hid h.len
  have Hwhy := Lib.hid (show D.why i = if D.off then 6 else if i < 0 ∨ (D.sure.length : Int) ≤ i then 2 else 0 from rfl)
  clear h
  go_enter Tryz.func75, Tryz.ntmps75
  go_wp2_with fail
  refine (off_any _ _ _ D _ H.out).mono ?_
  rintro e w' ⟨rfl, rfl⟩
  cases hoff : D.off with
  | true =>
    rw [hoff] at Hwhy
    go_wp2_with fail
    go_ret
    exact ⟨by rw [Hwhy.out]; rfl, rfl⟩
  | false =>
    rw [hoff] at Hwhy
    go_wp2_with fail
    all_goals go_ret
    all_goals refine ⟨?_, rfl⟩
    all_goals have hl := Hl.out
    all_goals rw [Hwhy.out, if_neg (by decide)]
    all_goals first | (rw [if_pos (by omega)]; rfl) | (rw [if_neg (by omega)]; rfl)

theorem now_eq (D : Dev) (i : Nat) (h : i < D.sure.length) : D.now i = (applyW D.sure D.loose).getD i [] := (applyW_at _ _ i h).symm
/-- How a Read ends. -/
def ReadPost (D : Dev) (i : Int) (w : World) (e : Ending) (w' : World) : Prop :=
  (D.why i ≠ 0 ∧ e = .returned (.tuple #[.slice none 0 0, .int .i64 (D.why i)]) ∧ w = w') ∨
  (D.why i = 0 ∧ ∃ v, e = .returned (.tuple #[v, .int .i64 0]) ∧ Own1 w' w.heap.size 5 v ((D.now i.toNat).map u8) ∧ Below w.heap.size w w')
theorem read_nil (i : Int) (w : World) : Calls Tryz.prog 53 #[.pointer none, .int .i64 i] w fun e w' => e = .returned (.tuple #[.slice none 0 0, .int .i64 6]) ∧ w = w' := by
  go_enter Tryz.func53, Tryz.ntmps53
  go_wp2_with fail
  refine (find_nil _ _).mono ?_
  rintro e w' ⟨rfl, rfl⟩
  go_wp2_with fail
  go_ret2
  exact ⟨rfl, rfl⟩
set_option maxHeartbeats 400000 in
theorem read_any (base : Nat) (F : Nat → Prop) (g : Nat) (D : Dev) (i : Int) (w : World) (h : DevAt w base F g D) : Calls Tryz.prog 53 #[.pointer (some ⟨g, 0, none⟩), .int .i64 i] w (ReadPost D i w) := by
  have H := Lib.hid h
  obtain ⟨gs, gl, vl, vp, n, h, hn⟩ := h
  obtain ⟨_, h1, _⟩ := h.cells
  have Hin := Lib.hid h
  clear h
  by_cases hy : D.why i = 0
  · obtain ⟨hoff, h0, hlt⟩ : D.off = false ∧ 0 ≤ i ∧ i < D.sure.length := by
      unfold Dev.why at hy
      cases ho : D.off
      · rw [ho] at hy
        simp only [Bool.false_eq_true, if_false] at hy
        split at hy
        · cases hy
        · exact ⟨rfl, by omega, by omega⟩
      · rw [ho] at hy; cases hy
    obtain ⟨k, rfl⟩ := Int.eq_ofNat_of_zero_le h0
    have hkn : (k : Int) < (n : Int) := by have := Hin.out.len; omega
    have hks : k < D.sure.length := by have := Hin.out.len; omega
    have hka : k < (applyW D.sure D.loose).length := by rw [applyW_length]; exact hks
    have hcl := Hin.out.last.range (k * 256) _ (many_at secC 256 _ Hin.out.lasts k hka)
    have hnow : (applyW D.sure D.loose)[k] = D.now k := by rw [now_eq D k hks, List.getD_eq_getElem?_getD, List.getElem?_eq_getElem hka]; rfl
    rw [hnow] at hcl
    have hl256 : (D.now k).length = 256 := now_length Hin.out.wf k hks
    have hB : IsB w (fun _ => True) (.slice (some ⟨gl, k * 256, none⟩) 256 256) (D.now k) := ⟨_, 256, by rw [hl256], by omega, by unfold maxLen; omega, rd_of_range trivial hcl⟩
    have HB := Lib.hid hB
    have Hnl : (D.now k).length ≤ 1099511627776 := by omega
    have Hy := Lib.hid hy
    clear hy h0 hlt hoff hks hka hcl hnow hl256 hB
    go_enter Tryz.func53, Tryz.ntmps53
    go_wp2_with fail
    refine (find_any _ _ _ D _ _ H.out).mono ?_
    rintro e w' ⟨rfl, rfl⟩
    rw [Hy.out]
    go_wp2_with fail
    refine (clone_any _ _ _ _ HB.out Hnl).mono ?_
    rintro e w1 ⟨v', rfl, ho, hb⟩
    go_wp2_with fail
    go_ret2
    exact .inr ⟨Hy.out, v', rfl, ho, hb⟩
  · have Hy := Lib.hid hy
    have hne : (D.why (i : Int) != 0) = true := by simpa using hy
    clear hy
    go_enter Tryz.func53, Tryz.ntmps53
    go_wp2_with fail
    refine (find_any _ _ _ D _ _ H.out).mono ?_
    rintro e w' ⟨rfl, rfl⟩
    go_wp2_with fail
    go_ret2
    exact .inl ⟨Hy.out, rfl, rfl⟩
end Go.Proofs.YtdmbmkjiffhbcaaGreat

namespace Go.Proofs.YtdmbmkjiffhbcaaGreat
open Go.RowKit
set_option maxRecDepth 100000

theorem elemI : ElemK Tryz.prog 23 3 1 8 := ElemK.mk_ (z := .int .i64 0) Tryz.underlying23 (by kernel_rfl) rfl (by decide)
theorem info_int : (Tryz.prog.info? 3).map (fun i => (i.zero, i.size, i.bytes)) = some (some (.int .i64 0), 1, 8) := by kernel_rfl
def zeroSec : Array Value := Array.replicate 256 (.int .u8 0)
def zeroWr : Array Value := #[.int .i64 0] ++ Array.replicate 256 (.int .u8 0)
theorem info_sec : (Tryz.prog.info? 83).map (fun i => (i.zero, i.size, i.bytes)) = some (some (.agg zeroSec), 256, 256) := by kernel_rfl
theorem info_wr : (Tryz.prog.info? 85).map (fun i => (i.zero, i.size, i.bytes)) = some (some (.agg zeroWr), 257, 264) := by kernel_rfl
theorem elemW : ElemK Tryz.prog 64 85 257 264 := ElemK.mk_ (z := .agg zeroWr) Tryz.underlying64 info_wr (by simp [Value.cells, zeroWr]) (by decide)
theorem size_sec : (Tryz.prog.info? 83).map (·.size) = some 256 := by kernel_rfl
theorem size_wr : (Tryz.prog.info? 85).map (·.size) = some 257 := by kernel_rfl

theorem madeCells_rep (v : Value) (k n : Nat) (hk : 0 < k) : madeCells (Array.replicate k v) n = Array.replicate n v := by
  apply Array.ext_getElem?
  intro i
  unfold madeCells
  by_cases h : i < n
  · have : i % k < k := Nat.mod_lt _ hk
    simp [h, this]
  · simp [h]
theorem run_secs (n : Nat) (h : n ≤ 1099511627776) (u : World) : (Instr.makeSlice 63 (.int .i64 (n : Int)) (.int .i64 (n : Int))).run Tryz.prog u = .ok (.slice (some ⟨u.heap.size, 0, none⟩) n n) (u.alloc (.cells (Array.replicate (n * 256) (.int .u8 0)) 83)) := by
  obtain ⟨i0, hi, hz0, hz1, hz2⟩ := info_parts info_sec
  have hr := run_make (P := Tryz.prog) u 63 83 i0 _ Tryz.underlying63 hi hz0 .i64 .i64 n n (by omega) (Int.le_refl _) (by rw [hz2]; omega) (by omega)
  simp only [Int.toNat_natCast, hz1] at hr
  rw [hr]
  show Result.ok _ (u.alloc (.cells (madeCells zeroSec _) _)) = _
  rw [show madeCells zeroSec (n * 256) = _ from madeCells_rep _ 256 _ (by decide)]
theorem run_ints (n : Nat) (h : n ≤ 1099511627776) (u : World) : (Instr.makeSlice 23 (.int .i64 (n : Int)) (.int .i64 (n : Int))).run Tryz.prog u = .ok (.slice (some ⟨u.heap.size, 0, none⟩) n n) (u.alloc (.cells (Array.replicate n (.int .i64 0)) 3)) := by
  have hr := run_make_row' (P := Tryz.prog) 23 3 (.int .i64 0) 8 Tryz.underlying23 info_int rfl .i64 .i64 n (by omega) (by omega) u
  rw [show (#[Value.int .i64 0] : Array Value) = Array.replicate 1 (.int .i64 0) from rfl, madeCells_rep _ 1 _ (by decide)] at hr
  exact hr
theorem zero_secs (n : Nat) : (Array.replicate (n * 256) (Value.int .u8 0)) = (many secC (List.replicate n (List.replicate 256 (0 : UInt8)))).toArray := by
  have : many secC (List.replicate n (List.replicate 256 (0 : UInt8))) = List.replicate (n * 256) (.int .u8 0) := by
    induction n with
    | zero => simp [many]
    | succ n ih =>
      rw [List.replicate_succ, show many secC (List.replicate 256 0 :: List.replicate n (List.replicate 256 0)) = secC (List.replicate 256 0) ++ many secC (List.replicate n (List.replicate 256 0)) from rfl, ih]
      rw [secC, List.map_replicate, show u8 0 = .int .u8 0 from rfl, List.replicate_append_replicate]
      congr 1
      omega
  rw [this]
  simp

/-- A fact about a cell, later. -/
theorem Fr.cell {F F' : Nat → Prop} {w w' : World} (h : Fr F F' w w') {p : Addr} {v : Value} (hc : w.cell? p = some v) (hp : ¬ F p.block) : w'.cell? p = some v :=
  (World.cell?_of_block (w := w) (h.block p.block (World.block_lt_of_cell? w _ hc) hp).2).trans hc
theorem Fr.froz {F F' : Nat → Prop} {w w' : World} (h : Fr F F' w w') {p : Addr} {v : Value} (hc : w.cell? p = some v) (hf : w.frozen? p = false) (hp : ¬ F p.block) : w'.frozen? p = false :=
  (World.frozen?_of_block (w := w) (h.block p.block (World.block_lt_of_cell? w _ hc) hp).2).trans hf
theorem Fr.range {F F' : Nat → Prop} {w w' : World} (h : Fr F F' w w') {b o : Nat} {cs : List Value} (hc : w.rangeAt b o cs) (hb : b < w.heap.size) (hp : ¬ F b) : w'.rangeAt b o cs := range_same hc (h.block b hb hp).2
theorem cell_then {u w2 : World} {a : Addr} {v : Value} (h2 : Below u.heap.size u w2) (h : u.cell? a = some v) : w2.cell? a = some v := (h2.cell (World.block_lt_of_cell? u a h)).trans h
theorem below_on {W u w2 : World} (h : Below W.heap.size W u) (h2 : Below u.heap.size u w2) : Below W.heap.size W w2 := h.trans (h2.mono h.size)
theorem zeroWr_size : zeroWr.size = 257 := by simp [zeroWr]
theorem zero_wr (u : World) : (zeroValue 85).run Tryz.prog u = .ok (.agg zeroWr) u := (zero_of_info (n := 257) (by kernel_rfl)).1 u
theorem Fr.setRow (g : Nat) (w : World) (cs : Array Value) : Fr (· = g) (· = g) w (w.setRow g cs) := ⟨rfl, rfl, rfl, by simp [World.setRow], fun k _ hF => ⟨hF, setRow_other w g k cs (fun e => hF e)⟩⟩
section
variable {P : Program} {ops : Array Oper} {o : Oper} {a : Act} {w : World}
/-- copy into a block that is known whole: the block behind it; all others stay. -/
theorem wp_copy_fr {K : Act → World → Prop} {Q : Exit → Act → World → Prop} (d s : Operand) (dT sT : TypeId)
    (ho : o.op = .call { callee := .builtin .copy, args := #[d, s], argTypes := #[dT, sT] }) (elem : TypeId) (hu : P.underlying dT = some (.slice elem)) (hsz : (P.info? elem).map (·.size) = some 1)
    (dp sp : Option Addr) (dLen dCap sLen sCap : Nat) (hd : a.eval d = .slice dp dLen dCap) (hs : a.eval s = .slice sp sLen sCap)
    (g off : Nat) (cur : List Value) (t : TypeId) (hg : Blk w g t cur.toArray) (cs : List Value) (hn : cs.length = Nat.min sLen dLen)
    (hpos : 0 < cs.length → dp = some ⟨g, off, none⟩ ∧ ∃ ad, sp = some ad ∧ ∀ j v, cs[j]? = some v → w.cell? (ad.add j) = some v)
    (hfit : off + cs.length ≤ cur.length) (h1 : ∀ v ∈ cs, v.oneCell' = true)
    (h : ∀ w', Blk w' g t (splice cur off cs).toArray → Fr (· = g) (· = g) w w' → K (a.put o.dst (goInt cs.length)) w') : Oper.wp P o a w K Q := by
  by_cases h0 : cs.length = 0
  · obtain rfl : cs = [] := List.eq_nil_of_length_eq_zero h0
    have hrun := run_copy_none (P := P) w dT sT o.type elem dp sp dLen dCap sLen sCap hu hsz (by simpa using hn.symm)
    unfold Oper.wp
    simp [execOp, ho, resolve, invoke, builtin, hd, hs, hrun, Result.andThen]
    exact h w (show _ = _ by have : splice cur off [] = cur := by simp [splice]
                             rw [this]; exact hg) (Fr.refl _ _)
  · obtain ⟨rfl, ad, rfl, hsrc⟩ := hpos (by omega)
    have hrun := run_copy_row (P := P) w dT sT o.type elem g off dLen dCap ad sLen sCap cur.toArray t cs hu hsz hg hn hsrc (by simpa using hfit) h1
    unfold Oper.wp
    simp [execOp, ho, resolve, invoke, builtin, hd, hs, hrun, Result.andThen]
    exact h _ (show _ = _ by simpa [splice] using setRow_heap w g _ _ t _ hg) (Fr.setRow _ _ _)
theorem step_copy_fr {K : Act → World → Prop} {Q : Exit → Act → World → Prop} {E : Prop} (hgd : o.guard = none) (d s : Operand) (dT sT : TypeId)
    (ho : o.op = .call { callee := .builtin .copy, args := #[d, s], argTypes := #[dT, sT] }) (elem : TypeId) (hu : P.underlying dT = some (.slice elem)) (hsz : (P.info? elem).map (·.size) = some 1)
    (dp sp : Option Addr) (dLen dCap sLen sCap : Nat) (hd : a.eval d = .slice dp dLen dCap) (hs : a.eval s = .slice sp sLen sCap)
    (g off : Nat) (cur : List Value) (t : TypeId) (hg : Blk w g t cur.toArray) (cs : List Value) (hn : cs.length = Nat.min sLen dLen)
    (hpos : 0 < cs.length → dp = some ⟨g, off, none⟩ ∧ ∃ ad, sp = some ad ∧ ∀ j v, cs[j]? = some v → w.cell? (ad.add j) = some v)
    (hfit : off + cs.length ≤ cur.length) (h1 : ∀ v ∈ cs, v.oneCell' = true)
    (h : ∀ w', Blk w' g t (splice cur off cs).toArray → Fr (· = g) (· = g) w w' → K (a.put o.dst (goInt cs.length)) w') : if Region.wanted o (yielded ops a.tmps) = true then Oper.wp P o a w K Q else E := by
  have hw : Region.wanted o (yielded ops a.tmps) = true := by simp [Region.wanted, hgd]
  rw [if_pos hw]
  exact wp_copy_fr d s dT sT ho elem hu hsz dp sp dLen dCap sLen sCap hd hs g off cur t hg cs hn hpos hfit h1 h
theorem wpList_copy_fr {rest : List Oper} {Q : Exit → Act → World → Prop} (hgd : o.guard = none) (d s : Operand) (dT sT : TypeId)
    (ho : o.op = .call { callee := .builtin .copy, args := #[d, s], argTypes := #[dT, sT] }) (elem : TypeId) (hu : P.underlying dT = some (.slice elem)) (hsz : (P.info? elem).map (·.size) = some 1)
    (dp sp : Option Addr) (dLen dCap sLen sCap : Nat) (hd : a.eval d = .slice dp dLen dCap) (hs : a.eval s = .slice sp sLen sCap)
    (g off : Nat) (cur : List Value) (t : TypeId) (hg : Blk w g t cur.toArray) (cs : List Value) (hn : cs.length = Nat.min sLen dLen)
    (hpos : 0 < cs.length → dp = some ⟨g, off, none⟩ ∧ ∃ ad, sp = some ad ∧ ∀ j v, cs[j]? = some v → w.cell? (ad.add j) = some v)
    (hfit : off + cs.length ≤ cur.length) (h1 : ∀ v ∈ cs, v.oneCell' = true)
    (h : ∀ w', Blk w' g t (splice cur off cs).toArray → Fr (· = g) (· = g) w w' → wpList P ops Q rest (a.put o.dst (goInt cs.length)) w') : wpList P ops Q (o :: rest) a w :=
  wpList_plain hgd fun _ hK => wp_copy_fr d s dT sT ho elem hu hsz dp sp dLen dCap sLen sCap hd hs g off cur t hg cs hn hpos hfit h1 fun w' h1 h2 => hK _ _ (h w' h1 h2)
end
section
variable {P : Program} {ops : Array Oper} {rest : List Oper} {op : Oper} {a : Act} {w : World} {Q : Exit → Act → World → Prop}
/-- A whole array or struct goes into the block that was made last. -/
theorem wpList_store_new (hgd : op.guard = none) (ty : TypeId) (x y : Operand) (ho : op.op = .store ty x y) (c c' : Array Value) (hx : a.eval x = .pointer (some ⟨w.heap.size, 0, none⟩)) (hy : a.eval y = .agg c')
    (hi : (P.info? ty).map (·.size) = some c'.size) (hs : c.size = c'.size) (h1 : c'.all (·.oneCell') = true)
    (h : wpList P ops Q rest (a.put op.dst undef) (w.alloc (.cells c' ty))) : wpList P ops Q (op :: rest) a (w.alloc (.cells c ty)) :=
  wpList_plain hgd fun _ hK => by
    unfold Oper.wp execOp
    simp only [ho, hx, hy, Sem.run_bind, run_storeAt_new w ty c c' hi hs h1, Result.andThen_ok, Sem.run_pure]
    exact hK _ _ h
end
section
variable {P : Program} (w : World)
theorem step_appK {t e : TypeId} {k bytes : Nat} (het : ElemK P t e k bytes) {ops : Array Oper} {o : Oper} {a : Act} {K : Act → World → Prop} {Q : Exit → Act → World → Prop} {E : Prop} (hgd : o.guard = none) (s x : Operand)
    (ho : o.op = .call { callee := .builtin .append, args := #[s, x], argTypes := #[t, t] })
    (base n : Nat) (v : Value) (xs : List Value) (hs : a.eval s = v) (hown : OwnK w base e k v n xs)
    (ok : Nat → Prop) (A : Option Addr) (m c : Nat) (news : List Value) (hm : news.length = m * k) (hx : a.eval x = .slice A m c) (hr : Rd w ok A news) (h1 : ∀ u ∈ news, u.oneCell' = true)
    (hbytes : (n + m) * bytes ≤ 140737488355328) (h63 : n + m ≤ 140737488355328) (hbase : base ≤ w.heap.size)
    (h : ∀ v' w', OwnK w' base e k v' (n + m) (xs ++ news) → w.grownBy w' v.ownBlock → (v'.ownBlock = v.ownBlock ∨ v'.ownBlock = some w.heap.size) → K (a.put o.dst v') w') : if Region.wanted o (yielded ops a.tmps) = true then Oper.wp P o a w K Q else E := by
  have hw : Region.wanted o (yielded ops a.tmps) = true := by simp [Region.wanted, hgd]
  rw [if_pos hw]
  obtain ⟨v', w', hrun, h2, h3, h4⟩ := run_appK (P := P) w (ty := o.type) het hown (c := c) hm hr h1 hbytes h63 hbase
  unfold Oper.wp execOp
  simp only [ho, resolve, invoke, builtin, Sem.run_bind, Sem.run_pure, Result.andThen_ok, List.map_toArray, List.map_cons, List.map_nil, hs, hx, hrun]
  exact h v' w' h2 h3 h4
end
theorem wp_val {P : Program} {o : Oper} {a : Act} {w w' : World} {K : Act → World → Prop} {Q : Exit → Act → World → Prop} {v : Value} (hr : (execOp a.eval o).run P w = .ok (.value v) w') (h : K (a.put o.dst v) w') : Oper.wp P o a w K Q := by
  unfold Oper.wp
  rw [hr]
  exact h
/-- A slice literal of one write. -/
theorem run_one_wr (x : Nat × List UInt8) (h : (wrC x).length = 257) (u : World) : (Instr.buildSlice 64 1 #[(0, .agg (wrC x).toArray)]).run Tryz.prog u = .ok (.slice (some ⟨u.heap.size, 0, none⟩) 1 1) (u.alloc (.cells (wrC x).toArray 85)) := by
  obtain ⟨i0, hi, hz0, hz1, hz2⟩ := info_parts info_wr
  refine run_buildSlice u _ _ 1 _ _ i0 _ Tryz.underlying64 hi hz0 (by rw [hz1]; decide) (by rw [hz1]; decide) ?_
  rw [hz1]
  have := Great.fill_whole (s := 257) (by decide) [.agg (wrC x).toArray] ((Array.range (1 * 257)).map ((Value.agg zeroWr).cells[· % (Value.agg zeroWr).cells.size]!)) (by intro v hv; simp at hv; subst hv; simpa [Value.cells] using h) (by simp)
  simpa [Value.cells] using this
theorem size_u8 : (Tryz.prog.info? 5).map (·.size) = some 1 := by kernel_rfl
/-- Where the loose writes lie. -/
theorem wr_range {w : World} {base : Nat} {e : TypeId} {v : Value} {L : List (Nat × List UInt8)} (h : OwnK w base e 257 v L.length (many wrC L)) (hl : ∀ x ∈ L, (wrC x).length = 257) (m : Nat) (hm : m < L.length) :
    ∃ gw cap cur, v = .slice (some ⟨gw, 0, none⟩) L.length cap ∧ base ≤ gw ∧ Blk w gw e cur ∧ L.length ≤ cap ∧ w.rangeAt gw (m * 257) (wrC L[m]) := by
  obtain ⟨gw, cap, cur, hv, hb, hblk, hc, _, hcur⟩ := h.addr (by omega)
  refine ⟨gw, cap, cur, hv, hb, hblk, hc, fun j u hj => ?_⟩
  have hlt : j < (wrC L[m]).length := (List.getElem?_eq_some_iff.1 hj).1
  have hat := many_at wrC 257 L hl m hm
  have hfit := many_fits wrC 257 L hl m hm
  have h257 := hl _ (List.getElem_mem hm)
  have hj2 : m * 257 + j < (many wrC L).length := by omega
  rw [hblk.cell, hcur _ hj2, ← List.getElem?_eq_getElem hj2]
  rw [← hat, List.getElem?_take, if_pos hlt, List.getElem?_drop] at hj
  exact hj
end Go.Proofs.YtdmbmkjiffhbcaaGreat
