/-
  Frames: what stays and what is written; many cells stored at once; copies of a text into bytes.
-/
import Derived.Test.YtcpjgohclncbkaaDoorKinds2
import Derived.Test.YtcpjgohclncbkaaDoorPlainKit
import Derived.Deep.MidRow
import Derived.Laws.CopyOwn
import Derived.Lib.Hide
import Derived.WalkSpells
import Derived.Deep.RegionHeld3
import Derived.Deep.OwnRows
import Derived.Deep.WholeRow
import Derived.Laws.Tables
import Derived.OwnWalk
import Derived.IntWalk
namespace Go.Proofs.YtcpjgohclncbkaaDoor
open Go.RowKit

/-- From w to w' only blocks of F were written; what is there anew may be F's, or not. -/
structure Fr (F F' : Nat → Prop) (w w' : World) : Prop where
  os : w'.os = w.os
  tape : w'.tape = w.tape
  output : w'.output = w.output
  size : w.heap.size ≤ w'.heap.size
  block : ∀ k, k < w.heap.size → ¬ F k → ¬ F' k ∧ w'.heap[k]? = w.heap[k]?
section
variable {F F' F1 : Nat → Prop} {w w' w1 : World}
theorem Fr.refl (F : Nat → Prop) (w : World) : Fr F F w w := ⟨rfl, rfl, rfl, Nat.le_refl _, fun _ _ h => ⟨h, rfl⟩⟩
theorem Fr.trans (h : Fr F F1 w w1) (h' : Fr F1 F' w1 w') : Fr F F' w w' :=
  ⟨h'.os.trans h.os, h'.tape.trans h.tape, h'.output.trans h.output, Nat.le_trans h.size h'.size, fun k hk hF => by
    obtain ⟨a, b⟩ := h.block k hk hF
    obtain ⟨c, d⟩ := h'.block k (Nat.lt_of_lt_of_le hk h.size) a
    exact ⟨c, d.trans b⟩⟩
theorem Fr.below {B : Nat} (h : Fr F F' w w') (hF : ∀ k, F k → B ≤ k) (hB : B ≤ w.heap.size) : Below B w w' :=
  ⟨h.os, h.tape, h.output, h.size, fun k hk => (h.block k (by omega) (fun hf => by have := hF k hf; omega)).2⟩
theorem Fr.of_below (h : Below w.heap.size w w') (F : Nat → Prop) : Fr F F w w' := ⟨h.os, h.tape, h.output, h.size, fun k hk hF => ⟨hF, h.block k hk⟩⟩
theorem Fr.alloc (h : Fr F F' w w') (o : Obj) : Fr F F' w (w'.alloc o) := h.trans (Fr.of_below ((Below.refl _ _).alloc (Nat.le_refl _) o) _)
theorem Fr.drew (h : Fr F F' w w') : Fr F F' w w'.drew := ⟨h.os, h.tape, h.output, h.size, h.block⟩
theorem Fr.drewN (h : Fr F F' w w') (n : Nat) : Fr F F' w (w'.drewN n) := ⟨h.os, h.tape, h.output, h.size, h.block⟩
theorem Fr.setCell (h : Fr F F' w w') {p : Addr} (hp : F' p.block) (u : Value) : Fr F F' w (w'.setCell p u) :=
  h.trans ⟨rfl, rfl, rfl, by simp [World.setCell], fun k _ hF => ⟨hF, Below.heap_setCell _ _ _ _ (fun e => hF (e ▸ hp))⟩⟩
theorem heap_setCells (b : Nat) (vs : List Value) (o : Nat) (w : World) (k : Nat) (h : k ≠ b) : (w.setCells b o vs).heap[k]? = w.heap[k]? := by
  induction vs generalizing o w with
  | nil => rfl
  | cons v r ih => rw [World.setCells, ih, Below.heap_setCell _ _ _ _ (by simpa using h)]
theorem size_setCells (b : Nat) (vs : List Value) (o : Nat) (w : World) : (w.setCells b o vs).heap.size = w.heap.size := by
  induction vs generalizing o w with
  | nil => rfl
  | cons v r ih => rw [World.setCells, ih]; simp [World.setCell]
theorem same_setCells (b : Nat) (vs : List Value) (o : Nat) (w : World) : (w.setCells b o vs).os = w.os ∧ (w.setCells b o vs).tape = w.tape ∧ (w.setCells b o vs).output = w.output := by
  induction vs generalizing o w with
  | nil => exact ⟨rfl, rfl, rfl⟩
  | cons v r ih => rw [World.setCells]; exact ih _ _
theorem Fr.setCells (h : Fr F F' w w') {b : Nat} (hb : F' b) (o : Nat) (vs : List Value) : Fr F F' w (w'.setCells b o vs) :=
  h.trans ⟨(same_setCells b vs o w').1, (same_setCells b vs o w').2.1, (same_setCells b vs o w').2.2, by rw [size_setCells]; exact Nat.le_refl _, fun k _ hF => ⟨hF, heap_setCells _ _ _ _ _ (fun e => hF (e ▸ hb))⟩⟩
theorem Fr.grown (h : Fr F F' w w') {w2 : World} {row : Option Nat} (hg : w'.grownBy w2 row) (hr : ∀ k, row = some k → F' k) : Fr F F' w w2 :=
  h.trans ⟨hg.os, hg.tape, hg.output, hg.size, fun k hk hF => ⟨hF, hg.block k hk (fun e => hF (hr k e.symm))⟩⟩
/-- The set may grow by what is new. -/
theorem Fr.more {F2 : Nat → Prop} (h : Fr F F' w w') (hm : ∀ k, F2 k → F' k ∨ w.heap.size ≤ k) : Fr F F2 w w' :=
  ⟨h.os, h.tape, h.output, h.size, fun k hk hF => ⟨fun h2 => by rcases hm k h2 with h3 | h3; exact (h.block k hk hF).1 h3; omega, (h.block k hk hF).2⟩⟩
theorem Fr.kind {α : Type} (K : Kind α) (h : Fr F F' w w') {cs : List Value} {a : α} (hr : K.R w (fun k => ¬ F k) cs a) : K.R w' (fun k => ¬ F' k) cs a := K.move hr fun k hk hl => h.block k hl hk
theorem Fr.isL {α : Type} {K : Kind α} (h : Fr F F' w w') {v : Value} {L : List α} (hr : IsL K w (fun k => ¬ F k) v L) : IsL K w' (fun k => ¬ F' k) v L := hr.move fun k hk hl => h.block k hl hk
theorem Fr.rd (h : Fr F F' w w') {A : Option Addr} {xs : List Value} (hr : Rd w (fun k => ¬ F k) A xs) : Rd w' (fun k => ¬ F' k) A xs := hr.move fun k hk hl => h.block k hl hk
end

/-! ### Many cells of a block that is known whole -/
section
variable {w : World} {g : Nat} {t : TypeId}
theorem Blk.setCells (vs : List Value) : ∀ (o : Nat) (w : World) (cs : List Value), Blk w g t cs.toArray → o + vs.length ≤ cs.length → Blk (w.setCells g o vs) g t (splice cs o vs).toArray := by
  induction vs with
  | nil =>
    intro o w cs h _
    show Blk w g t _
    rw [show splice cs o [] = cs by simp [splice]]
    exact h
  | cons v r ih =>
    intro o w cs h hl
    rw [List.length_cons] at hl
    have h1 := h.set_ o v
    rw [List.setIfInBounds_toArray] at h1
    have h2 := ih (o + 1) _ _ h1 (by rw [List.length_set]; omega)
    have e : splice (cs.set o v) (o + 1) r = splice cs o (v :: r) := by
      have := list_seg_step cs o v r (by omega)
      unfold splice
      rw [List.append_assoc] at this
      rw [this, List.append_assoc, List.length_cons]
    rw [e] at h2
    exact h2

theorem Blk.there {cs : List Value} (h : Blk w g t cs.toArray) (o n : Nat) (hn : o + n ≤ cs.length) : w.there g o n := fun j hj => by
  refine ⟨?_, h.frozen _⟩
  rw [h.cell]
  simp
  omega
theorem Rd.range {ok : Nat → Prop} {b off : Nat} {xs : List Value} (h : Rd w ok (some ⟨b, off, none⟩) xs) : w.rangeAt b off xs := fun j v hj => by
  have hn : xs ≠ [] := by intro e; subst e; simp at hj
  obtain ⟨b', off', e, _, _, hc⟩ := h.at' hn
  cases e
  obtain ⟨hlt, rfl⟩ := List.getElem?_eq_some_iff.1 hj
  exact hc j hlt
end

/-! ### Elements of so many cells, one behind the other -/
section
variable {α : Type}
/-- The cells of a list of elements. -/
def many (f : α → List Value) (L : List α) : List Value := (L.map f).flatten
end
theorem Fr.setRow (g : Nat) (w : World) (cs : Array Value) : Fr (· = g) (· = g) w (w.setRow g cs) := ⟨rfl, rfl, rfl, by simp [World.setRow], fun k _ hF => ⟨hF, setRow_other w g k cs (fun e => hF e)⟩⟩
section
variable {P : Program} {w : World}
end
theorem madeCells_rep (v : Value) (k n : Nat) (hk : 0 < k) : madeCells (Array.replicate k v) n = Array.replicate n v := by
  apply Array.ext_getElem?
  intro i
  unfold madeCells
  by_cases h : i < n
  · have : i % k < k := Nat.mod_lt _ hk
    simp [h, this]
  · simp [h]
end Go.Proofs.YtcpjgohclncbkaaDoor
