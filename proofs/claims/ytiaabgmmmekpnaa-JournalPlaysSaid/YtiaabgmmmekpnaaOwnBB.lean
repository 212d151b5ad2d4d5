/-
  Rows of rows of bytes that are owned; what stays when a block is turned that is none of cells.
-/
import Derived.Test.YtiaabgmmmekpnaaFields
namespace Go.Proofs.Ytiaabgmmmekpnaa
open Go.RowKit Go.Shelf
set_option maxRecDepth 100000
attribute [local go_sem] Oper.semAt_some

theorem elemBB : ElemT Try.prog 44 48 24 := ElemT.mk_ (z := .slice none 0 0) Try.underlying44 (by kernel_rfl) rfl

/-- Fresh fields: the row that is owned, and each field's own row, one behind the other. -/
def OwnBB (w : World) (base : Nat) (v : Value) (L : List (List UInt8)) : Prop :=
  ∃ vs, Own1 w base 48 v vs ∧ vs.length = L.length ∧ (∀ (i : Nat) (h : i < vs.length) (h' : i < L.length), Own1 w base 5 vs[i] (L[i].map u8)) ∧
    ∀ (i j : Nat) (hi : i < vs.length) (hj : j < vs.length) (k k' : Nat), i < j → vs[i].ownBlock = some k → vs[j].ownBlock = some k' → k < k'

section
variable {w w' : World} {row : Option Nat}
/-- A block of cells abides the turn of a block that is none. -/
theorem Blk.other {g : Nat} {t : TypeId} {cs : Array Value} (h : Blk w g t cs) (hg : w.grownBy w' row) (hr : ∀ r, row = some r → ∃ o : Obj, w.heap[r]? = some o ∧ o.isCells = false) : Blk w' g t cs :=
  h.grown hg fun e => by
    obtain ⟨o, ho, hc⟩ := hr g e
    unfold Blk at h
    rw [h] at ho
    cases ho
    cases hc
theorem Own1.other {base : Nat} {e : TypeId} {v : Value} {xs : List Value} (h : Own1 w base e v xs) (hg : w.grownBy w' row) (hr : ∀ r, row = some r → ∃ o : Obj, w.heap[r]? = some o ∧ o.isCells = false) : Own1 w' base e v xs := by
  cases xs with
  | nil =>
    refine h.keep fun k hk => ?_
    unfold Own1 World.ownsRow at h
    rcases h.2 with ⟨rfl, _⟩ | ⟨g, cap, cur, rfl, _, hh, _⟩
    · simp [Value.ownBlock] at hk
    · simp [Value.ownBlock] at hk
      subst hk
      exact (Blk.other (w := w) (t := e) hh hg hr).trans hh.symm
  | cons x r =>
    obtain ⟨g, cap, cur, rfl, _, hb, _⟩ := h.cons_form
    refine h.keep fun k hk => ?_
    simp [Value.ownBlock] at hk
    subst hk
    exact (hb.other hg hr).trans hb.symm
theorem Own1.apart {base : Nat} {e t : TypeId} {v : Value} {xs : List Value} {g : Nat} {cs : Array Value} (h : Own1 w base e v xs) (hb : Blk w g t cs) (hne : e ≠ t) : v.ownBlock ≠ some g := by
  unfold Own1 World.ownsRow at h
  rcases h.2 with ⟨rfl, _⟩ | ⟨g', cap, cur, rfl, _, hh, _⟩
  · simp [Value.ownBlock]
  · intro he
    simp [Value.ownBlock] at he
    subst he
    unfold Blk at hb
    rw [hh] at hb
    cases hb
    exact hne rfl
theorem Own1.apart' {base base' : Nat} {e e' : TypeId} {v v' : Value} {xs xs' : List Value} (h : Own1 w base e v xs) (h' : Own1 w base' e' v' xs') (hne : e ≠ e') : v.ownBlock = none ∨ v.ownBlock ≠ v'.ownBlock := by
  unfold Own1 World.ownsRow at h'
  rcases h'.2 with ⟨rfl, _⟩ | ⟨g', cap, cur, rfl, _, hh, _⟩
  · cases hv : v.ownBlock with
    | none => exact .inl rfl
    | some k => exact .inr (by simp [Value.ownBlock])
  · exact .inr (h.apart (show Blk w g' e' cur from hh) hne)
theorem Own1.cells_at {base : Nat} {e : TypeId} {v : Value} {xs : List Value} (h : Own1 w base e v xs) : ∀ k, v.ownBlock = some k → ∃ c t fz, w.heap[k]? = some (.cells c t fz) := fun k hk => by
  unfold Own1 World.ownsRow at h
  rcases h.2 with ⟨rfl, _⟩ | ⟨g, cap, cur, rfl, _, hh, _⟩
  · simp [Value.ownBlock] at hk
  · simp [Value.ownBlock] at hk
    subst hk
    exact ⟨_, _, _, hh⟩
theorem keepsFrom_grown {B : Nat} (hg : w.grownBy w' row) (hr : ∀ k, row = some k → ∃ c t fz, w.heap[k]? = some (.cells c t fz)) : KeepsFrom B w w' :=
  ⟨hg.size, fun k o _ hk ho => (hg.block k (Array.getElem?_eq_some_iff.1 hk).1 fun e => by
    obtain ⟨c, t, fz, h⟩ := hr k e.symm
    rw [h] at hk
    cases hk
    cases ho).trans hk⟩
theorem keepsFrom_set {B : Nat} (g i : Nat) (u : Value) : KeepsFrom B w (w.setCell ⟨g, i, none⟩ u) := (KeepsOthers.setCell w _ u).from B
end
end Go.Proofs.Ytiaabgmmmekpnaa
