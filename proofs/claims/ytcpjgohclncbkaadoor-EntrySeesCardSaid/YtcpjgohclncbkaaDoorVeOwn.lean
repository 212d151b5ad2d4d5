/-
  Versions that the call owns: where each lies, and stores into them.
-/
import Derived.Test.YtcpjgohclncbkaaDoorVeOne
namespace Go.Proofs.YtcpjgohclncbkaaDoor
open Go.RowKit
set_option maxRecDepth 100000

theorem splice_cons {α : Type} (xs : List α) (o : Nat) (u : α) (r : List α) (h : o + (r.length + 1) ≤ xs.length) : splice (xs.set o u) (o + 1) r = splice xs o (u :: r) := by
  have e : (xs.set o u).take (o + 1) = xs.take o ++ [u] := by
    rw [List.take_succ_eq_append_getElem (by simp; omega), List.getElem_set_self, List.take_set_of_le (Nat.le_refl _)]
  unfold splice
  rw [e, List.drop_set_of_lt (by omega), List.length_cons, show o + 1 + r.length = o + (r.length + 1) by omega]
  simp
theorem splice_front {α : Type} (A B : List α) (j : Nat) (vs : List α) : splice (A ++ B) (A.length + j) vs = A ++ splice B j vs := by
  unfold splice
  rw [List.take_length_add_append, show A.length + j + vs.length = A.length + (j + vs.length) by omega, List.drop_length_add_append, List.append_assoc]
theorem splice_back {α : Type} (B C : List α) (j : Nat) (vs : List α) (h : j + vs.length ≤ B.length) : splice (B ++ C) j vs = splice B j vs ++ C := by
  unfold splice
  rw [List.take_append_of_le_length (by omega), List.drop_append_of_le_length h]
  simp
theorem splice_all {α : Type} (B vs : List α) (h : vs.length = B.length) : splice B 0 vs = vs := by
  unfold splice
  rw [List.take_zero, List.nil_append, Nat.zero_add, h, List.drop_length, List.append_nil]
theorem OwnK.setCells {base : Nat} {e : TypeId} {k n g c : Nat} (vs : List Value) : ∀ (o : Nat) (w : World) (xs : List Value), OwnK w base e k (.slice (some ⟨g, 0, none⟩) n c) n xs → o + vs.length ≤ xs.length → OwnK (w.setCells g o vs) base e k (.slice (some ⟨g, 0, none⟩) n c) n (splice xs o vs) := by
  induction vs with
  | nil => intro o w xs h _; rw [show splice xs o [] = xs by simp [splice]]; exact h
  | cons u r ih =>
    intro o w xs h hl
    rw [List.length_cons] at hl
    have := ih (o + 1) _ _ (OwnK.set_ h o u) (by rw [List.length_set]; omega)
    rw [splice_cons xs o u r hl] at this
    exact this
theorem below_setCells {B g : Nat} {a w : World} (h : Below B a w) (hg : B ≤ g) (hB : B ≤ w.heap.size) (o : Nat) (vs : List Value) : Below B a (w.setCells g o vs) := by
  refine h.trans ((Fr.setCells (Fr.refl (· = g) w) rfl o vs).below (fun k (hk : k = g) => by omega) hB)
end Go.Proofs.YtcpjgohclncbkaaDoor
