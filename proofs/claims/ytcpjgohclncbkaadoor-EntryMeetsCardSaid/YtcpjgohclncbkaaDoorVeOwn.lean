/-
  Versions that the call owns: where each lies, and stores into them.
-/
import Derived.Test.YtcpjgohclncbkaaDoorVeOne
namespace Go.Proofs.YtcpjgohclncbkaaDoor
open Go.RowKit
set_option maxRecDepth 100000

theorem splice_cons {α : Type} (xs : List α) (o : Nat) (u : α) (r : List α) (h : o + (r.length + 1) ≤ xs.length) : splice (xs.set o u) (o + 1) r = splice xs o (u :: r) := by
  have e : (xs.set o u).take (o + 1) = xs.take o ++ [u] := by
    rw [List.take_succ_eq_append_getElem (by simp; omega), List.getElem_set_self, List.take_set_of_le (Nat.le_refl _)]
  unfold splice
  rw [e, List.drop_set_of_lt (by omega), List.length_cons, show o + 1 + r.length = o + (r.length + 1) by omega]
  simp
theorem splice_front {α : Type} (A B : List α) (j : Nat) (vs : List α) : splice (A ++ B) (A.length + j) vs = A ++ splice B j vs := by
  unfold splice
  rw [List.take_length_add_append, show A.length + j + vs.length = A.length + (j + vs.length) by omega, List.drop_length_add_append, List.append_assoc]
theorem splice_back {α : Type} (B C : List α) (j : Nat) (vs : List α) (h : j + vs.length ≤ B.length) : splice (B ++ C) j vs = splice B j vs ++ C := by
  unfold splice
  rw [List.take_append_of_le_length (by omega), List.drop_append_of_le_length h]
  simp
theorem splice_same {α : Type} (L : List α) (o : Nat) (vs : List α) (h : (L.drop o).take vs.length = vs) : splice L o vs = L := by
  unfold splice
  have : vs ++ L.drop (o + vs.length) = L.drop o := by
    conv => rhs; rw [← List.take_append_drop vs.length (L.drop o), h, List.drop_drop]
  rw [this, List.take_append_drop]
theorem splice_all {α : Type} (B vs : List α) (h : vs.length = B.length) : splice B 0 vs = vs := by
  unfold splice
  rw [List.take_zero, List.nil_append, Nat.zero_add, h, List.drop_length, List.append_nil]
theorem OwnK.setCells {base : Nat} {e : TypeId} {k n g c : Nat} (vs : List Value) : ∀ (o : Nat) (w : World) (xs : List Value), OwnK w base e k (.slice (some ⟨g, 0, none⟩) n c) n xs → o + vs.length ≤ xs.length → OwnK (w.setCells g o vs) base e k (.slice (some ⟨g, 0, none⟩) n c) n (splice xs o vs) := by
  induction vs with
  | nil => intro o w xs h _; rw [show splice xs o [] = xs by simp [splice]]; exact h
  | cons u r ih =>
    intro o w xs h hl
    rw [List.length_cons] at hl
    have := ih (o + 1) _ _ (OwnK.set_ h o u) (by rw [List.length_set]; omega)
    rw [splice_cons xs o u r hl] at this
    exact this
theorem versC_splice (L : List Ver) : ∀ (k : Nat) (X : Ver) (j : Nat) (vs : List Value) (_ : k < L.length), j + vs.length ≤ 11 → splice (verC L[k]).toList j vs = (verC X).toList → splice (versC L) (k * 11 + j) vs = versC (L.set k X) := by
  induction L with
  | nil => intro k X j vs h; simp at h
  | cons a L ih =>
    intro k X j vs h hj hX
    have hl : (verC a).toList.length = 11 := rfl
    unfold versC at *
    rw [List.flatMap_cons]
    cases k with
    | zero =>
      rw [List.getElem_cons_zero] at hX
      rw [Nat.zero_mul, Nat.zero_add, splice_back _ _ _ _ (by rw [hl]; exact hj), hX, List.set_cons_zero, List.flatMap_cons]
    | succ k =>
      rw [List.getElem_cons_succ] at hX
      rw [show (k + 1) * 11 + j = (verC a).toList.length + (k * 11 + j) by rw [hl]; omega, splice_front, List.set_cons_succ, List.flatMap_cons]
      rw [ih k X j vs (by simpa using h) hj hX]
theorem versC_at (L : List Ver) : ∀ (k : Nat) (_ : k < L.length) (j : Nat) (u : Value), (verC L[k]).toList[j]? = some u → (versC L)[k * 11 + j]? = some u := by
  induction L with
  | nil => intro k h; simp at h
  | cons a L ih =>
    intro k h j u hu
    have hl : (verC a).toList.length = 11 := rfl
    unfold versC at *
    rw [List.flatMap_cons]
    cases k with
    | zero =>
      rw [List.getElem_cons_zero] at hu
      have hj : j < (verC a).toList.length := (List.getElem?_eq_some_iff.1 hu).1
      rw [Nat.zero_mul, Nat.zero_add, List.getElem?_append_left hj, hu]
    | succ k =>
      rw [List.getElem_cons_succ] at hu
      rw [List.getElem?_append_right (by rw [hl]; omega), hl, show (k + 1) * 11 + j - 11 = k * 11 + j by omega]
      exact ih k (by simpa using h) j u hu
theorem there_part {w : World} {g o n a m : Nat} (h : w.there g o n) (hm : a + m ≤ n) : w.there g (o + a) m := fun j hj => by rw [Nat.add_assoc]; exact h (a + j) (by omega)
theorem below_setCells {B g : Nat} {a w : World} (h : Below B a w) (hg : B ≤ g) (hB : B ≤ w.heap.size) (o : Nat) (vs : List Value) : Below B a (w.setCells g o vs) := by
  refine h.trans ((Fr.setCells (Fr.refl (· = g) w) rfl o vs).below (fun k (hk : k = g) => by omega) hB)
end Go.Proofs.YtcpjgohclncbkaaDoor
