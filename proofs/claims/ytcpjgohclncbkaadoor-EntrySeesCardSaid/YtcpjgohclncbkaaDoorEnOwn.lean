/-
  Versions that the call owns: where each lies, and stores into them.
-/
import Derived.Test.YtcpjgohclncbkaaDoorVeOwn
import Derived.Test.YtcpjgohclncbkaaDoorVeOne
import Derived.Test.YtcpjgohclncbkaaDoorEnOne
namespace Go.Proofs.YtcpjgohclncbkaaDoor
open Go.RowKit
set_option maxRecDepth 100000

theorem entsC_splice (L : List Ent) : ∀ (k : Nat) (X : Ent) (j : Nat) (vs : List Value) (_ : k < L.length), j + vs.length ≤ 15 → splice (entC L[k]).toList j vs = (entC X).toList → splice (entsC L) (k * 15 + j) vs = entsC (L.set k X) := by
  induction L with
  | nil => intro k X j vs h; simp at h
  | cons a L ih =>
    intro k X j vs h hj hX
    have hl : (entC a).toList.length = 15 := rfl
    unfold entsC at *
    rw [List.flatMap_cons]
    cases k with
    | zero =>
      rw [List.getElem_cons_zero] at hX
      rw [Nat.zero_mul, Nat.zero_add, splice_back _ _ _ _ (by rw [hl]; exact hj), hX, List.set_cons_zero, List.flatMap_cons]
    | succ k =>
      rw [List.getElem_cons_succ] at hX
      rw [show (k + 1) * 15 + j = (entC a).toList.length + (k * 15 + j) by rw [hl]; omega, splice_front, List.set_cons_succ, List.flatMap_cons]
      rw [ih k X j vs (by simpa using h) hj hX]
theorem entsC_at (L : List Ent) : ∀ (k : Nat) (_ : k < L.length) (j : Nat) (u : Value), (entC L[k]).toList[j]? = some u → (entsC L)[k * 15 + j]? = some u := by
  induction L with
  | nil => intro k h; simp at h
  | cons a L ih =>
    intro k h j u hu
    have hl : (entC a).toList.length = 15 := rfl
    unfold entsC at *
    rw [List.flatMap_cons]
    cases k with
    | zero =>
      rw [List.getElem_cons_zero] at hu
      have hj : j < (entC a).toList.length := (List.getElem?_eq_some_iff.1 hu).1
      rw [Nat.zero_mul, Nat.zero_add, List.getElem?_append_left hj, hu]
    | succ k =>
      rw [List.getElem_cons_succ] at hu
      rw [List.getElem?_append_right (by rw [hl]; omega), hl, show (k + 1) * 15 + j - 15 = k * 15 + j by omega]
      exact ih k (by simpa using h) j u hu
/-- An own version: where it lies. -/
theorem OwnE.elem {w : World} {base : Nat} {v : Value} {L : List Ent} (h : OwnE w base v L) {k : Nat} (hk : k < L.length) :
    ∃ g cap, v = .slice (some ⟨g, 0, none⟩) L.length cap ∧ L.length ≤ cap ∧ cap ≤ maxLen ∧ base ≤ g ∧ g < w.heap.size ∧ w.rangeAt g (k * 15) (entC L[k]).toList ∧ w.there g (k * 15) 15 := by
  obtain ⟨g, cap, cur, hv, hb, hblk, h1, h2, h3⟩ := OwnK.addr h.1 (by omega)
  have hat : ∀ j u, (entC L[k]).toList[j]? = some u → cur[k * 15 + j]? = some u := fun j u hu => by
    have := entsC_at L k hk j u hu
    obtain ⟨hl, e⟩ := List.getElem?_eq_some_iff.1 this
    rw [h3 _ hl, e]
  refine ⟨g, cap, hv, h1, h2, hb, hblk.lt, fun j u hu => by rw [hblk.cell]; exact hat j u hu, fun j hj => ?_⟩
  rw [hblk.cell, hblk.frozen]
  rw [hat j _ (List.getElem?_eq_getElem (show j < (entC L[k]).toList.length from hj))]
  exact ⟨rfl, rfl⟩
theorem OwnE.at_ {w : World} {base : Nat} {g m c : Nat} {L : List Ent} (h : OwnE w base (.slice (some ⟨g, 0, none⟩) m c) L) {k : Nat} (hk : k < L.length) : w.rangeAt g (k * 15) (entC L[k]).toList ∧ w.there g (k * 15) 15 := by
  obtain ⟨g2, cap, he, _, _, _, _, h1, h2⟩ := h.elem hk
  injection he with he _ _
  injection he with he
  injection he with he _ _
  subst he
  exact ⟨h1, h2⟩
/-- A store into an own version. -/
theorem OwnE.store {w : World} {base : Nat} {L : List Ent} {g c : Nat} (h : OwnE w base (.slice (some ⟨g, 0, none⟩) L.length c) L) {k : Nat} (hk : k < L.length) (X : Ent) (hX : EntOk X) (j : Nat) (vs : List Value) (hj : j + vs.length ≤ 15)
    (he : splice (entC L[k]).toList j vs = (entC X).toList) : OwnE (w.setCells g (k * 15 + j) vs) base (.slice (some ⟨g, 0, none⟩) L.length c) (L.set k X) := by
  refine ⟨?_, fun y hy => ?_⟩
  · have := OwnK.setCells vs (k * 15 + j) w _ h.1 (by rw [entsC_length]; omega)
    rw [entsC_splice L k X j vs hk hj he] at this
    rw [List.length_set]
    exact this
  · rcases List.mem_or_eq_of_mem_set hy with hy | hy
    · exact h.2 y hy
    · subst hy; exact hX
end Go.Proofs.YtcpjgohclncbkaaDoor
