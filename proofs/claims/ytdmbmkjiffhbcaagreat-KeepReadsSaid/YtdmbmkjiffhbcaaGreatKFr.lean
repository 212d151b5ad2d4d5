/-
  Lists that lie outside a footprint; pairs that agree.
-/
import Derived.Test.YtdmbmkjiffhbcaaGreatKLikeLaw
import Derived.Test.YtdmbmkjiffhbcaaGreatKRefCh
namespace Go.Proofs.YtdmbmkjiffhbcaaGreat
open Go.RowKit
set_option maxRecDepth 100000

theorem IsL.fr {α : Type} {K : Kind α} {w w' : World} {Fp Fp' : Nat → Prop} {v : Value} {L : List α} (h : IsL K w (fun k => k < w.heap.size ∧ ¬ Fp k) v L) (hf : Fr Fp Fp' w w') : IsL K w' (fun k => k < w'.heap.size ∧ ¬ Fp' k) v L :=
  h.move fun k hk hl => ⟨⟨Nat.lt_of_lt_of_le hl hf.size, (hf.block k hl hk.2).1⟩, (hf.block k hl hk.2).2⟩
theorem RepL.agree {G G' : Nat → Option (List UInt8)} {l : PairL} (h : RepL G l) (e : ∀ k, k < 18446744073709551616 → G' k = G k) : RepL G' l := ⟨h.rise, h.most, fun k v hk => by rw [e k hk]; exact h.holds k v hk⟩
theorem puts_keys {w : World} {ok : Nat → Prop} {v : Value} {L : List PutM} (h : IsL kPut w ok v L) : ∀ p ∈ L, p.key < 18446744073709551616 := by
  intro p hp
  obtain ⟨i, hi, rfl⟩ := List.getElem_of_mem hp
  obtain ⟨A, c, _, _, _, hel⟩ := put_at h
  obtain ⟨b, off, _, _, _, hc⟩ := hel (by intro e; subst e; cases hi)
  obtain ⟨_, _, _, _, _, h, _⟩ := hc i hi
  exact h
theorem isL_len {α : Type} {K : Kind α} {w : World} {ok : Nat → Prop} {v : Value} {L : List α} (h : IsL K w ok v L) : ∃ A c, v = .slice A L.length c ∧ L.length ≤ c ∧ c ≤ maxLen := by
  obtain ⟨A, c, _, e, h1, h2, _⟩ := h
  exact ⟨A, c, e, h1, h2⟩
theorem rise_length : ∀ (ys : List Nat) (a n : Nat), ys.Pairwise (· < ·) → (∀ y ∈ ys, a ≤ y ∧ y < n) → ys.length ≤ n - a := by
  intro ys
  induction ys with
  | nil => intro a n _ _; exact Nat.zero_le _
  | cons y ys ih =>
    intro a n hp h
    rw [List.pairwise_cons] at hp
    have h1 := h y (by simp)
    have h2 := ih (y + 1) n hp.2 fun z hz => ⟨hp.1 z hz, (h z (by simp [hz])).2⟩
    rw [List.length_cons]
    omega
end Go.Proofs.YtdmbmkjiffhbcaaGreat
