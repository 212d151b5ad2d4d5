/-
  What CodecOwn leans on: own rows of fresh copies, and stores into own rows.
-/
import Derived.Test.YtkhhihkcgpfmfaaApartLaw
namespace Go.Proofs.Ytkhhihkcgpfmfaa
open Go.RowKit

/-- Fresh copies of fields: the row that is owned, and each field's own row. -/
def OwnRows (w : World) (base : Nat) (v : Value) (L : List (List UInt8)) : Prop :=
  ∃ vs, Own1 w base 23 v vs ∧ vs.length = L.length ∧ ∀ (i : Nat) (h : i < vs.length) (h' : i < L.length), Own1 w base 5 vs[i] (L[i].map u8)

theorem OwnRows.nil (w : World) (base : Nat) : OwnRows w base (.slice none 0 0) [] := ⟨[], Own1.nil _ _ _, rfl, fun i hi => by simp at hi⟩

theorem OwnRows.isBB {w : World} {base : Nat} {x : Value} {L : List (List UInt8)} (h : OwnRows w base x L) : IsBB w (fun k => k < w.heap.size) x L := by
  obtain ⟨vs, ho, hl, he⟩ := h
  obtain ⟨A, c, hx, hc, hm, hr⟩ := ho.form
  rw [hl] at hx hc
  exact ⟨A, c, vs, hx, hl, hc, hm, hr.weaken fun k hk => (ho.lt k hk).2, fun i hi hi' => (he i hi' hi).isB.weaken fun k hk => ((he i hi' hi).lt k hk).2⟩

/-- One copy more: the row has been appended to, behind a step that let all that lay there be. -/
theorem OwnRows.snoc {w w1 w2 : World} {base : Nat} {v v' z : Value} {vs : List Value} {L : List (List UInt8)} {l : List UInt8} (ho : Own1 w base 23 v vs) (hl : vs.length = L.length)
    (he : ∀ (i : Nat) (h : i < vs.length) (h' : i < L.length), Own1 w base 5 vs[i] (L[i].map u8)) (hb : Below w.heap.size w w1) (hz : Own1 w1 base 5 z (l.map u8))
    (h2 : Own1 w2 base 23 v' (vs ++ [z])) (hg : w1.grownBy w2 v.ownBlock) : OwnRows w2 base v' (L ++ [l]) := by
  refine ⟨vs ++ [z], h2, by simp [hl], fun i hi hi' => ?_⟩
  rw [List.length_append, List.length_singleton] at hi
  have keep : ∀ {u : Value} {xs : List Value}, Own1 w1 base 5 u xs → Own1 w2 base 5 u xs := fun h => h.kept hg (h.apart' (ho.grow hb) (by decide))
  by_cases hil : i < vs.length
  · rw [List.getElem_append_left hil, List.getElem_append_left (by omega)]
    exact keep ((he i hil (by omega)).grow hb)
  · obtain rfl : i = vs.length := by omega
    rw [List.getElem_append_right (by omega), List.getElem_append_right (by omega)]
    simpa [hl] using keep hz

/-- A store into an own row. -/
theorem Own1.set_ {w : World} {base : Nat} {e : TypeId} {g n c : Nat} {xs : List Value} (h : Own1 w base e (.slice (some ⟨g, 0, none⟩) n c) xs) (i : Nat) (u : Value) :
    Own1 (w.setCell ⟨g, i, none⟩ u) base e (.slice (some ⟨g, 0, none⟩) n c) (xs.set i u) := by
  unfold Own1 World.ownsRow at *
  rcases h.2 with ⟨h0, _⟩ | ⟨g', cap, cur, hv, h1, h2, h3, h4, h5, h6⟩
  · cases h0
  · cases hv
    refine ⟨by simp, .inr ⟨g, c, cur.setIfInBounds i u, by simp, h1, Blk.set_ h2 i u, by simpa using h3, h4, by simpa using h5, ?_⟩⟩
    rw [Nat.mul_one] at h6 ⊢
    rw [List.length_set, Array.toList_setIfInBounds, List.take_set, h6]
/-- Where something is owned, the block and its cells. -/
theorem Own1.addr {w : World} {base : Nat} {e : TypeId} {A : Option Addr} {n c : Nat} {xs : List Value} (h : Own1 w base e (.slice A n c) xs) (hn : xs ≠ []) :
    ∃ g cur, A = some ⟨g, 0, none⟩ ∧ base ≤ g ∧ Blk w g e cur ∧ ∀ (k : Nat) (hk : k < xs.length), cur[k]? = some xs[k] := by
  unfold Own1 World.ownsRow at h
  rcases h.2 with ⟨h0, h1⟩ | ⟨g, cap, cur, hv, h1, h2, h3, h4, h5, h6⟩
  · exact absurd (List.eq_nil_of_length_eq_zero h1) hn
  · cases hv
    refine ⟨g, cur, rfl, h1, h2, fun k hk => ?_⟩
    rw [Nat.mul_one] at h6
    have : (cur.toList.take xs.length)[k]? = xs[k]? := by rw [h6]
    rw [List.getElem?_take, if_pos hk, List.getElem?_eq_getElem hk] at this
    simpa using this
theorem OwnBB.keep {w w' : World} {base : Nat} {v : Value} {L : List (List UInt8)} (h : OwnBB w base v L) (hk : ∀ k, base ≤ k → k < w.heap.size → w'.heap[k]? = w.heap[k]?) : OwnBB w' base v L := by
  obtain ⟨vs, h1, h2, h3, h4⟩ := h
  exact ⟨vs, h1.keep fun k e => hk k (h1.lt k e).1 (h1.lt k e).2, h2, fun i hi hi' => (h3 i hi hi').keep fun k e => hk k ((h3 i hi hi').lt k e).1 ((h3 i hi hi').lt k e).2, h4⟩
/-- One of the fields: where it lies, and a store into it. -/
theorem OwnBB.at_ {w : World} {base : Nat} {z : Value} {M : List (List UInt8)} (h : OwnBB w base z M) (i : Nat) (hi : i < M.length) :
    ∃ G C Ai ci, z = .slice (some ⟨G, 0, none⟩) M.length C ∧ w.cell? ⟨G, i, none⟩ = some (.slice Ai M[i].length ci) ∧ M[i].length ≤ ci ∧ ci ≤ maxLen ∧
      ∀ (k : Nat) (hk : k < M[i].length), ∃ g, Ai = some ⟨g, 0, none⟩ ∧ base ≤ g ∧ w.cell? ⟨g, k, none⟩ = some (.int .u8 (M[i][k].toNat : Int)) ∧ w.frozen? ⟨g, k, none⟩ = false ∧
        ∀ x, OwnBB (w.setCell ⟨g, k, none⟩ (u8 x)) base z (M.set i (M[i].set k x)) := by
  obtain ⟨vs, h1, h2, h3, h4⟩ := h
  have hiv : i < vs.length := by omega
  obtain ⟨A, C, hz, hc, hm, _⟩ := h1.form
  subst hz
  obtain ⟨G, cur, rfl, hG, hblk, hcur⟩ := h1.addr (by intro e; subst e; simp at hiv)
  have hi3 := h3 i hiv hi
  obtain ⟨Ai, ci, hv, hci, hcm, _⟩ := hi3.form
  rw [List.length_map] at hv hci
  refine ⟨G, C, Ai, ci, by rw [h2], ?_, hci, hcm, fun k hk => ?_⟩
  · rw [hblk.cell i, hcur i hiv, hv]
  · have hi3' := hi3
    rw [hv] at hi3'
    obtain ⟨g, cur', rfl, hg, hb', hcur'⟩ := hi3'.addr (by intro e; have := congrArg List.length e; simp at this; rw [this] at hk; simp at hk)
    have hown : vs[i].ownBlock = some g := by rw [hv]; rfl
    refine ⟨g, rfl, hg, ?_, hb'.frozen k, fun x => ?_⟩
    · rw [hb'.cell k, hcur' k (by simpa using hk), List.getElem_map]
      rfl
    · have hne : g ≠ G := fun e => by
        subst e
        exact hi3'.apart hblk (by decide) rfl
      refine ⟨vs, h1.keep fun j e => Below.heap_setCell _ _ _ j (fun e' => hne (by cases e; exact e'.symm)), by simpa using h2, fun j hj hj' => ?_, h4⟩
      rw [List.length_set] at hj'
      by_cases hji : i = j
      · subst hji
        rw [List.getElem_set_self]
        have := hi3'.set_ k (u8 x)
        rw [← List.map_set] at this
        rw [hv]
        exact this
      · rw [List.getElem_set_ne hji]
        refine (h3 j hj hj').keep fun b e => Below.heap_setCell _ _ _ b (fun e' => ?_)
        dsimp only at e'
        subst e'
        rcases Nat.lt_or_ge i j with hlt | hge
        · have := h4 i j hiv hj _ _ hlt hown e; omega
        · have := h4 j i hj hiv _ _ (by omega) e hown; omega
theorem lens_set (N : List (List UInt8)) (i k : Nat) (x : UInt8) (hi : i < N.length) : (N.set i (N[i].set k x)).map List.length = N.map List.length := by
  refine List.ext_getElem (by simp) fun j h1 h2 => ?_
  rw [List.getElem_map, List.getElem_map, List.getElem_set]
  split
  · rename_i e
    subst e
    exact List.length_set
  · rfl
theorem grownBy_cell (w : World) (g i : Nat) (u : Value) : w.grownBy (w.setCell ⟨g, i, none⟩ u) (some g) :=
  ⟨rfl, rfl, rfl, by simp, fun k _ hne => Below.heap_setCell w _ u k (fun e => hne (by rw [e]))⟩
end Go.Proofs.Ytkhhihkcgpfmfaa
