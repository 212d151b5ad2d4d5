/-
  What a sector may hold behind a cut; six rows of texts that are owned, apart from each other; the bytes of a text.
-/
import Derived.Test.YtodcjhkleiibfaaDevArr
namespace Go.Proofs.Ytodcjhkleiibfaa
open Go.RowKit
set_option maxRecDepth 100000

/-- The bytes that were written to a sector. -/
def mayL (l : List (Nat × List UInt8)) (i : Nat) : List (List UInt8) := (l.filter (fun x => x.1 == i)).map (·.2)
theorem mayL_same (l : List (Nat × List UInt8)) (i : Nat) (b : List UInt8) : mayL (l ++ [(i, b)]) i = mayL l i ++ [b] := by
  unfold mayL
  rw [List.filter_append, List.map_append]
  simp
theorem mayL_other (l : List (Nat × List UInt8)) (i j : Nat) (b : List UInt8) (h : j ≠ i) : mayL (l ++ [(i, b)]) j = mayL l j := by
  unfold mayL
  rw [List.filter_append, List.map_append]
  have : ¬ i = j := fun e => h e.symm
  simp [this]
theorem mem_mayL {l : List (Nat × List UInt8)} {x : Nat × List UInt8} (h : x ∈ l) : x.2 ∈ mayL l x.1 := by
  unfold mayL
  exact List.mem_map.2 ⟨x, List.mem_filter.2 ⟨h, by simp⟩, rfl⟩
theorem mayL_length (l : List (Nat × List UInt8)) (i : Nat) : (mayL l i).length ≤ l.length := by
  unfold mayL
  rw [List.length_map]
  exact List.length_filter_le _ _

theorem cutS_some (c : Choice) (q : Nat) (l : List (Nat × List UInt8)) : ∀ (s : List (List UInt8)) (k : Nat), q < s.length → (∀ x ∈ s, x.length = 256) → (∀ x ∈ l, x.1 < s.length ∧ x.2.length = 256) →
    (cutS c s k l).getD q [] = s.getD q [] ∨ (∃ x ∈ l, x.1 = q ∧ (cutS c s k l).getD q [] = x.2) ∨ (∃ (j : Nat) (x : Nat × List UInt8), l[j]? = some x ∧ x.1 = q ∧ c.torn = ((k + j : Nat) : Int)) := by
  induction l with
  | nil => exact fun s k _ _ _ => .inl rfl
  | cons x r ih =>
    intro s k hq hs hl
    obtain ⟨h1, h2⟩ := hl x (by simp)
    have h4 : (s.getD x.1 []).length = 256 := by
      rw [List.getD_eq_getElem?_getD, List.getElem?_eq_getElem h1]
      exact hs _ (List.getElem_mem h1)
    have hnew : (x.2.take (c.stay k) ++ (s.getD x.1 []).drop (c.stay k)).length = 256 := by
      rw [List.length_append, List.length_take, List.length_drop, h2, h4]
      omega
    have hst : (s.set x.1 (x.2.take (c.stay k) ++ (s.getD x.1 []).drop (c.stay k))).getD q [] = if x.1 = q then x.2.take (c.stay k) ++ (s.getD x.1 []).drop (c.stay k) else s.getD q [] := by
      rw [List.getD_eq_getElem?_getD, List.getElem?_set]
      by_cases he : x.1 = q
      · rw [if_pos he, if_pos he, if_pos (by omega)]; rfl
      · rw [if_neg he, if_neg he, List.getD_eq_getElem?_getD]
    show (cutS c (s.set x.1 (x.2.take (c.stay k) ++ (s.getD x.1 []).drop (c.stay k))) (k + 1) r).getD q [] = _ ∨ (∃ y ∈ x :: r, y.1 = q ∧ (cutS c (s.set x.1 (x.2.take (c.stay k) ++ (s.getD x.1 []).drop (c.stay k))) (k + 1) r).getD q [] = y.2) ∨ _
    rcases ih (s.set x.1 (x.2.take (c.stay k) ++ (s.getD x.1 []).drop (c.stay k))) (k + 1) (by rw [List.length_set]; exact hq) (set_all _ _ _ hs hnew) (fun y hy => by rw [List.length_set]; exact hl y (by simp [hy])) with h | ⟨y, hy, e, h⟩ | ⟨j, y, hj, e, h⟩
    · rw [h, hst]
      by_cases he : x.1 = q
      · rw [if_pos he]
        by_cases hk : (k : Int) ∈ c.kept
        · refine .inr (.inl ⟨x, by simp, he, ?_⟩)
          have : c.stay k = 256 := by unfold Choice.stay; rw [if_pos hk]
          rw [this, List.take_of_length_le (by omega), List.drop_eq_nil_of_le (by omega), List.append_nil]
        · by_cases ht : c.torn = (k : Int)
          · exact .inr (.inr ⟨0, x, rfl, he, by rw [ht]; simp⟩)
          · have : c.stay k = 0 := by unfold Choice.stay; rw [if_neg hk, if_neg ht]
            rw [this, List.take_zero, List.nil_append, List.drop_zero, he]
            exact .inl rfl
      · rw [if_neg he]
        exact .inl rfl
    · exact .inr (.inl ⟨y, by simp [hy], e, h⟩)
    · exact .inr (.inr ⟨j + 1, y, by simpa using hj, e, by rw [h]; omega⟩)

/-- Which sector the torn write is to, if there is one. -/
def TornOk (c : Choice) (l : List (Nat × List UInt8)) (tn : Int) : Prop := ∀ (k : Nat) (x : Nat × List UInt8), l[k]? = some x → c.torn = (k : Int) → tn = (x.1 : Int)
theorem tornOk_snoc {c : Choice} {l : List (Nat × List UInt8)} {tn : Int} (h : TornOk c l tn) (x : Nat × List UInt8) (tn' : Int) (h' : tn' = if (l.length : Int) = c.torn then (x.1 : Int) else tn) : TornOk c (l ++ [x]) tn' := by
  intro k y hk ht
  rw [List.getElem?_append] at hk
  split at hk
  · rename_i hlt
    rw [h', if_neg (by omega)]
    exact h k y hk ht
  · rename_i hge
    have hk0 : k - l.length = 0 := by
      rcases Nat.eq_zero_or_pos (k - l.length) with h0 | h0
      · exact h0
      · rw [List.getElem?_eq_none (by simp; omega)] at hk; cases hk
    rw [hk0] at hk
    simp at hk
    subst hk
    rw [h', if_pos (by omega)]
theorem cut_one {c : Choice} {D : Dev} {tn : Int} (hwf : D.Wf) (ht : TornOk c D.loose tn) (q : Nat) (hq : q < D.sure.length) :
    (cutS c D.sure 0 D.loose).getD q [] = D.sure.getD q [] ∨ (q : Int) = tn ∨ (cutS c D.sure 0 D.loose).getD q [] ∈ mayL D.loose q := by
  rcases cutS_some c q D.loose D.sure 0 hq hwf.sure hwf.loose with h | ⟨x, hx, e, h⟩ | ⟨j, x, hj, e, h⟩
  · exact .inl h
  · refine .inr (.inr ?_)
    rw [h, ← e]
    exact mem_mayL hx
  · refine .inr (.inl ?_)
    rw [ht j x hj (by rw [h]; simp), e]

/-- Six rows of texts, in a block; each is owned, and no two are the same. -/
structure MayAt (w : World) (base g : Nat) (G : Nat → Prop) (l : List (Nat × List UInt8)) (vs : Nat → Value) : Prop where
  blk : Blk w g 51 #[vs 0, vs 1, vs 2, vs 3, vs 4, vs 5]
  own : ∀ i, i < 6 → OwnK w base 9 1 (vs i) (mayL l i).length ((mayL l i).map str)
  out : ∀ i a, i < 6 → (vs i).ownBlock = some a → ¬ G a
  apart : ∀ i j a, i < 6 → j < 6 → (vs i).ownBlock = some a → (vs j).ownBlock = some a → i = j
  low : g < base
theorem MayAt.start (w : World) (G : Nat → Prop) : MayAt (w.alloc (.cells #[.slice none 0 0, .slice none 0 0, .slice none 0 0, .slice none 0 0, .slice none 0 0, .slice none 0 0] 51)) (w.heap.size + 1) w.heap.size G [] (fun _ => .slice none 0 0) :=
  ⟨Blk.new _ _ _, fun _ _ => OwnK.nil _ _ _ _, fun _ _ _ h => (nomatch h), fun _ _ _ _ _ h => (nomatch h), by omega⟩
section
variable {w w' : World} {base g : Nat} {G G' : Nat → Prop} {l : List (Nat × List UInt8)} {vs : Nat → Value}
theorem MayAt.grow (h : MayAt w base g G l vs) (hb : Below w.heap.size w w') : MayAt w' base g G l vs := ⟨h.blk.grow hb, fun i hi => (h.own i hi).grow hb, h.out, h.apart, h.low⟩
theorem MayAt.fr (h : MayAt w base g G l vs) (hf : Fr G G' w w') (hn : ¬ G g) : MayAt w' base g G' l vs :=
  ⟨(hf.blk h.blk hn).2, fun i hi => (hf.ownK (h.own i hi) (fun a ha => h.out i a hi ha)).2, fun i a hi ha => (hf.ownK (h.own i hi) (fun a ha => h.out i a hi ha)).1 a ha, h.apart, h.low⟩
theorem MayAt.cell (h : MayAt w base g G l vs) (i : Nat) (hi : i < 6) : w.cell? ⟨g, i, none⟩ = some (vs i) := by
  rw [h.blk.cell]
  have : i = 0 ∨ i = 1 ∨ i = 2 ∨ i = 3 ∨ i = 4 ∨ i = 5 := by omega
  rcases this with rfl | rfl | rfl | rfl | rfl | rfl <;> rfl
theorem MayAt.push (h : MayAt w base g G l vs) (i : Nat) (hi : i < 6) (b : List UInt8) {v0 v1 : Value} {w1 : World} (hv0 : vs i = v0) (hown : OwnK w1 base 9 1 v1 ((mayL l i).length + 1) ((mayL l i).map str ++ [str b])) (hg : w.grownBy w1 v0.ownBlock)
    (hat : v1.ownBlock = v0.ownBlock ∨ v1.ownBlock = some (w.heap.size + 1)) (hG : ∀ q, G q → q < w.heap.size) : MayAt (w1.setCell ⟨g, i, none⟩ v1) base g G (l ++ [(i, b)]) (fun j => if j = i then v1 else vs j) := by
  subst hv0
  have hlow := h.low
  have hgne : ¬ (vs i).ownBlock = some g := fun e => by have := ((h.own i hi).lt g e).1; omega
  have hb1 : Blk w1 g 51 #[vs 0, vs 1, vs 2, vs 3, vs 4, vs 5] := h.blk.grown hg hgne
  refine ⟨?_, ?_, ?_, ?_, hlow⟩
  · have := hb1.set_ i v1
    have e : (#[vs 0, vs 1, vs 2, vs 3, vs 4, vs 5] : Array Value).setIfInBounds i v1 = #[if 0 = i then v1 else vs 0, if 1 = i then v1 else vs 1, if 2 = i then v1 else vs 2, if 3 = i then v1 else vs 3, if 4 = i then v1 else vs 4, if 5 = i then v1 else vs 5] := by
      have : i = 0 ∨ i = 1 ∨ i = 2 ∨ i = 3 ∨ i = 4 ∨ i = 5 := by omega
      rcases this with rfl | rfl | rfl | rfl | rfl | rfl <;> rfl
    rw [e] at this
    exact this
  · intro j hj
    by_cases e : j = i
    · subst e
      simp only [if_true]
      rw [mayL_same, List.length_append, List.map_append]
      exact hown.keep fun a ha => Below.heap_setCell _ _ _ _ (fun e => by have := (hown.lt a ha).1; have e' : a = g := e; omega)
    · simp only [if_neg e]
      rw [mayL_other _ _ _ _ e]
      have h1 := (h.own j hj).keep (w' := w1) fun a ha => hg.block a ((h.own j hj).lt a ha).2 (fun e' => e (h.apart j i a hj hi ha e'.symm))
      exact h1.keep fun a ha => Below.heap_setCell _ _ _ _ (fun e => by have := (h1.lt a ha).1; have e' : a = g := e; omega)
  · intro j a hj ha
    by_cases e : j = i
    · subst e
      simp only [if_true] at ha
      rcases hat with h2 | h2
      · exact h.out j a hj (h2 ▸ ha)
      · rw [h2] at ha
        cases ha
        intro hq
        have := hG _ hq
        omega
    · simp only [if_neg e] at ha
      exact h.out j a hj ha
  · have key : ∀ j a, j < 6 → j ≠ i → v1.ownBlock = some a → (vs j).ownBlock = some a → False := by
      intro j a hj hne h1 h2
      rcases hat with h3 | h3
      · exact hne (h.apart j i a hj hi h2 (h3 ▸ h1))
      · rw [h3] at h1
        cases h1
        have := ((h.own j hj).lt _ h2).2
        omega
    intro j k a hj hk h1 h2
    by_cases e1 : j = i
    · by_cases e2 : k = i
      · omega
      · simp only [e1, if_true] at h1
        simp only [if_neg e2] at h2
        exact (key k a hk e2 h1 h2).elim
    · simp only [if_neg e1] at h1
      by_cases e2 : k = i
      · simp only [e2, if_true] at h2
        exact (key j a hj e1 h2 h1).elim
      · simp only [if_neg e2] at h2
        exact h.apart j k a hj hk h1 h2
end

/-- []byte(s): the bytes lie in a new block. -/
theorem str_bytes (s : List UInt8) (hs : s.length ≤ 70368744177664) (w : World) : ∃ c W, (convert 9 42 (str s)).run Try.prog w = .ok (.slice (some ⟨w.heap.size, 0, none⟩) s.length c) W ∧ IsB W (fun k => w.heap.size ≤ k) (.slice (some ⟨w.heap.size, 0, none⟩) s.length c) s ∧ Below w.heap.size w W := by
  have h := run_bytes_of_string (P := Try.prog) w 9 42 5 ⟨s.toArray⟩ Try.underlying9 Try.underlying42 Try.underlying5
  have hsz : (⟨s.toArray⟩ : ByteArray).size = s.length := by simp [ByteArray.size]
  have hge := grownCap_ge w (⟨s.toArray⟩ : ByteArray).size 0 5
  have hle := grownCap_le_maxLen w (⟨s.toArray⟩ : ByteArray).size 0 5 (by rw [hsz]; unfold maxLen; omega)
  obtain ⟨c, hc⟩ : ∃ c, c = grownCap w (⟨s.toArray⟩ : ByteArray).size 0 5 := ⟨_, rfl⟩
  rw [← hc] at h hge hle
  rw [hsz] at h hge
  refine ⟨c, _, h, ⟨_, _, rfl, hge, hle, ?_⟩, ((Below.refl _ _).drew).alloc (Nat.le_refl _) _⟩
  have hrow : (w.drew.alloc (.cells (bytesRow ⟨s.toArray⟩ c) 5 ((bytesRow ⟨s.toArray⟩ c).size, (bytesRow ⟨s.toArray⟩ c).size + 1))).heap[w.heap.size]? = some (.cells (bytesRow ⟨s.toArray⟩ c) 5 ((bytesRow ⟨s.toArray⟩ c).size, (bytesRow ⟨s.toArray⟩ c).size + 1)) := by
    show (w.heap.push _)[w.heap.size]? = _
    simp
  have := (rd_of_row hrow (fun k => w.heap.size ≤ k) (Nat.le_refl _)).take (k := s.length)
  have e : (bytesRow ⟨s.toArray⟩ c).toList.take s.length = s.map u8 := by
    unfold bytesRow
    rw [Array.toList_append, List.take_append_of_le_length (by simp), List.take_of_length_le (by simp), Array.toList_map]
    rfl
  rwa [e] at this
end Go.Proofs.Ytodcjhkleiibfaa
