/-
  The document's pairs: Change and Apply over rising lists of pairs, and what they have to do with pairs as a function.
-/
import Derived.Test.YtdmbmkjiffhbcaaGreatPuts
namespace Go.Proofs.YtdmbmkjiffhbcaaGreat
open Go.RowKit

abbrev PairL := List (Nat × List UInt8)
/-- The document's Change, from somewhere in the list on. -/
def chgR (k : Nat) (v : List UInt8) : PairL → Bool → PairL → PairL
  | [], put, out => if put then out else out ++ [(k, v)]
  | p :: l, put, out => chgR k v l (put || decide (k < p.1)) ((if !put && decide (k < p.1) then out ++ [(k, v)] else out) ++ (if p.1 = k then [] else [p]))
def changeR (l : PairL) (k : Nat) (v : List UInt8) (gone : Bool) : PairL := chgR k v l gone []
def applyR (l : PairL) (L : List PutM) : PairL := L.foldl (fun l p => changeR l p.key p.val p.gone) l
theorem chgR_put (k : Nat) (v : List UInt8) : ∀ (l out : PairL), chgR k v l true out = out ++ l.filter (fun p => decide (p.1 ≠ k)) := by
  intro l
  induction l with
  | nil => intro out; simp [chgR]
  | cons p l ih =>
    intro out
    unfold chgR
    rw [Bool.true_or, ih]
    by_cases e : p.1 = k
    · simp [e]
    · simp [e]
theorem chgR_more (k : Nat) (v : List UInt8) : ∀ (l out : PairL), (l.map (·.1)).Pairwise (· < ·) → chgR k v l false out = out ++ l.filter (fun p => decide (p.1 < k)) ++ (k, v) :: l.filter (fun p => decide (k < p.1)) := by
  intro l
  induction l with
  | nil => intro out _; simp [chgR]
  | cons p l ih =>
    intro out hs
    rw [List.map_cons, List.pairwise_cons] at hs
    unfold chgR
    by_cases h : k < p.1
    · have h1 : ∀ q ∈ l, k < q.1 := fun q hq => Nat.lt_trans h (hs.1 q.1 (List.mem_map.2 ⟨q, hq, rfl⟩))
      have e1 : l.filter (fun p => decide (p.1 ≠ k)) = l := List.filter_eq_self.2 fun q hq => by have := h1 q hq; simp; omega
      have e2 : l.filter (fun p => decide (p.1 < k)) = [] := List.filter_eq_nil_iff.2 fun q hq => by have := h1 q hq; simp; omega
      have e3 : l.filter (fun p => decide (k < p.1)) = l := List.filter_eq_self.2 fun q hq => by have := h1 q hq; simp; omega
      have hne : ¬ p.1 = k := by omega
      have hnl : ¬ p.1 < k := by omega
      rw [Bool.false_or, decide_eq_true h, chgR_put, e1, List.filter_cons_of_neg (by simp; omega), e2, List.filter_cons_of_pos (by simp; exact h), e3]
      simp [hne]
    · rw [Bool.false_or, decide_eq_false h, ih _ hs.2]
      by_cases e : p.1 = k
      · rw [List.filter_cons_of_neg (by simp; omega), List.filter_cons_of_neg (by simp; omega)]
        simp [e]
      · rw [List.filter_cons_of_pos (by simp; omega), List.filter_cons_of_neg (by simp; omega)]
        simp [e]
/-- A list of pairs, rising, holds what a function says. -/
structure RepL (G : Nat → Option (List UInt8)) (l : PairL) : Prop where
  rise : (l.map (·.1)).Pairwise (· < ·)
  most : ∀ p ∈ l, p.1 < 18446744073709551616
  holds : ∀ k v, k < 18446744073709551616 → (G k = some v ↔ (k, v) ∈ l)
theorem RepL.nil : RepL (fun _ => none) [] := ⟨List.Pairwise.nil, (fun p h => by cases h), fun k v _ => ⟨(fun h => by cases h), fun h => by cases h⟩⟩
theorem filter_rise (q : Nat × List UInt8 → Bool) {l : PairL} (h : (l.map (·.1)).Pairwise (· < ·)) : ((l.filter q).map (·.1)).Pairwise (· < ·) := by
  rw [List.pairwise_map] at h ⊢
  exact h.filter q
theorem changeR_mem {l : PairL} (hs : (l.map (·.1)).Pairwise (· < ·)) (k : Nat) (v : List UInt8) (g : Bool) (p : Nat × List UInt8) : p ∈ changeR l k v g ↔ (p.1 ≠ k ∧ p ∈ l) ∨ (g = false ∧ p = (k, v)) := by
  unfold changeR
  cases g with
  | true =>
    rw [chgR_put, List.nil_append, List.mem_filter]
    simp only [ne_eq, decide_not, Bool.not_eq_true', decide_eq_false_iff_not]
    constructor
    · rintro ⟨h1, h2⟩; exact .inl ⟨h2, h1⟩
    · rintro (⟨h1, h2⟩ | ⟨h, _⟩)
      · exact ⟨h2, h1⟩
      · cases h
  | false =>
    rw [chgR_more k v l [] hs, List.nil_append, List.mem_append, List.mem_cons, List.mem_filter, List.mem_filter]
    simp only [decide_eq_true_eq]
    constructor
    · rintro (⟨h1, h2⟩ | h | ⟨h1, h2⟩)
      · exact .inl ⟨by omega, h1⟩
      · exact .inr ⟨trivial, h⟩
      · exact .inl ⟨by omega, h1⟩
    · rintro (⟨h1, h2⟩ | ⟨_, h⟩)
      · rcases Nat.lt_or_gt_of_ne h1 with h | h
        · exact .inl ⟨h2, h⟩
        · exact .inr (.inr ⟨h2, h⟩)
      · exact .inr (.inl h)
theorem changeR_rise {l : PairL} (hs : (l.map (·.1)).Pairwise (· < ·)) (k : Nat) (v : List UInt8) (g : Bool) : ((changeR l k v g).map (·.1)).Pairwise (· < ·) := by
  unfold changeR
  cases g with
  | true => rw [chgR_put, List.nil_append]; exact filter_rise _ hs
  | false =>
    rw [chgR_more k v l [] hs, List.nil_append, List.map_append, List.map_cons, List.pairwise_append, List.pairwise_cons]
    refine ⟨filter_rise _ hs, ⟨fun a ha => ?_, filter_rise _ hs⟩, fun a ha b hb => ?_⟩
    · obtain ⟨q, hq, rfl⟩ := List.mem_map.1 ha
      have := (List.mem_filter.1 hq).2
      simpa using this
    · obtain ⟨q, hq, rfl⟩ := List.mem_map.1 ha
      have h1 : q.1 < k := by have := (List.mem_filter.1 hq).2; simpa using this
      rcases List.mem_cons.1 hb with rfl | hb
      · exact h1
      · obtain ⟨r, hr, rfl⟩ := List.mem_map.1 hb
        have h2 : k < r.1 := by have := (List.mem_filter.1 hr).2; simpa using this
        omega
theorem RepL.change {G : Nat → Option (List UInt8)} {l : PairL} (h : RepL G l) (p : PutM) (hk : p.key < 18446744073709551616) : RepL (putG G p) (changeR l p.key p.val p.gone) := by
  refine ⟨changeR_rise h.rise _ _ _, fun q hq => ?_, fun k v hk' => ?_⟩
  · rcases (changeR_mem h.rise _ _ _ q).1 hq with ⟨_, h1⟩ | ⟨_, rfl⟩
    · exact h.most q h1
    · exact hk
  · rw [changeR_mem h.rise]
    unfold putG
    by_cases e : k = p.key
    · subst e
      rw [if_pos rfl]
      cases hg : p.gone with
      | true =>
        rw [if_pos rfl]
        constructor
        · intro h; cases h
        · rintro (⟨h1, _⟩ | ⟨h1, _⟩)
          · exact absurd rfl h1
          · cases h1
      | false =>
        rw [if_neg (by simp)]
        constructor
        · intro h; injection h with h; exact .inr ⟨rfl, by rw [h]⟩
        · rintro (⟨h1, _⟩ | ⟨_, h1⟩)
          · exact absurd rfl h1
          · injection h1 with _ h1; rw [h1]
    · rw [if_neg e, h.holds k v hk']
      constructor
      · intro h; exact .inl ⟨e, h⟩
      · rintro (⟨_, h1⟩ | ⟨_, h1⟩)
        · exact h1
        · injection h1 with h1 _; exact absurd h1 e
theorem RepL.apply {G : Nat → Option (List UInt8)} : ∀ {l : PairL} (L : List PutM), RepL G l → (∀ p ∈ L, p.key < 18446744073709551616) → RepL (putsG G L) (applyR l L) := by
  intro l L
  induction L generalizing G l with
  | nil => intro h _; exact h
  | cons p L ih => exact fun h hk => ih (h.change p (hk p (by simp))) fun q hq => hk q (by simp [hq])
theorem sorted_unique : ∀ (a b : List Nat), a.Pairwise (· < ·) → b.Pairwise (· < ·) → (∀ x, x ∈ a ↔ x ∈ b) → a = b := by
  intro a
  induction a with
  | nil =>
    intro b _ _ h
    cases b with
    | nil => rfl
    | cons y b => exact absurd ((h y).2 (by simp)) (by simp)
  | cons x a ih =>
    intro b ha hb h
    cases b with
    | nil => exact absurd ((h x).1 (by simp)) (by simp)
    | cons y b =>
      rw [List.pairwise_cons] at ha hb
      have hxy : x = y := by
        rcases List.mem_cons.1 ((h x).1 (by simp)) with h1 | h1
        · exact h1
        · rcases List.mem_cons.1 ((h y).2 (by simp)) with h2 | h2
          · exact h2.symm
          · have := hb.1 x h1; have := ha.1 y h2; omega
      subst hxy
      rw [ih b ha.2 hb.2 fun z => ?_]
      constructor
      · intro hz
        rcases List.mem_cons.1 ((h z).1 (by simp [hz])) with h1 | h1
        · have := ha.1 z hz; omega
        · exact h1
      · intro hz
        rcases List.mem_cons.1 ((h z).2 (by simp [hz])) with h1 | h1
        · have := hb.1 z hz; omega
        · exact h1
/-- The keys that Keys gives are the list's. -/
theorem RepL.keys {G : Nat → Option (List UInt8)} {l : PairL} (h : RepL G l) (ys : List Nat) (h1 : ∀ y, y ∈ ys ↔ y < 18446744073709551616 ∧ (G y).isSome = true) (h2 : ys.Pairwise (· < ·)) : ys = l.map (·.1) := by
  refine sorted_unique _ _ h2 h.rise fun x => ?_
  rw [h1, List.mem_map]
  constructor
  · rintro ⟨hx, hs⟩
    cases hg : G x with
    | none => rw [hg] at hs; cases hs
    | some v => exact ⟨(x, v), (h.holds x v hx).1 hg, rfl⟩
  · rintro ⟨p, hp, rfl⟩
    have := h.most p hp
    exact ⟨this, by rw [(h.holds p.1 p.2 this).2 hp]; rfl⟩
/-- The document's pairs, as a list's elements. -/
def kPairR : Kind (Nat × List UInt8) where
  size := 2
  R _ _ cs p := cs = [.int .u64 (p.1 : Int), str p.2] ∧ p.1 < 18446744073709551616
  len h := by rw [h.1]; rfl
  move h _ := h
theorem pairR_at {w : World} {ok : Nat → Prop} {v : Value} {L : PairL} (h : IsL kPairR w ok v L) :
    ∃ A c, v = .slice A L.length c ∧ L.length ≤ c ∧ c ≤ maxLen ∧ (L ≠ [] → ∃ b off, A = some ⟨b, off, none⟩ ∧ ok b ∧ b < w.heap.size ∧ ∀ (i : Nat) (hi : i < L.length), w.cell? ⟨b, off + i * 2, none⟩ = some (.int .u64 (L[i].1 : Int)) ∧ w.cell? ⟨b, off + i * 2 + 1, none⟩ = some (str L[i].2) ∧ L[i].1 < 18446744073709551616) := by
  obtain ⟨A, c, hv, h1, h2, h3⟩ := h.elem (by decide)
  refine ⟨A, c, hv, h1, h2, fun hn => ?_⟩
  obtain ⟨b, off, hA, ho, hlt, hc⟩ := h3 hn
  refine ⟨b, off, hA, ho, hlt, fun i hi => ?_⟩
  obtain ⟨cs, ⟨e, hk⟩, hcs⟩ := hc i hi
  subst e
  have hsz : kPairR.size = 2 := rfl
  rw [hsz] at hcs
  have e0 := hcs 0 (by simp)
  have e1 := hcs 1 (by simp)
  exact ⟨by simpa [Nat.add_assoc] using e0, by simpa [Nat.add_assoc] using e1, hk⟩
end Go.Proofs.YtdmbmkjiffhbcaaGreat
