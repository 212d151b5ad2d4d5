/-
  Version vectors: eight numbers. How they stand, join, meet, what is meant. Mathematics alone.
-/
import Derived.Below
namespace Go.Proofs.YtcpjgohclncbkaaDoor

/-- Eight numbers that fit. -/
def okV (V : Nat → Nat) : Prop := ∀ i, i < 8 → V i < 4294967296
def leqV (A B : Nat → Nat) : Bool := (List.range 8).all fun i => decide (A i ≤ B i)
def eqV (A B : Nat → Nat) : Bool := (List.range 8).all fun i => decide (A i = B i)
def orderV (A B : Nat → Nat) : Int := if eqV A B = true then 0 else if leqV A B = true then -1 else if leqV B A = true then 1 else 2
def joinV (A B : Nat → Nat) : Nat → Nat := fun i => max (A i) (B i)
def meetV (A B : Nat → Nat) : Nat → Nat := fun i => min (A i) (B i)
def updV (V : Nat → Nat) (k n : Nat) : Nat → Nat := fun i => if i = k then n else V i
def zeroV : Nat → Nat := fun _ => 0
/-- Is there such a replica? -/
def repV (rep : Int) : Bool := decide (1 ≤ rep ∧ rep ≤ 8)
def getV (V : Nat → Nat) (rep : Int) : Nat := if repV rep = true then V (rep - 1).toNat else 0
def hasV (V : Nat → Nat) (rep : Int) (seq : Nat) : Bool := decide (0 < seq ∧ seq ≤ getV V rep)
def withV (V : Nat → Nat) (rep : Int) (seq : Nat) : Nat → Nat := if repV rep = true then updV V (rep - 1).toNat (max (V (rep - 1).toNat) seq) else V
/-- One event more. -/
def nextV (V : Nat → Nat) (rep : Int) : (Nat → Nat) × Int := if repV rep = true then (if 1048576 ≤ V (rep - 1).toNat then (zeroV, 12) else (updV V (rep - 1).toNat (V (rep - 1).toNat + 1), 0)) else (zeroV, 1)
def lessV (r : Int) (s : Nat) (r' : Int) (s' : Nat) : Bool := decide (s < s' ∨ (s = s' ∧ r < r'))
def sumV (V : Nat → Nat) : Nat → Nat
  | 0 => 0
  | k + 1 => sumV V k + V k
def totalV (V : Nat → Nat) : Nat := sumV V 8

theorem leqV_iff {A B : Nat → Nat} : leqV A B = true ↔ ∀ i, i < 8 → A i ≤ B i := by unfold leqV; simp [List.all_eq_true]
theorem eqV_iff {A B : Nat → Nat} : eqV A B = true ↔ ∀ i, i < 8 → A i = B i := by unfold eqV; simp [List.all_eq_true]
theorem repV_iff {r : Int} : repV r = true ↔ 1 ≤ r ∧ r ≤ 8 := by unfold repV; exact decide_eq_true_iff
theorem leqV_not {A B : Nat → Nat} : leqV A B = false ↔ ∃ i, i < 8 ∧ B i < A i := by
  rw [← Bool.not_eq_true, leqV_iff]
  constructor
  · intro h
    apply Classical.byContradiction
    intro hn
    exact h fun i hi => Nat.le_of_not_lt fun hl => hn ⟨i, hi, hl⟩
  · rintro ⟨i, hi, hl⟩ h
    have := h i hi
    omega
theorem eqV_not {A B : Nat → Nat} : eqV A B = false ↔ ∃ i, i < 8 ∧ A i ≠ B i := by
  rw [← Bool.not_eq_true, eqV_iff]
  constructor
  · intro h
    apply Classical.byContradiction
    intro hn
    exact h fun i hi => Classical.byContradiction fun hl => hn ⟨i, hi, hl⟩
  · rintro ⟨i, hi, hl⟩ h
    exact hl (h i hi)
theorem eqV_leq (A B : Nat → Nat) : eqV A B = (leqV A B && leqV B A) := by
  rw [Bool.eq_iff_iff, Bool.and_eq_true, eqV_iff, leqV_iff, leqV_iff]
  exact ⟨fun h => ⟨fun i hi => Nat.le_of_eq (h i hi), fun i hi => Nat.le_of_eq (h i hi).symm⟩, fun h i hi => Nat.le_antisymm (h.1 i hi) (h.2 i hi)⟩
theorem okV_join {A B : Nat → Nat} (ha : okV A) (hb : okV B) : okV (joinV A B) := fun i hi => by have := ha i hi; have := hb i hi; unfold joinV; omega
theorem okV_meet {A B : Nat → Nat} (ha : okV A) : okV (meetV A B) := fun i hi => by have := ha i hi; unfold meetV; omega
theorem okV_upd {V : Nat → Nat} (h : okV V) (k : Nat) {n : Nat} (hn : n < 4294967296) : okV (updV V k n) := fun i hi => by unfold updV; split; exact hn; exact h i hi
theorem okV_zero : okV zeroV := fun _ _ => by unfold zeroV; omega
theorem getV_lt {V : Nat → Nat} (h : okV V) (r : Int) : getV V r < 4294967296 := by
  unfold getV
  split
  · rename_i hr
    rw [repV_iff] at hr
    exact h _ (by omega)
  · omega
theorem okV_with {V : Nat → Nat} (h : okV V) (r : Int) {s : Nat} (hs : s < 4294967296) : okV (withV V r s) := by
  unfold withV
  split
  · rename_i hr
    rw [repV_iff] at hr
    have := h (r - 1).toNat (by omega)
    exact okV_upd h _ (by omega)
  · exact h
theorem okV_next {V : Nat → Nat} (h : okV V) (r : Int) : okV (nextV V r).1 := by
  unfold nextV
  split
  · split
    · exact okV_zero
    · exact okV_upd h _ (by omega)
  · exact okV_zero
/-! ### The laws -/
theorem orderV_leq (A B : Nat → Nat) : decide (orderV A B ≤ 0) = leqV A B := by
  unfold orderV
  have he := eqV_leq A B
  cases h1 : leqV A B <;> cases h2 : leqV B A <;> rw [h1, h2] at he <;> simp at he <;> simp [he]
theorem leqV_join1 (A B : Nat → Nat) : leqV A (joinV A B) = true := leqV_iff.2 fun i _ => by unfold joinV; omega
theorem leqV_join2 (A B : Nat → Nat) : leqV B (joinV A B) = true := leqV_iff.2 fun i _ => by unfold joinV; omega
theorem leqV_meet1 (A B : Nat → Nat) : leqV (meetV A B) A = true := leqV_iff.2 fun i _ => by unfold meetV; omega
theorem leqV_meet2 (A B : Nat → Nat) : leqV (meetV A B) B = true := leqV_iff.2 fun i _ => by unfold meetV; omega
theorem leqV_joinC (A B C : Nat → Nat) : leqV (joinV A B) C = (leqV A C && leqV B C) := by
  rw [Bool.eq_iff_iff, Bool.and_eq_true, leqV_iff, leqV_iff, leqV_iff]
  unfold joinV
  exact ⟨fun h => ⟨fun i hi => by have := h i hi; omega, fun i hi => by have := h i hi; omega⟩, fun h i hi => by have := h.1 i hi; have := h.2 i hi; omega⟩
theorem leqV_meetC (A B C : Nat → Nat) : leqV C (meetV A B) = (leqV C A && leqV C B) := by
  rw [Bool.eq_iff_iff, Bool.and_eq_true, leqV_iff, leqV_iff, leqV_iff]
  unfold meetV
  exact ⟨fun h => ⟨fun i hi => by have := h i hi; omega, fun i hi => by have := h i hi; omega⟩, fun h i hi => by have := h.1 i hi; have := h.2 i hi; omega⟩
theorem leqV_trans {A B C : Nat → Nat} (h : leqV A B = true) (h' : leqV B C = true) : leqV A C = true := by
  rw [leqV_iff] at *
  exact fun i hi => Nat.le_trans (h i hi) (h' i hi)
theorem eqV_comm (A B : Nat → Nat) : eqV A B = eqV B A := by
  rw [eqV_leq, eqV_leq, Bool.and_comm]
/-- Turned round. -/
theorem orderV_turn (A B : Nat → Nat) : (orderV A B = 2 ∧ orderV B A = 2) ∨ (orderV A B ≠ 2 ∧ orderV B A = -orderV A B) := by
  unfold orderV
  rw [eqV_comm B A]
  have he := eqV_leq A B
  cases h1 : leqV A B <;> cases h2 : leqV B A <;> rw [h1, h2] at he <;> simp at he <;> simp [he]
theorem orderV_same (A B : Nat → Nat) : (orderV A B == 0) = eqV A B := by
  unfold orderV
  cases h : eqV A B
  · cases h1 : leqV A B <;> cases h2 : leqV B A <;> simp
  · simp
theorem order_four (A B : Nat → Nat) : (orderV A B = 2 ∧ orderV B A = 2 ∧ eqV A B = false) ∨ (orderV A B = 0 ∧ orderV B A = 0 ∧ eqV A B = true) ∨ (orderV A B = 1 ∧ orderV B A = -1 ∧ eqV A B = false) ∨ (orderV A B = -1 ∧ orderV B A = 1 ∧ eqV A B = false) := by
  unfold orderV
  rw [eqV_comm B A]
  have he := eqV_leq A B
  cases h1 : leqV A B <;> cases h2 : leqV B A <;> rw [h1, h2] at he <;> simp at he <;> simp [he]
theorem leq_three (A B C : Nat → Nat) : leqV A B = false ∨ (leqV A B = true ∧ leqV B C = false) ∨ (leqV A B = true ∧ leqV B C = true ∧ leqV A C = true) := by
  cases h1 : leqV A B
  · exact .inl rfl
  · cases h2 : leqV B C
    · exact .inr (.inl ⟨rfl, rfl⟩)
    · exact .inr (.inr ⟨rfl, rfl, leqV_trans h1 h2⟩)
theorem hasV_join (A B : Nat → Nat) (r : Int) (s : Nat) : hasV (joinV A B) r s = (hasV A r s || hasV B r s) := by
  unfold hasV getV joinV
  rw [Bool.eq_iff_iff, Bool.or_eq_true, decide_eq_true_iff, decide_eq_true_iff, decide_eq_true_iff]
  split <;> omega
theorem hasV_meet (A B : Nat → Nat) (r : Int) (s : Nat) : hasV (meetV A B) r s = (hasV A r s && hasV B r s) := by
  unfold hasV getV meetV
  rw [Bool.eq_iff_iff, Bool.and_eq_true, decide_eq_true_iff, decide_eq_true_iff, decide_eq_true_iff]
  split <;> omega
theorem hasV_leq {A B : Nat → Nat} (h : leqV A B = true) {r : Int} {s : Nat} (ha : hasV A r s = true) : hasV B r s = true := by
  rw [leqV_iff] at h
  unfold hasV getV at *
  rw [decide_eq_true_iff] at *
  split at ha
  · rename_i hr
    rw [if_pos hr]
    rw [repV_iff] at hr
    have := h (r - 1).toNat (by omega)
    omega
  · omega
theorem sumV_upd_far (V : Nat → Nat) (k n m : Nat) (h : m ≤ k) : sumV (updV V k n) m = sumV V m := by
  induction m with
  | zero => rfl
  | succ m ih =>
    show sumV (updV V k n) m + updV V k n m = sumV V m + V m
    rw [ih (by omega)]
    unfold updV
    rw [if_neg (by omega)]
theorem sumV_upd (V : Nat → Nat) (k n m : Nat) (h : k < m) : sumV (updV V k n) m + V k = sumV V m + n := by
  induction m with
  | zero => omega
  | succ m ih =>
    show sumV (updV V k n) m + updV V k n m + V k = sumV V m + V m + n
    by_cases e : k = m
    · subst e
      rw [sumV_upd_far _ _ _ _ (Nat.le_refl _)]
      unfold updV
      rw [if_pos rfl]
      omega
    · have := ih (by omega)
      have hu : updV V k n m = V m := by unfold updV; rw [if_neg (by omega)]
      rw [hu]
      omega
theorem sumV_lt {V : Nat → Nat} (h : okV V) (m : Nat) (hm : m ≤ 8) : sumV V m ≤ m * 4294967295 := by
  induction m with
  | zero => exact Nat.le_refl _
  | succ m ih =>
    show sumV V m + V m ≤ _
    have := ih (by omega)
    have := h m (by omega)
    omega
end Go.Proofs.YtcpjgohclncbkaaDoor
