/-
  Vectors made small: the bytes of a vector against a base, and what is read of any bytes. Mathematics alone.
-/
import Derived.Test.YtkojoahamoffcaaVecMath
import Derived.Test.YtkojoahamoffcaaAsNum
namespace Go.Proofs.Ytkojoahamoffcaa

/-! ### Writing -/
/-- How far two numbers lie apart. -/
def distN (a b : Nat) : Nat := (a - b) + (b - a)
/-- The bits of the first indices at which A is greater than B. -/
def moreN (A B : Nat → Nat) : Nat → Nat
  | 0 => 0
  | k + 1 => moreN A B k + (if B k < A k then 2 ^ k else 0)
/-- A difference as it lies. -/
def entB (n : Nat) : List UInt8 := if n = 0 then [] else UInt8.ofNat (numLen n) :: numB n
/-- The differences of the first indices. -/
def bodyB (A B : Nat → Nat) : Nat → List UInt8
  | 0 => []
  | k + 1 => bodyB A B k ++ entB (distN (A k) (B k))
/-- The bytes of A relative to B. -/
def spanB (A B : Nat → Nat) : List UInt8 := UInt8.ofNat (moreN A B 8) :: UInt8.ofNat (moreN B A 8) :: bodyB A B 8

theorem moreN_lt (A B : Nat → Nat) (k : Nat) : moreN A B k < 2 ^ k := by
  induction k with
  | zero => simp [moreN]
  | succ k ih => unfold moreN; rw [Nat.pow_succ]; split <;> omega
theorem moreN_bit (A B : Nat → Nat) {i : Nat} (hi : i < 8) : moreN A B 8 / 2 ^ i % 2 = if B i < A i then 1 else 0 := by
  have key : ∀ k, k ≤ 8 → ∀ i, i < k → moreN A B k / 2 ^ i % 2 = if B i < A i then 1 else 0 := by
    intro k
    induction k with
    | zero => intro _ i hi; omega
    | succ k ih =>
      intro hk i hi
      have hlt := moreN_lt A B k
      show (moreN A B k + (if B k < A k then 2 ^ k else 0)) / 2 ^ i % 2 = _
      by_cases e : i = k
      · subst e
        have hp : 0 < 2 ^ i := Nat.pow_pos (by omega)
        split
        · rw [Nat.add_div_right _ hp, Nat.div_eq_of_lt hlt]
        · rw [Nat.add_zero, Nat.div_eq_of_lt hlt]
      · rw [← ih (by omega) i (by omega)]
        obtain ⟨d, rfl⟩ : ∃ d, k = i + (d + 1) := ⟨k - i - 1, by omega⟩
        split
        · have h2 : 2 ^ (i + (d + 1)) = 2 ^ i * (2 * 2 ^ d) := by rw [Nat.pow_add, Nat.pow_succ, Nat.mul_comm (2 ^ d) 2]
          rw [h2, Nat.add_mul_div_left _ _ (Nat.pow_pos (by omega))]
          omega
        · rfl
  exact key 8 (Nat.le_refl _) i hi
theorem numLen32 {n : Nat} (h : n < 4294967296) : numLen n ≤ 4 := by
  have := Lib.bitLen_le n 32 (by omega) h
  unfold numLen
  omega
theorem numLen_pos {n : Nat} (h0 : n ≠ 0) (h : n < 4294967296) : 1 ≤ numLen n := by
  have := numLen_step n h0 (by omega)
  omega
theorem distN_lt {a b : Nat} (ha : a < 4294967296) (hb : b < 4294967296) : distN a b < 4294967296 := by unfold distN; omega
theorem entB_zero : entB 0 = [] := rfl
theorem entB_pos {n : Nat} (h : n ≠ 0) : entB n = UInt8.ofNat (numLen n) :: numB n := if_neg h
theorem entB_len {n : Nat} (h : n < 4294967296) : (n = 0 → (entB n).length = 0) ∧ (n ≠ 0 → 2 ≤ (entB n).length ∧ (entB n).length ≤ 5) := by
  constructor
  · rintro rfl; rfl
  · intro h0
    rw [entB_pos h0, List.length_cons, numB_length]
    have := numLen32 h
    have := numLen_pos h0 h
    omega
/-- At how many of the first indices two differ. -/
def apartN (A B : Nat → Nat) : Nat → Nat
  | 0 => 0
  | k + 1 => apartN A B k + (if A k = B k then 0 else 1)
theorem apartN_le (A B : Nat → Nat) (k : Nat) : apartN A B k ≤ k := by
  induction k with
  | zero => exact Nat.le_refl _
  | succ k ih => unfold apartN; split <;> omega
theorem apartN_self (A : Nat → Nat) (k : Nat) : apartN A A k = 0 := by
  induction k with
  | zero => rfl
  | succ k ih => unfold apartN; rw [ih, if_pos rfl]
theorem bodyB_len {A B : Nat → Nat} (hA : okV A) (hB : okV B) (k : Nat) (hk : k ≤ 8) : 2 * apartN A B k ≤ (bodyB A B k).length ∧ (bodyB A B k).length ≤ 5 * apartN A B k := by
  induction k with
  | zero => exact ⟨Nat.le_refl _, Nat.le_refl _⟩
  | succ k ih =>
    have := ih (by omega)
    have h := entB_len (distN_lt (hA k (by omega)) (hB k (by omega)))
    unfold bodyB apartN
    rw [List.length_append]
    by_cases e : A k = B k
    · rw [if_pos e]
      have h0 : distN (A k) (B k) = 0 := by unfold distN; omega
      have := h.1 h0
      omega
    · rw [if_neg e]
      have h0 : distN (A k) (B k) ≠ 0 := by unfold distN; omega
      have := h.2 h0
      omega
theorem spanB_len {A B : Nat → Nat} (hA : okV A) (hB : okV B) : 2 + 2 * apartN A B 8 ≤ (spanB A B).length ∧ (spanB A B).length ≤ 2 + 5 * apartN A B 8 := by
  have := bodyB_len hA hB 8 (Nat.le_refl _)
  unfold spanB
  simp only [List.length_cons]
  omega
theorem bodyB_le {A B : Nat → Nat} (hA : okV A) (hB : okV B) {k : Nat} (hk : k ≤ 8) : (bodyB A B k).length ≤ 40 := by
  have := (bodyB_len hA hB k hk).2
  have := apartN_le A B k
  omega
theorem spanB_le {A B : Nat → Nat} (hA : okV A) (hB : okV B) : (spanB A B).length ≤ 42 := by
  have := (spanB_len hA hB).2
  have := apartN_le A B 8
  omega

/-! ### Reading -/
/-- The first difference of bytes, what follows it, the error. -/
def firstS (l : List UInt8) : Nat × List UInt8 × Nat :=
  match l with
  | [] => (0, [], 8)
  | c :: r =>
    if r.length < c.toNat then (0, [], 8)
    else if (asNumV (r.take c.toNat)).2 ≠ 0 ∨ (asNumV (r.take c.toNat)).1 = 0 ∨ 4294967295 < (asNumV (r.take c.toNat)).1 then (0, [], 7)
    else ((asNumV (r.take c.toNat)).1, r.drop c.toNat, 0)
def bitN (m i : Nat) : Bool := decide (m / 2 ^ i % 2 = 1)
/-- Which way a place goes: greater, less, or not at all. -/
def signN (m s i : Nat) : Int := if bitN m i = true then 1 else if bitN s i = true then -1 else 0
def updD (D : Nat → Int) (k : Nat) (n : Int) : Nat → Int := fun i => if i = k then n else D i
def zeroD : Nat → Int := fun _ => 0
/-- What has been read ahead of place k: the differences, what is left, the error. -/
def stepsD (m s : Nat) (l : List UInt8) : Nat → (Nat → Int) × List UInt8 × Nat
  | 0 => (zeroD, l, 0)
  | k + 1 =>
    if (stepsD m s l k).2.2 ≠ 0 ∨ signN m s k = 0 then stepsD m s l k
    else (updD (stepsD m s l k).1 k (signN m s k * ((firstS (stepsD m s l k).2.1).1 : Int)), (firstS (stepsD m s l k).2.1).2.1, (firstS (stepsD m s l k).2.1).2.2)
def bothN (m s : Nat) : Bool := (List.range 8).any fun i => bitN m i && bitN s i
/-- The differences that bytes tell; the error. -/
def readD (l : List UInt8) : (Nat → Int) × Nat :=
  match l with
  | [] => (zeroD, 8)
  | [_] => (zeroD, 8)
  | m :: s :: r =>
    if bothN m.toNat s.toNat = true then (zeroD, 7)
    else if (stepsD m.toNat s.toNat r 8).2.2 ≠ 0 then (zeroD, (stepsD m.toNat s.toNat r 8).2.2)
    else if (stepsD m.toNat s.toNat r 8).2.1 ≠ [] then (zeroD, 4)
    else ((stepsD m.toNat s.toNat r 8).1, 0)

theorem stepsD_err {m s : Nat} {l : List UInt8} {k : Nat} (h : (stepsD m s l k).2.2 ≠ 0) (j : Nat) : stepsD m s l (k + j) = stepsD m s l k := by
  induction j with
  | zero => rfl
  | succ j ih =>
    show (if (stepsD m s l (k + j)).2.2 ≠ 0 ∨ signN m s (k + j) = 0 then stepsD m s l (k + j) else _) = _
    rw [ih, if_pos (.inl h)]
theorem stepsD_skip {m s : Nat} {l : List UInt8} {k : Nat} (h : signN m s k = 0) : stepsD m s l (k + 1) = stepsD m s l k := by
  show (if _ ∨ _ then _ else _) = _
  rw [if_pos (.inr h)]
theorem stepsD_go {m s : Nat} {l : List UInt8} {k : Nat} (h0 : (stepsD m s l k).2.2 = 0) (h : signN m s k ≠ 0) :
    stepsD m s l (k + 1) = (updD (stepsD m s l k).1 k (signN m s k * ((firstS (stepsD m s l k).2.1).1 : Int)), (firstS (stepsD m s l k).2.1).2.1, (firstS (stepsD m s l k).2.1).2.2) := by
  show (if (stepsD m s l k).2.2 ≠ 0 ∨ signN m s k = 0 then _ else _) = _
  rw [if_neg]
  rintro (h1 | h1)
  · exact h1 h0
  · exact h h1
theorem firstS_le (l : List UInt8) : (firstS l).2.1.length ≤ l.length ∧ (firstS l).1 < 4294967296 ∧ ((firstS l).2.2 = 0 ∨ (firstS l).2.2 = 7 ∨ (firstS l).2.2 = 8) := by
  unfold firstS
  split
  · exact ⟨Nat.zero_le _, Nat.zero_lt_succ _, .inr (.inr rfl)⟩
  · split
    · exact ⟨Nat.zero_le _, Nat.zero_lt_succ _, .inr (.inr rfl)⟩
    · split
      · exact ⟨Nat.zero_le _, Nat.zero_lt_succ _, .inr (.inl rfl)⟩
      · rename_i h
        obtain ⟨_, h⟩ := not_or.1 h
        obtain ⟨_, h⟩ := not_or.1 h
        exact ⟨by simp only [List.length_drop, List.length_cons]; omega, Nat.lt_succ_of_le (Nat.le_of_not_lt h), .inl rfl⟩
theorem stepsD_ok (m s : Nat) (l : List UInt8) (k : Nat) : (stepsD m s l k).2.1.length ≤ l.length ∧ ∀ i, -4294967295 ≤ (stepsD m s l k).1 i ∧ (stepsD m s l k).1 i ≤ 4294967295 := by
  induction k with
  | zero => exact ⟨Nat.le_refl _, fun i => ⟨by show (-4294967295 : Int) ≤ 0; omega, by show (0 : Int) ≤ 4294967295; omega⟩⟩
  | succ k ih =>
    by_cases h : (stepsD m s l k).2.2 ≠ 0 ∨ signN m s k = 0
    · have : stepsD m s l (k + 1) = stepsD m s l k := if_pos h
      rw [this]; exact ih
    · simp only [not_or, Decidable.not_not] at h
      rw [stepsD_go h.1 h.2]
      have hf := firstS_le (stepsD m s l k).2.1
      refine ⟨Nat.le_trans hf.1 ih.1, fun i => ?_⟩
      show -4294967295 ≤ (if i = k then _ else _) ∧ (if i = k then _ else _) ≤ _
      split
      · unfold signN
        split
        · omega
        · split <;> omega
      · exact ih.2 i
theorem readD_ok (l : List UInt8) (i : Nat) : -4294967295 ≤ (readD l).1 i ∧ (readD l).1 i ≤ 4294967295 := by
  have h0 : -4294967295 ≤ zeroD i ∧ zeroD i ≤ 4294967295 := ⟨by show (-4294967295 : Int) ≤ 0; omega, by show (0 : Int) ≤ 4294967295; omega⟩
  rcases l with _ | ⟨m, _ | ⟨s, r⟩⟩
  · exact h0
  · exact h0
  · have hs := stepsD_ok m.toNat s.toNat r 8
    unfold readD
    simp only []
    generalize stepsD m.toNat s.toNat r 8 = T at hs ⊢
    split
    · exact h0
    · split
      · exact h0
      · split
        · exact h0
        · exact hs.2 i

/-! ### What was written is read -/
theorem asNumV_numB {n : Nat} (h : n < 4294967296) : asNumV (numB n) = (n, 0) := by
  have h8 := numLen_le n (by omega)
  unfold asNumV
  rw [if_neg (by rw [numB_length]; omega), if_neg (numB_head _ _ (Nat.le_refl _) (by omega)), asNum_numB n (by omega)]
theorem firstS_ent {n : Nat} (h0 : n ≠ 0) (h : n < 4294967296) (t : List UInt8) : firstS (entB n ++ t) = (n, t, 0) := by
  have h4 := numLen32 h
  rw [entB_pos h0, List.cons_append]
  show (if (numB n ++ t).length < (UInt8.ofNat (numLen n)).toNat then _ else _) = _
  have hc : (UInt8.ofNat (numLen n)).toNat = numLen n := by rw [UInt8.toNat_ofNat']; omega
  rw [hc, if_neg (by rw [List.length_append, numB_length]; omega)]
  have ht : (numB n ++ t).take (numLen n) = numB n := by rw [← numB_length n]; exact List.take_left
  have hd : (numB n ++ t).drop (numLen n) = t := by rw [← numB_length n]; exact List.drop_left
  rw [ht, hd, asNumV_numB h, if_neg (by simp only [not_or]; omega)]
/-- The differences from place k on. -/
def tailB (A B : Nat → Nat) (k : Nat) : Nat → List UInt8
  | 0 => []
  | n + 1 => entB (distN (A k) (B k)) ++ tailB A B (k + 1) n
theorem bodyB_tail (A B : Nat → Nat) (n : Nat) : ∀ k, bodyB A B k ++ tailB A B k n = bodyB A B (k + n) := by
  induction n with
  | zero => intro k; exact List.append_nil _
  | succ n ih =>
    intro k
    have := ih (k + 1)
    rw [show k + (n + 1) = k + 1 + n by omega, ← this]
    show bodyB A B k ++ (entB _ ++ _) = (bodyB A B k ++ entB _) ++ _
    rw [List.append_assoc]
def diffD (A B : Nat → Nat) : Nat → Int := fun i => (A i : Int) - (B i : Int)
def cutD (A B : Nat → Nat) (k : Nat) : Nat → Int := fun i => if i < k then diffD A B i else 0
theorem signN_more (A B : Nat → Nat) {i : Nat} (hi : i < 8) : signN (moreN A B 8) (moreN B A 8) i = if B i < A i then 1 else if A i < B i then -1 else 0 := by
  unfold signN bitN
  rw [moreN_bit A B hi, moreN_bit B A hi]
  by_cases h1 : B i < A i
  · simp [h1]
  · by_cases h2 : A i < B i
    · simp [h1, h2]
    · simp [h1, h2]
theorem steps_span {A B : Nat → Nat} (hA : okV A) (hB : okV B) (k : Nat) (hk : k ≤ 8) : stepsD (moreN A B 8) (moreN B A 8) (bodyB A B 8) k = (cutD A B k, tailB A B k (8 - k), 0) := by
  induction k with
  | zero =>
    have h := bodyB_tail A B 8 0
    show (zeroD, bodyB A B 8, 0) = _
    rw [show bodyB A B 8 = tailB A B 0 8 from by rw [← show bodyB A B (0 + 8) = bodyB A B 8 from rfl, ← h]; rfl]
    rfl
  | succ k ih =>
    have ih := ih (by omega)
    have hs := signN_more A B (i := k) (by omega)
    have ht : tailB A B k (8 - k) = entB (distN (A k) (B k)) ++ tailB A B (k + 1) (8 - (k + 1)) := by
      rw [show 8 - k = (8 - (k + 1)) + 1 by omega]; rfl
    by_cases he : A k = B k
    · rw [stepsD_skip (by rw [hs]; simp [he]), ih, ht]
      have h0 : distN (A k) (B k) = 0 := by unfold distN; omega
      rw [h0, entB_zero, List.nil_append]
      congr 1
      funext i
      unfold cutD diffD
      by_cases e : i = k
      · subst e; rw [if_neg (by omega), if_pos (by omega)]; omega
      · by_cases h : i < k
        · rw [if_pos h, if_pos (by omega)]
        · rw [if_neg h, if_neg (by omega)]
    · have h0 : distN (A k) (B k) ≠ 0 := by unfold distN; omega
      have hlt := distN_lt (hA k (by omega)) (hB k (by omega))
      have hne : signN (moreN A B 8) (moreN B A 8) k ≠ 0 := by
        rw [hs]
        by_cases h1 : B k < A k
        · rw [if_pos h1]; omega
        · rw [if_neg h1, if_pos (by omega)]; omega
      rw [stepsD_go (by rw [ih]) hne, ih]
      simp only []
      rw [ht, firstS_ent h0 hlt, hs]
      congr 1
      funext i
      unfold updD cutD diffD
      by_cases e : i = k
      · subst e
        rw [if_pos rfl, if_pos (show i < i + 1 by omega)]
        unfold distN
        by_cases h1 : B i < A i
        · rw [if_pos h1]; omega
        · rw [if_neg h1, if_pos (by omega)]; omega
      · rw [if_neg e]
        by_cases h : i < k
        · rw [if_pos h, if_pos (by omega)]
        · rw [if_neg h, if_neg (by omega)]
theorem both_span (A B : Nat → Nat) : bothN (moreN A B 8) (moreN B A 8) = false := by
  unfold bothN
  rw [List.any_eq_false]
  intro i hi
  have hi8 : i < 8 := by simpa using hi
  unfold bitN
  rw [moreN_bit A B hi8, moreN_bit B A hi8]
  by_cases h1 : B i < A i
  · have : ¬ A i < B i := by omega
    simp [this]
  · simp [h1]
theorem read_span {A B : Nat → Nat} (hA : okV A) (hB : okV B) : (readD (spanB A B)).2 = 0 ∧ ∀ i, i < 8 → (readD (spanB A B)).1 i = diffD A B i := by
  have hm := moreN_lt A B 8
  have hs := moreN_lt B A 8
  have h := steps_span hA hB 8 (Nat.le_refl _)
  have e1 : (UInt8.ofNat (moreN A B 8)).toNat = moreN A B 8 := by rw [UInt8.toNat_ofNat']; omega
  have e2 : (UInt8.ofNat (moreN B A 8)).toNat = moreN B A 8 := by rw [UInt8.toNat_ofNat']; omega
  have hr : readD (spanB A B) = (cutD A B 8, 0) := by
    unfold spanB readD
    simp only []
    rw [e1, e2, h, both_span]
    simp [tailB]
  rw [hr]
  exact ⟨rfl, fun i hi => by unfold cutD; simp [hi]⟩

/-! ### Growing, ordering -/
/-- Is a number too small or too great among the first ones? -/
def farN (D : Nat → Int) (B : Nat → Nat) (k : Nat) : Bool := (List.range k).any fun i => decide ((B i : Int) + D i < 0 ∨ 4294967295 < (B i : Int) + D i)
def addV (D : Nat → Int) (B : Nat → Nat) : Nat → Nat := fun i => ((B i : Int) + D i).toNat
def growV (l : List UInt8) (B : Nat → Nat) : (Nat → Nat) × Nat :=
  if (readD l).2 ≠ 0 then (zeroV, (readD l).2) else if farN (readD l).1 B 8 = true then (zeroV, 7) else (addV (readD l).1 B, 0)
theorem farN_false {D : Nat → Int} {B : Nat → Nat} {k : Nat} : farN D B k = false ↔ ∀ i, i < k → 0 ≤ (B i : Int) + D i ∧ (B i : Int) + D i ≤ 4294967295 := by
  unfold farN
  rw [List.any_eq_false]
  constructor
  · intro h i hi
    have := h i (by simpa using hi)
    rw [decide_eq_true_iff] at this
    omega
  · intro h i hi
    have := h i (by simpa using hi)
    rw [decide_eq_true_iff]
    omega
theorem okV_grow (l : List UInt8) (B : Nat → Nat) : okV (growV l B).1 := by
  unfold growV
  split
  · exact okV_zero
  · split
    · exact okV_zero
    · rename_i h
      rw [Bool.not_eq_true, farN_false] at h
      intro i hi
      have := h i hi
      show ((B i : Int) + _).toNat < _
      omega
theorem grow_span {A B : Nat → Nat} (hA : okV A) (hB : okV B) : (growV (spanB A B) B).2 = 0 ∧ ∀ i, i < 8 → (growV (spanB A B) B).1 i = A i := by
  obtain ⟨h1, h2⟩ := read_span hA hB
  have hf : farN (readD (spanB A B)).1 B 8 = false := by
    rw [farN_false]
    intro i hi
    rw [h2 i hi]
    have := hA i hi
    unfold diffD
    omega
  have : growV (spanB A B) B = (addV (readD (spanB A B)).1 B, 0) := by unfold growV; rw [if_neg (by rw [h1]; simp), hf]; rfl
  rw [this]
  refine ⟨rfl, fun i hi => ?_⟩
  show ((B i : Int) + (readD (spanB A B)).1 i).toNat = A i
  rw [h2 i hi]
  unfold diffD
  omega
def overV (D E : Nat → Int) : Nat → Nat := fun i => if E i < D i then 1 else 0
def orderD (D E : Nat → Int) : Int := orderV (overV D E) (overV E D)
theorem order_congr {A B C D : Nat → Nat} (h1 : ∀ i, i < 8 → (A i ≤ B i ↔ C i ≤ D i)) (h2 : ∀ i, i < 8 → (B i ≤ A i ↔ D i ≤ C i)) : orderV A B = orderV C D := by
  have e1 : leqV A B = leqV C D := by
    rw [Bool.eq_iff_iff, leqV_iff, leqV_iff]
    exact ⟨fun h i hi => (h1 i hi).1 (h i hi), fun h i hi => (h1 i hi).2 (h i hi)⟩
  have e2 : leqV B A = leqV D C := by
    rw [Bool.eq_iff_iff, leqV_iff, leqV_iff]
    exact ⟨fun h i hi => (h2 i hi).1 (h i hi), fun h i hi => (h2 i hi).2 (h i hi)⟩
  unfold orderV
  rw [eqV_leq, eqV_leq C D, e1, e2]
theorem order_span {A B C : Nat → Nat} (hA : okV A) (hB : okV B) (hC : okV C) : orderD (readD (spanB A C)).1 (readD (spanB B C)).1 = orderV A B := by
  obtain ⟨_, h1⟩ := read_span hA hC
  obtain ⟨_, h2⟩ := read_span hB hC
  unfold orderD
  apply order_congr
  · intro i hi
    unfold overV
    rw [h1 i hi, h2 i hi]
    unfold diffD
    split <;> split <;> omega
  · intro i hi
    unfold overV
    rw [h1 i hi, h2 i hi]
    unfold diffD
    split <;> split <;> omega
theorem eqV_refl (A : Nat → Nat) : eqV A A = true := eqV_iff.2 fun _ _ => rfl
theorem moreN_congr {A B C D : Nat → Nat} (k : Nat) (h1 : ∀ i, i < k → A i = C i) (h2 : ∀ i, i < k → B i = D i) : moreN A B k = moreN C D k := by
  induction k with
  | zero => rfl
  | succ k ih =>
    unfold moreN
    rw [ih (fun i hi => h1 i (by omega)) (fun i hi => h2 i (by omega)), h1 k (by omega), h2 k (by omega)]
theorem bodyB_congr {A B C D : Nat → Nat} (k : Nat) (h1 : ∀ i, i < k → A i = C i) (h2 : ∀ i, i < k → B i = D i) : bodyB A B k = bodyB C D k := by
  induction k with
  | zero => rfl
  | succ k ih =>
    unfold bodyB
    rw [ih (fun i hi => h1 i (by omega)) (fun i hi => h2 i (by omega)), h1 k (by omega), h2 k (by omega)]
theorem spanB_congr {A B C D : Nat → Nat} (h1 : ∀ i, i < 8 → A i = C i) (h2 : ∀ i, i < 8 → B i = D i) : spanB A B = spanB C D := by
  unfold spanB
  rw [moreN_congr 8 h1 h2, moreN_congr 8 h2 h1, bodyB_congr 8 h1 h2]
theorem span_inj {A B C : Nat → Nat} (hA : okV A) (hB : okV B) (hC : okV C) : (spanB A C == spanB B C) = eqV A B := by
  rw [Bool.eq_iff_iff, beq_iff_eq, eqV_iff]
  constructor
  · intro h i hi
    rw [← (grow_span hA hC).2 i hi, ← (grow_span hB hC).2 i hi, h]
  · exact fun h => spanB_congr h fun _ _ => rfl

/-! ### Bits of bytes -/
theorem bits_or8 : ∀ k : Fin 8, ∀ m : Fin 128, m.val < 2 ^ k.val → Go.bits .or .u8 (m.val : Int) ((2 ^ k.val : Nat) : Int) = ((m.val + 2 ^ k.val : Nat) : Int) := by decide +kernel
theorem bits_and8 : ∀ k : Fin 8, ∀ m : Fin 256, Go.bits .and .u8 (m.val : Int) ((2 ^ k.val : Nat) : Int) = if bitN m.val k.val = true then ((2 ^ k.val : Nat) : Int) else 0 := by decide +kernel
theorem bits_shl8 : ∀ k : Fin 8, ((IntKind.u8.wrap (1 * 2 ^ k.val)) : Int) = ((2 ^ k.val : Nat) : Int) := by decide +kernel
end Go.Proofs.Ytkojoahamoffcaa
