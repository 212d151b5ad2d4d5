/-
  Plain facts on going over fields.
-/
import Derived.Test.YtkhhihkcgpfmfaaFirstMath
namespace Go.Proofs.Ytkhhihkcgpfmfaa

/-- What going over bytes yields: fields, each with 0, and then an error, if there is one. -/
def stepsN : Nat → List UInt8 → List (List UInt8 × Nat)
  | 0, _ => []
  | n + 1, b => if b = [] then [] else if (firstF b).2.2 ≠ 0 then [([], (firstF b).2.2)] else ((firstF b).1, 0) :: stepsN n (firstF b).2.1
def steps (b : List UInt8) : List (List UInt8 × Nat) := stepsN b.length b

theorem firstF_rest (b : List UInt8) (h0 : b ≠ []) : (firstF b).2.1.length < b.length := by
  have hl : 0 < b.length := List.length_pos_iff.2 h0
  have hs := firstLen_size b h0
  unfold firstF
  split
  · simpa using hl
  · rename_i h
    have h1 := hs (by simpa using h)
    split
    · simpa using hl
    · simp only [List.length_drop]
      omega
theorem firstF_part (b : List UInt8) : (firstF b).1.length ≤ b.length := by
  unfold firstF
  split
  · simp
  · split
    · simp
    · simp only [List.length_take, List.length_drop]
      omega
theorem stepsN_nil (n : Nat) : stepsN n [] = [] := by cases n <;> rfl
theorem stepsN_fuel : ∀ (n m : Nat) (b : List UInt8), b.length ≤ n → b.length ≤ m → stepsN n b = stepsN m b
  | 0, m, b, hn, _ => by
    have : b = [] := List.eq_nil_of_length_eq_zero (by omega)
    subst this
    rw [stepsN_nil, stepsN_nil]
  | n + 1, 0, b, _, hm => by
    have : b = [] := List.eq_nil_of_length_eq_zero (by omega)
    subst this
    rw [stepsN_nil, stepsN_nil]
  | n + 1, m + 1, b, hn, hm => by
    unfold stepsN
    by_cases h0 : b = []
    · rw [if_pos h0, if_pos h0]
    · have hr := firstF_rest b h0
      rw [if_neg h0, if_neg h0]
      split
      · rfl
      · rw [stepsN_fuel n m _ (by omega) (by omega)]
theorem steps_nil : steps [] = [] := rfl
theorem steps_unfold (b : List UInt8) (h0 : b ≠ []) : steps b = if (firstF b).2.2 ≠ 0 then [([], (firstF b).2.2)] else ((firstF b).1, 0) :: steps (firstF b).2.1 := by
  have hr := firstF_rest b h0
  have hl := List.length_pos_iff.2 h0
  rw [steps, stepsN_fuel b.length (b.length - 1 + 1) b (Nat.le_refl _) (by omega)]
  unfold stepsN
  rw [if_neg h0]
  split
  · rfl
  · rw [steps, stepsN_fuel _ _ _ (by omega) (Nat.le_refl _)]
theorem steps_err (b : List UInt8) (h0 : b ≠ []) (h : (firstF b).2.2 ≠ 0) : steps b = [([], (firstF b).2.2)] := by rw [steps_unfold b h0, if_pos h]
theorem steps_ok (b : List UInt8) (h0 : b ≠ []) (h : (firstF b).2.2 = 0) : steps b = ((firstF b).1, 0) :: steps (firstF b).2.1 := by rw [steps_unfold b h0, if_neg (by simpa using h)]

theorem steps_length (b : List UInt8) : (steps b).length ≤ b.length := by
  have h : ∀ (n : Nat) (b : List UInt8), (stepsN n b).length ≤ b.length := by
    intro n
    induction n with
    | zero => intro b; simp [stepsN]
    | succ n ih =>
      intro b
      unfold stepsN
      by_cases h0 : b = []
      · rw [if_pos h0]; simp
      · have hr := firstF_rest b h0
        rw [if_neg h0]
        split
        · have := List.length_pos_iff.2 h0
          simp only [List.length_singleton]
          omega
        · have := ih (firstF b).2.1
          simp only [List.length_cons]
          omega
  exact h _ _

theorem fieldB_ne (f : List UInt8) : fieldB f ≠ [] := by
  have := (lenB_le f.length).1
  intro e
  have h2 := fieldB_length f
  rw [e] at h2
  simp only [List.length_nil] at h2
  omega
/-- Over fields as they lie, and bytes behind them. -/
theorem steps_packB (L : List (List UInt8)) (r : List UInt8) (h : ∀ f ∈ L, f.length ≤ 65535) : steps (packB L ++ r) = L.map (fun f => (f, 0)) ++ steps r := by
  induction L with
  | nil => simp [packB_nil]
  | cons f L ih =>
    have hf := firstF_fieldB f (packB L ++ r) (h f (by simp))
    rw [packB_cons, List.append_assoc, steps_ok _ (by simp [fieldB_ne]) (by rw [hf]), hf, ih (fun g hg => h g (by simp [hg]))]
    simp

/-- What Unpack answers. -/
def unpackV (most : Int) : List (List UInt8) → List (List UInt8 × Nat) → List (List UInt8) × Nat
  | acc, [] => (acc, 0)
  | acc, (f, e) :: r => if e ≠ 0 then ([], e) else if most ≤ acc.length then ([], 4) else unpackV most (acc ++ [f]) r
theorem unpackV_cons (most : Int) (acc : List (List UInt8)) (f : List UInt8) (e : Nat) (r : List (List UInt8 × Nat)) : unpackV most acc ((f, e) :: r) = if e ≠ 0 then ([], e) else if most ≤ acc.length then ([], 4) else unpackV most (acc ++ [f]) r := rfl
theorem unpackV_step {most : Int} {S : List (List UInt8 × Nat)} {k : Nat} {f : List UInt8} {e : Nat} (h : unpackV most [] S = unpackV most ((S.take k).map (·.1)) (S.drop k)) (hk : S[k]? = some (f, e)) :
    k < S.length ∧ (e ≠ 0 → unpackV most [] S = ([], e)) ∧ (e = 0 → most ≤ k → unpackV most [] S = ([], 4)) ∧
    (e = 0 → ¬ most ≤ k → unpackV most [] S = unpackV most ((S.take (k + 1)).map (·.1)) (S.drop (k + 1))) := by
  obtain ⟨hlt, hat⟩ := List.getElem?_eq_some_iff.1 hk
  have hl : ((S.take k).map (·.1)).length = k := by rw [List.length_map, List.length_take]; omega
  rw [List.drop_eq_getElem_cons hlt, hat, unpackV_cons, hl] at h
  refine ⟨hlt, fun he => by rw [h, if_pos he], fun he hm => by rw [h, if_neg (by simpa using he), if_pos hm], fun he hm => ?_⟩
  rw [h, if_neg (by simpa using he), if_neg hm, List.take_succ_eq_append_getElem hlt, List.map_append, List.map_singleton, hat]
theorem unpackV_ok (most : Int) (acc L : List (List UInt8)) (h : (acc.length + L.length : Int) ≤ most) : unpackV most acc (L.map (fun f => (f, 0))) = (acc ++ L, 0) := by
  induction L generalizing acc with
  | nil => simp [unpackV]
  | cons f L ih =>
    simp only [List.length_cons] at h
    simp only [List.map_cons, unpackV]
    rw [if_neg (by simp), if_neg (by omega), ih _ (by simp; omega)]
    simp
end Go.Proofs.Ytkhhihkcgpfmfaa
