/-
  Plain facts on fields as they lie: their lengths ahead of them.
  Plain facts on the first field of bytes.
  Plain facts on going over fields.
-/
import Derived.Test.YtkojoahamoffcaaNumMath
namespace Go.Proofs.Ytkojoahamoffcaa

/-- A length's bytes. -/
def lenB (n : Nat) : List UInt8 := if n < 255 then [UInt8.ofNat n] else [255, UInt8.ofNat (n / 256 % 256), UInt8.ofNat (n % 256)]
/-- A field as it lies. -/
def fieldB (f : List UInt8) : List UInt8 := lenB f.length ++ f
/-- Fields as they lie. -/
def packB (L : List (List UInt8)) : List UInt8 := L.flatMap fieldB

theorem lenB_le (n : Nat) : 1 ≤ (lenB n).length ∧ (lenB n).length ≤ 3 := by unfold lenB; split <;> simp
theorem fieldB_length (f : List UInt8) : (fieldB f).length = (lenB f.length).length + f.length := by simp [fieldB]
theorem packB_nil : packB [] = [] := rfl
theorem packB_cons (f : List UInt8) (L : List (List UInt8)) : packB (f :: L) = fieldB f ++ packB L := by simp [packB]
theorem packB_append (L M : List (List UInt8)) : packB (L ++ M) = packB L ++ packB M := by simp [packB]
theorem packB_take_succ (L : List (List UInt8)) (k : Nat) (h : k < L.length) : packB (L.take (k + 1)) = packB (L.take k) ++ fieldB L[k] := by
  rw [List.take_succ_eq_append_getElem h, packB_append, packB_cons, packB_nil, List.append_nil]
theorem packB_take_le (L : List (List UInt8)) (k : Nat) : (packB (L.take k)).length ≤ (packB L).length := by
  conv => rhs; rw [← List.take_append_drop k L, packB_append, List.length_append]
  omega
end Go.Proofs.Ytkojoahamoffcaa

namespace Go.Proofs.Ytkojoahamoffcaa

/-- The length that bytes begin with, how many bytes it takes, and the error. -/
def firstLen (b : List UInt8) : Nat × Nat × Nat :=
  if (b.getD 0 0).toNat ≠ 255 then ((b.getD 0 0).toNat, 1, 0)
  else if b.length < 3 then (0, 0, 8)
  else if (b.getD 1 0).toNat * 256 + (b.getD 2 0).toNat < 255 then (0, 0, 7)
  else ((b.getD 1 0).toNat * 256 + (b.getD 2 0).toNat, 3, 0)
/-- The first field of bytes, what lies behind it, and the error. -/
def firstF (b : List UInt8) : List UInt8 × List UInt8 × Nat :=
  if (firstLen b).2.2 ≠ 0 then ([], [], (firstLen b).2.2)
  else if b.length < (firstLen b).2.1 + (firstLen b).1 then ([], [], 8)
  else ((b.drop (firstLen b).2.1).take (firstLen b).1, b.drop ((firstLen b).2.1 + (firstLen b).1), 0)

theorem firstLen_size (b : List UInt8) (h0 : b ≠ []) (h : (firstLen b).2.2 = 0) : 1 ≤ (firstLen b).2.1 ∧ (firstLen b).2.1 ≤ b.length ∧ (firstLen b).1 ≤ 65535 := by
  have hl : 0 < b.length := List.length_pos_iff.2 h0
  unfold firstLen at *
  generalize b.getD 0 0 = x0 at *
  generalize b.getD 1 0 = x1 at *
  generalize b.getD 2 0 = x2 at *
  have hb := x0.toNat_lt
  have hb1 := x1.toNat_lt
  have hb2 := x2.toNat_lt
  split at h
  · rename_i h1; rw [if_pos h1]; exact ⟨Nat.le_refl _, hl, by simp only; omega⟩
  · rename_i h1
    rw [if_neg h1]
    split at h
    · simp at h
    · rename_i h2
      rw [if_neg h2]
      split at h
      · simp at h
      · rename_i h3
        rw [if_neg h3]
        exact ⟨by simp only; omega, by simp only; omega, by simp only; omega⟩

theorem getD_append (a b : List UInt8) (i : Nat) (h : i < a.length) : (a ++ b).getD i 0 = a.getD i 0 := by
  simp [List.getD, List.getElem?_append, h]

theorem lenB_small (n : Nat) (h : n < 255) : lenB n = [UInt8.ofNat n] := if_pos h
theorem lenB_big (n : Nat) (h : ¬n < 255) : lenB n = [255, UInt8.ofNat (n / 256 % 256), UInt8.ofNat (n % 256)] := if_neg h

theorem firstLen_lenB (n : Nat) (r : List UInt8) (hn : n ≤ 65535) : firstLen (lenB n ++ r) = (n, (lenB n).length, 0) := by
  unfold firstLen
  by_cases h : n < 255
  · rw [lenB_small n h, if_pos]
    · simp [Nat.mod_eq_of_lt (show n < 256 by omega)]
    · simp [Nat.mod_eq_of_lt (show n < 256 by omega)]; omega
  · rw [lenB_big n h, if_neg (by simp), if_neg (by simp), if_neg]
    · simp
      omega
    · simp
      omega

theorem firstF_fieldB (f r : List UInt8) (hf : f.length ≤ 65535) : firstF (fieldB f ++ r) = (f, r, 0) := by
  unfold firstF fieldB
  rw [List.append_assoc, firstLen_lenB f.length (f ++ r) hf]
  simp only [ne_eq, not_true_eq_false, ↓reduceIte, List.length_append]
  rw [if_neg (by omega)]
  simp
end Go.Proofs.Ytkojoahamoffcaa

namespace Go.Proofs.Ytkojoahamoffcaa

/-- What going over bytes yields: fields, each with 0, and then an error, if there is one. -/
def stepsN : Nat → List UInt8 → List (List UInt8 × Nat)
  | 0, _ => []
  | n + 1, b => if b = [] then [] else if (firstF b).2.2 ≠ 0 then [([], (firstF b).2.2)] else ((firstF b).1, 0) :: stepsN n (firstF b).2.1
def steps (b : List UInt8) : List (List UInt8 × Nat) := stepsN b.length b

theorem firstF_rest (b : List UInt8) (h0 : b ≠ []) : (firstF b).2.1.length < b.length := by
  have hl : 0 < b.length := List.length_pos_iff.2 h0
  have hs := firstLen_size b h0
  unfold firstF
  split
  · simpa using hl
  · rename_i h
    have h1 := hs (by simpa using h)
    split
    · simpa using hl
    · simp only [List.length_drop]
      omega
theorem firstF_part (b : List UInt8) : (firstF b).1.length ≤ b.length := by
  unfold firstF
  split
  · simp
  · split
    · simp
    · simp only [List.length_take, List.length_drop]
      omega
theorem stepsN_nil (n : Nat) : stepsN n [] = [] := by cases n <;> rfl
theorem stepsN_fuel : ∀ (n m : Nat) (b : List UInt8), b.length ≤ n → b.length ≤ m → stepsN n b = stepsN m b
  | 0, m, b, hn, _ => by
    have : b = [] := List.eq_nil_of_length_eq_zero (by omega)
    subst this
    rw [stepsN_nil, stepsN_nil]
  | n + 1, 0, b, _, hm => by
    have : b = [] := List.eq_nil_of_length_eq_zero (by omega)
    subst this
    rw [stepsN_nil, stepsN_nil]
  | n + 1, m + 1, b, hn, hm => by
    unfold stepsN
    by_cases h0 : b = []
    · rw [if_pos h0, if_pos h0]
    · have hr := firstF_rest b h0
      rw [if_neg h0, if_neg h0]
      split
      · rfl
      · rw [stepsN_fuel n m _ (by omega) (by omega)]
theorem steps_nil : steps [] = [] := rfl
theorem steps_unfold (b : List UInt8) (h0 : b ≠ []) : steps b = if (firstF b).2.2 ≠ 0 then [([], (firstF b).2.2)] else ((firstF b).1, 0) :: steps (firstF b).2.1 := by
  have hr := firstF_rest b h0
  have hl := List.length_pos_iff.2 h0
  rw [steps, stepsN_fuel b.length (b.length - 1 + 1) b (Nat.le_refl _) (by omega)]
  unfold stepsN
  rw [if_neg h0]
  split
  · rfl
  · rw [steps, stepsN_fuel _ _ _ (by omega) (Nat.le_refl _)]
theorem steps_err (b : List UInt8) (h0 : b ≠ []) (h : (firstF b).2.2 ≠ 0) : steps b = [([], (firstF b).2.2)] := by rw [steps_unfold b h0, if_pos h]
theorem steps_ok (b : List UInt8) (h0 : b ≠ []) (h : (firstF b).2.2 = 0) : steps b = ((firstF b).1, 0) :: steps (firstF b).2.1 := by rw [steps_unfold b h0, if_neg (by simpa using h)]

theorem steps_length (b : List UInt8) : (steps b).length ≤ b.length := by
  have h : ∀ (n : Nat) (b : List UInt8), (stepsN n b).length ≤ b.length := by
    intro n
    induction n with
    | zero => intro b; simp [stepsN]
    | succ n ih =>
      intro b
      unfold stepsN
      by_cases h0 : b = []
      · rw [if_pos h0]; simp
      · have hr := firstF_rest b h0
        rw [if_neg h0]
        split
        · have := List.length_pos_iff.2 h0
          simp only [List.length_singleton]
          omega
        · have := ih (firstF b).2.1
          simp only [List.length_cons]
          omega
  exact h _ _

theorem fieldB_ne (f : List UInt8) : fieldB f ≠ [] := by
  have := (lenB_le f.length).1
  intro e
  have h2 := fieldB_length f
  rw [e] at h2
  simp only [List.length_nil] at h2
  omega
/-- Over fields as they lie, and bytes behind them. -/
theorem steps_packB (L : List (List UInt8)) (r : List UInt8) (h : ∀ f ∈ L, f.length ≤ 65535) : steps (packB L ++ r) = L.map (fun f => (f, 0)) ++ steps r := by
  induction L with
  | nil => simp [packB_nil]
  | cons f L ih =>
    have hf := firstF_fieldB f (packB L ++ r) (h f (by simp))
    rw [packB_cons, List.append_assoc, steps_ok _ (by simp [fieldB_ne]) (by rw [hf]), hf, ih (fun g hg => h g (by simp [hg]))]
    simp

/-- What Unpack answers. -/
def unpackV (most : Int) : List (List UInt8) → List (List UInt8 × Nat) → List (List UInt8) × Nat
  | acc, [] => (acc, 0)
  | acc, (f, e) :: r => if e ≠ 0 then ([], e) else if most ≤ acc.length then ([], 4) else unpackV most (acc ++ [f]) r
theorem unpackV_cons (most : Int) (acc : List (List UInt8)) (f : List UInt8) (e : Nat) (r : List (List UInt8 × Nat)) : unpackV most acc ((f, e) :: r) = if e ≠ 0 then ([], e) else if most ≤ acc.length then ([], 4) else unpackV most (acc ++ [f]) r := rfl
theorem unpackV_step {most : Int} {S : List (List UInt8 × Nat)} {k : Nat} {f : List UInt8} {e : Nat} (h : unpackV most [] S = unpackV most ((S.take k).map (·.1)) (S.drop k)) (hk : S[k]? = some (f, e)) :
    k < S.length ∧ (e ≠ 0 → unpackV most [] S = ([], e)) ∧ (e = 0 → most ≤ k → unpackV most [] S = ([], 4)) ∧
    (e = 0 → ¬ most ≤ k → unpackV most [] S = unpackV most ((S.take (k + 1)).map (·.1)) (S.drop (k + 1))) := by
  obtain ⟨hlt, hat⟩ := List.getElem?_eq_some_iff.1 hk
  have hl : ((S.take k).map (·.1)).length = k := by rw [List.length_map, List.length_take]; omega
  rw [List.drop_eq_getElem_cons hlt, hat, unpackV_cons, hl] at h
  refine ⟨hlt, fun he => by rw [h, if_pos he], fun he hm => by rw [h, if_neg (by simpa using he), if_pos hm], fun he hm => ?_⟩
  rw [h, if_neg (by simpa using he), if_neg hm, List.take_succ_eq_append_getElem hlt, List.map_append, List.map_singleton, hat]
theorem unpackV_ok (most : Int) (acc L : List (List UInt8)) (h : (acc.length + L.length : Int) ≤ most) : unpackV most acc (L.map (fun f => (f, 0))) = (acc ++ L, 0) := by
  induction L generalizing acc with
  | nil => simp [unpackV]
  | cons f L ih =>
    simp only [List.length_cons] at h
    simp only [List.map_cons, unpackV]
    rw [if_neg (by simp), if_neg (by omega), ih _ (by simp; omega)]
    simp
end Go.Proofs.Ytkojoahamoffcaa
