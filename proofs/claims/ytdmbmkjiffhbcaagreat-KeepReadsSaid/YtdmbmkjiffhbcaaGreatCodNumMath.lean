/-
  Plain facts on numbers and their bytes: the most significant first, without leading zeros.
  Plain facts on fields as they lie: their lengths ahead of them.
  Plain facts on the first field of bytes.
  Plain facts on going over fields.
-/
import Derived.Lib.BitFns
namespace Go.Proofs.YtdmbmkjiffhbcaaGreat

theorem snoc_ind {α : Type} {p : List α → Prop} (h0 : p []) (h1 : ∀ l a, p l → p (l ++ [a])) (l : List α) : p l := by
  rw [← List.reverse_reverse l]
  induction l.reverse with
  | nil => exact h0
  | cons a r ih => rw [List.reverse_cons]; exact h1 _ _ ih

/-- The last m digits of n in base 256. -/
def digs : Nat → Nat → List UInt8
  | 0, _ => []
  | m + 1, n => digs m (n / 256) ++ [UInt8.ofNat (n % 256)]

theorem digs_length (m n : Nat) : (digs m n).length = m := by
  induction m generalizing n with
  | zero => rfl
  | succ m ih => simp [digs, ih]

theorem digs_cons (t N : Nat) : digs (t + 1) N = UInt8.ofNat (N / 256 ^ t % 256) :: digs t N := by
  induction t generalizing N with
  | zero => simp [digs]
  | succ t ih =>
    rw [digs, ih, digs]
    simp only [List.cons_append]
    congr 3
    rw [Nat.div_div_eq_div_mul, Nat.pow_succ, Nat.mul_comm]

/-- How many bytes a number has. -/
def numLen (n : Nat) : Nat := (Lib.bitLen n + 7) / 8
/-- The bytes of a number. -/
def numB (n : Nat) : List UInt8 := digs (numLen n) n

theorem numB_length (n : Nat) : (numB n).length = numLen n := digs_length _ _
theorem numLen_zero : numLen 0 = 0 := by decide
theorem bitLen_lt256 : ∀ n : Fin 256, n.val ≠ 0 → 1 ≤ Lib.bitLen n.val ∧ Lib.bitLen n.val ≤ 8 := by decide +kernel
theorem numLen_step (n : Nat) (h0 : n ≠ 0) (h : n < 2 ^ 64) : numLen n = numLen (n / 256) + 1 := by
  unfold numLen
  by_cases h1 : n < 256
  · have h2 := bitLen_lt256 ⟨n, h1⟩ h0
    have h3 : n / 256 = 0 := Nat.div_eq_of_lt h1
    rw [h3]
    have h4 : Lib.bitLen 0 = 0 := by decide
    rw [h4]
    simp only at h2
    omega
  · have := Lib.bitLen_shift8 n (by omega) (by omega)
    omega
theorem numB_zero : numB 0 = [] := by unfold numB; rw [numLen_zero]; rfl
theorem numB_step (n : Nat) (h0 : n ≠ 0) (h : n < 2 ^ 64) : numB n = numB (n / 256) ++ [UInt8.ofNat (n % 256)] := by
  unfold numB
  rw [numLen_step n h0 h, digs]
theorem numLen_le (n : Nat) (h : n < 2 ^ 64) : numLen n ≤ 8 := by
  have := Lib.bitLen_le n 64 (Nat.le_refl _) h
  unfold numLen
  omega

/-- The number of bytes. -/
def asNum (l : List UInt8) : Nat := l.foldl (fun a b => a * 256 + b.toNat) 0
theorem asNum_nil : asNum [] = 0 := rfl
theorem asNum_snoc (l : List UInt8) (b : UInt8) : asNum (l ++ [b]) = asNum l * 256 + b.toNat := by simp [asNum]
theorem asNum_lt (l : List UInt8) : asNum l < 256 ^ l.length := by
  induction l using snoc_ind with
  | h0 => simp [asNum]
  | h1 l b ih =>
    rw [asNum_snoc, List.length_append, List.length_singleton, Nat.pow_succ]
    have := b.toNat_lt
    omega
theorem asNum_lt64 (l : List UInt8) (h : l.length ≤ 8) : asNum l < 2 ^ 64 := by
  have h1 := asNum_lt l
  have h2 : 256 ^ l.length ≤ 256 ^ 8 := Nat.pow_le_pow_right (by decide) h
  have h3 : (256 : Nat) ^ 8 = 2 ^ 64 := by decide
  omega
theorem asNum_pos (l : List UInt8) (h0 : l.head? ≠ some 0) (hn : l ≠ []) : asNum l ≠ 0 := by
  induction l using snoc_ind with
  | h0 => exact absurd rfl hn
  | h1 l b ih =>
    rw [asNum_snoc]
    by_cases hl : l = []
    · subst hl
      intro h
      apply h0
      have : b.toNat = 0 := by simp [asNum] at h; exact h
      have hb : b = 0 := UInt8.toNat_inj.1 this
      simp [hb]
    · have hh : l.head? ≠ some 0 := by
        intro h
        apply h0
        cases l with
        | nil => exact absurd rfl hl
        | cons x l => simpa using h
      have := ih hh hl
      omega
theorem numB_asNum (l : List UInt8) (h8 : l.length ≤ 8) (h0 : l.head? ≠ some 0) : numB (asNum l) = l := by
  induction l using snoc_ind with
  | h0 => exact numB_zero
  | h1 l b ih =>
    have hne := asNum_pos (l ++ [b]) h0 (by simp)
    have hlt := asNum_lt64 (l ++ [b]) h8
    rw [numB_step _ hne hlt, asNum_snoc]
    have hb := b.toNat_lt
    have e1 : (asNum l * 256 + b.toNat) / 256 = asNum l := by omega
    have e2 : (asNum l * 256 + b.toNat) % 256 = b.toNat := by omega
    rw [e1, e2]
    simp only [List.length_append, List.length_singleton] at h8
    have hh : l.head? ≠ some 0 := by
      intro h
      apply h0
      cases l with
      | nil => simp at h
      | cons x l => simpa using h
    rw [ih (by omega) hh]
    simp
theorem numB_head (k n : Nat) (hk : numLen n ≤ k) (h : n < 2 ^ 64) : (numB n).head? ≠ some 0 := by
  induction k generalizing n with
  | zero =>
    have : numB n = [] := List.eq_nil_of_length_eq_zero (by rw [numB_length]; omega)
    rw [this]; simp
  | succ k ih =>
    by_cases h0 : n = 0
    · subst h0; rw [numB_zero]; simp
    · have hs := numLen_step n h0 h
      have h1 := ih (n / 256) (by omega) (by omega)
      rw [numB_step n h0 h]
      by_cases hq : n / 256 = 0
      · rw [hq, numB_zero]
        simp only [List.nil_append, List.head?_cons, ne_eq, Option.some.injEq]
        intro hz
        have := congrArg UInt8.toNat hz
        simp at this
        omega
      · have hl : numB (n / 256) ≠ [] := by
          intro e
          have := numB_length (n / 256)
          have h3 := numLen_step (n / 256) hq (by omega)
          rw [e] at this
          simp at this
          omega
        intro hh
        apply h1
        cases hc : numB (n / 256) with
        | nil => exact absurd hc hl
        | cons x r => rw [hc] at hh; simpa using hh
theorem numB_asNum_iff (l : List UInt8) (h8 : l.length ≤ 8) : numB (asNum l) = l ↔ l.head? ≠ some 0 :=
  ⟨fun h => by rw [← h]; exact numB_head _ _ (Nat.le_refl _) (asNum_lt64 l h8), numB_asNum l h8⟩
theorem asNum_digs (m n : Nat) : asNum (digs m n) = n % 256 ^ m := by
  induction m generalizing n with
  | zero => simp [digs, asNum, Nat.mod_one]
  | succ m ih =>
    rw [digs, asNum_snoc, ih, Nat.pow_succ, Nat.mul_comm (256 ^ m) 256, Nat.mod_mul]
    simp
    omega
theorem numLen_bound (k n : Nat) (hk : numLen n ≤ k) (h : n < 2 ^ 64) : n < 256 ^ numLen n := by
  induction k generalizing n with
  | zero =>
    by_cases h0 : n = 0
    · subst h0; rw [numLen_zero]; simp
    · have := numLen_step n h0 h; omega
  | succ k ih =>
    by_cases h0 : n = 0
    · subst h0; rw [numLen_zero]; simp
    · have hs := numLen_step n h0 h
      have h1 := ih (n / 256) (by omega) (by omega)
      rw [hs, Nat.pow_succ]
      omega
theorem asNum_numB (n : Nat) (h : n < 2 ^ 64) : asNum (numB n) = n := by
  unfold numB
  rw [asNum_digs, Nat.mod_eq_of_lt (numLen_bound _ n (Nat.le_refl _) h)]
end Go.Proofs.YtdmbmkjiffhbcaaGreat

namespace Go.Proofs.YtdmbmkjiffhbcaaGreat

/-- A length's bytes. -/
def lenB (n : Nat) : List UInt8 := if n < 255 then [UInt8.ofNat n] else [255, UInt8.ofNat (n / 256 % 256), UInt8.ofNat (n % 256)]
/-- A field as it lies. -/
def fieldB (f : List UInt8) : List UInt8 := lenB f.length ++ f
/-- Fields as they lie. -/
def packB (L : List (List UInt8)) : List UInt8 := L.flatMap fieldB

theorem lenB_le (n : Nat) : 1 ≤ (lenB n).length ∧ (lenB n).length ≤ 3 := by unfold lenB; split <;> simp
theorem fieldB_length (f : List UInt8) : (fieldB f).length = (lenB f.length).length + f.length := by simp [fieldB]
theorem packB_nil : packB [] = [] := rfl
theorem packB_cons (f : List UInt8) (L : List (List UInt8)) : packB (f :: L) = fieldB f ++ packB L := by simp [packB]
theorem packB_append (L M : List (List UInt8)) : packB (L ++ M) = packB L ++ packB M := by simp [packB]
theorem packB_take_succ (L : List (List UInt8)) (k : Nat) (h : k < L.length) : packB (L.take (k + 1)) = packB (L.take k) ++ fieldB L[k] := by
  rw [List.take_succ_eq_append_getElem h, packB_append, packB_cons, packB_nil, List.append_nil]
theorem packB_take_le (L : List (List UInt8)) (k : Nat) : (packB (L.take k)).length ≤ (packB L).length := by
  conv => rhs; rw [← List.take_append_drop k L, packB_append, List.length_append]
  omega
end Go.Proofs.YtdmbmkjiffhbcaaGreat

namespace Go.Proofs.YtdmbmkjiffhbcaaGreat

/-- The length that bytes begin with, how many bytes it takes, and the error. -/
def firstLen (b : List UInt8) : Nat × Nat × Nat :=
  if (b.getD 0 0).toNat ≠ 255 then ((b.getD 0 0).toNat, 1, 0)
  else if b.length < 3 then (0, 0, 8)
  else if (b.getD 1 0).toNat * 256 + (b.getD 2 0).toNat < 255 then (0, 0, 7)
  else ((b.getD 1 0).toNat * 256 + (b.getD 2 0).toNat, 3, 0)
/-- The first field of bytes, what lies behind it, and the error. -/
def firstF (b : List UInt8) : List UInt8 × List UInt8 × Nat :=
  if (firstLen b).2.2 ≠ 0 then ([], [], (firstLen b).2.2)
  else if b.length < (firstLen b).2.1 + (firstLen b).1 then ([], [], 8)
  else ((b.drop (firstLen b).2.1).take (firstLen b).1, b.drop ((firstLen b).2.1 + (firstLen b).1), 0)

theorem firstLen_size (b : List UInt8) (h0 : b ≠ []) (h : (firstLen b).2.2 = 0) : 1 ≤ (firstLen b).2.1 ∧ (firstLen b).2.1 ≤ b.length ∧ (firstLen b).1 ≤ 65535 := by
  have hl : 0 < b.length := List.length_pos_iff.2 h0
  unfold firstLen at *
  generalize b.getD 0 0 = x0 at *
  generalize b.getD 1 0 = x1 at *
  generalize b.getD 2 0 = x2 at *
  have hb := x0.toNat_lt
  have hb1 := x1.toNat_lt
  have hb2 := x2.toNat_lt
  split at h
  · rename_i h1; rw [if_pos h1]; exact ⟨Nat.le_refl _, hl, by simp only; omega⟩
  · rename_i h1
    rw [if_neg h1]
    split at h
    · simp at h
    · rename_i h2
      rw [if_neg h2]
      split at h
      · simp at h
      · rename_i h3
        rw [if_neg h3]
        exact ⟨by simp only; omega, by simp only; omega, by simp only; omega⟩

theorem getD_append (a b : List UInt8) (i : Nat) (h : i < a.length) : (a ++ b).getD i 0 = a.getD i 0 := by
  simp [List.getD, List.getElem?_append, h]

theorem lenB_small (n : Nat) (h : n < 255) : lenB n = [UInt8.ofNat n] := if_pos h
theorem lenB_big (n : Nat) (h : ¬n < 255) : lenB n = [255, UInt8.ofNat (n / 256 % 256), UInt8.ofNat (n % 256)] := if_neg h

theorem firstLen_lenB (n : Nat) (r : List UInt8) (hn : n ≤ 65535) : firstLen (lenB n ++ r) = (n, (lenB n).length, 0) := by
  unfold firstLen
  by_cases h : n < 255
  · rw [lenB_small n h, if_pos]
    · simp [Nat.mod_eq_of_lt (show n < 256 by omega)]
    · simp [Nat.mod_eq_of_lt (show n < 256 by omega)]; omega
  · rw [lenB_big n h, if_neg (by simp), if_neg (by simp), if_neg]
    · simp
      omega
    · simp
      omega

theorem firstF_fieldB (f r : List UInt8) (hf : f.length ≤ 65535) : firstF (fieldB f ++ r) = (f, r, 0) := by
  unfold firstF fieldB
  rw [List.append_assoc, firstLen_lenB f.length (f ++ r) hf]
  simp only [ne_eq, not_true_eq_false, ↓reduceIte, List.length_append]
  rw [if_neg (by omega)]
  simp
end Go.Proofs.YtdmbmkjiffhbcaaGreat

namespace Go.Proofs.YtdmbmkjiffhbcaaGreat

/-- What going over bytes yields: fields, each with 0, and then an error, if there is one. -/
def stepsN : Nat → List UInt8 → List (List UInt8 × Nat)
  | 0, _ => []
  | n + 1, b => if b = [] then [] else if (firstF b).2.2 ≠ 0 then [([], (firstF b).2.2)] else ((firstF b).1, 0) :: stepsN n (firstF b).2.1
def steps (b : List UInt8) : List (List UInt8 × Nat) := stepsN b.length b

theorem firstF_rest (b : List UInt8) (h0 : b ≠ []) : (firstF b).2.1.length < b.length := by
  have hl : 0 < b.length := List.length_pos_iff.2 h0
  have hs := firstLen_size b h0
  unfold firstF
  split
  · simpa using hl
  · rename_i h
    have h1 := hs (by simpa using h)
    split
    · simpa using hl
    · simp only [List.length_drop]
      omega
theorem firstF_part (b : List UInt8) : (firstF b).1.length ≤ b.length := by
  unfold firstF
  split
  · simp
  · split
    · simp
    · simp only [List.length_take, List.length_drop]
      omega
theorem stepsN_nil (n : Nat) : stepsN n [] = [] := by cases n <;> rfl
theorem stepsN_fuel : ∀ (n m : Nat) (b : List UInt8), b.length ≤ n → b.length ≤ m → stepsN n b = stepsN m b
  | 0, m, b, hn, _ => by
    have : b = [] := List.eq_nil_of_length_eq_zero (by omega)
    subst this
    rw [stepsN_nil, stepsN_nil]
  | n + 1, 0, b, _, hm => by
    have : b = [] := List.eq_nil_of_length_eq_zero (by omega)
    subst this
    rw [stepsN_nil, stepsN_nil]
  | n + 1, m + 1, b, hn, hm => by
    unfold stepsN
    by_cases h0 : b = []
    · rw [if_pos h0, if_pos h0]
    · have hr := firstF_rest b h0
      rw [if_neg h0, if_neg h0]
      split
      · rfl
      · rw [stepsN_fuel n m _ (by omega) (by omega)]
theorem steps_nil : steps [] = [] := rfl
theorem steps_unfold (b : List UInt8) (h0 : b ≠ []) : steps b = if (firstF b).2.2 ≠ 0 then [([], (firstF b).2.2)] else ((firstF b).1, 0) :: steps (firstF b).2.1 := by
  have hr := firstF_rest b h0
  have hl := List.length_pos_iff.2 h0
  rw [steps, stepsN_fuel b.length (b.length - 1 + 1) b (Nat.le_refl _) (by omega)]
  unfold stepsN
  rw [if_neg h0]
  split
  · rfl
  · rw [steps, stepsN_fuel _ _ _ (by omega) (Nat.le_refl _)]
theorem steps_err (b : List UInt8) (h0 : b ≠ []) (h : (firstF b).2.2 ≠ 0) : steps b = [([], (firstF b).2.2)] := by rw [steps_unfold b h0, if_pos h]
theorem steps_ok (b : List UInt8) (h0 : b ≠ []) (h : (firstF b).2.2 = 0) : steps b = ((firstF b).1, 0) :: steps (firstF b).2.1 := by rw [steps_unfold b h0, if_neg (by simpa using h)]

theorem steps_length (b : List UInt8) : (steps b).length ≤ b.length := by
  have h : ∀ (n : Nat) (b : List UInt8), (stepsN n b).length ≤ b.length := by
    intro n
    induction n with
    | zero => intro b; simp [stepsN]
    | succ n ih =>
      intro b
      unfold stepsN
      by_cases h0 : b = []
      · rw [if_pos h0]; simp
      · have hr := firstF_rest b h0
        rw [if_neg h0]
        split
        · have := List.length_pos_iff.2 h0
          simp only [List.length_singleton]
          omega
        · have := ih (firstF b).2.1
          simp only [List.length_cons]
          omega
  exact h _ _

theorem fieldB_ne (f : List UInt8) : fieldB f ≠ [] := by
  have := (lenB_le f.length).1
  intro e
  have h2 := fieldB_length f
  rw [e] at h2
  simp only [List.length_nil] at h2
  omega
/-- Over fields as they lie, and bytes behind them. -/
theorem steps_packB (L : List (List UInt8)) (r : List UInt8) (h : ∀ f ∈ L, f.length ≤ 65535) : steps (packB L ++ r) = L.map (fun f => (f, 0)) ++ steps r := by
  induction L with
  | nil => simp [packB_nil]
  | cons f L ih =>
    have hf := firstF_fieldB f (packB L ++ r) (h f (by simp))
    rw [packB_cons, List.append_assoc, steps_ok _ (by simp [fieldB_ne]) (by rw [hf]), hf, ih (fun g hg => h g (by simp [hg]))]
    simp

/-- What Unpack answers. -/
def unpackV (most : Int) : List (List UInt8) → List (List UInt8 × Nat) → List (List UInt8) × Nat
  | acc, [] => (acc, 0)
  | acc, (f, e) :: r => if e ≠ 0 then ([], e) else if most ≤ acc.length then ([], 4) else unpackV most (acc ++ [f]) r
theorem unpackV_cons (most : Int) (acc : List (List UInt8)) (f : List UInt8) (e : Nat) (r : List (List UInt8 × Nat)) : unpackV most acc ((f, e) :: r) = if e ≠ 0 then ([], e) else if most ≤ acc.length then ([], 4) else unpackV most (acc ++ [f]) r := rfl
theorem unpackV_step {most : Int} {S : List (List UInt8 × Nat)} {k : Nat} {f : List UInt8} {e : Nat} (h : unpackV most [] S = unpackV most ((S.take k).map (·.1)) (S.drop k)) (hk : S[k]? = some (f, e)) :
    k < S.length ∧ (e ≠ 0 → unpackV most [] S = ([], e)) ∧ (e = 0 → most ≤ k → unpackV most [] S = ([], 4)) ∧
    (e = 0 → ¬ most ≤ k → unpackV most [] S = unpackV most ((S.take (k + 1)).map (·.1)) (S.drop (k + 1))) := by
  obtain ⟨hlt, hat⟩ := List.getElem?_eq_some_iff.1 hk
  have hl : ((S.take k).map (·.1)).length = k := by rw [List.length_map, List.length_take]; omega
  rw [List.drop_eq_getElem_cons hlt, hat, unpackV_cons, hl] at h
  refine ⟨hlt, fun he => by rw [h, if_pos he], fun he hm => by rw [h, if_neg (by simpa using he), if_pos hm], fun he hm => ?_⟩
  rw [h, if_neg (by simpa using he), if_neg hm, List.take_succ_eq_append_getElem hlt, List.map_append, List.map_singleton, hat]
theorem unpackV_ok (most : Int) (acc L : List (List UInt8)) (h : (acc.length + L.length : Int) ≤ most) : unpackV most acc (L.map (fun f => (f, 0))) = (acc ++ L, 0) := by
  induction L generalizing acc with
  | nil => simp [unpackV]
  | cons f L ih =>
    simp only [List.length_cons] at h
    simp only [List.map_cons, unpackV]
    rw [if_neg (by simp), if_neg (by omega), ih _ (by simp; omega)]
    simp
end Go.Proofs.YtdmbmkjiffhbcaaGreat
