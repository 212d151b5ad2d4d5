/-
  Plain facts on numbers and their bytes: the most significant first, without leading zeros.
-/
import Derived.Lib.BitFns
namespace Go.Proofs.Ytkojoahamoffcaa

theorem snoc_ind {α : Type} {p : List α → Prop} (h0 : p []) (h1 : ∀ l a, p l → p (l ++ [a])) (l : List α) : p l := by
  rw [← List.reverse_reverse l]
  induction l.reverse with
  | nil => exact h0
  | cons a r ih => rw [List.reverse_cons]; exact h1 _ _ ih

/-- The last m digits of n in base 256. -/
def digs : Nat → Nat → List UInt8
  | 0, _ => []
  | m + 1, n => digs m (n / 256) ++ [UInt8.ofNat (n % 256)]

theorem digs_length (m n : Nat) : (digs m n).length = m := by
  induction m generalizing n with
  | zero => rfl
  | succ m ih => simp [digs, ih]

theorem digs_cons (t N : Nat) : digs (t + 1) N = UInt8.ofNat (N / 256 ^ t % 256) :: digs t N := by
  induction t generalizing N with
  | zero => simp [digs]
  | succ t ih =>
    rw [digs, ih, digs]
    simp only [List.cons_append]
    congr 3
    rw [Nat.div_div_eq_div_mul, Nat.pow_succ, Nat.mul_comm]

/-- How many bytes a number has. -/
def numLen (n : Nat) : Nat := (Lib.bitLen n + 7) / 8
/-- The bytes of a number. -/
def numB (n : Nat) : List UInt8 := digs (numLen n) n

theorem numB_length (n : Nat) : (numB n).length = numLen n := digs_length _ _
theorem numLen_zero : numLen 0 = 0 := by decide
theorem bitLen_lt256 : ∀ n : Fin 256, n.val ≠ 0 → 1 ≤ Lib.bitLen n.val ∧ Lib.bitLen n.val ≤ 8 := by decide +kernel
theorem numLen_step (n : Nat) (h0 : n ≠ 0) (h : n < 2 ^ 64) : numLen n = numLen (n / 256) + 1 := by
  unfold numLen
  by_cases h1 : n < 256
  · have h2 := bitLen_lt256 ⟨n, h1⟩ h0
    have h3 : n / 256 = 0 := Nat.div_eq_of_lt h1
    rw [h3]
    have h4 : Lib.bitLen 0 = 0 := by decide
    rw [h4]
    simp only at h2
    omega
  · have := Lib.bitLen_shift8 n (by omega) (by omega)
    omega
theorem numB_zero : numB 0 = [] := by unfold numB; rw [numLen_zero]; rfl
theorem numB_step (n : Nat) (h0 : n ≠ 0) (h : n < 2 ^ 64) : numB n = numB (n / 256) ++ [UInt8.ofNat (n % 256)] := by
  unfold numB
  rw [numLen_step n h0 h, digs]
theorem numLen_le (n : Nat) (h : n < 2 ^ 64) : numLen n ≤ 8 := by
  have := Lib.bitLen_le n 64 (Nat.le_refl _) h
  unfold numLen
  omega

/-- The number of bytes. -/
def asNum (l : List UInt8) : Nat := l.foldl (fun a b => a * 256 + b.toNat) 0
theorem asNum_nil : asNum [] = 0 := rfl
theorem asNum_snoc (l : List UInt8) (b : UInt8) : asNum (l ++ [b]) = asNum l * 256 + b.toNat := by simp [asNum]
theorem asNum_lt (l : List UInt8) : asNum l < 256 ^ l.length := by
  induction l using snoc_ind with
  | h0 => simp [asNum]
  | h1 l b ih =>
    rw [asNum_snoc, List.length_append, List.length_singleton, Nat.pow_succ]
    have := b.toNat_lt
    omega
theorem asNum_lt64 (l : List UInt8) (h : l.length ≤ 8) : asNum l < 2 ^ 64 := by
  have h1 := asNum_lt l
  have h2 : 256 ^ l.length ≤ 256 ^ 8 := Nat.pow_le_pow_right (by decide) h
  have h3 : (256 : Nat) ^ 8 = 2 ^ 64 := by decide
  omega
theorem asNum_pos (l : List UInt8) (h0 : l.head? ≠ some 0) (hn : l ≠ []) : asNum l ≠ 0 := by
  induction l using snoc_ind with
  | h0 => exact absurd rfl hn
  | h1 l b ih =>
    rw [asNum_snoc]
    by_cases hl : l = []
    · subst hl
      intro h
      apply h0
      have : b.toNat = 0 := by simp [asNum] at h; exact h
      have hb : b = 0 := UInt8.toNat_inj.1 this
      simp [hb]
    · have hh : l.head? ≠ some 0 := by
        intro h
        apply h0
        cases l with
        | nil => exact absurd rfl hl
        | cons x l => simpa using h
      have := ih hh hl
      omega
theorem numB_asNum (l : List UInt8) (h8 : l.length ≤ 8) (h0 : l.head? ≠ some 0) : numB (asNum l) = l := by
  induction l using snoc_ind with
  | h0 => exact numB_zero
  | h1 l b ih =>
    have hne := asNum_pos (l ++ [b]) h0 (by simp)
    have hlt := asNum_lt64 (l ++ [b]) h8
    rw [numB_step _ hne hlt, asNum_snoc]
    have hb := b.toNat_lt
    have e1 : (asNum l * 256 + b.toNat) / 256 = asNum l := by omega
    have e2 : (asNum l * 256 + b.toNat) % 256 = b.toNat := by omega
    rw [e1, e2]
    simp only [List.length_append, List.length_singleton] at h8
    have hh : l.head? ≠ some 0 := by
      intro h
      apply h0
      cases l with
      | nil => simp at h
      | cons x l => simpa using h
    rw [ih (by omega) hh]
    simp
theorem numB_head (k n : Nat) (hk : numLen n ≤ k) (h : n < 2 ^ 64) : (numB n).head? ≠ some 0 := by
  induction k generalizing n with
  | zero =>
    have : numB n = [] := List.eq_nil_of_length_eq_zero (by rw [numB_length]; omega)
    rw [this]; simp
  | succ k ih =>
    by_cases h0 : n = 0
    · subst h0; rw [numB_zero]; simp
    · have hs := numLen_step n h0 h
      have h1 := ih (n / 256) (by omega) (by omega)
      rw [numB_step n h0 h]
      by_cases hq : n / 256 = 0
      · rw [hq, numB_zero]
        simp only [List.nil_append, List.head?_cons, ne_eq, Option.some.injEq]
        intro hz
        have := congrArg UInt8.toNat hz
        simp at this
        omega
      · have hl : numB (n / 256) ≠ [] := by
          intro e
          have := numB_length (n / 256)
          have h3 := numLen_step (n / 256) hq (by omega)
          rw [e] at this
          simp at this
          omega
        intro hh
        apply h1
        cases hc : numB (n / 256) with
        | nil => exact absurd hc hl
        | cons x r => rw [hc] at hh; simpa using hh
theorem numB_asNum_iff (l : List UInt8) (h8 : l.length ≤ 8) : numB (asNum l) = l ↔ l.head? ≠ some 0 :=
  ⟨fun h => by rw [← h]; exact numB_head _ _ (Nat.le_refl _) (asNum_lt64 l h8), numB_asNum l h8⟩
theorem asNum_digs (m n : Nat) : asNum (digs m n) = n % 256 ^ m := by
  induction m generalizing n with
  | zero => simp [digs, asNum, Nat.mod_one]
  | succ m ih =>
    rw [digs, asNum_snoc, ih, Nat.pow_succ, Nat.mul_comm (256 ^ m) 256, Nat.mod_mul]
    simp
    omega
theorem numLen_bound (k n : Nat) (hk : numLen n ≤ k) (h : n < 2 ^ 64) : n < 256 ^ numLen n := by
  induction k generalizing n with
  | zero =>
    by_cases h0 : n = 0
    · subst h0; rw [numLen_zero]; simp
    · have := numLen_step n h0 h; omega
  | succ k ih =>
    by_cases h0 : n = 0
    · subst h0; rw [numLen_zero]; simp
    · have hs := numLen_step n h0 h
      have h1 := ih (n / 256) (by omega) (by omega)
      rw [hs, Nat.pow_succ]
      omega
theorem asNum_numB (n : Nat) (h : n < 2 ^ 64) : asNum (numB n) = n := by
  unfold numB
  rw [asNum_digs, Nat.mod_eq_of_lt (numLen_bound _ n (Nat.le_refl _) h)]
end Go.Proofs.Ytkojoahamoffcaa
