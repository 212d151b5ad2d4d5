/-
  The bytes of numbers stand as the numbers do.
-/
import Derived.Test.YtkhhihkcgpfmfaaNumMath
import GoSem.Op.String
namespace Go.Proofs.Ytkhhihkcgpfmfaa

theorem numLen_low (k n : Nat) (hk : numLen n ≤ k) (h0 : n ≠ 0) (h : n < 2 ^ 64) : 256 ^ (numLen n - 1) ≤ n := by
  induction k generalizing n with
  | zero => have := numLen_step n h0 h; omega
  | succ k ih =>
    have hs := numLen_step n h0 h
    by_cases hq : n / 256 = 0
    · rw [hs, hq, numLen_zero]; simp; omega
    · have h1 := ih (n / 256) (by omega) hq (by omega)
      have h2 := numLen_step (n / 256) hq (by omega)
      have e : numLen n - 1 = (numLen (n / 256) - 1) + 1 := by omega
      rw [e, Nat.pow_succ]
      omega
theorem numLen_mono (a b : Nat) (hab : a ≤ b) (hb : b < 2 ^ 64) : numLen a ≤ numLen b := by
  rcases Nat.eq_zero_or_pos a with h0 | h0
  · subst h0; rw [numLen_zero]; omega
  · have h1 := numLen_low _ a (Nat.le_refl _) (by omega) (by omega)
    have h2 := numLen_bound _ b (Nat.le_refl _) hb
    rcases Nat.lt_or_ge (numLen b) (numLen a) with h | h
    · have : 256 ^ numLen b ≤ 256 ^ (numLen a - 1) := Nat.pow_le_pow_right (by decide) (by omega)
      omega
    · exact h
theorem digs_mod (m n : Nat) : digs m (n % 256 ^ m) = digs m n := by
  induction m generalizing n with
  | zero => rfl
  | succ m ih =>
    have e1 : n % 256 ^ (m + 1) / 256 = n / 256 % 256 ^ m := by
      rw [Nat.pow_succ, Nat.mul_comm, Nat.mod_mul_right_div_self]
    have e2 : n % 256 ^ (m + 1) % 256 = n % 256 := by
      rw [Nat.pow_succ]
      exact Nat.mod_mul_left_mod _ _ _
    rw [digs, digs, e1, e2, ih]
theorem digs_less (m x y : Nat) (hx : x < 256 ^ m) (hy : y < 256 ^ m) : Op.bytesLess (digs m x) (digs m y) = decide (x < y) := by
  induction m generalizing x y with
  | zero => simp at hx hy; subst hx; subst hy; rfl
  | succ m ih =>
    have hp : 0 < 256 ^ m := Nat.pow_pos (by decide)
    rw [digs_cons, digs_cons, Op.bytesLess]
    have hqx : x / 256 ^ m < 256 := Nat.div_lt_of_lt_mul (by rw [Nat.pow_succ] at hx; exact hx)
    have hqy : y / 256 ^ m < 256 := Nat.div_lt_of_lt_mul (by rw [Nat.pow_succ] at hy; exact hy)
    rw [← digs_mod m x, ← digs_mod m y, ih _ _ (Nat.mod_lt _ hp) (Nat.mod_lt _ hp)]
    have h1 := Nat.div_add_mod x (256 ^ m)
    have h2 := Nat.div_add_mod y (256 ^ m)
    have hmx := Nat.mod_lt x hp
    have hmy := Nat.mod_lt y hp
    generalize x / 256 ^ m = qx at *
    generalize y / 256 ^ m = qy at *
    generalize x % 256 ^ m = rx at *
    generalize y % 256 ^ m = ry at *
    generalize 256 ^ m = p at *
    have c1 : (UInt8.ofNat (qx % 256) < UInt8.ofNat (qy % 256)) ↔ qx < qy := by
      rw [UInt8.lt_iff_toNat_lt]; simp; omega
    have c2 : (UInt8.ofNat (qx % 256) = UInt8.ofNat (qy % 256)) ↔ qx = qy := by
      rw [← UInt8.toNat_inj]; simp; omega
    rw [Bool.eq_iff_iff]
    simp only [Bool.or_eq_true, decide_eq_true_eq, Bool.and_eq_true, beq_iff_eq, c1, c2]
    subst h1
    subst h2
    rcases Nat.lt_trichotomy qx qy with h | h | h
    · have : p * qx + p ≤ p * qy := by rw [← Nat.mul_succ]; exact Nat.mul_le_mul_left _ h
      constructor
      · intro _; omega
      · intro _; exact .inl h
    · subst h
      constructor
      · rintro (h | ⟨_, h⟩) <;> omega
      · intro h; exact .inr ⟨rfl, by omega⟩
    · have : p * qy + p ≤ p * qx := by rw [← Nat.mul_succ]; exact Nat.mul_le_mul_left _ h
      constructor
      · rintro (h' | ⟨h', _⟩) <;> omega
      · intro h'; omega
/-- Of two numbers the lesser one has fewer bytes, or as many that come first. -/
theorem numB_less (a b : Nat) (ha : a < 2 ^ 64) (hb : b < 2 ^ 64) (hl : numLen a = numLen b) : Op.bytesLess (numB a) (numB b) = decide (a < b) := by
  have h1 := numLen_bound _ a (Nat.le_refl _) ha
  have h2 := numLen_bound _ b (Nat.le_refl _) hb
  unfold numB
  rw [← hl] at h2 ⊢
  exact digs_less _ _ _ h1 h2
theorem numB_inj (a b : Nat) (ha : a < 2 ^ 64) (hb : b < 2 ^ 64) (h : numB a = numB b) : a = b := by
  rw [← asNum_numB a ha, ← asNum_numB b hb, h]
end Go.Proofs.Ytkhhihkcgpfmfaa
