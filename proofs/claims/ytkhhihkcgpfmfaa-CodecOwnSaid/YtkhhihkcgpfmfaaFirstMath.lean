/-
  Plain facts on the first field of bytes.
-/
import Derived.Test.YtkhhihkcgpfmfaaPackMath
import Derived.Test.YtkhhihkcgpfmfaaNumMath
namespace Go.Proofs.Ytkhhihkcgpfmfaa

/-- The length that bytes begin with, how many bytes it takes, and the error. -/
def firstLen (b : List UInt8) : Nat × Nat × Nat :=
  if (b.getD 0 0).toNat ≠ 255 then ((b.getD 0 0).toNat, 1, 0)
  else if b.length < 3 then (0, 0, 8)
  else if (b.getD 1 0).toNat * 256 + (b.getD 2 0).toNat < 255 then (0, 0, 7)
  else ((b.getD 1 0).toNat * 256 + (b.getD 2 0).toNat, 3, 0)
/-- The first field of bytes, what lies behind it, and the error. -/
def firstF (b : List UInt8) : List UInt8 × List UInt8 × Nat :=
  if (firstLen b).2.2 ≠ 0 then ([], [], (firstLen b).2.2)
  else if b.length < (firstLen b).2.1 + (firstLen b).1 then ([], [], 8)
  else ((b.drop (firstLen b).2.1).take (firstLen b).1, b.drop ((firstLen b).2.1 + (firstLen b).1), 0)

theorem firstLen_size (b : List UInt8) (h0 : b ≠ []) (h : (firstLen b).2.2 = 0) : 1 ≤ (firstLen b).2.1 ∧ (firstLen b).2.1 ≤ b.length ∧ (firstLen b).1 ≤ 65535 := by
  have hl : 0 < b.length := List.length_pos_iff.2 h0
  unfold firstLen at *
  generalize b.getD 0 0 = x0 at *
  generalize b.getD 1 0 = x1 at *
  generalize b.getD 2 0 = x2 at *
  have hb := x0.toNat_lt
  have hb1 := x1.toNat_lt
  have hb2 := x2.toNat_lt
  split at h
  · rename_i h1; rw [if_pos h1]; exact ⟨Nat.le_refl _, hl, by simp only; omega⟩
  · rename_i h1
    rw [if_neg h1]
    split at h
    · simp at h
    · rename_i h2
      rw [if_neg h2]
      split at h
      · simp at h
      · rename_i h3
        rw [if_neg h3]
        exact ⟨by simp only; omega, by simp only; omega, by simp only; omega⟩

theorem getD_append (a b : List UInt8) (i : Nat) (h : i < a.length) : (a ++ b).getD i 0 = a.getD i 0 := by
  simp [List.getD, List.getElem?_append, h]

theorem lenB_small (n : Nat) (h : n < 255) : lenB n = [UInt8.ofNat n] := if_pos h
theorem lenB_big (n : Nat) (h : ¬n < 255) : lenB n = [255, UInt8.ofNat (n / 256 % 256), UInt8.ofNat (n % 256)] := if_neg h

theorem firstLen_lenB (n : Nat) (r : List UInt8) (hn : n ≤ 65535) : firstLen (lenB n ++ r) = (n, (lenB n).length, 0) := by
  unfold firstLen
  by_cases h : n < 255
  · rw [lenB_small n h, if_pos]
    · simp [Nat.mod_eq_of_lt (show n < 256 by omega)]
    · simp [Nat.mod_eq_of_lt (show n < 256 by omega)]; omega
  · rw [lenB_big n h, if_neg (by simp), if_neg (by simp), if_neg]
    · simp
      omega
    · simp
      omega

theorem firstF_fieldB (f r : List UInt8) (hf : f.length ≤ 65535) : firstF (fieldB f ++ r) = (f, r, 0) := by
  unfold firstF fieldB
  rw [List.append_assoc, firstLen_lenB f.length (f ++ r) hf]
  simp only [ne_eq, not_true_eq_false, ↓reduceIte, List.length_append]
  rw [if_neg (by omega)]
  simp
end Go.Proofs.Ytkhhihkcgpfmfaa
