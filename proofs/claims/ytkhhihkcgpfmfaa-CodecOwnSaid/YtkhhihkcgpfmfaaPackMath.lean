/-
  Plain facts on fields as they lie: their lengths ahead of them.
-/
namespace Go.Proofs.Ytkhhihkcgpfmfaa

/-- A length's bytes. -/
def lenB (n : Nat) : List UInt8 := if n < 255 then [UInt8.ofNat n] else [255, UInt8.ofNat (n / 256 % 256), UInt8.ofNat (n % 256)]
/-- A field as it lies. -/
def fieldB (f : List UInt8) : List UInt8 := lenB f.length ++ f
/-- Fields as they lie. -/
def packB (L : List (List UInt8)) : List UInt8 := L.flatMap fieldB

theorem lenB_le (n : Nat) : 1 ≤ (lenB n).length ∧ (lenB n).length ≤ 3 := by unfold lenB; split <;> simp
theorem fieldB_length (f : List UInt8) : (fieldB f).length = (lenB f.length).length + f.length := by simp [fieldB]
theorem packB_nil : packB [] = [] := rfl
theorem packB_cons (f : List UInt8) (L : List (List UInt8)) : packB (f :: L) = fieldB f ++ packB L := by simp [packB]
theorem packB_append (L M : List (List UInt8)) : packB (L ++ M) = packB L ++ packB M := by simp [packB]
theorem packB_take_succ (L : List (List UInt8)) (k : Nat) (h : k < L.length) : packB (L.take (k + 1)) = packB (L.take k) ++ fieldB L[k] := by
  rw [List.take_succ_eq_append_getElem h, packB_append, packB_cons, packB_nil, List.append_nil]
theorem packB_take_le (L : List (List UInt8)) (k : Nat) : (packB (L.take k)).length ≤ (packB L).length := by
  conv => rhs; rw [← List.take_append_drop k L, packB_append, List.length_append]
  omega
end Go.Proofs.Ytkhhihkcgpfmfaa
