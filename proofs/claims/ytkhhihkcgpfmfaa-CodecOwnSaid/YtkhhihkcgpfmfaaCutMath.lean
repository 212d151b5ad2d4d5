/-
  Plain facts on fields as they lie, cut off anywhere.
-/
import Derived.Test.YtkhhihkcgpfmfaaFieldsMath
namespace Go.Proofs.Ytkhhihkcgpfmfaa

theorem firstF_cut (f : List UInt8) (c : Nat) (hf : f.length ≤ 65535) (hc : c < (fieldB f).length) (h0 : c ≠ 0) : firstF ((fieldB f).take c) = ([], [], 8) := by
  rw [fieldB_length] at hc
  by_cases hl : (lenB f.length).length ≤ c
  · have e : (fieldB f).take c = lenB f.length ++ f.take (c - (lenB f.length).length) := by
      rw [fieldB, List.take_append, List.take_of_length_le hl]
    rw [e]
    unfold firstF
    rw [firstLen_lenB _ _ hf, if_neg (by simp), if_pos]
    simp only [List.length_append, List.length_take]
    omega
  · by_cases hs : f.length < 255
    · rw [lenB_small _ hs] at hl
      simp at hl
      omega
    · have hb := lenB_big _ hs
      rw [hb] at hl
      simp at hl
      have e : firstLen ((fieldB f).take c) = (0, 0, 8) := by
        rw [fieldB, hb]
        unfold firstLen
        match c, h0, hl with
        | 1, _, _ => rfl
        | 2, _, _ => rfl
      unfold firstF
      rw [e, if_pos (by simp)]

/-- Fields as they lie, cut off anywhere, are whole fields, and bytes behind them of which the first field is cut off, or none. -/
theorem packB_cut (L : List (List UInt8)) (c : Nat) (h : ∀ f ∈ L, f.length ≤ 65535) : ∃ k r, k ≤ L.length ∧ (packB L).take c = packB (L.take k) ++ r ∧ (r = [] ∨ (r ≠ [] ∧ firstF r = ([], [], 8))) := by
  induction L generalizing c with
  | nil => exact ⟨0, [], by simp, by simp [packB_nil], .inl rfl⟩
  | cons f L ih =>
    by_cases hc : c < (fieldB f).length
    · have e : (packB (f :: L)).take c = (fieldB f).take c := by
        rw [packB_cons, List.take_append_of_le_length (by omega)]
      by_cases h0 : c = 0
      · exact ⟨0, [], by simp, by simp [h0, packB_nil], .inl rfl⟩
      · refine ⟨0, (fieldB f).take c, by simp, by rw [e]; simp [packB_nil], .inr ⟨?_, firstF_cut f c (h f (by simp)) hc h0⟩⟩
        intro e0
        have := congrArg List.length e0
        simp only [List.length_take, List.length_nil] at this
        omega
    · obtain ⟨k, r, hk, e, hr⟩ := ih (c - (fieldB f).length) (fun g hg => h g (by simp [hg]))
      refine ⟨k + 1, r, by simp; omega, ?_, hr⟩
      rw [packB_cons, List.take_append, List.take_of_length_le (by omega), e, List.take_succ_cons, packB_cons, List.append_assoc]

theorem unpackV_more (most : Int) (acc L : List (List UInt8)) (S : List (List UInt8 × Nat)) (h : (acc.length + L.length : Int) ≤ most) : unpackV most acc (L.map (fun f => (f, 0)) ++ S) = unpackV most (acc ++ L) S := by
  induction L generalizing acc with
  | nil => simp
  | cons f L ih =>
    simp only [List.length_cons] at h
    simp only [List.map_cons, List.cons_append, unpackV_cons]
    rw [if_neg (by simp), if_neg (by omega), ih _ (by simp; omega)]
    simp

/-- Unpack of such bytes. -/
theorem unpack_cut (L : List (List UInt8)) (c : Nat) (h : ∀ f ∈ L, f.length ≤ 65535) : unpackV (L.length : Int) [] (steps ((packB L).take c)) = ([], 8) ∨ ∃ k, k ≤ L.length ∧ unpackV (L.length : Int) [] (steps ((packB L).take c)) = (L.take k, 0) := by
  obtain ⟨k, r, hk, e, hr⟩ := packB_cut L c h
  rw [e, steps_packB _ _ (fun f hf => h f (List.mem_of_mem_take hf)), unpackV_more _ _ _ _ (by simp; omega)]
  rcases hr with rfl | ⟨h0, hr⟩
  · exact .inr ⟨k, hk, by rw [steps_nil]; rfl⟩
  · refine .inl ?_
    rw [steps_err _ h0 (by rw [hr]; decide), hr]
    rfl
end Go.Proofs.Ytkhhihkcgpfmfaa
