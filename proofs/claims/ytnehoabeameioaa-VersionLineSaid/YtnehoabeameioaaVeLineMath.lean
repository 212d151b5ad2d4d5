/-
  A line of versions, each in the place of the latest one; what was patched: mathematics.
-/
import Derived.Test.YtnehoabeameioaaVeIds
import Derived.Test.YtnehoabeameioaaVeBytes
import Derived.Laws.Bits64
namespace Go.Proofs.Ytnehoabeameioaa
open Go.RowKit
set_option maxRecDepth 100000

theorem putB_at (d : List UInt8) (t : Nat) (s : List UInt8) : ((putB d t s).drop t).take s.length = s := by
  unfold putB splice
  have hl : ((sizedB d (max d.length (t + s.length))).take t).length = t := by rw [List.length_take, sizedB_length]; omega
  rw [List.drop_left' hl, List.take_left' rfl]
theorem sizedB_get (d : List UInt8) (n k : Nat) (hk : k < (sizedB d n).length) : (∀ h : k < d.length, (sizedB d n)[k] = d[k]) ∧ (d.length ≤ k → (sizedB d n)[k] = 0) := by
  have hn := sizedB_length d n
  unfold sizedB at *
  refine ⟨fun h => ?_, fun h => ?_⟩
  · rw [List.getElem_append_left (by rw [List.length_take]; omega), List.getElem_take]
  · rw [List.getElem_append_right (by rw [List.length_take]; omega), List.getElem_replicate]
theorem putB_else (d : List UInt8) (t : Nat) (s : List UInt8) (k : Nat) (hk : k < (putB d t s).length) (ho : k < t ∨ t + s.length ≤ k) : (∀ h : k < d.length, (putB d t s)[k] = d[k]) ∧ (d.length ≤ k → (putB d t s)[k] = 0) := by
  have hm := putB_length d t s
  have hk' : k < (sizedB d (max d.length (t + s.length))).length := by rw [sizedB_length]; omega
  have hl : ((sizedB d (max d.length (t + s.length))).take t).length = t := by rw [List.length_take, sizedB_length]; omega
  have e1 : (putB d t s)[k]? = (sizedB d (max d.length (t + s.length)))[k]? := by
    unfold putB splice
    rcases ho with h | h
    · rw [List.getElem?_append_left (by rw [hl]; exact h), List.getElem?_take, if_pos h]
    · rw [List.getElem?_append_right (by rw [hl]; omega), List.getElem?_append_right (by rw [hl]; omega), List.getElem?_drop]
      congr 1
      rw [hl]
      omega
  have e : (putB d t s)[k] = (sizedB d (max d.length (t + s.length)))[k] := by
    rw [List.getElem?_eq_getElem hk, List.getElem?_eq_getElem hk'] at e1
    exact Option.some.inj e1
  rw [e]
  exact sizedB_get d _ k hk'
theorem at90 (x : Int) : ∃ t : Nat, t < 90 ∧ IntKind.i64.wrap ((IntKind.u64.wrap x).tmod 90) = (t : Int) := by
  rw [IntKind.wrap_u64]
  have h0 : 0 ≤ x % 18446744073709551616 := by omega
  generalize x % 18446744073709551616 = y at h0
  rw [Int.tmod_eq_emod_of_nonneg h0]
  refine ⟨(y % 90).toNat, by omega, ?_⟩
  rw [IntKind.wrap_i64] <;> omega
theorem ext_list2 (b : List UInt8) (lo hi : Nat) : (⟨b.toArray⟩ : ByteArray).extract lo hi = ⟨((b.take hi).drop lo).toArray⟩ := by
  apply ByteArray.ext
  simp only [ByteArray.data_extract]
  apply Array.toList_inj.1
  rw [Array.toList_extract]
  simp [List.drop_take]
theorem index_at (b : List UInt8) (k : Nat) (h : k < b.length) (w : World) : (Instr.index 9 (.string ⟨b.toArray⟩) (.int .i64 (k : Int))).run Try.prog w = .ok (.int .u8 (b[k].toNat : Int)) w := by
  have hs : k < (⟨b.toArray⟩ : ByteArray).size := h
  rw [run_index_string (h := by kernel_rfl), dif_pos ⟨by omega, by omega⟩]
  rfl
theorem slice_at (b : List UInt8) (lo n : Nat) (h : lo + n ≤ b.length) (w : World) : (Instr.slice 9 (.string ⟨b.toArray⟩) (some (.int .i64 (lo : Int))) (some (.int .i64 ((lo : Int) + (n : Int)))) none).run Try.prog w = .ok (str ((b.drop lo).take n)) w := by
  have hs : (⟨b.toArray⟩ : ByteArray).size = b.length := by show b.toArray.size = _; simp
  rw [run_slice_string w 9 _ .i64 .i64 _ _ Try.underlying9 (by omega) (by omega) (by rw [hs]; omega), ext_list2]
  have e1 : ((lo : Int) + (n : Int)).toNat = lo + n := by omega
  have e2 : ((lo : Int)).toNat = lo := by omega
  rw [e1, e2, List.drop_take, Nat.add_sub_cancel_left]
/-- The versions so far. -/
structure LineOk (i : Nat) (D : List UInt8) (L : List Ver) : Prop where
  length : L.length = i
  sorted : SortedV L
  seq : ∀ x ∈ L, x.seq ≤ i
  data : ∀ x ∈ L, x.data.length ≤ 1000
  last : D.length ≤ 200
theorem line_nil : LineOk 0 [] [] := ⟨rfl, fun i j hi => by simp at hi, fun x hx => by simp at hx, fun x hx => by simp at hx, by simp⟩
theorem line_not {i : Nat} {D : List UInt8} {L : List Ver} (h : LineOk i D L) (r : Int) : thereV L r (i + 1) = false := by
  unfold thereV
  rw [List.any_eq_false]
  intro x hx h2
  obtain ⟨_, h3⟩ := sameI_eq.1 h2
  have := h.seq x hx
  omega
theorem line_next {i : Nat} {D D' : List UInt8} {L : List Ver} (h : LineOk i D L) (A : Ver) (hA : A.seq = i + 1) (hd : A.data.length ≤ 200) (hD : D'.length ≤ 200) : LineOk (i + 1) D' (putV L (idsH L) A) := by
  have hn : thereV L A.rep A.seq = false := by rw [hA]; exact line_not h _
  refine ⟨by rw [one_length, h.length], one_sorted h.sorted hn, ?_, put_data h.data (by omega), hD⟩
  intro x hx
  rcases mem_insV.1 hx with rfl | hx
  · omega
  · unfold addedV at hx
    obtain ⟨y, hy, rfl⟩ := List.mem_map.1 hx
    have := h.seq y hy
    dsimp only
    omega
/-- What lies in a slot of a region, told slot by slot. -/
def tblG (T : List (Nat × Value)) (s : Nat) (u : Value) (_ : World) : Prop := match T.lookup s with | some v => u = v | none => True
end Go.Proofs.Ytnehoabeameioaa
