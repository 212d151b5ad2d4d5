/-
  Versions, lists of them and of numbers, vectors among the arguments, opened.
-/
import Derived.Test.YtnehoabeameioaaLawKit
import Derived.Test.YtnehoabeameioaaVeBase
namespace Go.Proofs.Ytnehoabeameioaa
open Go.ChangeShapes Go.WideShapes Go.ChangeAt Go.RowKit
section
variable {H : Type} {enc : TypeId × Value → H} {w : World} {r : Reach} {b0 base : Nat} {sp : Nat → Bool} {held : Bool} {v : Value} {d : DataW H} {ps : List MemPlace}
theorem okWide_struct {P : Program} {t : TypeId} {fs : Array Field} (ht : P.underlying t = some (.struct fs)) (h : Value.okWide P w r base t v) : ∃ cs, v = .agg cs := by
  simp only [Value.okWide, ht] at h
  obtain ⟨cs, h1, _⟩ := h
  exact ⟨cs, h1⟩
theorem okWide_array {P : Program} {t e : TypeId} {n : Nat} (ht : P.underlying t = some (.array n e)) (h : Value.okWide P w r base t v) : ∃ cs, v = .agg cs ∧ cs.size = P.cellsOf t := by
  simp only [Value.okWide, ht] at h
  obtain ⟨cs, h1, h2, _⟩ := h
  exact ⟨cs, h1, h2⟩
theorem open_ver (hval : Value.okWide Try.prog w r b0 39 v) (hd : DataW.Trod enc Try.prog w base sp held 39 v d ps) : ∃ X, v = .agg (verC X) ∧ VerOk X := by
  obtain ⟨fuel, hf⟩ := hd
  obtain ⟨cs, rfl⟩ := okWide_struct Try.underlying39 hval
  obtain ⟨X, hX⟩ := opens_ver hf
  have hc' : cs.toList = (verC X).toList := hX.1
  exact ⟨X, by rw [show cs = cs.toList.toArray by simp, hc'], hX.2⟩
theorem open_vers (hval : Value.okWide Try.prog w r b0 31 v) (hd : DataW.Trod enc Try.prog w base sp held 31 v d ps) : ∃ L, IsL kVer w (fun _ => True) v L := by
  obtain ⟨fuel, hf⟩ := hd
  obtain ⟨a, len, cap, rfl⟩ := okWide_slice Try.underlying31 hval
  obtain ⟨L, hL⟩ := opens_vers hf
  exact ⟨L, kSlice_iff.1 hL⟩
theorem open_ids (hval : Value.okWide Try.prog w r b0 32 v) (hd : DataW.Trod enc Try.prog w base sp held 32 v d ps) : ∃ L, IsL kId w (fun _ => True) v L := by
  obtain ⟨fuel, hf⟩ := hd
  obtain ⟨a, len, cap, rfl⟩ := okWide_slice Try.underlying32 hval
  obtain ⟨L, hL⟩ := opens_ids hf
  exact ⟨L, kSlice_iff.1 hL⟩
theorem open_strs (hval : Value.okWide Try.prog w r b0 54 v) (hd : DataW.Trod enc Try.prog w base sp held 54 v d ps) : ∃ L, IsL kStr w (fun _ => True) v L := by
  obtain ⟨fuel, hf⟩ := hd
  obtain ⟨a, len, cap, rfl⟩ := okWide_slice Try.underlying54 hval
  obtain ⟨L, hL⟩ := Opens.slice Try.underlying54 (Opens.str Try.underlying9) (by kernel_rfl) hf
  exact ⟨L, kSlice_iff.1 hL⟩
theorem open_vecv (hval : Value.okWide Try.prog w r b0 37 v) (hd : DataW.Trod enc Try.prog w base sp held 37 v d ps) : ∃ V, v = vv V ∧ okV V := by
  obtain ⟨fuel, hf⟩ := hd
  obtain ⟨cs, rfl, hsz⟩ := okWide_array Try.underlying37 hval
  obtain ⟨V, hV, hok⟩ := opens_vec hf
  refine ⟨V, ?_, hok⟩
  have : cs.toList = (av V).toList := hV
  unfold vv
  rw [show cs = cs.toList.toArray by simp, this]
end
end Go.Proofs.Ytnehoabeameioaa
