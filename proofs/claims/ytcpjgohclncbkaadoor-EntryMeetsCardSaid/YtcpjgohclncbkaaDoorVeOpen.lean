/-
  Versions, lists of them and of numbers, vectors among the arguments, opened.
-/
import Derived.Test.YtcpjgohclncbkaaDoorLawKit
import Derived.Test.YtcpjgohclncbkaaDoorVeBase
namespace Go.Proofs.YtcpjgohclncbkaaDoor
open Go.ChangeShapes Go.WideShapes Go.ChangeAt Go.RowKit
section
variable {H : Type} {enc : TypeId × Value → H} {w : World} {r : Reach} {b0 base : Nat} {sp : Nat → Bool} {held : Bool} {v : Value} {d : DataW H} {ps : List MemPlace}
theorem okWide_struct {P : Program} {t : TypeId} {fs : Array Field} (ht : P.underlying t = some (.struct fs)) (h : Value.okWide P w r base t v) : ∃ cs, v = .agg cs := by
  simp only [Value.okWide, ht] at h
  obtain ⟨cs, h1, _⟩ := h
  exact ⟨cs, h1⟩
theorem okWide_array {P : Program} {t e : TypeId} {n : Nat} (ht : P.underlying t = some (.array n e)) (h : Value.okWide P w r base t v) : ∃ cs, v = .agg cs ∧ cs.size = P.cellsOf t := by
  simp only [Value.okWide, ht] at h
  obtain ⟨cs, h1, h2, _⟩ := h
  exact ⟨cs, h1, h2⟩
theorem open_strs (hval : Value.okWide Tryd.prog w r b0 40 v) (hd : DataW.Trod enc Tryd.prog w base sp held 40 v d ps) : ∃ L, IsL kStr w (fun _ => True) v L := by
  obtain ⟨fuel, hf⟩ := hd
  obtain ⟨a, len, cap, rfl⟩ := okWide_slice Tryd.underlying40 hval
  obtain ⟨L, hL⟩ := Opens.slice Tryd.underlying40 (Opens.str Tryd.underlying9) (by kernel_rfl) hf
  exact ⟨L, kSlice_iff.1 hL⟩
theorem open_vecv (hval : Value.okWide Tryd.prog w r b0 27 v) (hd : DataW.Trod enc Tryd.prog w base sp held 27 v d ps) : ∃ V, v = vv V ∧ okV V := by
  obtain ⟨fuel, hf⟩ := hd
  obtain ⟨cs, rfl, hsz⟩ := okWide_array Tryd.underlying27 hval
  obtain ⟨V, hV, hok⟩ := opens_vec hf
  refine ⟨V, ?_, hok⟩
  have : cs.toList = (av V).toList := hV
  unfold vv
  rw [show cs = cs.toList.toArray by simp, this]
end
end Go.Proofs.YtcpjgohclncbkaaDoor
