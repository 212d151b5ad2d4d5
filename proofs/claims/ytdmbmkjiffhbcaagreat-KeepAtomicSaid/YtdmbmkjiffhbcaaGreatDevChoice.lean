/-
  Arguments that are choices.
-/
import Derived.Test.YtdmbmkjiffhbcaaGreatKinds2
import Derived.Test.YtdmbmkjiffhbcaaGreatDevMath
import Derived.Test.YtdmbmkjiffhbcaaGreatLawKit
import Derived.Lib.Hide
namespace Go.Proofs.YtdmbmkjiffhbcaaGreat
open Go.RowKit Go.WideShapes
set_option maxRecDepth 100000

def kChoice : Kind Choice := (kPair (kSlice (kInt .i64)) (kPair (kInt .i64) (kInt .i64))).of fun c => (c.kept, c.torn, c.half)
theorem opens_choice : Opens Tryz.prog 25 kChoice := by
  refine Opens.of (K := kPair (kSlice (kInt .i64)) (kPair (kInt .i64) (kInt .i64))) (Opens.struct Tryz.underlying25 (by kernel_rfl) ?_) (fun c : Choice => (c.kept, c.torn, c.half)) (fun x => ⟨x.1, x.2.1, x.2.2⟩) (fun _ => rfl)
  exact OpenFs.cons rfl (by kernel_rfl) (Opens.slice Tryz.underlying23 (Opens.int Tryz.underlying3) (by kernel_rfl)) (OpenFs.cons rfl (by kernel_rfl) (Opens.int Tryz.underlying3) (OpenFs.one rfl (by kernel_rfl) (Opens.int Tryz.underlying3)))
/-- A choice's value. -/
def IsC (w : World) (ok : Nat → Prop) (v : Value) (c : Choice) : Prop := ∃ vk, v = .agg #[vk, .int .i64 c.torn, .int .i64 c.half] ∧ IsL (kInt .i64) w ok vk c.kept
theorem IsC.move {w w' : World} {ok ok' : Nat → Prop} {v : Value} {c : Choice} (h : IsC w ok v c) (hk : ∀ k, ok k → k < w.heap.size → ok' k ∧ w'.heap[k]? = w.heap[k]?) : IsC w' ok' v c := by
  obtain ⟨vk, e, h⟩ := h
  exact ⟨vk, e, h.move hk⟩
theorem kChoice_cells {w : World} {ok : Nat → Prop} {cs : List Value} {c : Choice} (h : kChoice.R w ok cs c) : ∃ vk, cs = [vk, .int .i64 c.torn, .int .i64 c.half] ∧ IsL (kInt .i64) w ok vk c.kept ∧ (-9223372036854775808 ≤ c.torn ∧ c.torn ≤ 9223372036854775807) ∧ (-9223372036854775808 ≤ c.half ∧ c.half ≤ 9223372036854775807) := by
  obtain ⟨a, b, rfl, ha, p, q, rfl, ⟨rfl, hp⟩, rfl, hq⟩ := h
  obtain ⟨A, n, ds, rfl, hrest⟩ := ha
  exact ⟨_, rfl, ⟨A, n, ds, rfl, hrest⟩, by simpa [Lit.wf, IntKind.min, IntKind.max, IntKind.signed, IntKind.bits] using hp, by simpa [Lit.wf, IntKind.min, IntKind.max, IntKind.signed, IntKind.bits] using hq⟩
section
variable {H : Type} {enc : TypeId × Value → H} {w : World} {r : Reach} {b0 base : Nat} {sp : Nat → Bool} {held : Bool} {v : Value} {d : DataW H} {ps : List MemPlace}
/-- The argument is a choice. -/
theorem open_choice (hval : Value.okWide Tryz.prog w r b0 25 v) (hd : DataW.Trod enc Tryz.prog w base sp held 25 v d ps) : ∃ c, IsC w (fun _ => True) v c := by
  obtain ⟨fuel, hf⟩ := hd
  obtain ⟨cs, rfl, hsz⟩ := okWide_struct Tryz.underlying25 hval
  obtain ⟨c, hc⟩ := opens_choice hf
  obtain ⟨vk, hcs, hL, _, _⟩ := kChoice_cells hc
  refine ⟨c, vk, ?_, hL⟩
  have : cs.toList = [vk, .int .i64 c.torn, .int .i64 c.half] := hcs
  rw [show cs = cs.toList.toArray by simp, this]
end
end Go.Proofs.YtdmbmkjiffhbcaaGreat
