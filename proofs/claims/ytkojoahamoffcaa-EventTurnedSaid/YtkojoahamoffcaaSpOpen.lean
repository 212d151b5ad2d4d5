/-
  A vector among the arguments, opened.
-/
import Derived.Test.YtkojoahamoffcaaLawKit
import Derived.Test.YtkojoahamoffcaaKinds2
import Derived.Test.YtkojoahamoffcaaVecBase
namespace Go.Proofs.Ytkojoahamoffcaa
open Go.ChangeShapes Go.WideShapes Go.ChangeAt Go.RowKit
set_option maxRecDepth 100000

section
variable {H : Type} {enc : TypeId × Value → H} {w : World} {r : Reach} {b0 base : Nat} {sp : Nat → Bool} {held : Bool} {v : Value} {d : DataW H} {ps : List MemPlace}
theorem okWide_array {P : Program} {t e : TypeId} {n : Nat} (ht : P.underlying t = some (.array n e)) (h : Value.okWide P w r base t v) : ∃ cs, v = .agg cs ∧ cs.size = P.cellsOf t := by
  simp only [Value.okWide, ht] at h
  obtain ⟨cs, h1, h2, _⟩ := h
  exact ⟨cs, h1, h2⟩
theorem cells8 {cs : List Value} {L : List Int} {ok : Nat → Prop} (hl : L.length = 8) (h : kMany (kInt .u32) w ok cs L) : ∃ V, cs = (av V).toList ∧ okV V := by
  obtain ⟨css, rfl, hcl, hr⟩ := h
  rw [hl] at hcl
  have hlow : ∀ (i : Nat) (h : i < L.length), 0 ≤ L[i] ∧ L[i] < 4294967296 := fun i hi => by
    obtain ⟨_, hw⟩ := hr i (by omega) hi
    simp [Lit.wf, IntKind.min, IntKind.max, IntKind.signed, IntKind.bits] at hw
    omega
  refine ⟨fun i => (L.getD i 0).toNat, ?_, fun i hi => ?_⟩
  · have key : ∀ i (h : i < 8), css[i]'(by omega) = [.int .u32 ((((L.getD i 0).toNat : Nat)) : Int)] := fun i hi => by
      obtain ⟨e, _⟩ := hr i (by omega) (by omega)
      rw [e, List.getD_eq_getElem?_getD, List.getElem?_eq_getElem (by omega)]
      have := hlow i (by omega)
      simp only [Option.getD_some]
      rw [Int.toNat_of_nonneg this.1]
    match css, hcl, key with
    | [c0, c1, c2, c3, c4, c5, c6, c7], _, key =>
      have k0 := key 0 (by omega)
      have k1 := key 1 (by omega)
      have k2 := key 2 (by omega)
      have k3 := key 3 (by omega)
      have k4 := key 4 (by omega)
      have k5 := key 5 (by omega)
      have k6 := key 6 (by omega)
      have k7 := key 7 (by omega)
      simp only [List.getElem_cons_zero, List.getElem_cons_succ] at k0 k1 k2 k3 k4 k5 k6 k7
      rw [k0, k1, k2, k3, k4, k5, k6, k7]
      rfl
  · have := hlow i (by omega)
    show (L.getD i 0).toNat < 4294967296
    rw [List.getD_eq_getElem?_getD, List.getElem?_eq_getElem (by omega)]
    simp only [Option.getD_some]
    omega
theorem open_vec (hval : Value.okWide Try.prog w r b0 26 v) (hd : DataW.Trod enc Try.prog w base sp held 26 v d ps) : ∃ V, v = vv V ∧ okV V := by
  obtain ⟨fuel, hf⟩ := hd
  obtain ⟨cs, rfl, hsz⟩ := okWide_array Try.underlying26 hval
  obtain ⟨L, hl, hm⟩ := Opens.array (K := kInt .u32) Try.underlying26 (by kernel_rfl) (by kernel_rfl) (Opens.int Try.underlying22) hf
  obtain ⟨V, hV, hok⟩ := cells8 hl hm
  refine ⟨V, ?_, hok⟩
  have : cs.toList = (av V).toList := hV
  unfold vv
  rw [show cs = cs.toList.toArray by simp, this]
end
end Go.Proofs.Ytkojoahamoffcaa
