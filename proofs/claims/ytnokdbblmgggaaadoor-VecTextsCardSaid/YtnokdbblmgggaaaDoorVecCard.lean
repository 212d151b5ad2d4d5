/-
  What the cards of layer 6 share: the arguments opened (vectors, events' numbers, texts).
-/
import Derived.Test.YtnokdbblmgggaaaDoorLawKit
import Derived.Test.YtnokdbblmgggaaaDoorKinds2
import Derived.Test.YtnokdbblmgggaaaDoorVec4
import Derived.Test.YtnokdbblmgggaaaDoorCards
import Derived.Test.YtnokdbblmgggaaaDoorTie
import Derived.LaidMore
import Derived.Stop.Joined
import Derived.SevenTiedAt
namespace Go.Proofs.YtnokdbblmgggaaaDoor
open Go.ChangeShapes Go.WideShapes Go.ChangeAt Go.RowKit
set_option maxRecDepth 100000

section
variable {H : Type} {enc : TypeId × Value → H} {w : World} {r : Reach} {b0 base : Nat} {sp : Nat → Bool} {held : Bool} {v : Value} {d : DataW H} {ps : List MemPlace}
theorem okWide_array {P : Program} {t e : TypeId} {n : Nat} (ht : P.underlying t = some (.array n e)) (h : Value.okWide P w r base t v) : ∃ cs, v = .agg cs ∧ cs.size = P.cellsOf t := by
  simp only [Value.okWide, ht] at h
  obtain ⟨cs, h1, h2, _⟩ := h
  exact ⟨cs, h1, h2⟩
theorem cells8 {cs : List Value} {L : List Int} {ok : Nat → Prop} (hl : L.length = 8) (h : kMany (kInt .u32) w ok cs L) : ∃ V, cs = (av V).toList ∧ okV V := by
  obtain ⟨css, rfl, hcl, hr⟩ := h
  rw [hl] at hcl
  have hlow : ∀ (i : Nat) (h : i < L.length), 0 ≤ L[i] ∧ L[i] < 4294967296 := fun i hi => by
    obtain ⟨_, hw⟩ := hr i (by omega) hi
    simp [Lit.wf, IntKind.min, IntKind.max, IntKind.signed, IntKind.bits] at hw
    omega
  refine ⟨fun i => (L.getD i 0).toNat, ?_, fun i hi => ?_⟩
  · have key : ∀ i (h : i < 8), css[i]'(by omega) = [.int .u32 ((((L.getD i 0).toNat : Nat)) : Int)] := fun i hi => by
      obtain ⟨e, _⟩ := hr i (by omega) (by omega)
      rw [e, List.getD_eq_getElem?_getD, List.getElem?_eq_getElem (by omega)]
      have := hlow i (by omega)
      simp only [Option.getD_some]
      rw [Int.toNat_of_nonneg this.1]
    match css, hcl, key with
    | [c0, c1, c2, c3, c4, c5, c6, c7], _, key =>
      have k0 := key 0 (by omega)
      have k1 := key 1 (by omega)
      have k2 := key 2 (by omega)
      have k3 := key 3 (by omega)
      have k4 := key 4 (by omega)
      have k5 := key 5 (by omega)
      have k6 := key 6 (by omega)
      have k7 := key 7 (by omega)
      simp only [List.getElem_cons_zero, List.getElem_cons_succ] at k0 k1 k2 k3 k4 k5 k6 k7
      rw [k0, k1, k2, k3, k4, k5, k6, k7]
      rfl
  · have := hlow i (by omega)
    show (L.getD i 0).toNat < 4294967296
    rw [List.getD_eq_getElem?_getD, List.getElem?_eq_getElem (by omega)]
    simp only [Option.getD_some]
    omega
theorem open_vec (hval : Value.okWide Tryd.prog w r b0 24 v) (hd : DataW.Trod enc Tryd.prog w base sp held 24 v d ps) : ∃ V, v = vv V ∧ okV V := by
  obtain ⟨fuel, hf⟩ := hd
  obtain ⟨cs, rfl, hsz⟩ := okWide_array Tryd.underlying24 hval
  obtain ⟨L, hl, hm⟩ := Opens.array (K := kInt .u32) Tryd.underlying24 (by kernel_rfl) (by kernel_rfl) (Opens.int Tryd.underlying22) hf
  obtain ⟨V, hV, hok⟩ := cells8 hl hm
  refine ⟨V, ?_, hok⟩
  have : cs.toList = (av V).toList := hV
  unfold vv
  rw [show cs = cs.toList.toArray by simp, this]
theorem open_id (hval : Value.okWide Tryd.prog w r b0 43 v) (hd : DataW.Trod enc Tryd.prog w base sp held 43 v d ps) : ∃ (r : Int) (s : Nat), v = idv r s ∧ (-9223372036854775808 ≤ r ∧ r ≤ 9223372036854775807) ∧ s < 4294967296 := by
  obtain ⟨fuel, hf⟩ := hd
  obtain ⟨cs, rfl, hsz⟩ := okWide_struct Tryd.underlying43 hval
  obtain ⟨⟨r, s⟩, c, d, hcs, ⟨hc, hcw⟩, hd, hdw⟩ := Opens.struct (K := kPair (kInt .i64) (kInt .u32)) Tryd.underlying43 (by kernel_rfl) (OpenFs.cons rfl (by kernel_rfl) (Opens.int Tryd.underlying3) (OpenFs.one rfl (by kernel_rfl) (Opens.int Tryd.underlying22))) hf
  simp [Lit.wf, IntKind.min, IntKind.max, IntKind.signed, IntKind.bits] at hcw hdw
  refine ⟨r, s.toNat, ?_, by omega, by omega⟩
  have h1 : cs.toList = c ++ d := hcs
  have h2 : cs.toList = [.int .i64 r, .int .u32 s] := by rw [h1, hc, hd]; rfl
  unfold idv
  rw [show cs = cs.toList.toArray by simp, h2, Int.toNat_of_nonneg (by omega)]
end
end Go.Proofs.YtnokdbblmgggaaaDoor
