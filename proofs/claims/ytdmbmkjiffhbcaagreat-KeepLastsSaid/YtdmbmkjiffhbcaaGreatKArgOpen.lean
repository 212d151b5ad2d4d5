/-
  Arguments that are lists of changes, opened.
-/
import Derived.Test.YtdmbmkjiffhbcaaGreatLawKit
import Derived.Test.YtdmbmkjiffhbcaaGreatPuts
namespace Go.Proofs.YtdmbmkjiffhbcaaGreat
open Go.ChangeShapes Go.WideShapes Go.ChangeAt Go.RowKit
set_option maxRecDepth 100000

theorem kU8_manyK {w : World} {ok : Nat → Prop} {ds : List Value} {l : List UInt8} (h : kMany kU8 w ok ds l) : ds = l.map u8 := by
  obtain ⟨css, rfl, hl, hr⟩ := h
  induction css generalizing l with
  | nil => rw [List.eq_nil_of_length_eq_zero hl.symm]; rfl
  | cons c css ih =>
    cases l with
    | nil => simp at hl
    | cons a l =>
      have h0 : c = [u8 a] := hr 0 (by simp) (by simp)
      have h1 := ih (by simpa using hl) (fun i hi hi' => hr (i + 1) (by simpa using hi) (by simpa using hi'))
      rw [List.flatten_cons, h1, h0]
      rfl
theorem opens_put : Opens Tryz.prog 49 kPut := fun h => by
  obtain ⟨⟨n, l, b⟩, ha⟩ := (Opens.struct (K := kPair (kInt .u64) (kPair (kSlice kU8) kBool)) Tryz.underlying49 (by kernel_rfl) (OpenFs.cons rfl (by kernel_rfl) (Opens.int Tryz.underlying46) (OpenFs.cons rfl (by kernel_rfl) (Opens.slice Tryz.underlying47 (Opens.u8 Tryz.underlying5) (by kernel_rfl)) (OpenFs.one rfl (by kernel_rfl) (Opens.bool Tryz.underlying4))))) h
  obtain ⟨c1, c2, rfl, ⟨h1, hwf⟩, c3, c4, rfl, ⟨A, c, ds, h3, h4, h5, h6, h7⟩, h8⟩ := ha
  dsimp only at h1 h3 h4 h7 h8 hwf
  have h8' : c4 = [.bool b] := h8
  subst h1 h3 h8'
  have hn : 0 ≤ n ∧ n ≤ 18446744073709551615 := by simpa [Lit.wf, IntKind.min, IntKind.max, IntKind.signed, IntKind.bits] using hwf
  rw [kU8_manyK h7] at h6
  refine ⟨⟨n.toNat, l, b⟩, .slice A l.length c, ?_, by show n.toNat < _; omega, A, c, rfl, h4, h5, h6⟩
  show _ = [Value.int .u64 (n.toNat : Int), _, _]
  rw [Int.toNat_of_nonneg hn.1]
  rfl
theorem opens_putsl : Opens Tryz.prog 22 (kSlice kPut) := Opens.slice Tryz.underlying22 opens_put (by kernel_rfl)
section
variable {H : Type} {enc : TypeId × Value → H} {w : World} {r : Reach} {b0 base : Nat} {sp : Nat → Bool} {held : Bool} {v : Value} {d : DataW H} {ps : List MemPlace}
theorem open_putsl (hval : Value.okWide Tryz.prog w r b0 22 v) (hd : DataW.Trod enc Tryz.prog w base sp held 22 v d ps) : ∃ L, IsL kPut w (fun _ => True) v L := by
  obtain ⟨fuel, hf⟩ := hd
  obtain ⟨a, len, cap, rfl⟩ := okWide_slice Tryz.underlying22 hval
  obtain ⟨L, hL⟩ := opens_putsl hf
  exact ⟨L, kSlice_iff.1 hL⟩
end
end Go.Proofs.YtdmbmkjiffhbcaaGreat
