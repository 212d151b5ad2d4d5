/-
  Arguments of layer 3's laws: choices, and scripts of things that are done; fits.
-/
import Derived.Test.YtffmnhjkfeoofaaKinds
import Derived.Test.YtffmnhjkfeoofaaOwnRows
import Derived.Test.YtffmnhjkfeoofaaDevMath
import Derived.Test.YtffmnhjkfeoofaaLawKit
import Derived.Lib.Hide
namespace Go.Proofs.Ytffmnhjkfeoofaa
open Go.RowKit Go.WideShapes
set_option maxRecDepth 100000

def kChoice : Kind Choice := (kPair (kSlice (kInt .i64)) (kPair (kInt .i64) (kInt .i64))).of fun c => (c.kept, c.torn, c.half)
/-- Something that is done. -/
structure OpM where
  kind : Int
  at_ : Int
  c : UInt8
  s : List UInt8
  long : Bool
  choice : Choice
def kOp : Kind OpM := (kPair (kInt .i64) (kPair (kInt .i64) (kPair kU8 (kPair kStr (kPair kBool kChoice))))).of fun o => (o.kind, o.at_, o.c, o.s, o.long, o.choice)

theorem opens_choice : Opens Try.prog 34 kChoice := by
  refine Opens.of (K := kPair (kSlice (kInt .i64)) (kPair (kInt .i64) (kInt .i64))) (Opens.struct Try.underlying34 (by kernel_rfl) ?_) (fun c : Choice => (c.kept, c.torn, c.half)) (fun x => ⟨x.1, x.2.1, x.2.2⟩) (fun _ => rfl)
  exact OpenFs.cons rfl (by kernel_rfl) (Opens.slice Try.underlying32 (Opens.int Try.underlying3) (by kernel_rfl)) (OpenFs.cons rfl (by kernel_rfl) (Opens.int Try.underlying3) (OpenFs.one rfl (by kernel_rfl) (Opens.int Try.underlying3)))
theorem opens_op : Opens Try.prog 39 kOp := by
  refine Opens.of (K := kPair (kInt .i64) (kPair (kInt .i64) (kPair kU8 (kPair kStr (kPair kBool kChoice))))) (Opens.struct Try.underlying39 (by kernel_rfl) ?_) (fun o : OpM => (o.kind, o.at_, o.c, o.s, o.long, o.choice)) (fun x => ⟨x.1, x.2.1, x.2.2.1, x.2.2.2.1, x.2.2.2.2.1, x.2.2.2.2.2⟩) (fun _ => rfl)
  exact OpenFs.cons rfl (by kernel_rfl) (Opens.int Try.underlying3) (OpenFs.cons rfl (by kernel_rfl) (Opens.int Try.underlying3) (OpenFs.cons rfl (by kernel_rfl) (Opens.u8 Try.underlying5) (OpenFs.cons rfl (by kernel_rfl) (Opens.str Try.underlying9)
      (OpenFs.cons rfl (by kernel_rfl) (Opens.bool Try.underlying4) (OpenFs.one rfl (by kernel_rfl) opens_choice)))))
theorem opens_script : Opens Try.prog 22 (kSlice kOp) := Opens.slice Try.underlying22 opens_op (by kernel_rfl)

/-- A choice's value. -/
def IsC (w : World) (ok : Nat → Prop) (v : Value) (c : Choice) : Prop := ∃ vk, v = .agg #[vk, .int .i64 c.torn, .int .i64 c.half] ∧ IsL (kInt .i64) w ok vk c.kept
theorem IsC.move {w w' : World} {ok ok' : Nat → Prop} {v : Value} {c : Choice} (h : IsC w ok v c) (hk : ∀ k, ok k → k < w.heap.size → ok' k ∧ w'.heap[k]? = w.heap[k]?) : IsC w' ok' v c := by
  obtain ⟨vk, e, h⟩ := h
  exact ⟨vk, e, h.move hk⟩
theorem kChoice_cells {w : World} {ok : Nat → Prop} {cs : List Value} {c : Choice} (h : kChoice.R w ok cs c) : ∃ vk, cs = [vk, .int .i64 c.torn, .int .i64 c.half] ∧ IsL (kInt .i64) w ok vk c.kept ∧ (-9223372036854775808 ≤ c.torn ∧ c.torn ≤ 9223372036854775807) ∧ (-9223372036854775808 ≤ c.half ∧ c.half ≤ 9223372036854775807) := by
  obtain ⟨a, b, rfl, ha, p, q, rfl, ⟨rfl, hp⟩, rfl, hq⟩ := h
  obtain ⟨A, n, ds, rfl, hrest⟩ := ha
  exact ⟨_, rfl, ⟨A, n, ds, rfl, hrest⟩, by simpa [Lit.wf, IntKind.min, IntKind.max, IntKind.signed, IntKind.bits] using hp, by simpa [Lit.wf, IntKind.min, IntKind.max, IntKind.signed, IntKind.bits] using hq⟩
theorem kOp_cells {w : World} {ok : Nat → Prop} {cs : List Value} {o : OpM} (h : kOp.R w ok cs o) : ∃ vk, cs = [.int .i64 o.kind, .int .i64 o.at_, u8 o.c, str o.s, .bool o.long, vk, .int .i64 o.choice.torn, .int .i64 o.choice.half] ∧ IsL (kInt .i64) w ok vk o.choice.kept ∧
    (-9223372036854775808 ≤ o.kind ∧ o.kind ≤ 9223372036854775807) ∧ (-9223372036854775808 ≤ o.at_ ∧ o.at_ ≤ 9223372036854775807) ∧ o.s.length ≤ maxLen := by
  obtain ⟨a, b, rfl, ⟨ha, hka⟩, p, q, rfl, ⟨hp, hkp⟩, p2, q2, rfl, hp2, p3, q3, rfl, ⟨hp3, hs3⟩, p4, q4, rfl, hp4, hc⟩ := h
  obtain ⟨vk, hq4, hL, _, _⟩ := kChoice_cells hc
  have hp2' : p2 = [u8 o.c] := hp2
  have hp4' : p4 = [.bool o.long] := hp4
  have hp3' : p3 = [str o.s] := hp3
  have ha' : a = [.int .i64 o.kind] := ha
  have hp' : p = [.int .i64 o.at_] := hp
  have hq4' : q4 = [vk, .int .i64 o.choice.torn, .int .i64 o.choice.half] := hq4
  subst ha' hp' hp2' hp3' hp4' hq4'
  exact ⟨vk, rfl, hL, by simpa [Lit.wf, IntKind.min, IntKind.max, IntKind.signed, IntKind.bits] using hka, by simpa [Lit.wf, IntKind.min, IntKind.max, IntKind.signed, IntKind.bits] using hkp, hs3⟩

section
variable {H : Type} {enc : TypeId × Value → H} {w : World} {r : Reach} {b0 base : Nat} {sp : Nat → Bool} {held : Bool} {v : Value} {d : DataW H} {ps : List MemPlace}
/-- The argument is a choice. -/
theorem open_choice (hval : Value.okWide Try.prog w r b0 34 v) (hd : DataW.Trod enc Try.prog w base sp held 34 v d ps) : ∃ c, IsC w (fun _ => True) v c := by
  obtain ⟨fuel, hf⟩ := hd
  obtain ⟨cs, rfl, hsz⟩ := okWide_struct Try.underlying34 hval
  obtain ⟨c, hc⟩ := opens_choice hf
  obtain ⟨vk, hcs, hL, _, _⟩ := kChoice_cells hc
  refine ⟨c, vk, ?_, hL⟩
  have : cs.toList = [vk, .int .i64 c.torn, .int .i64 c.half] := hcs
  rw [show cs = cs.toList.toArray by simp, this]
/-- The argument is a script. -/
theorem open_script (hval : Value.okWide Try.prog w r b0 22 v) (hd : DataW.Trod enc Try.prog w base sp held 22 v d ps) : ∃ L, IsL kOp w (fun _ => True) v L := by
  obtain ⟨fuel, hf⟩ := hd
  obtain ⟨a, len, cap, rfl⟩ := okWide_slice Try.underlying22 hval
  obtain ⟨L, hL⟩ := opens_script hf
  exact ⟨L, kSlice_iff.1 hL⟩
end

/-- A script of a size with which this is tried. -/
def opFits (o : OpM) : Bool := decide (o.s.length ≤ 300) && decide (o.choice.kept.length ≤ 70)
def fitsB (n : Int) (L : List OpM) : Bool := decide (1 ≤ n) && decide (n ≤ 10) && decide (L.length ≤ 60) && L.all opFits

theorem op_at {w : World} {ok : Nat → Prop} {v : Value} {L : List OpM} (h : IsL kOp w ok v L) :
    ∃ A c, v = .slice A L.length c ∧ L.length ≤ c ∧ c ≤ maxLen ∧ (L ≠ [] → ∃ b off, A = some ⟨b, off, none⟩ ∧ ok b ∧ b < w.heap.size ∧ ∀ (i : Nat) (hi : i < L.length), ∃ Ak nk,
      w.cell? ⟨b, off + i * 8, none⟩ = some (.int .i64 L[i].kind) ∧ w.cell? ⟨b, off + i * 8 + 1, none⟩ = some (.int .i64 L[i].at_) ∧ w.cell? ⟨b, off + i * 8 + 2, none⟩ = some (.int .u8 (L[i].c.toNat : Int)) ∧ w.cell? ⟨b, off + i * 8 + 3, none⟩ = some (str L[i].s) ∧
      w.cell? ⟨b, off + i * 8 + 4, none⟩ = some (.bool L[i].long) ∧ w.cell? ⟨b, off + i * 8 + 5, none⟩ = some (.slice Ak L[i].choice.kept.length nk) ∧ w.cell? ⟨b, off + i * 8 + 6, none⟩ = some (.int .i64 L[i].choice.torn) ∧ w.cell? ⟨b, off + i * 8 + 7, none⟩ = some (.int .i64 L[i].choice.half) ∧
      IsL (kInt .i64) w ok (.slice Ak L[i].choice.kept.length nk) L[i].choice.kept ∧ (-9223372036854775808 ≤ L[i].kind ∧ L[i].kind ≤ 9223372036854775807) ∧ (-9223372036854775808 ≤ L[i].at_ ∧ L[i].at_ ≤ 9223372036854775807) ∧ L[i].s.length ≤ maxLen) := by
  obtain ⟨A, c, hv, h1, h2, h3⟩ := h.elem (by decide)
  refine ⟨A, c, hv, h1, h2, fun hn => ?_⟩
  obtain ⟨b, off, hA, ho, hlt, hc⟩ := h3 hn
  refine ⟨b, off, hA, ho, hlt, fun i hi => ?_⟩
  obtain ⟨cs, hr, hcs⟩ := hc i hi
  obtain ⟨vk, rfl, hL, hk, ha, hs⟩ := kOp_cells hr
  have hsz : kOp.size = 8 := rfl
  rw [hsz] at hcs
  have hL' := hL
  obtain ⟨Ak, nk, ds, rfl, _⟩ := hL
  have e0 := hcs 0 (by simp)
  have e1 := hcs 1 (by simp)
  have e2 := hcs 2 (by simp)
  have e3 := hcs 3 (by simp)
  have e4 := hcs 4 (by simp)
  have e5 := hcs 5 (by simp)
  have e6 := hcs 6 (by simp)
  have e7 := hcs 7 (by simp)
  exact ⟨Ak, nk, by simpa [Nat.add_assoc] using e0, by simpa [Nat.add_assoc] using e1, by simpa [Nat.add_assoc, u8] using e2, by simpa [Nat.add_assoc] using e3, by simpa [Nat.add_assoc] using e4, by simpa [Nat.add_assoc] using e5, by simpa [Nat.add_assoc] using e6, by simpa [Nat.add_assoc] using e7, hL', hk, ha, hs⟩
end Go.Proofs.Ytffmnhjkfeoofaa
