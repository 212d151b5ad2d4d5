/-
  Small words on worlds that have only grown, or drawn: for regions that draw their order.
  bytes.Clone and bytes.Equal.
  bytes.Equal.
-/
import Derived.Test.YtdmbmkjiffhbcaaGreatWordsB
import Derived.Deep.QuietTactic
import Derived.Test.YtdmbmkjiffhbcaaGreatShelf
namespace Go.Proofs.YtdmbmkjiffhbcaaGreat
open Go.RowKit

theorem below_drewN {B : Nat} {a w : World} (h : Below B a w) (n : Nat) : Below B a (w.drewN n) := ⟨h.os, h.tape, h.output, h.size, h.block⟩
theorem below_call {w u w' : World} (hS : Below w.heap.size w u) (hb : Below u.heap.size u w') : Below w.heap.size w w' := hS.trans (hb.mono hS.size)
theorem below_drew_then {w w' : World} (h : Below w.drew.heap.size w.drew w') : Below w.heap.size w w' := (Below.refl _ _).drew.trans h
theorem below_then_drew {B : Nat} {w w' : World} (h : Below B w w') : Below B w w'.drew := h.drew
theorem IsB.drewN {w : World} {ok : Nat → Prop} {v : Value} {l : List UInt8} (h : IsB w ok v l) (n : Nat) : IsB (w.drewN n) ok v l := h
/-- A callee that leaves the world alone, within a quiet region. -/
theorem quiet_same {P : Program} {f : FuncId} {args : Array Value} {w : World} {n : Nat} {v : Value}
    (h : Calls P f args (w.drewN n) fun e w' => e = .returned v ∧ w.drewN n = w') : Calls P f args (w.drewN n) fun e w'' => e = .returned v ∧ ∃ m, w'' = w.drewN m :=
  h.mono fun _ _ ⟨he, hm⟩ => ⟨he, n, hm.symm⟩
end Go.Proofs.YtdmbmkjiffhbcaaGreat

namespace Go.Proofs.YtdmbmkjiffhbcaaGreat
open Go.RowKit Go.Shelf

theorem clone_any (ok : Nat → Prop) (v : Value) (l : List UInt8) (w : World) (hv : IsB w ok v l) (hl : l.length ≤ 1099511627776) :
    Calls Tryz.prog 41 #[v] w fun e w' => ∃ v', e = .returned v' ∧ Own1 w' w.heap.size 5 v' (l.map u8) ∧ Below w.heap.size w w' := by
  obtain ⟨A, c, rfl, hlc, hcm, hr⟩ := hv
  cases A with
  | none =>
    have hl0 : l = [] := by
      rcases Classical.em (l = []) with h | h
      · exact h
      · obtain ⟨ad, e, _⟩ := hr (by simpa using h)
        cases e
    subst hl0
    refine (Tryz.bytes_Clone_nil _ _ _).mono ?_
    rintro e w' ⟨rfl, hw⟩
    rw [hw]
    exact ⟨_, rfl, Own1.nil _ _ _, Below.refl _ _⟩
  | some ad =>
    refine (Tryz.bytes_Clone_at ad l.length c (l.map (fun b => (b.toNat : Int))) w (by simp) (by omega) ?_).mono ?_
    · intro i hi
      obtain ⟨ad', e, _, _, hc⟩ := hr.at_ (k := i) (by simpa using hi)
      cases e
      rw [hc]
      simp [u8, List.getD, hi]
    · rintro e w' ⟨v', rfl, hown, _, hb⟩
      refine ⟨v', rfl, ?_, hb⟩
      unfold Own1
      rw [u8_eq, List.length_map, List.length_map]
      exact hown
end Go.Proofs.YtdmbmkjiffhbcaaGreat

namespace Go.Proofs.YtdmbmkjiffhbcaaGreat
open Go.RowKit Go.Shelf

theorem equal_any (ok1 ok2 : Nat → Prop) (v1 v2 : Value) (l1 l2 : List UInt8) (w : World) (h1 : IsB w ok1 v1 l1) (h2 : IsB w ok2 v2 l2) :
    Calls Tryz.prog 77 #[v1, v2] w fun e w' => e = .returned (.bool (l1 == l2)) ∧ w = w' := by
  obtain ⟨A1, c1, rfl, _, _, hr1⟩ := h1
  obtain ⟨A2, c2, rfl, _, _, hr2⟩ := h2
  have e1 := run_bytes_str (P := Tryz.prog) (c := c1) 47 9 5 Tryz.underlying47 Tryz.underlying5 Tryz.underlying9 hr1
  have e2 := run_bytes_str (P := Tryz.prog) (c := c2) 47 9 5 Tryz.underlying47 Tryz.underlying5 Tryz.underlying9 hr2
  refine (Tryz.bytes_Equal_strs _ _ _ _ w e1 e2).mono ?_
  rintro e w' ⟨rfl, hw⟩
  refine ⟨?_, hw.symm⟩
  rw [ByteArray.toList_eq, ByteArray.toList_eq]
end Go.Proofs.YtdmbmkjiffhbcaaGreat
