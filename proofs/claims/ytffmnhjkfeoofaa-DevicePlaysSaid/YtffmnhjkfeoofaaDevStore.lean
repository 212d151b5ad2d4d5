/-
  A whole value of many cells goes into a block that is known whole.
-/
import Derived.Test.YtffmnhjkfeoofaaDevZero
namespace Go.Proofs.Ytffmnhjkfeoofaa
open Go.RowKit
set_option maxRecDepth 100000

section
variable {P : Program} {ops : Array Oper} {rest : List Oper} {op : Oper} {a : Act} {w : World} {Q : Exit → Act → World → Prop}
/-- A whole array goes into a block that is known whole. -/
theorem wpList_store_fr (hgd : op.guard = none) (ty : TypeId) (x y : Operand) (ho : op.op = .store ty x y) (g : Nat) (t : TypeId) (old cs : List Value) (hx : a.eval x = .pointer (some ⟨g, 0, none⟩)) (hy : a.eval y = .agg cs.toArray)
    (hg : Blk w g t old.toArray) (hs : old.length = cs.length) (hi : (P.info? ty).map (·.size) = some cs.length) (h1 : ∀ v ∈ cs, v.oneCell' = true)
    (h : ∀ w', Blk w' g t cs.toArray → Fr (· = g) (· = g) w w' → wpList P ops Q rest (a.put op.dst undef) w') : wpList P ops Q (op :: rest) a w := by
  refine wpList_store_mid hgd ty x y ho g 0 cs.toArray hx hy ?_ (by simpa using hi) (all_oneCell_toArray h1) ?_
  · have := hg.there 0 old.length (by omega)
    rw [hs] at this
    simpa using this
  · refine h _ ?_ (Fr.setCells (F' := (· = g)) (Fr.refl (· = g) w) rfl _ _)
    have := Blk.setCells cs 0 w old hg (by omega)
    have e : splice old 0 cs = cs := by
      unfold splice
      rw [List.take_zero, List.nil_append, Nat.zero_add, List.drop_eq_nil_of_le (by omega), List.append_nil]
    rw [e] at this
    exact this
end
theorem Blk.all {w : World} {g : Nat} {t : TypeId} {cs : List Value} (h : Blk w g t cs.toArray) : w.rangeAt g 0 cs := h.range 0 cs (by rw [List.drop_zero, List.take_length])
end Go.Proofs.Ytffmnhjkfeoofaa
