/-
  Arrays of texts in a block of their own: whole loads and stores.
-/
import Derived.Test.YtodcjhkleiibfaaDeviceLastLaw
namespace Go.Proofs.Ytodcjhkleiibfaa
open Go.RowKit
set_option maxRecDepth 100000

section
variable {P : Program} {ops : Array Oper} {rest : List Oper} {op : Oper} {a : Act} {w : World} {Q : Exit → Act → World → Prop}
/-- A whole array goes into a block that is known whole. -/
theorem wpList_store_fr (hgd : op.guard = none) (ty : TypeId) (x y : Operand) (ho : op.op = .store ty x y) (g : Nat) (t : TypeId) (old cs : List Value) (hx : a.eval x = .pointer (some ⟨g, 0, none⟩)) (hy : a.eval y = .agg cs.toArray)
    (hg : Blk w g t old.toArray) (hs : old.length = cs.length) (hi : (P.info? ty).map (·.size) = some cs.length) (h1 : ∀ v ∈ cs, v.oneCell' = true)
    (h : ∀ w', Blk w' g t cs.toArray → Fr (· = g) (· = g) w w' → wpList P ops Q rest (a.put op.dst undef) w') : wpList P ops Q (op :: rest) a w := by
  refine wpList_store_mid hgd ty x y ho g 0 cs.toArray hx hy ?_ (by simpa using hi) (all_oneCell_toArray h1) ?_
  · have := hg.there 0 old.length (by omega)
    rw [hs] at this
    simpa using this
  · refine h _ ?_ (Fr.setCells (F' := (· = g)) (Fr.refl (· = g) w) rfl _ _)
    have := Blk.setCells cs 0 w old hg (by omega)
    have e : splice old 0 cs = cs := by
      unfold splice
      rw [List.take_zero, List.nil_append, Nat.zero_add, List.drop_eq_nil_of_le (by omega), List.append_nil]
    rw [e] at this
    exact this
end
theorem Blk.all {w : World} {g : Nat} {t : TypeId} {cs : List Value} (h : Blk w g t cs.toArray) : w.rangeAt g 0 cs := h.range 0 cs (by rw [List.drop_zero, List.take_length])
theorem size_s6 : (Try.prog.info? 46).map (·.size) = some 6 := by kernel_rfl

/-! ### What a cut leaves that keeps all, and one that keeps none -/
theorem cutS_all (c : Choice) (s : List (List UInt8)) (k : Nat) (l : List (Nat × List UInt8)) (hc : ∀ j, j < k + l.length → (j : Int) ∈ c.kept) (hs : ∀ x ∈ s, x.length = 256) (hl : ∀ x ∈ l, x.1 < s.length ∧ x.2.length = 256) : cutS c s k l = applyW s l := by
  induction l generalizing s k with
  | nil => rfl
  | cons x r ih =>
    obtain ⟨h1, h2⟩ := hl x (by simp)
    have hst : c.stay k = 256 := by unfold Choice.stay; rw [if_pos (hc k (by simp))]
    have h4 : (s.getD x.1 []).length = 256 := by
      rw [List.getD_eq_getElem?_getD, List.getElem?_eq_getElem h1]
      exact hs _ (List.getElem_mem h1)
    show cutS c (s.set x.1 (x.2.take (c.stay k) ++ (s.getD x.1 []).drop (c.stay k))) (k + 1) r = applyW (s.set x.1 x.2) r
    rw [hst, List.take_of_length_le (by omega), List.drop_eq_nil_of_le (by omega), List.append_nil]
    exact ih _ _ (fun j hj => hc j (by rw [List.length_cons]; omega)) (set_all _ _ _ hs h2) (fun y hy => by rw [List.length_set]; exact hl y (by simp [hy]))
theorem cutS_none (s : List (List UInt8)) (k : Nat) (l : List (Nat × List UInt8)) : cutS ⟨[], -1, 0⟩ s k l = s := by
  induction l generalizing s k with
  | nil => rfl
  | cons x r ih =>
    have hst : (⟨[], -1, 0⟩ : Choice).stay k = 0 := by
      unfold Choice.stay
      rw [if_neg (by simp), if_neg (by show ¬ (-1 : Int) = (k : Int); omega)]
    show cutS _ (s.set x.1 (x.2.take _ ++ (s.getD x.1 []).drop _)) (k + 1) r = s
    rw [hst, List.take_zero, List.nil_append, List.drop_zero, ih]
    by_cases h : x.1 < s.length
    · rw [List.getD_eq_getElem?_getD, List.getElem?_eq_getElem h]
      simp
    · exact List.set_eq_of_length_le (by omega)
/-- A row of the numbers from 0 on. -/
theorem row_ints (n : Nat) (h : n ≤ 1099511627776) {w : World} {ok : Nat → Prop} : kMany (kInt .i64) w ok ((List.range n).map fun j => .int .i64 ((j : Nat) : Int)) ((List.range n).map fun j => ((j : Nat) : Int)) := by
  induction n with
  | zero => exact kMany.nil
  | succ n ih =>
    rw [List.range_succ, List.map_append, List.map_append]
    refine kMany.append (ih (by omega)) ?_
    refine kMany.cons (c := [.int .i64 (n : Int)]) ⟨rfl, ?_⟩ kMany.nil
    simp [Lit.wf, IntKind.min, IntKind.max, IntKind.signed, IntKind.bits]
    omega
end Go.Proofs.Ytodcjhkleiibfaa
