/-
  Lists of numbers that the call owns.
-/
import Derived.Test.YtnehoabeameioaaVeThose
import Derived.Test.YtnehoabeameioaaVeOwn
import Derived.Test.YtnehoabeameioaaWalk
import Derived.Test.YtnehoabeameioaaVeHeadsMath
import Derived.Test.YtnehoabeameioaaVeAdd
namespace Go.Proofs.Ytnehoabeameioaa
open Go.RowKit
set_option maxRecDepth 100000

def idsC (L : List (Int × Nat)) : List Value := L.flatMap fun p => (idC p.1 p.2).toList
theorem idsC_length (L : List (Int × Nat)) : (idsC L).length = L.length * 2 := by
  unfold idsC
  induction L with
  | nil => rfl
  | cons a L ih => rw [List.flatMap_cons, List.length_append, ih, List.length_cons]; show 2 + L.length * 2 = _; omega
theorem idsC_append (L M : List (Int × Nat)) : idsC (L ++ M) = idsC L ++ idsC M := by unfold idsC; rw [List.flatMap_append]
theorem idsC_one (p : Int × Nat) : idsC [p] = (idC p.1 p.2).toList := by unfold idsC; simp
theorem ids_many (w : World) (ok : Nat → Prop) : ∀ L : List (Int × Nat), (∀ p ∈ L, okP p) → kMany kId w ok (idsC L) L := by
  intro L
  induction L with
  | nil => intro _; exact kMany.nil
  | cons a L ih =>
    intro h
    exact kMany.cons (kId_cells.2 ⟨rfl, h a (by simp)⟩) (ih fun x hx => h x (by simp [hx]))
theorem elemI2 : ElemK Try.prog 32 35 2 16 := ElemK.mk_ (z := .agg #[.int .i64 0, .int .u32 0]) Try.underlying32 (by kernel_rfl) rfl (by omega)
/-- Numbers that the call owns. -/
def OwnI (w : World) (base : Nat) (v : Value) (L : List (Int × Nat)) : Prop := OwnK w base 35 2 v L.length (idsC L) ∧ ∀ p ∈ L, okP p
theorem OwnI.isL {w : World} {base : Nat} {v : Value} {L : List (Int × Nat)} (h : OwnI w base v L) : IsL kId w (fun g => v.ownBlock = some g) v L := by
  obtain ⟨A, c, hv, h1, h2, h3⟩ := h.1.form
  exact ⟨A, c, _, hv, h1, h2, h3, ids_many _ _ _ h.2⟩
theorem OwnI.grow {w w' : World} {base : Nat} {v : Value} {L : List (Int × Nat)} (h : OwnI w base v L) (hb : Below w.heap.size w w') : OwnI w' base v L := ⟨OwnK.grow h.1 hb, h.2⟩
theorem OwnI.nil (w : World) (base : Nat) : OwnI w base (.slice none 0 0) [] := ⟨OwnK.nil _ _ _ _, fun x hx => by simp at hx⟩
theorem OwnI.app {w : World} {base : Nat} {v : Value} {M : List (Int × Nat)} {p : Int × Nat} (h : OwnK w base 35 2 v (M.length + 1) (idsC M ++ (idC p.1 p.2).toList)) (hM : ∀ y ∈ M, okP y) (hx : okP p) : OwnI w base v (M ++ [p]) := by
  refine ⟨?_, fun y hy => ?_⟩
  · rw [idsC_append, idsC_one, List.length_append, List.length_singleton]
    exact h
  · rcases List.mem_append.1 hy with hy | hy
    · exact hM y hy
    · simp at hy; subst hy; exact hx
theorem idC_each (r : Int) (s : Nat) : ∀ u ∈ (idC r s).toList, u.oneCell' = true := by simp [idC, Value.oneCell']
/-- append of one number, which lies in a new block. -/
theorem wpList_app_id (w : World) {ops : Array Oper} {rest : List Oper} {o : Oper} {a : Act} {Q : Exit → Act → World → Prop} (hgd : o.guard = none) (s x : Operand)
    (ho : o.op = .call { callee := .builtin .append, args := #[s, x], argTypes := #[32, 32] })
    (base : Nat) (v : Value) (M : List (Int × Nat)) (hs : a.eval s = v) (hown : OwnI w base v M)
    (C : Array Value) (p : Int × Nat) (hC : C = idC p.1 p.2) (hX : okP p) (te : TypeId) (hx : a.eval x = .slice (some ⟨w.heap.size, 0, none⟩) 1 1)
    (hl : M.length ≤ 100000) (hbase : base ≤ w.heap.size)
    (h : ∀ v' w', OwnI w' base v' (M ++ [p]) → w.grownBy w' v.ownBlock → wpList Try.prog ops Q rest (a.put o.dst v') w') :
    wpList Try.prog ops Q (o :: rest) a (w.alloc (.cells C te)) := by
  subst hC
  exact wpList_appK_new w elemI2 hgd s x ho base M.length v (idsC M) hs hown.1 (idC p.1 p.2).toList 1 rfl te hx (idC_each _ _) (by omega) (by omega) hbase
    fun v' w' h1 h2 _ => h v' w' (OwnI.app h1 hown.2 hX) h2
theorem wp_app_id (w : World) {Q : Exit → Act → World → Prop} {o : Oper} {a : Act} {K : Act → World → Prop} (s x : Operand)
    (ho : o.op = .call { callee := .builtin .append, args := #[s, x], argTypes := #[32, 32] })
    (base : Nat) (v : Value) (M : List (Int × Nat)) (hs : a.eval s = v) (hown : OwnI w base v M)
    (C : Array Value) (p : Int × Nat) (hC : C = idC p.1 p.2) (hX : okP p) (te : TypeId) (hx : a.eval x = .slice (some ⟨w.heap.size, 0, none⟩) 1 1)
    (hl : M.length ≤ 100000) (hbase : base ≤ w.heap.size)
    (h : ∀ v' w', OwnI w' base v' (M ++ [p]) → w.grownBy w' v.ownBlock → K (a.put o.dst v') w') : o.wp Try.prog a (w.alloc (.cells C te)) K Q := by
  subst hC
  exact wp_appK_new w elemI2 s x ho base M.length v (idsC M) hs hown.1 (idC p.1 p.2).toList 1 rfl te hx (idC_each _ _) (by omega) (by omega) hbase
    fun v' w' h1 h2 => h v' w' (OwnI.app h1 hown.2 hX) h2
/-- A slice literal of one number. -/
theorem fold_id (r : Int) (s : Nat) : Array.foldl (fun (cs : Array Value) (x : Value × Nat) => cs.setIfInBounds x.snd x.fst) #[.int .i64 0, .int .u32 0] (idC r s).zipIdx 0 2 = idC r s := by
  unfold idC
  simp [Array.zipIdx]
/-- The vector of a version set to zero. -/
theorem zero_by {W : World} {g : Nat} {t : TypeId} {X : Ver} (h : Blk W g t (verC X)) : W.there g 3 8 ∧ Blk (W.setCells g 3 (av zeroV).toList) g t (verC { X with by_ := zeroV }) := by
  have h' : Blk W g t (verC X).toList.toArray := by simpa using h
  refine ⟨Blk.there h' 3 8 (by show 3 + 8 ≤ 11; omega), ?_⟩
  have := Blk.setCells (av zeroV).toList 3 W (verC X).toList h' (by show 3 + 8 ≤ 11; omega)
  exact this
theorem put_data {L : List Ver} {H : List (Int × Nat)} {A : Ver} (h : ∀ x ∈ L, x.data.length ≤ 1000) (hA : A.data.length ≤ 1000) : ∀ x ∈ putV L H A, x.data.length ≤ 1000 := by
  intro x hx
  rcases mem_insV.1 hx with rfl | hx
  · exact hA
  · exact versV_data h x hx
theorem or_no {a b : Bool} (h : false = (a || b)) : a = false ∧ b = false := by cases a <;> cases b <;> simp_all
end Go.Proofs.Ytnehoabeameioaa
