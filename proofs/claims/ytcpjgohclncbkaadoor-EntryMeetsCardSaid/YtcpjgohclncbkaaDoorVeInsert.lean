/-
  slices.Insert of one version into a list that the call owns.
-/
import Derived.Test.YtcpjgohclncbkaaDoorVeOwn
import Derived.Test.YtcpjgohclncbkaaDoorVeThose
import Derived.Lib.Overlaps
import Derived.Lib.AppendZerosOnto
import Derived.Shelf.RegionOpenPlain
import Derived.Laws.NewBlocks
namespace Go.Proofs.YtcpjgohclncbkaaDoor
open Go.RowKit
set_option maxRecDepth 100000

/-- copy of n elements of k cells: all is read first. -/
theorem run_copyK {P : Program} (w : World) (dT sT ty elem : TypeId) (k n b o dLen dCap : Nat) (a : Addr) (sLen sCap : Nat) (cs : List Value)
    (hu : P.underlying dT = some (.slice elem)) (hs : (P.info? elem).map (·.size) = some k) (hn : Nat.min sLen dLen = n) (hcl : cs.length = n * k)
    (hsrc : ∀ j v, cs[j]? = some v → w.cell? (a.add j) = some v) (ht : w.there b o cs.length) (h1 : ∀ v ∈ cs, v.oneCell' = true) :
    (Builtin.copy_ #[dT, sT] ty #[.slice (some ⟨b, o, none⟩) dLen dCap, .slice (some a) sLen sCap]).run P w = .ok (goInt n) (w.setCells b o cs) := by
  have hl := run_loadCells_list (P := P) w a cs hsrc
  have hst := run_storeCells_cells (P := P) b o cs 0 w (fun j hj => by simpa using (ht j hj).1) (fun j hj => by simpa using (ht j hj).2) h1
  cases hq : P.info? elem with
  | none => simp [hq] at hs
  | some i =>
    have hi : i.size = k := by simpa [hq] using hs
    simp [Builtin.copy_, run_underlying hu, Builtin.lenOf, Builtin.firstCells, sizeOf, typeInfo, hq, hi, hn, ← hcl, hl, hst]
/-- A copy whose run is known, in a plain region and as a step of one that draws. -/
theorem wpList_copy_at {P : Program} (w : World) {ops : Array Oper} {rest : List Oper} {o : Oper} {a : Act} {Q : Exit → Act → World → Prop} (hgd : o.guard = none) (d s : Operand) (t t' : TypeId)
    (ho : o.op = .call { callee := .builtin .copy, args := #[d, s], argTypes := #[t, t'] }) (v u : Value) (hd : a.eval d = v) (hs : a.eval s = u) {v' : Value} {w' : World}
    (hr : (Builtin.copy_ #[t, t'] o.type #[v, u]).run P w = .ok v' w') (h : wpList P ops Q rest (a.put o.dst v') w') : wpList P ops Q (o :: rest) a w :=
  wpList_plain hgd fun _ hK => by
    unfold Oper.wp execOp
    simp only [ho, resolve, invoke, builtin, Sem.run_bind, Sem.run_pure, Result.andThen_ok, List.map_toArray, List.map_cons, List.map_nil, hd, hs, hr]
    exact hK _ _ h
theorem step_copy_at {P : Program} {ops : Array Oper} {o : Oper} {a : Act} {w : World} {K : Act → World → Prop} {Q : Exit → Act → World → Prop} {E : Prop}
    (hg : o.guard = none) (d x : Operand) (t t' : TypeId) (ho : o.op = .call { callee := .builtin .copy, args := #[d, x], argTypes := #[t, t'] })
    (v u : Value) (hd : a.eval d = v) (hx : a.eval x = u) {v' : Value} {w' : World} (hr : (Builtin.copy_ #[t, t'] o.type #[v, u]).run P w = .ok v' w') (hK : K (a.put o.dst v') w') :
    if Region.wanted o (yielded ops a.tmps) = true then Oper.wp P o a w K Q else E := by
  have hw : Region.wanted o (yielded ops a.tmps) = true := by simp [Region.wanted, hg]
  rw [if_pos hw]
  unfold Oper.wp execOp
  simp only [ho, resolve, invoke, builtin, Sem.run_bind, Sem.run_pure, Result.andThen_ok, List.map_toArray, List.map_cons, List.map_nil, hd, hx, hr]
  exact hK

theorem add_lit (b o j : Nat) : (⟨b, o, none⟩ : Addr).add j = ⟨b, o + j, none⟩ := by unfold Addr.add; split <;> simp_all

def insV (L : List Ver) (i : Nat) (X : Ver) : List Ver := L.take i ++ (X :: L.drop i)
theorem insV_length (L : List Ver) (i : Nat) (X : Ver) : (insV L i X).length = L.length + 1 := by
  unfold insV
  rw [List.length_append, List.length_cons, List.length_take, List.length_drop]
  omega
theorem insV_ok {L : List Ver} {i : Nat} {X : Ver} (h : ∀ x ∈ L, VerOk x) (hX : VerOk X) : ∀ x ∈ insV L i X, VerOk x := fun x hx => by
  unfold insV at hx
  rcases List.mem_append.1 hx with hx | hx
  · exact h x (List.mem_of_mem_take hx)
  · rcases List.mem_cons.1 hx with rfl | hx
    · exact hX
    · exact h x (List.mem_of_mem_drop hx)
theorem versC_ins (L : List Ver) (i : Nat) (X : Ver) : versC (insV L i X) = versC (L.take i) ++ ((verC X).toList ++ versC (L.drop i)) := by
  unfold insV
  rw [versC_append, show X :: L.drop i = [X] ++ L.drop i from rfl, versC_append, versC_one]
theorem versC_split (L : List Ver) (i : Nat) : versC L = versC (L.take i) ++ versC (L.drop i) := by rw [← versC_append, List.take_append_drop]
/-- The cells behind the two copies in place. -/
theorem shift_cells (A D rest V : List Value) (hV : V.length = 11) (hr : 11 ≤ rest.length) :
    splice (splice (A ++ (D ++ rest)) (A.length + 11) D) A.length V = (A ++ (V ++ D)) ++ rest.drop 11 := by
  rw [splice_front]
  have := splice_front A (splice (D ++ rest) 11 D) 0 V
  rw [Nat.add_zero] at this
  rw [this, List.append_assoc A (V ++ D)]
  congr 1
  have hY : ((D ++ rest).take 11).length = 11 := by rw [List.length_take, List.length_append]; omega
  have hd : (D ++ rest).drop (11 + D.length) = rest.drop 11 := by rw [Nat.add_comm, List.drop_length_add_append]
  unfold splice
  rw [List.take_zero, List.nil_append, Nat.zero_add, hV, hd, List.drop_left' hY, List.append_assoc]

theorem grow_cells (A Z D V : List Value) (hV : V.length = 11) :
    splice (splice (A ++ Z) A.length V) (A.length + 11) D = (A ++ (V ++ D)) ++ Z.drop (11 + D.length) := by
  have e1 := splice_front A Z 0 V
  rw [Nat.add_zero] at e1
  have e2 : splice Z 0 V = V ++ Z.drop 11 := by unfold splice; rw [List.take_zero, List.nil_append, Nat.zero_add, hV]
  have e3 := splice_front V (Z.drop 11) 0 D
  rw [Nat.add_zero, hV] at e3
  have e4 : splice (Z.drop 11) 0 D = D ++ Z.drop (11 + D.length) := by unfold splice; rw [List.take_zero, List.nil_append, Nat.zero_add, List.drop_drop]
  rw [e1, e2, splice_front, e3, e4]
  simp only [List.append_assoc]

end Go.Proofs.YtcpjgohclncbkaaDoor
