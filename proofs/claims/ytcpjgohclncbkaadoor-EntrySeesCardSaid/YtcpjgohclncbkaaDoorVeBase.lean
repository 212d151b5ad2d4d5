/-
  Versions: their cells, lists of them, how they are opened; numbers.
-/
import Derived.Test.YtcpjgohclncbkaaDoorVecAll
import Derived.Test.YtcpjgohclncbkaaDoorKinds2
import Derived.Deep.MidRow
import Derived.Laws.StructEq
import Derived.BigQuiet
import Derived.Lib.Hide
namespace Go.Proofs.YtcpjgohclncbkaaDoor
open Go.RowKit Go.WideShapes
set_option maxRecDepth 100000

/-! ### Numbers -/
def idC (r : Int) (s : Nat) : Array Value := #[.int .i64 r, .int .u32 (s : Int)]
theorem idv_idC (r : Int) (s : Nat) : idv r s = .agg (idC r s) := rfl
def kU32 : Kind Nat where
  size := 1
  R _ _ cs n := cs = [.int .u32 (n : Int)] ∧ n < 4294967296
  len h := by rw [h.1]; rfl
  move h _ := h
def kId : Kind (Int × Nat) := kPair (kInt .i64) kU32
/-- An int. -/
def I64 (n : Int) : Prop := -9223372036854775808 ≤ n ∧ n ≤ 9223372036854775807
def okP (p : Int × Nat) : Prop := I64 p.1 ∧ p.2 < 4294967296
theorem kId_cells {w : World} {ok : Nat → Prop} {cs : List Value} {p : Int × Nat} : kId.R w ok cs p ↔ cs = (idC p.1 p.2).toList ∧ okP p := by
  constructor
  · rintro ⟨c, d, rfl, ⟨h1, h2⟩, ⟨h3, h4⟩⟩
    subst h1 h3
    exact ⟨rfl, by simpa [Lit.wf, IntKind.min, IntKind.max, IntKind.signed, IntKind.bits, I64] using h2, h4⟩
  · rintro ⟨rfl, h2, h4⟩
    exact ⟨[.int .i64 p.1], [.int .u32 (p.2 : Int)], rfl, ⟨rfl, by simpa [Lit.wf, IntKind.min, IntKind.max, IntKind.signed, IntKind.bits, I64] using h2⟩, ⟨rfl, h4⟩⟩
theorem Blk.range {W : World} {g : Nat} {t : TypeId} {cs : Array Value} (h : Blk W g t cs) (o : Nat) (xs : List Value) (hx : ∀ (j : Nat) v, xs[j]? = some v → cs[o + j]? = some v) : W.rangeAt g o xs := fun j v hv => by rw [h.cell]; exact hx j v hv
theorem range_ext {W : World} {g o : Nat} {xs : List Value} (h : W.rangeAt g o xs) {W' : World} (hb : Below W.heap.size W W') : W'.rangeAt g o xs := fun j v hv => (hb.cell (World.block_lt_of_cell? W _ (h j v hv))).trans (h j v hv)
theorem range_exts {W : World} {g o : Nat} {xs : List Value} (h : W.rangeAt g o xs) : ∀ w', (∃ x : Ext W, w' = x.now) → w'.rangeAt g o xs := fun w' ⟨y, hy⟩ => by rw [hy]; exact range_ext h y.out
theorem id_info : (Tryd.prog.info? 25).map (·.size) = some 2 := by kernel_rfl
theorem idC_one (r : Int) (s : Nat) : (idC r s).all (·.oneCell') = true := by simp [idC, Value.oneCell']
def sameI (r : Int) (s : Nat) (r' : Int) (s' : Nat) : Bool := decide (r = r' ∧ s = s')
/-- '==' of numbers. -/
theorem ideq_run (r : Int) (s : Nat) (r' : Int) (s' : Nat) (w : World) : (binOp .eql 25 (.agg (idC r s)) (.agg (idC r' s'))).run Tryd.prog w = .ok (.bool (sameI r s r' s')) w := by
  have u3 := Tryd.underlying3
  have a3 := Tryd.isAgg3
  have z3 := Tryd.sizeOf3
  have u4 := Tryd.underlying23
  have a4 := Tryd.isAgg23
  have z4 := Tryd.sizeOf23
  have hS : Tryd.prog.underlying 25 = some (.struct (Tryd.prog.fieldsOf 25)) := by kernel_rfl
  have hp : Tryd.prog.stoodInHeld 25 = false := by kernel_rfl
  unfold idC
  rw [run_eql_struct, show (10000 : Nat) = 9999 + 1 from rfl, run_equalIn_agg w 9999 25 _ _ hS hp]
  simp only [Program.fieldsOf, Tryd.underlying25]
  go_simp
  unfold sameI
  by_cases h1 : r = r' <;> by_cases h2 : s = s' <;> simp [h1, h2]
  all_goals omega
theorem opens_u32 {P : Program} {t : TypeId} (ht : P.underlying t = some (.int .u32)) : Opens P t kU32 := fun h => by
  obtain ⟨n, h1, h2⟩ := Opens.int ht h
  have hw : 0 ≤ n ∧ n < 4294967296 := by
    simp [Lit.wf, IntKind.min, IntKind.max, IntKind.signed, IntKind.bits] at h2
    omega
  exact ⟨n.toNat, by rw [h1, Int.toNat_of_nonneg hw.1], by omega⟩
def kVec : Kind (Nat → Nat) where
  size := 8
  R _ _ cs V := cs = (av V).toList ∧ okV V
  len h := by rw [h.1]; rfl
  move h _ := h
theorem cells8 {w : World} {ok : Nat → Prop} {cs : List Value} {L : List Int} (hl : L.length = 8) (h : kMany (kInt .u32) w ok cs L) : ∃ V, cs = (av V).toList ∧ okV V := by
  obtain ⟨css, rfl, hcl, hr⟩ := h
  rw [hl] at hcl
  obtain ⟨V, hV⟩ : ∃ V : Nat → Nat, ∀ i (hi : i < L.length), V i = L[i].toNat := ⟨fun i => if h : i < L.length then L[i].toNat else 0, fun i hi => by simp [hi]⟩
  have key : ∀ i (hi : i < css.length), css[i] = [.int .u32 (V i : Int)] ∧ V i < 4294967296 := fun i hi => by
    obtain ⟨h1, h2⟩ := hr i hi (by omega)
    have hw : 0 ≤ L[i]'(by omega) ∧ L[i]'(by omega) < 4294967296 := by
      simp [Lit.wf, IntKind.min, IntKind.max, IntKind.signed, IntKind.bits] at h2
      omega
    rw [hV i (by omega), h1, Int.toNat_of_nonneg hw.1]
    exact ⟨rfl, by omega⟩
  refine ⟨V, ?_, fun i hi => (key i (by omega)).2⟩
  match css, hcl, key with
  | [c0, c1, c2, c3, c4, c5, c6, c7], _, key =>
    have k0 := (key 0 (by simp)).1
    have k1 := (key 1 (by simp)).1
    have k2 := (key 2 (by simp)).1
    have k3 := (key 3 (by simp)).1
    have k4 := (key 4 (by simp)).1
    have k5 := (key 5 (by simp)).1
    have k6 := (key 6 (by simp)).1
    have k7 := (key 7 (by simp)).1
    simp only [List.getElem_cons_zero, List.getElem_cons_succ] at k0 k1 k2 k3 k4 k5 k6 k7
    rw [k0, k1, k2, k3, k4, k5, k6, k7]
    rfl
theorem opens_vec : Opens Tryd.prog 27 kVec := fun h => by
  obtain ⟨L, hl, hm⟩ := Opens.array (K := kInt .u32) Tryd.underlying27 (by kernel_rfl) (by kernel_rfl) (Opens.int Tryd.underlying23) h
  exact cells8 hl hm
theorem opens_id : Opens Tryd.prog 25 kId :=
  Opens.struct Tryd.underlying25 (by kernel_rfl) (OpenFs.cons rfl (by kernel_rfl) (Opens.int Tryd.underlying3) (OpenFs.one rfl (by kernel_rfl) (opens_u32 Tryd.underlying23)))
/-! ### Versions -/
end Go.Proofs.YtcpjgohclncbkaaDoor
