/-
  Versions: their cells, lists of them, how they are opened; numbers.
-/
import Derived.Test.YtcpjgohclncbkaaDoorVecAll
import Derived.Test.YtcpjgohclncbkaaDoorKinds2
import Derived.Deep.MidRow
import Derived.Laws.StructEq
import Derived.BigQuiet
import Derived.Lib.Hide
namespace Go.Proofs.YtcpjgohclncbkaaDoor
open Go.RowKit Go.WideShapes
set_option maxRecDepth 100000

/-! ### Numbers -/
def idC (r : Int) (s : Nat) : Array Value := #[.int .i64 r, .int .u32 (s : Int)]
theorem idv_idC (r : Int) (s : Nat) : idv r s = .agg (idC r s) := rfl
def kU32 : Kind Nat where
  size := 1
  R _ _ cs n := cs = [.int .u32 (n : Int)] ∧ n < 4294967296
  len h := by rw [h.1]; rfl
  move h _ := h
def kId : Kind (Int × Nat) := kPair (kInt .i64) kU32
theorem kU32_flat : kU32.Flat := fun h => h
theorem kId_flat : kId.Flat := kPair_flat (kInt_flat _) kU32_flat
/-- An int. -/
def I64 (n : Int) : Prop := -9223372036854775808 ≤ n ∧ n ≤ 9223372036854775807
def okP (p : Int × Nat) : Prop := I64 p.1 ∧ p.2 < 4294967296
theorem kId_cells {w : World} {ok : Nat → Prop} {cs : List Value} {p : Int × Nat} : kId.R w ok cs p ↔ cs = (idC p.1 p.2).toList ∧ okP p := by
  constructor
  · rintro ⟨c, d, rfl, ⟨h1, h2⟩, ⟨h3, h4⟩⟩
    subst h1 h3
    exact ⟨rfl, by simpa [Lit.wf, IntKind.min, IntKind.max, IntKind.signed, IntKind.bits, I64] using h2, h4⟩
  · rintro ⟨rfl, h2, h4⟩
    exact ⟨[.int .i64 p.1], [.int .u32 (p.2 : Int)], rfl, ⟨rfl, by simpa [Lit.wf, IntKind.min, IntKind.max, IntKind.signed, IntKind.bits, I64] using h2⟩, ⟨rfl, h4⟩⟩
theorem Blk.range {W : World} {g : Nat} {t : TypeId} {cs : Array Value} (h : Blk W g t cs) (o : Nat) (xs : List Value) (hx : ∀ (j : Nat) v, xs[j]? = some v → cs[o + j]? = some v) : W.rangeAt g o xs := fun j v hv => by rw [h.cell]; exact hx j v hv
theorem range_ext {W : World} {g o : Nat} {xs : List Value} (h : W.rangeAt g o xs) {W' : World} (hb : Below W.heap.size W W') : W'.rangeAt g o xs := fun j v hv => (hb.cell (World.block_lt_of_cell? W _ (h j v hv))).trans (h j v hv)
theorem range_exts {W : World} {g o : Nat} {xs : List Value} (h : W.rangeAt g o xs) : ∀ w', (∃ x : Ext W, w' = x.now) → w'.rangeAt g o xs := fun w' ⟨y, hy⟩ => by rw [hy]; exact range_ext h y.out
theorem id_info : (Tryd.prog.info? 25).map (·.size) = some 2 := by kernel_rfl
theorem idC_one (r : Int) (s : Nat) : (idC r s).all (·.oneCell') = true := by simp [idC, Value.oneCell']
def sameI (r : Int) (s : Nat) (r' : Int) (s' : Nat) : Bool := decide (r = r' ∧ s = s')
/-- '==' of numbers. -/
theorem ideq_run (r : Int) (s : Nat) (r' : Int) (s' : Nat) (w : World) : (binOp .eql 25 (.agg (idC r s)) (.agg (idC r' s'))).run Tryd.prog w = .ok (.bool (sameI r s r' s')) w := by
  have u3 := Tryd.underlying3
  have a3 := Tryd.isAgg3
  have z3 := Tryd.sizeOf3
  have u4 := Tryd.underlying23
  have a4 := Tryd.isAgg23
  have z4 := Tryd.sizeOf23
  have hS : Tryd.prog.underlying 25 = some (.struct (Tryd.prog.fieldsOf 25)) := by kernel_rfl
  have hp : Tryd.prog.stoodInHeld 25 = false := by kernel_rfl
  unfold idC
  rw [run_eql_struct, show (10000 : Nat) = 9999 + 1 from rfl, run_equalIn_agg w 9999 25 _ _ hS hp]
  simp only [Program.fieldsOf, Tryd.underlying25]
  go_simp
  unfold sameI
  by_cases h1 : r = r' <;> by_cases h2 : s = s' <;> simp [h1, h2]
  all_goals omega
/-- The elements of a list of numbers. -/
theorem id_at {w : World} {ok : Nat → Prop} {v : Value} {L : List (Int × Nat)} (h : IsL kId w ok v L) :
    ∃ A c, v = .slice A L.length c ∧ L.length ≤ c ∧ c ≤ maxLen ∧ (L ≠ [] → ∃ b off, A = some ⟨b, off, none⟩ ∧ ok b ∧ b < w.heap.size ∧
      ∀ (i : Nat) (hi : i < L.length), w.rangeAt b (off + i * 2) (idC L[i].1 L[i].2).toList ∧ okP L[i]) := by
  obtain ⟨A, c, e, h1, h2, h3⟩ := h.elem (by show 0 < 1 + 1; omega)
  refine ⟨A, c, e, h1, h2, fun hn => ?_⟩
  obtain ⟨b, off, hA, ho, hlt, hc⟩ := h3 hn
  refine ⟨b, off, hA, ho, hlt, fun i hi => ?_⟩
  obtain ⟨cs, hr, hcs⟩ := hc i hi
  obtain ⟨rfl, hok⟩ := kId_cells.1 hr
  refine ⟨fun j u hu => ?_, hok⟩
  obtain ⟨hj, e⟩ := List.getElem?_eq_some_iff.1 hu
  have := hcs j hj
  rw [e] at this
  rw [← this]
  congr 2
  show off + i * 2 + j = off + (i * (1 + 1) + j)
  omega
theorem IsL.le {α : Type} {K : Kind α} {w : World} {ok : Nat → Prop} {v : Value} {L : List α} (h : IsL K w ok v L) : L.length ≤ maxLen := by
  obtain ⟨_, _, _, _, h1, h2, _⟩ := h
  omega
theorem opens_u32 {P : Program} {t : TypeId} (ht : P.underlying t = some (.int .u32)) : Opens P t kU32 := fun h => by
  obtain ⟨n, h1, h2⟩ := Opens.int ht h
  have hw : 0 ≤ n ∧ n < 4294967296 := by
    simp [Lit.wf, IntKind.min, IntKind.max, IntKind.signed, IntKind.bits] at h2
    omega
  exact ⟨n.toNat, by rw [h1, Int.toNat_of_nonneg hw.1], by omega⟩
def kVec : Kind (Nat → Nat) where
  size := 8
  R _ _ cs V := cs = (av V).toList ∧ okV V
  len h := by rw [h.1]; rfl
  move h _ := h
theorem cells8 {w : World} {ok : Nat → Prop} {cs : List Value} {L : List Int} (hl : L.length = 8) (h : kMany (kInt .u32) w ok cs L) : ∃ V, cs = (av V).toList ∧ okV V := by
  obtain ⟨css, rfl, hcl, hr⟩ := h
  rw [hl] at hcl
  obtain ⟨V, hV⟩ : ∃ V : Nat → Nat, ∀ i (hi : i < L.length), V i = L[i].toNat := ⟨fun i => if h : i < L.length then L[i].toNat else 0, fun i hi => by simp [hi]⟩
  have key : ∀ i (hi : i < css.length), css[i] = [.int .u32 (V i : Int)] ∧ V i < 4294967296 := fun i hi => by
    obtain ⟨h1, h2⟩ := hr i hi (by omega)
    have hw : 0 ≤ L[i]'(by omega) ∧ L[i]'(by omega) < 4294967296 := by
      simp [Lit.wf, IntKind.min, IntKind.max, IntKind.signed, IntKind.bits] at h2
      omega
    rw [hV i (by omega), h1, Int.toNat_of_nonneg hw.1]
    exact ⟨rfl, by omega⟩
  refine ⟨V, ?_, fun i hi => (key i (by omega)).2⟩
  match css, hcl, key with
  | [c0, c1, c2, c3, c4, c5, c6, c7], _, key =>
    have k0 := (key 0 (by simp)).1
    have k1 := (key 1 (by simp)).1
    have k2 := (key 2 (by simp)).1
    have k3 := (key 3 (by simp)).1
    have k4 := (key 4 (by simp)).1
    have k5 := (key 5 (by simp)).1
    have k6 := (key 6 (by simp)).1
    have k7 := (key 7 (by simp)).1
    simp only [List.getElem_cons_zero, List.getElem_cons_succ] at k0 k1 k2 k3 k4 k5 k6 k7
    rw [k0, k1, k2, k3, k4, k5, k6, k7]
    rfl
theorem opens_vec : Opens Tryd.prog 27 kVec := fun h => by
  obtain ⟨L, hl, hm⟩ := Opens.array (K := kInt .u32) Tryd.underlying27 (by kernel_rfl) (by kernel_rfl) (Opens.int Tryd.underlying23) h
  exact cells8 hl hm
theorem opens_id : Opens Tryd.prog 25 kId :=
  Opens.struct Tryd.underlying25 (by kernel_rfl) (OpenFs.cons rfl (by kernel_rfl) (Opens.int Tryd.underlying3) (OpenFs.one rfl (by kernel_rfl) (opens_u32 Tryd.underlying23)))
theorem wf_i64 {n : Int} (h : (Lit.int .i64 n).wf = true) : I64 n := by simpa [Lit.wf, IntKind.min, IntKind.max, IntKind.signed, IntKind.bits, I64] using h

/-! ### Versions -/
structure Ver where
  rep : Int
  seq : Nat
  data : List UInt8
  by_ : Nat → Nat
/-- How far the parts of any version go. -/
structure VerOk (v : Ver) : Prop where
  rep : I64 v.rep
  seq : v.seq < 4294967296
  data : v.data.length ≤ maxLen
  by_ : okV v.by_
def verC (v : Ver) : Array Value := #[.int .i64 v.rep, .int .u32 (v.seq : Int), str v.data, .int .u32 (v.by_ 0 : Int), .int .u32 (v.by_ 1 : Int), .int .u32 (v.by_ 2 : Int), .int .u32 (v.by_ 3 : Int), .int .u32 (v.by_ 4 : Int), .int .u32 (v.by_ 5 : Int), .int .u32 (v.by_ 6 : Int), .int .u32 (v.by_ 7 : Int)]
theorem verC_size (v : Ver) : (verC v).size = 11 := rfl
theorem verC_one (v : Ver) : (verC v).all (·.oneCell') = true := by simp [verC, Value.oneCell']
theorem verC_each (v : Ver) : ∀ u ∈ (verC v).toList, u.oneCell' = true := by simp [verC, Value.oneCell']
def kVer : Kind Ver where
  size := 11
  R _ _ cs v := cs = (verC v).toList ∧ VerOk v
  len h := by rw [h.1]; rfl
  move h _ := h
theorem kVer_flat : kVer.Flat := fun h => h
def kVerT := kPair kId (kPair kStr kVec)
theorem ver_at {w : World} {ok : Nat → Prop} {v : Value} {L : List Ver} (h : IsL kVer w ok v L) :
    ∃ A c, v = .slice A L.length c ∧ L.length ≤ c ∧ c ≤ maxLen ∧ (L ≠ [] → ∃ b off, A = some ⟨b, off, none⟩ ∧ ok b ∧ b < w.heap.size ∧
      ∀ (i : Nat) (hi : i < L.length), w.rangeAt b (off + i * 11) (verC L[i]).toList ∧ VerOk L[i]) := by
  obtain ⟨A, c, e, h1, h2, h3⟩ := h.elem (by show 0 < 11; omega)
  refine ⟨A, c, e, h1, h2, fun hn => ?_⟩
  obtain ⟨b, off, hA, ho, hlt, hc⟩ := h3 hn
  refine ⟨b, off, hA, ho, hlt, fun i hi => ?_⟩
  obtain ⟨cs, ⟨rfl, hok⟩, hcs⟩ := hc i hi
  refine ⟨fun j u hu => ?_, hok⟩
  obtain ⟨hj, e⟩ := List.getElem?_eq_some_iff.1 hu
  have := hcs j hj
  rw [e] at this
  rw [← this]
  congr 2
  show off + i * 11 + j = off + (i * 11 + j)
  omega
/-- A list of versions whose cells are those. -/
theorem ver_many (w : World) (ok : Nat → Prop) : ∀ L : List Ver, (∀ x ∈ L, VerOk x) → kMany kVer w ok (L.flatMap fun x => (verC x).toList) L := by
  intro L
  induction L with
  | nil => intro _; exact kMany.nil
  | cons a L ih =>
    intro h
    exact kMany.cons ⟨rfl, h a (by simp)⟩ (ih fun x hx => h x (by simp [hx]))
theorem ver_cells {w : World} {ok : Nat → Prop} {cs : List Value} {L : List Ver} (h : kMany kVer w ok cs L) : cs = (L.flatMap fun x => (verC x).toList) ∧ ∀ x ∈ L, VerOk x := by
  obtain ⟨css, rfl, hl, hr⟩ := h
  induction css generalizing L with
  | nil =>
    obtain rfl : L = [] := List.eq_nil_of_length_eq_zero (by simpa using hl.symm)
    simp
  | cons c css ih =>
    cases L with
    | nil => simp at hl
    | cons a L =>
      have h0 := hr 0 (by simp) (by simp)
      simp only [List.getElem_cons_zero] at h0
      obtain ⟨h1, h2⟩ := ih (by simpa using hl) (fun i hi hi' => hr (i + 1) (by simpa using hi) (by simpa using hi'))
      rw [List.flatten_cons, h0.1, h1]
      exact ⟨rfl, fun x hx => by rcases List.mem_cons.1 hx with rfl | hx; exact h0.2; exact h2 x hx⟩
def versC (L : List Ver) : List Value := L.flatMap fun x => (verC x).toList
theorem versC_length (L : List Ver) : (versC L).length = L.length * 11 := by
  unfold versC
  induction L with
  | nil => rfl
  | cons a L ih => rw [List.flatMap_cons, List.length_append, ih, List.length_cons]; show 11 + L.length * 11 = _; omega
theorem versC_each (L : List Ver) : ∀ u ∈ versC L, u.oneCell' = true := by
  intro u hu
  unfold versC at hu
  obtain ⟨x, _, hx⟩ := List.mem_flatMap.1 hu
  exact verC_each x u hx
theorem versC_append (L M : List Ver) : versC (L ++ M) = versC L ++ versC M := by unfold versC; rw [List.flatMap_append]
theorem versC_one (x : Ver) : versC [x] = (verC x).toList := by unfold versC; simp
theorem IsL.verOk {w : World} {ok : Nat → Prop} {v : Value} {L : List Ver} (h : IsL kVer w ok v L) : ∀ x ∈ L, VerOk x := by
  obtain ⟨_, _, _, _, _, _, _, hm⟩ := h
  exact (ver_cells hm).2
end Go.Proofs.YtcpjgohclncbkaaDoor
