/-
  Versions: their cells, lists of them, how they are opened; numbers.
-/
import Derived.Test.YtcpjgohclncbkaaDoorVeBase
import Derived.Test.YtcpjgohclncbkaaDoorVecAll
import Derived.Test.YtcpjgohclncbkaaDoorKinds2
import Derived.Deep.MidRow
import Derived.Laws.StructEq
import Derived.BigQuiet
import Derived.Lib.Hide
namespace Go.Proofs.YtcpjgohclncbkaaDoor
open Go.RowKit Go.WideShapes
set_option maxRecDepth 100000

/-! ### Numbers -/
/-! ### Versions -/
structure Ent where
  rep : Int
  seq : Nat
  drep : Int
  dseq : Nat
  data : List UInt8
  orep : Int
  oseq : Nat
  by_ : Nat → Nat
/-- How far the parts of any entry go. -/
structure EntOk (v : Ent) : Prop where
  rep : I64 v.rep
  seq : v.seq < 4294967296
  drep : I64 v.drep
  dseq : v.dseq < 4294967296
  data : v.data.length ≤ maxLen
  orep : I64 v.orep
  oseq : v.oseq < 4294967296
  by_ : okV v.by_
def entC (v : Ent) : Array Value := #[.int .i64 v.rep, .int .u32 (v.seq : Int), .int .i64 v.drep, .int .u32 (v.dseq : Int), str v.data, .int .i64 v.orep, .int .u32 (v.oseq : Int), .int .u32 (v.by_ 0 : Int), .int .u32 (v.by_ 1 : Int), .int .u32 (v.by_ 2 : Int), .int .u32 (v.by_ 3 : Int), .int .u32 (v.by_ 4 : Int), .int .u32 (v.by_ 5 : Int), .int .u32 (v.by_ 6 : Int), .int .u32 (v.by_ 7 : Int)]
theorem entC_one (v : Ent) : (entC v).all (·.oneCell') = true := by simp [entC, Value.oneCell']
theorem entC_each (v : Ent) : ∀ u ∈ (entC v).toList, u.oneCell' = true := by simp [entC, Value.oneCell']
theorem ent_info : (Tryd.prog.info? 29).map (·.size) = some 15 := by kernel_rfl
def kEnt : Kind Ent where
  size := 15
  R _ _ cs v := cs = (entC v).toList ∧ EntOk v
  len h := by rw [h.1]; rfl
  move h _ := h
def kEntT := kPair kId (kPair kId (kPair kStr (kPair kId kVec)))
theorem opens_ent : Opens Tryd.prog 29 kEnt := fun h => by
  obtain ⟨x, c0, d0, rfl, h0, c1, d1, rfl, h1, c2, d2, rfl, ⟨h2, o2⟩, c3, d3, rfl, h3, h4, o4⟩ := (Opens.struct (K := kEntT) Tryd.underlying29 (by kernel_rfl) (OpenFs.cons rfl (by kernel_rfl) opens_id (OpenFs.cons rfl (by kernel_rfl) opens_id (OpenFs.cons rfl (by kernel_rfl) (Opens.str Tryd.underlying9) (OpenFs.cons rfl (by kernel_rfl) opens_id (OpenFs.one rfl (by kernel_rfl) opens_vec)))))) h
  obtain ⟨h0, o0⟩ := kId_cells.1 h0
  obtain ⟨h1, o1⟩ := kId_cells.1 h1
  obtain ⟨h3, o3⟩ := kId_cells.1 h3
  subst h0 h1 h2 h3 h4
  exact ⟨⟨x.1.1, x.1.2, x.2.1.1, x.2.1.2, x.2.2.1, x.2.2.2.1.1, x.2.2.2.1.2, x.2.2.2.2⟩, rfl, ⟨o0.1, o0.2, o1.1, o1.2, o2, o3.1, o3.2, o4⟩⟩
theorem opens_ents : Opens Tryd.prog 22 (kSlice kEnt) := Opens.slice Tryd.underlying22 opens_ent (by kernel_rfl)
theorem elemE : ElemK Tryd.prog 22 29 15 96 := ElemK.mk_ (z := .agg #[.int .i64 0, .int .u32 0, .int .i64 0, .int .u32 0, .string ⟨#[]⟩, .int .i64 0, .int .u32 0, .int .u32 0, .int .u32 0, .int .u32 0, .int .u32 0, .int .u32 0, .int .u32 0, .int .u32 0, .int .u32 0]) Tryd.underlying22 (by kernel_rfl) rfl (by omega)
theorem ent_at {w : World} {ok : Nat → Prop} {v : Value} {L : List Ent} (h : IsL kEnt w ok v L) :
    ∃ A c, v = .slice A L.length c ∧ L.length ≤ c ∧ c ≤ maxLen ∧ (L ≠ [] → ∃ b off, A = some ⟨b, off, none⟩ ∧ ok b ∧ b < w.heap.size ∧
      ∀ (i : Nat) (hi : i < L.length), w.rangeAt b (off + i * 15) (entC L[i]).toList ∧ EntOk L[i]) := by
  obtain ⟨A, c, e, h1, h2, h3⟩ := h.elem (by show 0 < 15; omega)
  refine ⟨A, c, e, h1, h2, fun hn => ?_⟩
  obtain ⟨b, off, hA, ho, hlt, hc⟩ := h3 hn
  refine ⟨b, off, hA, ho, hlt, fun i hi => ?_⟩
  obtain ⟨cs, ⟨rfl, hok⟩, hcs⟩ := hc i hi
  refine ⟨fun j u hu => ?_, hok⟩
  obtain ⟨hj, e⟩ := List.getElem?_eq_some_iff.1 hu
  have := hcs j hj
  rw [e] at this
  rw [← this]
  congr 2
  show off + i * 15 + j = off + (i * 15 + j)
  omega
/-- A list of versions whose cells are those. -/
theorem ent_many (w : World) (ok : Nat → Prop) : ∀ L : List Ent, (∀ x ∈ L, EntOk x) → kMany kEnt w ok (L.flatMap fun x => (entC x).toList) L := by
  intro L
  induction L with
  | nil => intro _; exact kMany.nil
  | cons a L ih =>
    intro h
    exact kMany.cons ⟨rfl, h a (by simp)⟩ (ih fun x hx => h x (by simp [hx]))
theorem ent_cells {w : World} {ok : Nat → Prop} {cs : List Value} {L : List Ent} (h : kMany kEnt w ok cs L) : cs = (L.flatMap fun x => (entC x).toList) ∧ ∀ x ∈ L, EntOk x := by
  obtain ⟨css, rfl, hl, hr⟩ := h
  induction css generalizing L with
  | nil =>
    obtain rfl : L = [] := List.eq_nil_of_length_eq_zero (by simpa using hl.symm)
    simp
  | cons c css ih =>
    cases L with
    | nil => simp at hl
    | cons a L =>
      have h0 := hr 0 (by simp) (by simp)
      simp only [List.getElem_cons_zero] at h0
      obtain ⟨h1, h2⟩ := ih (by simpa using hl) (fun i hi hi' => hr (i + 1) (by simpa using hi) (by simpa using hi'))
      rw [List.flatten_cons, h0.1, h1]
      exact ⟨rfl, fun x hx => by rcases List.mem_cons.1 hx with rfl | hx; exact h0.2; exact h2 x hx⟩
def entsC (L : List Ent) : List Value := L.flatMap fun x => (entC x).toList
theorem entsC_length (L : List Ent) : (entsC L).length = L.length * 15 := by
  unfold entsC
  induction L with
  | nil => rfl
  | cons a L ih => rw [List.flatMap_cons, List.length_append, ih, List.length_cons]; show 15 + L.length * 15 = _; omega
theorem entsC_each (L : List Ent) : ∀ u ∈ entsC L, u.oneCell' = true := by
  intro u hu
  unfold entsC at hu
  obtain ⟨x, _, hx⟩ := List.mem_flatMap.1 hu
  exact entC_each x u hx
theorem entsC_append (L M : List Ent) : entsC (L ++ M) = entsC L ++ entsC M := by unfold entsC; rw [List.flatMap_append]
theorem entsC_one (x : Ent) : entsC [x] = (entC x).toList := by unfold entsC; simp
/-- Versions that the call owns. -/
def OwnE (w : World) (base : Nat) (v : Value) (L : List Ent) : Prop := OwnK w base 29 15 v L.length (entsC L) ∧ ∀ x ∈ L, EntOk x
theorem OwnE.isL {w : World} {base : Nat} {v : Value} {L : List Ent} (h : OwnE w base v L) : IsL kEnt w (fun g => v.ownBlock = some g) v L := by
  obtain ⟨A, c, hv, h1, h2, h3⟩ := h.1.form
  exact ⟨A, c, _, hv, h1, h2, h3, ent_many _ _ _ h.2⟩
theorem OwnE.grow {w w' : World} {base : Nat} {v : Value} {L : List Ent} (h : OwnE w base v L) (hb : Below w.heap.size w w') : OwnE w' base v L := ⟨OwnK.grow h.1 hb, h.2⟩
theorem OwnE.mono {w : World} {base base' : Nat} {v : Value} {L : List Ent} (h : OwnE w base v L) (hb : base' ≤ base) : OwnE w base' v L := ⟨OwnK.mono h.1 hb, h.2⟩
theorem OwnE.nil (w : World) (base : Nat) : OwnE w base (.slice none 0 0) [] := ⟨OwnK.nil _ _ _ _, fun x hx => by simp at hx⟩
theorem OwnE.lt {w : World} {base : Nat} {v : Value} {L : List Ent} (h : OwnE w base v L) : ∀ g, v.ownBlock = some g → base ≤ g ∧ g < w.heap.size := OwnK.lt h.1
theorem IsL.entOk {w : World} {ok : Nat → Prop} {v : Value} {L : List Ent} (h : IsL kEnt w ok v L) : ∀ x ∈ L, EntOk x := by
  obtain ⟨_, _, _, _, _, _, _, hm⟩ := h
  exact (ent_cells hm).2
end Go.Proofs.YtcpjgohclncbkaaDoor
