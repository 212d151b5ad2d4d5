/-
  Rows of uint64 numbers, for the library's sort; cmp.Less.
  A region that exchanges two numbers of a row, sixteen operations, whatever its slots.
  insertionSortOrdered at uint64.
  reverseRangeOrdered, siftDownOrdered at uint64.
  siftDownOrdered at uint64.
  heapSortOrdered at uint64.
  order2Ordered, medianOrdered, medianAdjacentOrdered at uint64.
  choosePivotOrdered at uint64.
-/
import Derived.Test.YtdmbmkjiffhbcaaGreatRegions
import Derived.Test.YtdmbmkjiffhbcaaGreatPlainKit
import Derived.Laws.World
import Derived.Sort.Defs
import Derived.BigQuiet
import Derived.Lib.Hide
import Derived.Deep.Cut
import Derived.Deep.DeepCutAuto
import Derived.IntWalk
import Derived.OwnWalk
import Derived.WalkSpells
namespace Go.Proofs.YtdmbmkjiffhbcaaGreat
open Go.RowKit
set_option maxRecDepth 100000

/-- Numbers that lie one behind the other, and may be written. -/
def NumsAt (w : World) (g off : Nat) (d : Array Nat) : Prop := ∀ i, i < d.size → w.cell? ⟨g, off + i, none⟩ = some (.int .u64 (d[i]! : Int)) ∧ w.frozen? ⟨g, off + i, none⟩ = false
def lt64 (x y : Nat) : Bool := decide (x < y)
theorem NumsAt.grow {w w' : World} {g off : Nat} {d : Array Nat} (h : NumsAt w g off d) (hg : g < w.heap.size) (hb : Below w.heap.size w w') : NumsAt w' g off d := fun i hi =>
  ⟨(hb.cell (p := ⟨g, off + i, none⟩) hg).trans (h i hi).1, (hb.frozen (p := ⟨g, off + i, none⟩) hg).trans (h i hi).2⟩
theorem swp_size (d : Array Nat) (i j : Nat) : (Sort.swp d i j).size = d.size := by unfold Sort.swp; simp
theorem cell_set (w : World) (g o k : Nat) (v u : Value) (h : w.cell? ⟨g, o, none⟩ = some u) : (w.setCell ⟨g, o, none⟩ v).cell? ⟨g, k, none⟩ = if k = o then some v else w.cell? ⟨g, k, none⟩ := by
  by_cases e : k = o
  · subst e
    rw [if_pos rfl]
    exact World.cell?_setCell_same w _ v h
  · rw [if_neg e]
    exact World.cell?_setCell_other w _ _ v (fun h => e (by cases h; rfl))
theorem cell_some (w : World) (g o k : Nat) (v : Value) {u u' : Value} (h : w.cell? ⟨g, o, none⟩ = some u) (h' : w.cell? ⟨g, k, none⟩ = some u') : ∃ x, (w.setCell ⟨g, o, none⟩ v).cell? ⟨g, k, none⟩ = some x := by
  rw [cell_set w g o k v u h]
  split
  · exact ⟨_, rfl⟩
  · exact ⟨_, h'⟩
theorem many16 {i n : Nat} (h : i < n) (hn : n = 16) : i = 0 ∨ i = 1 ∨ i = 2 ∨ i = 3 ∨ i = 4 ∨ i = 5 ∨ i = 6 ∨ i = 7 ∨ i = 8 ∨ i = 9 ∨ i = 10 ∨ i = 11 ∨ i = 12 ∨ i = 13 ∨ i = 14 ∨ i = 15 := by omega
theorem many18 {i n : Nat} (h : i < n) (hn : n = 18) : i = 0 ∨ i = 1 ∨ i = 2 ∨ i = 3 ∨ i = 4 ∨ i = 5 ∨ i = 6 ∨ i = 7 ∨ i = 8 ∨ i = 9 ∨ i = 10 ∨ i = 11 ∨ i = 12 ∨ i = 13 ∨ i = 14 ∨ i = 15 ∨ i = 16 ∨ i = 17 := by omega
theorem many20 {i n : Nat} (h : i < n) (hn : n = 20) : i = 0 ∨ i = 1 ∨ i = 2 ∨ i = 3 ∨ i = 4 ∨ i = 5 ∨ i = 6 ∨ i = 7 ∨ i = 8 ∨ i = 9 ∨ i = 10 ∨ i = 11 ∨ i = 12 ∨ i = 13 ∨ i = 14 ∨ i = 15 ∨ i = 16 ∨ i = 17 ∨ i = 18 ∨ i = 19 := by omega
theorem many24 {i n : Nat} (h : i < n) (hn : n = 24) : i = 0 ∨ i = 1 ∨ i = 2 ∨ i = 3 ∨ i = 4 ∨ i = 5 ∨ i = 6 ∨ i = 7 ∨ i = 8 ∨ i = 9 ∨ i = 10 ∨ i = 11 ∨ i = 12 ∨ i = 13 ∨ i = 14 ∨ i = 15 ∨ i = 16 ∨ i = 17 ∨ i = 18 ∨ i = 19 ∨ i = 20 ∨ i = 21 ∨ i = 22 ∨ i = 23 := by omega
theorem swp_at (d : Array Nat) (i j k : Nat) (hk : k < d.size) : (Sort.swp d i j)[k]! = if k = j then d[i]! else if k = i then d[j]! else d[k]! := by
  unfold Sort.swp
  rw [getElem!_pos _ k (by simpa using hk), Array.getElem_setIfInBounds (by simpa using hk)]
  by_cases e1 : j = k
  · subst e1; simp
  · rw [if_neg e1, if_neg (fun e => e1 e.symm), Array.getElem_setIfInBounds hk]
    by_cases e2 : i = k
    · subst e2; simp
    · rw [if_neg e2, if_neg (fun e => e2 e.symm), getElem!_pos d k hk]
theorem NumsAt.swp {w : World} {g off : Nat} {d : Array Nat} (h : NumsAt w g off d) {i j : Nat} (hi : i < d.size) (hj : j < d.size) :
    NumsAt ((w.setCell ⟨g, off + i, none⟩ (.int .u64 (d[j]! : Int))).setCell ⟨g, off + j, none⟩ (.int .u64 (d[i]! : Int))) g off (Sort.swp d i j) := by
  intro k hk
  rw [swp_size] at hk
  obtain ⟨h1, h2⟩ := h k hk
  refine ⟨?_, by simpa using h2⟩
  have e1 := cell_set w g (off + i) (off + j) (.int .u64 (d[j]! : Int)) _ (h i hi).1
  have e2 : ∃ u, (w.setCell ⟨g, off + i, none⟩ (.int .u64 (d[j]! : Int))).cell? ⟨g, off + j, none⟩ = some u := by
    rw [e1]; split
    · exact ⟨_, rfl⟩
    · exact ⟨_, (h j hj).1⟩
  obtain ⟨u, e2⟩ := e2
  rw [cell_set _ g (off + j) (off + k) _ _ e2, cell_set w g (off + i) (off + k) _ _ (h i hi).1, swp_at d i j k hk]
  by_cases a : k = j
  · rw [if_pos (by omega), if_pos a]
  · rw [if_neg (by omega), if_neg a]
    by_cases b : k = i
    · rw [if_pos (by omega), if_pos b]
    · rw [if_neg (by omega), if_neg b, h1]
/-- A frame with values put into some slots. -/
def putAct (V : Nat → Value) : List Nat → Act → Act
  | [], a => a
  | s :: r, a => putAct V r (a.put (some s) (V s))
theorem putAct_at (V : Nat → Value) (S : List Nat) : ∀ a : Act, (putAct V S a).defers = a.defers ∧ (putAct V S a).tmps.size = a.tmps.size ∧ ∀ k, k < a.tmps.size → (putAct V S a).tmps[k]?.getD undef = if k ∈ S then V k else a.tmps[k]?.getD undef := by
  induction S with
  | nil => intro a; exact ⟨rfl, rfl, fun k _ => by rw [if_neg (by simp)]; rfl⟩
  | cons s r ih =>
    intro a
    obtain ⟨h1, h2, h3⟩ := ih (a.put (some s) (V s))
    have hsz : (a.put (some s) (V s)).tmps.size = a.tmps.size := by show (a.tmps.setIfInBounds _ _).size = _; rw [Array.size_setIfInBounds]
    refine ⟨h1.trans rfl, h2.trans hsz, fun k hk => ?_⟩
    show (putAct V r (a.put (some s) (V s))).tmps[k]?.getD undef = _
    rw [h3 k (by rw [hsz]; exact hk)]
    by_cases hr : k ∈ r
    · rw [if_pos hr, if_pos (List.mem_cons_of_mem _ hr)]
    · rw [if_neg hr]
      by_cases e : k = s
      · subst e
        rw [if_pos (List.mem_cons_self ..)]
        exact at_put_self (a := a) hk
      · rw [if_neg (by simp [e, hr])]
        exact at_put (a := a) e
theorem act_put {V : Nat → Value} {S : List Nat} {a0 a1 : Act} {N : Nat} (hs0 : a0.tmps.size = N) (hs : a1.tmps.size = N) (hd : a1.defers = a0.defers) (hin : ∀ k, k ∈ S → a1.tmps[k]?.getD undef = V k) (hout : ∀ k, k ∉ S → a1.tmps[k]?.getD undef = a0.tmps[k]?.getD undef) : a1 = putAct V S a0 := by
  obtain ⟨h1, h2, h3⟩ := putAct_at V S a0
  have ht : a1.tmps = (putAct V S a0).tmps := by
    apply Array.ext_getElem?
    intro k
    by_cases hk : k < N
    · have e1 : a1.tmps[k]? = some (a1.tmps[k]?.getD undef) := by rw [Array.getElem?_eq_getElem (by omega)]; rfl
      have e2 : (putAct V S a0).tmps[k]? = some ((putAct V S a0).tmps[k]?.getD undef) := by rw [Array.getElem?_eq_getElem (by omega)]; rfl
      rw [e1, e2, h3 k (by omega)]
      by_cases hm : k ∈ S
      · rw [if_pos hm, hin k hm]
      · rw [if_neg hm, hout k hm]
    · rw [Array.getElem?_eq_none (by omega), Array.getElem?_eq_none (by omega)]
  cases a1
  cases hq : putAct V S a0
  rw [hq] at ht h1
  simp only at ht h1 hd
  subst ht
  rw [h1, ← hd]
/-- The same law, with the frame behind it written out. -/
theorem wp_region_fixed {P : Program} {id : Nat} {Q : Exit → Act → World → Prop} {a0 : Act} {w0 : World} {l : Array Oper} (V : Nat → Value) (J : (Nat → Bool) → World → Prop) (N : Nat) (S : List Nat) (hS : l.toList.filterMap (·.dst) = S) (hm : P.follows .mixedOrders = true) (ho : inOrder l = true) (hg : fixRegion l N = true)
    (hs : a0.tmps.size = N) (h0 : J (fun _ => false) w0.drew)
    (hstep : ∀ (i : Nat) (o : Oper), l[i]? = some o → ∀ (d : Nat → Bool) (a : Act) (x : World), J d x → d i = false → (∀ e ∈ o.after, Region.binds .any e = true → d e.on = true) → (∀ s, (∀ j, slotO l j ≠ some s) → a.tmps[s]?.getD undef = a0.tmps[s]?.getD undef) →
      (∀ j s, d j = true → slotO l j = some s → a.tmps[s]?.getD undef = V s) → ∀ K : Act → World → Prop, (∀ v x', (∀ s, o.dst = some s → v = V s) → J (also d i) x' → K (a.put o.dst v) x') → o.wp P a x K Q)
    (hend : ∀ (d : Nat → Bool) (x : World), (∀ j, j < l.size → d j = true) → J d x → Q .normal (putAct V S a0) x) :
    (Code.region id l true).wp P Q a0 w0 := by
  refine wp_region_fix V J N hm ho hg hs h0 hstep ?_
  intro d a x hall hJ hsame hV hsz hde
  have hmem : ∀ k, k ∈ S ↔ ∃ j, j < l.size ∧ slotO l j = some k := by
    intro k
    rw [← hS, List.mem_filterMap]
    constructor
    · rintro ⟨o, hmo, ho'⟩
      obtain ⟨j, hj, rfl⟩ := List.getElem_of_mem hmo
      refine ⟨j, by simpa using hj, ?_⟩
      unfold slotO
      rw [← Array.getElem?_toList, List.getElem?_eq_getElem hj]
      exact ho'
    · rintro ⟨j, hj, h⟩
      unfold slotO at h
      rw [Array.getElem?_eq_getElem hj] at h
      exact ⟨l[j], by simp, h⟩
  rw [act_put (V := V) (S := S) (a0 := a0) hs hsz hde (fun k hk => by obtain ⟨j, hj, h⟩ := (hmem k).1 hk; exact hV j k hj h) (fun k hk => hsame k fun j h => hk ((hmem k).2 ⟨j, by
    unfold slotO at h
    cases hq : l[j]? with
    | none => rw [hq] at h; cases h
    | some o' => exact (Array.getElem?_eq_some_iff.1 hq).1, h⟩))]
  exact hend d x hall hJ
/-- What stands in a region that exchanges two numbers: s1 and s2 are the stores, l1 and l2 the loads. -/
structure SwJ (X : World) (p1 p2 : Addr) (v1 v2 : Value) (s1 s2 l1 l2 : Nat) (d : Nat → Bool) (x : World) : Prop where
  w0 : d s1 = false → x = X
  w1 : d s1 = true → d s2 = false → x = X.setCell p1 v1
  w2 : d s2 = true → x = (X.setCell p1 v1).setCell p2 v2
  f1 : d s1 = true → d l1 = true ∧ d l2 = true
  f2 : d s2 = true → d s1 = true
section
variable {X x : World} {p1 p2 : Addr} {v1 v2 : Value} {s1 s2 l1 l2 : Nat} {d : Nat → Bool}
theorem SwJ.start : SwJ X p1 p2 v1 v2 s1 s2 l1 l2 (fun _ => false) X := ⟨fun _ => rfl, fun h => (by cases h), fun h => (by cases h), fun h => (by cases h), fun h => (by cases h)⟩
theorem also_ne {i j : Nat} (h : j ≠ i) : also d i j = d j := by unfold also; rw [if_neg h]
theorem also_same (i : Nat) : also d i i = true := by unfold also; rw [if_pos rfl]
theorem also_up {i j : Nat} (h : d j = true) : also d i j = true := by unfold also; split <;> trivial
theorem SwJ.more (h : SwJ X p1 p2 v1 v2 s1 s2 l1 l2 d x) {i : Nat} (h1 : i ≠ s1) (h2 : i ≠ s2) : SwJ X p1 p2 v1 v2 s1 s2 l1 l2 (also d i) x := by
  have e1 := also_ne (d := d) (fun e => h1 e.symm : s1 ≠ i)
  have e2 := also_ne (d := d) (fun e => h2 e.symm : s2 ≠ i)
  exact ⟨fun e => h.w0 (e1 ▸ e), fun e e' => h.w1 (e1 ▸ e) (e2 ▸ e'), fun e => h.w2 (e2 ▸ e), fun e => ⟨also_up (h.f1 (e1 ▸ e)).1, also_up (h.f1 (e1 ▸ e)).2⟩, fun e => e1.trans (h.f2 (e2 ▸ e))⟩
theorem SwJ.load (h : SwJ X p1 p2 v1 v2 s1 s2 l1 l2 d x) (hd : d l1 = false ∨ d l2 = false) : x = X := h.w0 (by
  cases e : d s1
  · rfl
  · obtain ⟨a, b⟩ := h.f1 e
    rcases hd with h | h
    · rw [a] at h; cases h
    · rw [b] at h; cases h)
theorem SwJ.st1 (h : SwJ X p1 p2 v1 v2 s1 s2 l1 l2 d x) (hn : s1 ≠ s2) (hd : d s1 = false) (ha : d l1 = true) (hb : d l2 = true) : SwJ X p1 p2 v1 v2 s1 s2 l1 l2 (also d s1) (x.setCell p1 v1) := by
  have e2 := also_ne (d := d) (fun e => hn e.symm : s2 ≠ s1)
  have hf : d s2 = false := by
    cases e : d s2
    · rfl
    · rw [h.f2 e] at hd; cases hd
  exact ⟨fun e => by (rw [also_same] at e; cases e), fun _ _ => by rw [h.w0 hd], fun e => by (rw [e2, hf] at e; cases e), fun _ => ⟨also_up ha, also_up hb⟩, fun e => by (rw [e2, hf] at e; cases e)⟩
theorem SwJ.st2 (h : SwJ X p1 p2 v1 v2 s1 s2 l1 l2 d x) (hn : s1 ≠ s2) (hd : d s2 = false) (ha : d s1 = true) : SwJ X p1 p2 v1 v2 s1 s2 l1 l2 (also d s2) (x.setCell p2 v2) := by
  have e1 := also_ne (d := d) hn
  refine ⟨fun e => ?_, fun _ e => by (rw [also_same] at e; cases e), fun _ => by rw [h.w1 ha hd], fun _ => ⟨also_up (h.f1 ha).1, also_up (h.f1 ha).2⟩, fun _ => e1.trans ha⟩
  rw [e1, ha] at e
  cases e
end
theorem less_any (x y : Nat) (w : World) : Calls Tryz.prog 104 #[.int .u64 (x : Int), .int .u64 (y : Int)] w fun e w' => e = .returned (.bool (lt64 x y)) ∧ Below w.heap.size w w' := by
  have hx : ((x : Int) != x) = false := bne_self_eq_false _
  have hy : ((y : Int) != y) = false := bne_self_eq_false _
  have hl : decide ((x : Int) < (y : Int)) = lt64 x y := by unfold lt64; rw [Bool.eq_iff_iff, decide_eq_true_iff, decide_eq_true_iff]; omega
  have hl2 : decide (x < y) = lt64 x y := rfl
  have hn : ∀ (z : Nat) (w : World), ((z : Int) != z) = false → Calls Tryz.prog 113 #[.int .u64 (z : Int)] w fun e w' => e = .returned (.bool false) ∧ w' = w := by
    intro z w hz
    go_enter Tryz.func113, Tryz.ntmps113
    go_wp2_with fail
    go_ret
    exact ⟨by simp, rfl⟩
  go_enter Tryz.func104, Tryz.ntmps104
  go_wp2_with (go_at_call 113; refine (hn _ _ (bne_self_eq_false _)).mono ?_; rintro e w1 ⟨rfl, rfl⟩)
  go_ret
  exact ⟨by simp, Below.refl _ _⟩
end Go.Proofs.YtdmbmkjiffhbcaaGreat

namespace Go.Proofs.YtdmbmkjiffhbcaaGreat
open Go.RowKit
set_option maxRecDepth 100000

def swOps (b td tx ty : Nat) : List (Option Nat × Op) :=
  [(some b, .move (.tmp td)), (some (b + 1), .move (.tmp tx)), (some (b + 2), .move (.tmp td)), (some (b + 3), .move (.tmp ty)), (some (b + 4), .move (.tmp td)), (some (b + 5), .move (.tmp ty)),
   (some (b + 6), .indexAddr 61 (.tmp (b + 4)) (.tmp (b + 5))), (some (b + 7), .load 46 (.tmp (b + 6))), (some (b + 8), .move (.tmp td)), (some (b + 9), .move (.tmp tx)),
   (some (b + 10), .indexAddr 61 (.tmp (b + 8)) (.tmp (b + 9))), (some (b + 11), .load 46 (.tmp (b + 10))), (some (b + 12), .indexAddr 61 (.tmp b) (.tmp (b + 1))), (none, .store 46 (.tmp (b + 12)) (.tmp (b + 7))),
   (some (b + 13), .indexAddr 61 (.tmp (b + 2)) (.tmp (b + 3))), (none, .store 46 (.tmp (b + 13)) (.tmp (b + 11)))]
def depOf (l : Array Oper) (i j : Nat) : Bool := ((l[i]?).map fun o => o.after.any fun e => decide (e.on = j) && Region.binds .any e).getD false
def swDeps : List (Nat × Nat) := [(6, 4), (6, 5), (7, 6), (10, 8), (10, 9), (11, 10), (12, 0), (12, 1), (13, 12), (13, 7), (13, 11), (14, 2), (14, 3), (15, 14), (15, 11), (15, 13)]
theorem dep_at {l : Array Oper} {i j : Nat} {o : Oper} {d : Nat → Bool} (h : depOf l i j = true) (hi : l[i]? = some o) (hpre : ∀ e ∈ o.after, Region.binds .any e = true → d e.on = true) : d j = true := by
  unfold depOf at h
  rw [hi] at h
  simp only [Option.map_some, Option.getD_some, Array.any_eq_true] at h
  obtain ⟨k, hk, h2⟩ := h
  rw [Bool.and_eq_true, decide_eq_true_iff] at h2
  rw [← h2.1]
  exact hpre _ (Array.getElem_mem hk) h2.2
theorem op_at {l : Array Oper} {L : List (Option Nat × Op)} (hl : l.toList.map (fun o => (o.dst, o.op)) = L) {i : Nat} {o : Oper} (hi : l[i]? = some o) {x : Option Nat × Op} (hx : L[i]? = some x) : o.dst = x.1 ∧ o.op = x.2 ∧ slotO l i = x.1 := by
  have h1 : L[i]? = some (o.dst, o.op) := by rw [← hl, List.getElem?_map, Array.getElem?_toList, hi]; rfl
  rw [hx] at h1
  injection h1 with h1
  rw [h1]
  exact ⟨rfl, rfl, by unfold slotO; rw [hi]; rfl⟩
theorem slot_at {l : Array Oper} {L : List (Option Nat × Op)} (hl : l.toList.map (fun o => (o.dst, o.op)) = L) {i : Nat} {x : Option Nat × Op} (hx : L[i]? = some x) : slotO l i = x.1 := by
  have h1 : ((l[i]?).map fun o => (o.dst, o.op)) = some x := by rw [← hx, ← hl, List.getElem?_map, Array.getElem?_toList]
  unfold slotO
  cases hq : l[i]? with
  | none => rw [hq] at h1; cases h1
  | some o => rw [hq] at h1; injection h1 with h1; rw [← h1]; rfl
section
variable {Q : Exit → Act → World → Prop} {o : Oper} {a : Act} {w : World} {K : Act → World → Prop}
theorem wp_move_ {t : Nat} {v : Value} (ho : o.op = .move (.tmp t)) (hv : a.tmps[t]?.getD undef = v) (hk : K (a.put o.dst v) w) : o.wp Tryz.prog a w K Q := by
  have hr : (execOp a.eval o).run Tryz.prog w = .ok (.value v) w := by
    unfold execOp
    simp only [ho, eval_at hv]
    rfl
  unfold Oper.wp
  rw [hr]
  exact hk
theorem wp_index_ {s i g off n c k : Nat} (ho : o.op = .indexAddr 61 (.tmp s) (.tmp i)) (hs : a.tmps[s]?.getD undef = .slice (some ⟨g, off, none⟩) n c) (hi : a.tmps[i]?.getD undef = .int .i64 (k : Int)) (hk : k < n) (h : K (a.put o.dst (.pointer (some ⟨g, off + k, none⟩))) w) : o.wp Tryz.prog a w K Q := by
  obtain ⟨dst, op, ty, pos, after, guard⟩ := o
  dsimp only at ho
  subst ho
  have e1 := eval_at hs
  have e2 := eval_at hi
  go_simp
  exact h
theorem wp_load_ {p g i : Nat} {v : Value} (ho : o.op = .load 46 (.tmp p)) (hp : a.tmps[p]?.getD undef = .pointer (some ⟨g, i, none⟩)) (hc : w.cell? ⟨g, i, none⟩ = some v) (h : K (a.put o.dst v) w) : o.wp Tryz.prog a w K Q := by
  obtain ⟨dst, op, ty, pos, after, guard⟩ := o
  dsimp only at ho
  subst ho
  have e1 := eval_at hp
  go_simp
  exact h
theorem wp_store_ {p v0 g i : Nat} {u v : Value} (ho : o.op = .store 46 (.tmp p) (.tmp v0)) (hp : a.tmps[p]?.getD undef = .pointer (some ⟨g, i, none⟩)) (hv : a.tmps[v0]?.getD undef = v) (h1 : ∃ x : Nat, v = .int .u64 (x : Int)) (hc : w.cell? ⟨g, i, none⟩ = some u) (hz : w.frozen? ⟨g, i, none⟩ = false) (h : K (a.put o.dst undef) (w.setCell ⟨g, i, none⟩ v)) : o.wp Tryz.prog a w K Q := by
  obtain ⟨dst, op, ty, pos, after, guard⟩ := o
  dsimp only at ho
  subst ho
  obtain ⟨x, rfl⟩ := h1
  have e1 := eval_at hp
  have e2 := eval_at hv
  go_simp
  exact h
end

theorem wp_swap16 {id : Nat} {Q : Exit → Act → World → Prop} {a0 : Act} {w0 : World} {l : Array Oper} (b td tx ty g off n cap x y vx vy : Nat) (V : Nat → Value) (N : Nat) (S : List Nat) (hS : l.toList.filterMap (·.dst) = S) (hm : Tryz.prog.follows .mixedOrders = true) (ho : inOrder l = true) (hg : fixRegion l N = true) (hs : a0.tmps.size = N)
    (hl : l.toList.map (fun o => (o.dst, o.op)) = swOps b td tx ty) (hdep : (swDeps.all fun p => depOf l p.1 p.2) = true) (hfree : ((List.range l.size).all fun j => decide (slotO l j ≠ some td) && decide (slotO l j ≠ some tx) && decide (slotO l j ≠ some ty)) = true)
    (qd : a0.tmps[td]?.getD undef = .slice (some ⟨g, off, none⟩) n cap) (qx : a0.tmps[tx]?.getD undef = .int .i64 (x : Int)) (qy : a0.tmps[ty]?.getD undef = .int .i64 (y : Int)) (hx : x < n) (hy : y < n)
    (hV : V (b) = .slice (some ⟨g, off, none⟩) n cap ∧ V (b + 1) = .int .i64 (x : Int) ∧ V (b + 2) = .slice (some ⟨g, off, none⟩) n cap ∧ V (b + 3) = .int .i64 (y : Int) ∧ V (b + 4) = .slice (some ⟨g, off, none⟩) n cap ∧ V (b + 5) = .int .i64 (y : Int) ∧ V (b + 6) = .pointer (some ⟨g, off + y, none⟩) ∧ V (b + 7) = .int .u64 (vy : Int) ∧ V (b + 8) = .slice (some ⟨g, off, none⟩) n cap ∧ V (b + 9) = .int .i64 (x : Int) ∧ V (b + 10) = .pointer (some ⟨g, off + x, none⟩) ∧ V (b + 11) = .int .u64 (vx : Int) ∧ V (b + 12) = .pointer (some ⟨g, off + x, none⟩) ∧ V (b + 13) = .pointer (some ⟨g, off + y, none⟩))
    (cx : w0.cell? ⟨g, off + x, none⟩ = some (.int .u64 (vx : Int))) (fx : w0.frozen? ⟨g, off + x, none⟩ = false) (cy : w0.cell? ⟨g, off + y, none⟩ = some (.int .u64 (vy : Int))) (fy : w0.frozen? ⟨g, off + y, none⟩ = false)
    (hend : ∀ (d : Nat → Bool) (u : World), (∀ j, j < l.size → d j = true) → (SwJ w0.drew ⟨g, off + x, none⟩ ⟨g, off + y, none⟩ (.int .u64 (vy : Int)) (.int .u64 (vx : Int)) 13 15 7 11) d u → Q .normal (putAct V S a0) u) :
    (Code.region id l true).wp Tryz.prog Q a0 w0 := by
  have hsz : l.size = 16 := by
    have := congrArg List.length hl
    simpa [swOps] using this
  have free : ∀ s, (s = td ∨ s = tx ∨ s = ty) → ∀ j, slotO l j ≠ some s := by
    intro s hs j
    by_cases hj : j < l.size
    · have := List.all_eq_true.1 hfree j (List.mem_range.2 hj)
      simp only [Bool.and_eq_true, decide_eq_true_iff] at this
      rcases hs with rfl | rfl | rfl
      · exact this.1.1
      · exact this.1.2
      · exact this.2
    · unfold slotO
      rw [Array.getElem?_eq_none (by omega)]
      exact fun h => by cases h
  have dep : ∀ i j, (i, j) ∈ swDeps → depOf l i j = true := fun i j h => List.all_eq_true.1 hdep (i, j) h
  obtain ⟨V0, V1, V2, V3, V4, V5, V6, V7, V8, V9, V10, V11, V12, V13⟩ := hV
  refine wp_region_fixed V (SwJ w0.drew ⟨g, off + x, none⟩ ⟨g, off + y, none⟩ (.int .u64 (vy : Int)) (.int .u64 (vx : Int)) 13 15 7 11) N S hS hm ho hg hs SwJ.start ?_ hend
  intro i o hi d a u hJ hd hpre hsame hV K hK
  have hd0 := hsame td (free td (.inl rfl))
  have hx0 := hsame tx (free tx (.inr (.inl rfl)))
  have hy0 := hsame ty (free ty (.inr (.inr rfl)))
  rw [qd] at hd0
  rw [qx] at hx0
  rw [qy] at hy0
  have hlt0 := (Array.getElem?_eq_some_iff.1 hi).1
  rcases many16 hlt0 hsz with rfl | rfl | rfl | rfl | rfl | rfl | rfl | rfl | rfl | rfl | rfl | rfl | rfl | rfl | rfl | rfl
  · obtain ⟨h1, h2, _⟩ := op_at hl hi (x := _) rfl
    exact wp_move_ h2 hd0 (hK _ _ (fun s hs => by rw [h1] at hs; cases hs; exact V0.symm) (hJ.more (by decide) (by decide)))
  · obtain ⟨h1, h2, _⟩ := op_at hl hi (x := _) rfl
    exact wp_move_ h2 hx0 (hK _ _ (fun s hs => by rw [h1] at hs; cases hs; exact V1.symm) (hJ.more (by decide) (by decide)))
  · obtain ⟨h1, h2, _⟩ := op_at hl hi (x := _) rfl
    exact wp_move_ h2 hd0 (hK _ _ (fun s hs => by rw [h1] at hs; cases hs; exact V2.symm) (hJ.more (by decide) (by decide)))
  · obtain ⟨h1, h2, _⟩ := op_at hl hi (x := _) rfl
    exact wp_move_ h2 hy0 (hK _ _ (fun s hs => by rw [h1] at hs; cases hs; exact V3.symm) (hJ.more (by decide) (by decide)))
  · obtain ⟨h1, h2, _⟩ := op_at hl hi (x := _) rfl
    exact wp_move_ h2 hd0 (hK _ _ (fun s hs => by rw [h1] at hs; cases hs; exact V4.symm) (hJ.more (by decide) (by decide)))
  · obtain ⟨h1, h2, _⟩ := op_at hl hi (x := _) rfl
    exact wp_move_ h2 hy0 (hK _ _ (fun s hs => by rw [h1] at hs; cases hs; exact V5.symm) (hJ.more (by decide) (by decide)))
  · obtain ⟨h1, h2, _⟩ := op_at hl hi (x := _) rfl
    have qa : a.tmps[b + 4]?.getD undef = .slice (some ⟨g, off, none⟩) n cap := (hV 4 (b + 4) (dep_at (dep 6 4 (by decide)) hi hpre) (slot_at hl (i := 4) (x := (some (b + 4), _)) rfl)).trans V4
    have qb : a.tmps[b + 5]?.getD undef = .int .i64 (y : Int) := (hV 5 (b + 5) (dep_at (dep 6 5 (by decide)) hi hpre) (slot_at hl (i := 5) (x := (some (b + 5), _)) rfl)).trans V5
    exact wp_index_ h2 qa qb hy (hK _ _ (fun s hs => by rw [h1] at hs; cases hs; exact V6.symm) (hJ.more (by decide) (by decide)))
  · obtain ⟨h1, h2, _⟩ := op_at hl hi (x := _) rfl
    have qa : a.tmps[b + 6]?.getD undef = .pointer (some ⟨g, off + y, none⟩) := (hV 6 (b + 6) (dep_at (dep 7 6 (by decide)) hi hpre) (slot_at hl (i := 6) (x := (some (b + 6), _)) rfl)).trans V6
    have hu := hJ.load (.inl hd)
    exact wp_load_ h2 qa (by rw [hu]; exact cy) (hK _ _ (fun s hs => by rw [h1] at hs; cases hs; exact V7.symm) (hJ.more (by decide) (by decide)))
  · obtain ⟨h1, h2, _⟩ := op_at hl hi (x := _) rfl
    exact wp_move_ h2 hd0 (hK _ _ (fun s hs => by rw [h1] at hs; cases hs; exact V8.symm) (hJ.more (by decide) (by decide)))
  · obtain ⟨h1, h2, _⟩ := op_at hl hi (x := _) rfl
    exact wp_move_ h2 hx0 (hK _ _ (fun s hs => by rw [h1] at hs; cases hs; exact V9.symm) (hJ.more (by decide) (by decide)))
  · obtain ⟨h1, h2, _⟩ := op_at hl hi (x := _) rfl
    have qa : a.tmps[b + 8]?.getD undef = .slice (some ⟨g, off, none⟩) n cap := (hV 8 (b + 8) (dep_at (dep 10 8 (by decide)) hi hpre) (slot_at hl (i := 8) (x := (some (b + 8), _)) rfl)).trans V8
    have qb : a.tmps[b + 9]?.getD undef = .int .i64 (x : Int) := (hV 9 (b + 9) (dep_at (dep 10 9 (by decide)) hi hpre) (slot_at hl (i := 9) (x := (some (b + 9), _)) rfl)).trans V9
    exact wp_index_ h2 qa qb hx (hK _ _ (fun s hs => by rw [h1] at hs; cases hs; exact V10.symm) (hJ.more (by decide) (by decide)))
  · obtain ⟨h1, h2, _⟩ := op_at hl hi (x := _) rfl
    have qa : a.tmps[b + 10]?.getD undef = .pointer (some ⟨g, off + x, none⟩) := (hV 10 (b + 10) (dep_at (dep 11 10 (by decide)) hi hpre) (slot_at hl (i := 10) (x := (some (b + 10), _)) rfl)).trans V10
    have hu := hJ.load (.inr hd)
    exact wp_load_ h2 qa (by rw [hu]; exact cx) (hK _ _ (fun s hs => by rw [h1] at hs; cases hs; exact V11.symm) (hJ.more (by decide) (by decide)))
  · obtain ⟨h1, h2, _⟩ := op_at hl hi (x := _) rfl
    have qa : a.tmps[b]?.getD undef = .slice (some ⟨g, off, none⟩) n cap := (hV 0 (b) (dep_at (dep 12 0 (by decide)) hi hpre) (slot_at hl (i := 0) (x := (some (b), _)) rfl)).trans V0
    have qb : a.tmps[b + 1]?.getD undef = .int .i64 (x : Int) := (hV 1 (b + 1) (dep_at (dep 12 1 (by decide)) hi hpre) (slot_at hl (i := 1) (x := (some (b + 1), _)) rfl)).trans V1
    exact wp_index_ h2 qa qb hx (hK _ _ (fun s hs => by rw [h1] at hs; cases hs; exact V12.symm) (hJ.more (by decide) (by decide)))
  · obtain ⟨h1, h2, _⟩ := op_at hl hi (x := _) rfl
    have qa : a.tmps[b + 12]?.getD undef = .pointer (some ⟨g, off + x, none⟩) := (hV 12 (b + 12) (dep_at (dep 13 12 (by decide)) hi hpre) (slot_at hl (i := 12) (x := (some (b + 12), _)) rfl)).trans V12
    have qb : a.tmps[b + 7]?.getD undef = .int .u64 (vy : Int) := (hV 7 (b + 7) (dep_at (dep 13 7 (by decide)) hi hpre) (slot_at hl (i := 7) (x := (some (b + 7), _)) rfl)).trans V7
    have hu := hJ.w0 hd
    exact wp_store_ h2 qa qb ⟨_, rfl⟩ (by rw [hu]; exact cx) (by rw [hu]; exact fx) (hK _ _ (fun s hs => by rw [h1] at hs; cases hs) (hJ.st1 (by decide) hd (dep_at (dep 13 7 (by decide)) hi hpre) (dep_at (dep 13 11 (by decide)) hi hpre)))
  · obtain ⟨h1, h2, _⟩ := op_at hl hi (x := _) rfl
    have qa : a.tmps[b + 2]?.getD undef = .slice (some ⟨g, off, none⟩) n cap := (hV 2 (b + 2) (dep_at (dep 14 2 (by decide)) hi hpre) (slot_at hl (i := 2) (x := (some (b + 2), _)) rfl)).trans V2
    have qb : a.tmps[b + 3]?.getD undef = .int .i64 (y : Int) := (hV 3 (b + 3) (dep_at (dep 14 3 (by decide)) hi hpre) (slot_at hl (i := 3) (x := (some (b + 3), _)) rfl)).trans V3
    exact wp_index_ h2 qa qb hy (hK _ _ (fun s hs => by rw [h1] at hs; cases hs; exact V13.symm) (hJ.more (by decide) (by decide)))
  · obtain ⟨h1, h2, _⟩ := op_at hl hi (x := _) rfl
    have qa : a.tmps[b + 13]?.getD undef = .pointer (some ⟨g, off + y, none⟩) := (hV 14 (b + 13) (dep_at (dep 15 14 (by decide)) hi hpre) (slot_at hl (i := 14) (x := (some (b + 13), _)) rfl)).trans V13
    have qb : a.tmps[b + 11]?.getD undef = .int .u64 (vx : Int) := (hV 11 (b + 11) (dep_at (dep 15 11 (by decide)) hi hpre) (slot_at hl (i := 11) (x := (some (b + 11), _)) rfl)).trans V11
    have h13 := dep_at (dep 15 13 (by decide)) hi hpre
    have hu := hJ.w1 h13 hd
    obtain ⟨u0, c0⟩ : ∃ z, u.cell? ⟨g, off + y, none⟩ = some z := by rw [hu]; exact cell_some _ _ _ _ _ cx cy
    exact wp_store_ h2 qa qb ⟨_, rfl⟩ c0 (by rw [hu, World.frozen?_setCell]; exact fy) (hK _ _ (fun s hs => by rw [h1] at hs; cases hs) (hJ.st2 (by decide) hd h13))
end Go.Proofs.YtdmbmkjiffhbcaaGreat

namespace Go.Proofs.YtdmbmkjiffhbcaaGreat
open Go.RowKit
set_option maxRecDepth 100000

/-- All blocks but g are as they were. -/
def ButS (g : Nat) (w w' : World) : Prop := w'.os = w.os ∧ w'.tape = w.tape ∧ w'.output = w.output ∧ w.heap.size ≤ w'.heap.size ∧ ∀ k, k < w.heap.size → k ≠ g → w'.heap[k]? = w.heap[k]?
theorem ButS.refl (g : Nat) (w : World) : ButS g w w := ⟨rfl, rfl, rfl, Nat.le_refl _, fun _ _ _ => rfl⟩
theorem ButS.trans {p : Nat} {w w' w'' : World} (h : ButS p w w') (h' : ButS p w' w'') : ButS p w w'' :=
  ⟨h'.1.trans h.1, h'.2.1.trans h.2.1, h'.2.2.1.trans h.2.2.1, Nat.le_trans h.2.2.2.1 h'.2.2.2.1, fun k hk hp => (h'.2.2.2.2 k (Nat.lt_of_lt_of_le hk h.2.2.2.1) hp).trans (h.2.2.2.2 k hk hp)⟩
theorem butS_below {w w' : World} (h : Below w.heap.size w w') (p : Nat) : ButS p w w' := ⟨h.os, h.tape, h.output, h.size, fun k hk _ => h.block k hk⟩
theorem butS_set (w : World) (g o : Nat) (v : Value) : ButS g w (w.setCell ⟨g, o, none⟩ v) := ⟨rfl, rfl, rfl, by simp [World.setCell], fun k _ hp => Below.heap_setCell _ _ _ _ hp⟩
theorem insInner_stop (a j : Nat) (d : Array Nat) (h : j ≤ a) : Sort.insInner lt64 a j d = d := by
  cases j with
  | zero => rfl
  | succ j => unfold Sort.insInner; rw [if_neg (by simp; omega)]
theorem insInner_less (a j : Nat) (d : Array Nat) (h : a < j + 1) (hl : lt64 d[j + 1]! d[j]! = true) : Sort.insInner lt64 a (j + 1) d = Sort.insInner lt64 a j (Sort.swp d (j + 1) j) := by
  rw [Sort.insInner, if_pos (by simp [hl]; omega)]
theorem insInner_not (a j : Nat) (d : Array Nat) (hl : lt64 d[j + 1]! d[j]! = false) : Sort.insInner lt64 a (j + 1) d = d := by
  rw [Sort.insInner, if_neg (by simp [hl])]
theorem insOuter_step (a b i : Nat) (d : Array Nat) (h : i < b) : Sort.insOuter lt64 a b i d = Sort.insOuter lt64 a b (i + 1) (Sort.insInner lt64 a i d) := by
  rw [Sort.insOuter, if_pos h]
theorem insOuter_end (a b i : Nat) (d : Array Nat) (h : b ≤ i) : Sort.insOuter lt64 a b i d = d := by
  rw [Sort.insOuter, if_neg (by omega)]

set_option maxHeartbeats 4000000 in
theorem ins_any (g off cap n a b : Nat) (d : Array Nat) (w : World) (h : NumsAt w g off d) (hn : n = d.size) (hb : b ≤ n) (hn2 : n ≤ 4611686018427387904) (ha : a ≤ n) (hg : g < w.heap.size) :
    Calls Tryz.prog 98 #[.slice (some ⟨g, off, none⟩) n cap, .int .i64 (a : Int), .int .i64 (b : Int)] w fun e w' => e = .returned (.tuple #[]) ∧ NumsAt w' g off (Sort.insertionSort lt64 d a b) ∧ (Sort.insertionSort lt64 d a b).size = n ∧ ButS g w w' := by
  have Hn := Lib.hid hn
  have H := Lib.hid h
  clear h hn
  go_enter Tryz.func98, Tryz.ntmps98
  go_wp2_with fail
  go_loopw [6] (fun t wr => ∃ (i : Nat) (d1 : Array Nat), a + 1 ≤ i ∧ i ≤ n + 1 ∧ t = .int .i64 (i : Int) ∧ NumsAt wr g off d1 ∧ d1.size = n ∧ Sort.insOuter lt64 a b i d1 = Sort.insOuter lt64 a b (a + 1) d ∧ ButS g w wr) (fun t _ => n + 1 - (intOf t).toNat)
  case atStart => exact ⟨a + 1, d, by omega, by omega, by go_num, H.out, Hn.out.symm, rfl, ButS.refl _ _⟩
  case round =>
    obtain ⟨i, d1, hi1, hi2, rfl, hnum, hsz, heq, hbut⟩ := hrel
    have Hnum := Lib.hid hnum
    have Hsz := Lib.hid hsz
    have Heq := Lib.hid heq
    clear hnum hsz heq
    by_cases hlt : i < b
    · obtain ⟨wb, hwb⟩ : ∃ x, x = wr := ⟨wr, rfl⟩
      subst hwb
      have hi3 : i ≤ 4611686018427387904 := by omega
      go_wp2_with fail
      go_loopw [7] (fun t wr => ∃ (j : Nat) (d2 : Array Nat), j ≤ i ∧ t = .int .i64 (j : Int) ∧ NumsAt wr g off d2 ∧ d2.size = n ∧ Sort.insInner lt64 a j d2 = Sort.insInner lt64 a i d1 ∧ ButS g wb wr) (fun t _ => (intOf t).toNat)
      case atStart => exact ⟨i, d1, by omega, rfl, Hnum.out, Hsz.out, rfl, ButS.refl _ _⟩
      case round =>
        obtain ⟨j, d2, hj, rfl, hnum, hsz, heq, hbut2⟩ := hrel
        have Hnum2 := Lib.hid hnum
        have Hsz2 := Lib.hid hsz
        have Heq2 := Lib.hid heq
        clear hnum hsz heq
        by_cases hja : a < j
        · obtain ⟨m, hm⟩ : ∃ m, j = m + 1 := ⟨j - 1, by omega⟩
          have hjn : j < n := by omega
          have hmn : m < n := by omega
          have hw1 : wrap64 ((j : Int) - 1) = (m : Int) := by unfold wrap64; omega
          have hw2 : IntKind.i64.wrap ((j : Int) - 1) = (m : Int) := by rw [IntKind.wrap_i64]; omega
          have e1 : decide ((a : Int) < (j : Int)) = true := by rw [decide_eq_true_iff]; omega
          have e2 : decide (a < j) = true := by rw [decide_eq_true_iff]; omega
          have hgr := Nat.lt_of_lt_of_le hg (Nat.le_trans hbut.2.2.2.1 hbut2.2.2.2.1)
          have cj := fun y : Ext wr => (Hnum2.out.grow hgr y.out j (by rw [Hsz2.out]; exact hjn)).1
          have cm := fun y : Ext wr => (Hnum2.out.grow hgr y.out m (by rw [Hsz2.out]; exact hmn)).1
          have kl := fun y : Ext wr => less_any d2[j]! d2[m]! y.now
          have hins := insInner_less a m d2 (by omega)
          have hino := insInner_not a m d2
          rw [← hm] at hins hino
          have Hins := Lib.hid hins
          have Hino := Lib.hid hino
          have Hm := Lib.hid hm
          obtain ⟨c, hc⟩ : ∃ c, c = lt64 d2[j]! d2[m]! := ⟨_, rfl⟩
          simp only [← hc] at kl
          have KL := Lib.hid kl
          have Hc := Lib.hid hc
          clear kl hc hm hins hino
          go_upto_region 4 with fail
          cases c
          all_goals refine wp_region_grow (by kernel_rfl) (by kernel_rfl) ?_
          all_goals repeat (first | go_big_quiet_step ((go_at_call 104; with_reducible exact calls_grow (KL.out _))) | quiet_step ((go_at_call 104; with_reducible exact calls_grow (KL.out _))))
          all_goals refine wpQuiet_nil ?_
          all_goals rintro w4 ⟨⟨_, hb4⟩, rfl⟩
          all_goals have Hnum4 := Lib.hid (Hnum2.out.grow hgr hb4)
          all_goals have hbut4 := hbut2.trans (butS_below hb4 g)
          all_goals clear cj cm
          · have hstop := Hino.out Hc.out.symm
            have Heq3 := Lib.hid (hstop.symm.trans Heq2.out)
            clear hstop
            go_wp2_with fail
            refine ⟨⟨i + 1, d2, by omega, by omega, by go_num, Hnum4.out, Hsz2.out, ?_, ?_⟩, by simp [intOf]; omega⟩
            · rw [Heq3.out, ← insOuter_step a b i d1 hlt]; exact Heq.out
            · exact hbut.trans hbut4
          · go_upto_region 6 with fail
            clear e1 e2
            refine wp_region_fixed (fun s => match s with | 33 => .slice (some ⟨g, off, none⟩) n cap | 34 => .int .i64 (j : Int) | 35 => .slice (some ⟨g, off, none⟩) n cap | 36 => .int .i64 (j : Int) | 37 => .int .i64 (m : Int) | 38 => .slice (some ⟨g, off, none⟩) n cap | 39 => .int .i64 (j : Int) | 40 => .int .i64 (m : Int) | 41 => .pointer (some ⟨g, off + m, none⟩) | 42 => .int .u64 (d2[m]! : Int) | 43 => .slice (some ⟨g, off, none⟩) n cap | 44 => .int .i64 (j : Int) | 45 => .pointer (some ⟨g, off + j, none⟩) | 46 => .int .u64 (d2[j]! : Int) | 47 => .pointer (some ⟨g, off + j, none⟩) | 48 => .pointer (some ⟨g, off + m, none⟩) | _ => undef) (SwJ w4.drew ⟨g, off + j, none⟩ ⟨g, off + m, none⟩ (.int .u64 (d2[m]! : Int)) (.int .u64 (d2[j]! : Int)) 15 17 9 13) 49 [33, 34, 35, 36, 37, 38, 39, 40, 41, 42, 43, 44, 45, 46, 47, 48] (by kernel_rfl) (by kernel_rfl) (by kernel_rfl) (by kernel_rfl) rfl SwJ.start ?_ ?_
            · intro i0 o0 hi0 dn a0 x hJ hd hpre hsame hV K hK
              have hlt0 := (Array.getElem?_eq_some_iff.1 hi0).1
              rcases many18 hlt0 rfl with rfl | rfl | rfl | rfl | rfl | rfl | rfl | rfl | rfl | rfl | rfl | rfl | rfl | rfl | rfl | rfl | rfl | rfl
              all_goals (have ho0 := Option.some.inj hi0; subst ho0; clear hi0 hlt0)
              · have q0 : a0.tmps[0]?.getD undef = .slice (some ⟨g, off, none⟩) n cap := hsame 0 (slot_free (by decide +kernel))
                have hJ2 := Lib.hid hJ; have hk := Lib.hid hK; clear hsame hpre hK hV hJ hd; go_simp; exact hk.out _ _ (fun s hs => by cases hs; rfl) (hJ2.out.more (by decide) (by decide))
              · have q7 : a0.tmps[7]?.getD undef = .int .i64 (j : Int) := hsame 7 (slot_free (by decide +kernel))
                have hJ2 := Lib.hid hJ; have hk := Lib.hid hK; clear hsame hpre hK hV hJ hd; go_simp; exact hk.out _ _ (fun s hs => by cases hs; rfl) (hJ2.out.more (by decide) (by decide))
              · have q0 : a0.tmps[0]?.getD undef = .slice (some ⟨g, off, none⟩) n cap := hsame 0 (slot_free (by decide +kernel))
                have hJ2 := Lib.hid hJ; have hk := Lib.hid hK; clear hsame hpre hK hV hJ hd; go_simp; exact hk.out _ _ (fun s hs => by cases hs; rfl) (hJ2.out.more (by decide) (by decide))
              · have q7 : a0.tmps[7]?.getD undef = .int .i64 (j : Int) := hsame 7 (slot_free (by decide +kernel))
                have hJ2 := Lib.hid hJ; have hk := Lib.hid hK; clear hsame hpre hK hV hJ hd; go_simp; exact hk.out _ _ (fun s hs => by cases hs; rfl) (hJ2.out.more (by decide) (by decide))
              · have q36 : a0.tmps[36]?.getD undef = .int .i64 (j : Int) := hV 3 36 (hpre ⟨3, .data⟩ (by simp) rfl) rfl
                have hJ2 := Lib.hid hJ; have hk := Lib.hid hK; clear hsame hpre hK hV hJ hd; go_simp; exact hk.out _ _ (fun s hs => by cases hs; rfl) (hJ2.out.more (by decide) (by decide))
              · have q0 : a0.tmps[0]?.getD undef = .slice (some ⟨g, off, none⟩) n cap := hsame 0 (slot_free (by decide +kernel))
                have hJ2 := Lib.hid hJ; have hk := Lib.hid hK; clear hsame hpre hK hV hJ hd; go_simp; exact hk.out _ _ (fun s hs => by cases hs; rfl) (hJ2.out.more (by decide) (by decide))
              · have q7 : a0.tmps[7]?.getD undef = .int .i64 (j : Int) := hsame 7 (slot_free (by decide +kernel))
                have hJ2 := Lib.hid hJ; have hk := Lib.hid hK; clear hsame hpre hK hV hJ hd; go_simp; exact hk.out _ _ (fun s hs => by cases hs; rfl) (hJ2.out.more (by decide) (by decide))
              · have q39 : a0.tmps[39]?.getD undef = .int .i64 (j : Int) := hV 6 39 (hpre ⟨6, .data⟩ (by simp) rfl) rfl
                have hJ2 := Lib.hid hJ; have hk := Lib.hid hK; clear hsame hpre hK hV hJ hd; go_simp; exact hk.out _ _ (fun s hs => by cases hs; rfl) (hJ2.out.more (by decide) (by decide))
              · have q38 : a0.tmps[38]?.getD undef = .slice (some ⟨g, off, none⟩) n cap := hV 5 38 (hpre ⟨5, .data⟩ (by simp) rfl) rfl
                have q40 : a0.tmps[40]?.getD undef = .int .i64 (m : Int) := hV 7 40 (hpre ⟨7, .data⟩ (by simp) rfl) rfl
                have hJ2 := Lib.hid hJ; have hk := Lib.hid hK; clear hsame hpre hK hV hJ hd; go_simp; exact hk.out _ _ (fun s hs => by cases hs; rfl) (hJ2.out.more (by decide) (by decide))
              · have q41 : a0.tmps[41]?.getD undef = .pointer (some ⟨g, off + m, none⟩) := hV 8 41 (hpre ⟨8, .data⟩ (by simp) rfl) rfl
                have hxX := hJ.load (.inl hd)
                have c0 : x.cell? ⟨g, off + m, none⟩ = some (.int .u64 (d2[m]! : Int)) := by rw [hxX]; exact (Hnum4.out _ (by rw [Hsz2.out]; exact hmn)).1
                clear hxX
                have hJ2 := Lib.hid hJ; have hk := Lib.hid hK; clear hsame hpre hK hV hJ hd; go_simp; exact hk.out _ _ (fun s hs => by cases hs; rfl) (hJ2.out.more (by decide) (by decide))
              · have q0 : a0.tmps[0]?.getD undef = .slice (some ⟨g, off, none⟩) n cap := hsame 0 (slot_free (by decide +kernel))
                have hJ2 := Lib.hid hJ; have hk := Lib.hid hK; clear hsame hpre hK hV hJ hd; go_simp; exact hk.out _ _ (fun s hs => by cases hs; rfl) (hJ2.out.more (by decide) (by decide))
              · have q7 : a0.tmps[7]?.getD undef = .int .i64 (j : Int) := hsame 7 (slot_free (by decide +kernel))
                have hJ2 := Lib.hid hJ; have hk := Lib.hid hK; clear hsame hpre hK hV hJ hd; go_simp; exact hk.out _ _ (fun s hs => by cases hs; rfl) (hJ2.out.more (by decide) (by decide))
              · have q43 : a0.tmps[43]?.getD undef = .slice (some ⟨g, off, none⟩) n cap := hV 10 43 (hpre ⟨10, .data⟩ (by simp) rfl) rfl
                have q44 : a0.tmps[44]?.getD undef = .int .i64 (j : Int) := hV 11 44 (hpre ⟨11, .data⟩ (by simp) rfl) rfl
                have hJ2 := Lib.hid hJ; have hk := Lib.hid hK; clear hsame hpre hK hV hJ hd; go_simp; exact hk.out _ _ (fun s hs => by cases hs; rfl) (hJ2.out.more (by decide) (by decide))
              · have q45 : a0.tmps[45]?.getD undef = .pointer (some ⟨g, off + j, none⟩) := hV 12 45 (hpre ⟨12, .data⟩ (by simp) rfl) rfl
                have hxX := hJ.load (.inr hd)
                have c0 : x.cell? ⟨g, off + j, none⟩ = some (.int .u64 (d2[j]! : Int)) := by rw [hxX]; exact (Hnum4.out _ (by rw [Hsz2.out]; exact hjn)).1
                clear hxX
                have hJ2 := Lib.hid hJ; have hk := Lib.hid hK; clear hsame hpre hK hV hJ hd; go_simp; exact hk.out _ _ (fun s hs => by cases hs; rfl) (hJ2.out.more (by decide) (by decide))
              · have q33 : a0.tmps[33]?.getD undef = .slice (some ⟨g, off, none⟩) n cap := hV 0 33 (hpre ⟨0, .data⟩ (by simp) rfl) rfl
                have q34 : a0.tmps[34]?.getD undef = .int .i64 (j : Int) := hV 1 34 (hpre ⟨1, .data⟩ (by simp) rfl) rfl
                have hJ2 := Lib.hid hJ; have hk := Lib.hid hK; clear hsame hpre hK hV hJ hd; go_simp; exact hk.out _ _ (fun s hs => by cases hs; rfl) (hJ2.out.more (by decide) (by decide))
              · have q47 : a0.tmps[47]?.getD undef = .pointer (some ⟨g, off + j, none⟩) := hV 14 47 (hpre ⟨14, .data⟩ (by simp) rfl) rfl
                have q42 : a0.tmps[42]?.getD undef = .int .u64 (d2[m]! : Int) := hV 9 42 (hpre ⟨9, .data⟩ (by simp) rfl) rfl
                have hk : ∀ x', (SwJ w4.drew ⟨g, off + j, none⟩ ⟨g, off + m, none⟩ (.int .u64 (d2[m]! : Int)) (.int .u64 (d2[j]! : Int)) 15 17 9 13) (also dn 15) x' → K a0 x' := fun x' h2 => hK undef x' (fun s hs => by cases hs) h2
                have hJ2 := Lib.hid (hJ.st1 (by decide) hd (hpre ⟨9, .phase⟩ (by simp) rfl) (hpre ⟨13, .phase⟩ (by simp) rfl))
                have hxX : x = w4.drew := hJ.w0 hd
                have c0 : x.cell? ⟨g, off + j, none⟩ = some (.int .u64 (d2[j]! : Int)) := by rw [hxX]; exact (Hnum4.out _ (by rw [Hsz2.out]; exact hjn)).1
                have z0 : x.frozen? ⟨g, off + j, none⟩ = false := by rw [hxX]; exact (Hnum4.out _ (by rw [Hsz2.out]; exact hjn)).2
                clear hsame hpre hK hV hJ hd hxX
                go_simp
                exact hk _ hJ2.out
              · have q35 : a0.tmps[35]?.getD undef = .slice (some ⟨g, off, none⟩) n cap := hV 2 35 (hpre ⟨2, .data⟩ (by simp) rfl) rfl
                have q37 : a0.tmps[37]?.getD undef = .int .i64 (m : Int) := hV 4 37 (hpre ⟨4, .data⟩ (by simp) rfl) rfl
                have hJ2 := Lib.hid hJ; have hk := Lib.hid hK; clear hsame hpre hK hV hJ hd; go_simp; exact hk.out _ _ (fun s hs => by cases hs; rfl) (hJ2.out.more (by decide) (by decide))
              · have q48 : a0.tmps[48]?.getD undef = .pointer (some ⟨g, off + m, none⟩) := hV 16 48 (hpre ⟨16, .data⟩ (by simp) rfl) rfl
                have q46 : a0.tmps[46]?.getD undef = .int .u64 (d2[j]! : Int) := hV 13 46 (hpre ⟨13, .data⟩ (by simp) rfl) rfl
                have hk : ∀ x', (SwJ w4.drew ⟨g, off + j, none⟩ ⟨g, off + m, none⟩ (.int .u64 (d2[m]! : Int)) (.int .u64 (d2[j]! : Int)) 15 17 9 13) (also dn 17) x' → K a0 x' := fun x' h2 => hK undef x' (fun s hs => by cases hs) h2
                have hJ2 := Lib.hid (hJ.st2 (by decide) hd (hpre ⟨15, .chain⟩ (by simp) rfl))
                have hxX := hJ.w1 (hpre ⟨15, .chain⟩ (by simp) rfl) hd
                obtain ⟨u0, c0⟩ : ∃ u, x.cell? ⟨g, off + m, none⟩ = some u := by rw [hxX]; exact cell_some _ _ _ _ _ (Hnum4.out _ (by rw [Hsz2.out]; exact hjn)).1 (Hnum4.out _ (by rw [Hsz2.out]; exact hmn)).1
                have z0 : x.frozen? ⟨g, off + m, none⟩ = false := by rw [hxX, World.frozen?_setCell]; exact (Hnum4.out _ (by rw [Hsz2.out]; exact hmn)).2
                clear hsame hpre hK hV hJ hd hxX
                go_simp
                exact hk _ hJ2.out
            · intro dn x hall hJ
              have hx := hJ.w2 (hall 17 (by decide))
              have hgr4 := Nat.lt_of_lt_of_le hgr hb4.size
              have h44 := NumsAt.grow (w' := w4.drew) Hnum4.out hgr4 ((Below.refl _ _).drew)
              have HN5 := Lib.hid (show NumsAt x g off (Sort.swp d2 j m) by rw [hx]; exact h44.swp (by rw [Hsz2.out]; exact hjn) (by rw [Hsz2.out]; exact hmn))
              have hbut5 : ButS g wb x := by
                rw [hx]
                exact ((hbut4.trans (butS_below ((Below.refl w4.heap.size w4).drew) g)).trans (butS_set _ _ _ _)).trans (butS_set _ _ _ _)
              have Heq3 := Lib.hid ((Hins.out Hc.out.symm).symm.trans Heq2.out)
              have hmj : m < j := by have := Hm.out; omega
              clear hx h44 hJ hall
              simp only [putAct]
              go_wp2_with fail
              go_roundw
              case rel => exact ⟨m, Sort.swp d2 j m, by omega, by go_num, HN5.out, by rw [swp_size]; exact Hsz2.out, Heq3.out, hbut5⟩
              case measure => simp [intOf]; omega
        · have e1 : decide ((a : Int) < (j : Int)) = false := by rw [decide_eq_false_iff_not]; omega
          have e2 : decide (a < j) = false := by rw [decide_eq_false_iff_not]; omega
          have Heq3 := Lib.hid ((insInner_stop a j d2 (by omega)).symm.trans Heq2.out)
          go_upto_region 4 with fail
          refine wp_region_grow (by kernel_rfl) (by kernel_rfl) ?_
          repeat (first | go_big_quiet_step (fail) | quiet_step (fail))
          refine wpQuiet_nil ?_
          rintro w4 ⟨⟨_, hb4⟩, rfl⟩
          have hgr := Nat.lt_of_lt_of_le hg (Nat.le_trans hbut.2.2.2.1 hbut2.2.2.2.1)
          have Hnum4 := Lib.hid (Hnum2.out.grow hgr hb4)
          have hbut4 := hbut2.trans (butS_below hb4 g)
          go_wp2_with fail
          refine ⟨⟨i + 1, d2, by omega, by omega, by go_num, Hnum4.out, Hsz2.out, ?_, ?_⟩, by simp [intOf]; omega⟩
          · rw [Heq3.out, ← insOuter_step a b i d1 hlt]; exact Heq.out
          · exact hbut.trans hbut4
    · have hfin := Heq.out
      rw [insOuter_end a b i d1 (by omega)] at hfin
      have Hfin := Lib.hid hfin
      clear hfin
      go_wp2_with fail
      refine bodyPost_end (v := .tuple #[]) (results_none rfl _ _ _) rfl ⟨rfl, ?_, ?_, hbut⟩
      · unfold Sort.insertionSort
        rw [← Hfin.out]
        exact Hnum.out
      · unfold Sort.insertionSort
        rw [← Hfin.out]
        exact Hsz.out
end Go.Proofs.YtdmbmkjiffhbcaaGreat

namespace Go.Proofs.YtdmbmkjiffhbcaaGreat
open Go.RowKit
set_option maxRecDepth 100000

theorem rev_step (i j : Nat) (d : Array Nat) (h : i < j) : Sort.reverseLoop i j d = Sort.reverseLoop (i + 1) (j - 1) (Sort.swp d i j) := by
  rw [Sort.reverseLoop, if_pos h]
theorem rev_end (i j : Nat) (d : Array Nat) (h : ¬ i < j) : Sort.reverseLoop i j d = d := by
  rw [Sort.reverseLoop, if_neg h]

set_option maxHeartbeats 4000000 in
theorem rev_any (g off cap n a b : Nat) (d : Array Nat) (w : World) (h : NumsAt w g off d) (hn : n = d.size) (hb : b ≤ n) (hb1 : 1 ≤ b) (hn2 : n ≤ 4611686018427387904) (ha : a ≤ n) (hg : g < w.heap.size) :
    Calls Tryz.prog 102 #[.slice (some ⟨g, off, none⟩) n cap, .int .i64 (a : Int), .int .i64 (b : Int)] w fun e w' => e = .returned (.tuple #[]) ∧ NumsAt w' g off (Sort.reverseRange d a b) ∧ (Sort.reverseRange d a b).size = n ∧ ButS g w w' := by
  have Hn := Lib.hid hn
  have H := Lib.hid h
  obtain ⟨b1, hb2⟩ : ∃ m, m = b - 1 := ⟨_, rfl⟩
  have hw0 : wrap64 ((b : Int) - 1) = (b1 : Int) := by unfold wrap64; omega
  have hw00 : IntKind.i64.wrap ((b : Int) - 1) = (b1 : Int) := by rw [IntKind.wrap_i64]; omega
  have Hb2 := Lib.hid hb2
  have hb1n : b1 < n := by omega
  clear h hn hb2
  go_enter Tryz.func102, Tryz.ntmps102
  go_wp2_with fail
  clear hw0 hw00
  go_loopw [6, 7] (fun t u wr => ∃ (i j : Nat) (d1 : Array Nat), i ≤ n + 1 ∧ j < n ∧ t = .int .i64 (i : Int) ∧ u = .int .i64 (j : Int) ∧ NumsAt wr g off d1 ∧ d1.size = n ∧ Sort.reverseLoop i j d1 = Sort.reverseLoop a b1 d ∧ ButS g w wr) (fun t u _ => (intOf u).toNat + 1 - (intOf t).toNat)
  case atStart => exact ⟨a, b1, d, by omega, by omega, rfl, rfl, H.out, Hn.out.symm, rfl, ButS.refl _ _⟩
  case round =>
    obtain ⟨i, j, d1, hi1, hj1, rfl, rfl, hnum, hsz, heq, hbut⟩ := hrel
    have Hnum := Lib.hid hnum
    have Hsz := Lib.hid hsz
    have Heq := Lib.hid heq
    clear hnum hsz heq
    by_cases hlt : i < j
    · have e1 : decide ((i : Int) < (j : Int)) = true := by rw [decide_eq_true_iff]; omega
      have e2 : decide (i < j) = true := by rw [decide_eq_true_iff]; omega
      have hin : i < n := by omega
      obtain ⟨m, hm⟩ : ∃ m, m = j - 1 := ⟨_, rfl⟩
      have hw1 : wrap64 ((j : Int) - 1) = (m : Int) := by unfold wrap64; omega
      have hw2 : IntKind.i64.wrap ((j : Int) - 1) = (m : Int) := by rw [IntKind.wrap_i64]; omega
      have Hstep := Lib.hid (rev_step i j d1 hlt)
      have Hm := Lib.hid hm
      have hgr := Nat.lt_of_lt_of_le hg hbut.2.2.2.1
      clear hm
      go_upto_region 3 with fail
      clear e1 e2

      refine wp_swap16 14 0 6 7 g off n cap i j (d1[i]!) (d1[j]!) (fun s => match s with | 14 => .slice (some ⟨g, off, none⟩) n cap | 15 => .int .i64 (i : Int) | 16 => .slice (some ⟨g, off, none⟩) n cap | 17 => .int .i64 (j : Int) | 18 => .slice (some ⟨g, off, none⟩) n cap | 19 => .int .i64 (j : Int) | 20 => .pointer (some ⟨g, off + j, none⟩) | 21 => .int .u64 (d1[j]! : Int) | 22 => .slice (some ⟨g, off, none⟩) n cap | 23 => .int .i64 (i : Int) | 24 => .pointer (some ⟨g, off + i, none⟩) | 25 => .int .u64 (d1[i]! : Int) | 26 => .pointer (some ⟨g, off + i, none⟩) | 27 => .pointer (some ⟨g, off + j, none⟩) | _ => undef) 32 [14, 15, 16, 17, 18, 19, 20, 21, 22, 23, 24, 25, 26, 27] (by kernel_rfl) (by kernel_rfl) (by kernel_rfl) (by kernel_rfl) rfl (by kernel_rfl) (by kernel_rfl) (by kernel_rfl) rfl rfl rfl (by first | assumption | omega) (by first | assumption | omega) ⟨rfl, rfl, rfl, rfl, rfl, rfl, rfl, rfl, rfl, rfl, rfl, rfl, rfl, rfl⟩ (Hnum.out _ (by rw [Hsz.out]; exact hin)).1 (Hnum.out _ (by rw [Hsz.out]; exact hin)).2 (Hnum.out _ (by rw [Hsz.out]; exact hj1)).1 (Hnum.out _ (by rw [Hsz.out]; exact hj1)).2 ?_
      · intro dn x hall hJ
        have hx := hJ.w2 (hall 15 (by decide))
        have h44 := NumsAt.grow (w' := wr.drew) Hnum.out hgr ((Below.refl _ _).drew)
        have HN5 := Lib.hid (show NumsAt x g off (Sort.swp d1 i j) by rw [hx]; exact h44.swp (by rw [Hsz.out]; exact hin) (by rw [Hsz.out]; exact hj1))
        have hbut5 : ButS g w x := by
          rw [hx]
          exact ((hbut.trans (butS_below ((Below.refl wr.heap.size wr).drew) g)).trans (butS_set _ _ _ _)).trans (butS_set _ _ _ _)
        clear hx h44 hJ hall
        simp only [putAct]
        go_wp2_with fail
        go_roundw
        case rel => exact ⟨i + 1, m, Sort.swp d1 i j, by omega, by have := Hm.out; omega, by go_num, by go_num, HN5.out, by rw [swp_size]; exact Hsz.out, by rw [Hm.out, ← Hstep.out]; exact Heq.out, hbut5⟩
        case measure => have := Hm.out; simp [intOf]; omega
    · have e1 : decide ((i : Int) < (j : Int)) = false := by rw [decide_eq_false_iff_not]; omega
      have e2 : decide (i < j) = false := by rw [decide_eq_false_iff_not]; omega
      have Hfin := Lib.hid ((rev_end i j d1 hlt).symm.trans Heq.out)
      go_wp2_with fail
      refine bodyPost_end (v := .tuple #[]) (results_none rfl _ _ _) rfl ⟨rfl, ?_, ?_, hbut⟩
      · unfold Sort.reverseRange
        rw [← Hb2.out, ← Hfin.out]
        exact Hnum.out
      · unfold Sort.reverseRange
        rw [← Hb2.out, ← Hfin.out]
        exact Hsz.out

end Go.Proofs.YtdmbmkjiffhbcaaGreat

namespace Go.Proofs.YtdmbmkjiffhbcaaGreat
open Go.RowKit
set_option maxRecDepth 100000

theorem wr_nat (x : Int) (k : Nat) (h : x = k) (hk : k ≤ 9223372036854775807) : wrap64 x = (k : Int) ∧ IntKind.i64.wrap x = (k : Int) := by
  subst h
  constructor
  · unfold wrap64; omega
  · rw [IntKind.wrap_i64]; omega
theorem sift_ge (hi first r : Nat) (d : Array Nat) (h : hi ≤ 2 * r + 1) : Sort.siftDown lt64 hi first r d = d := by
  rw [Sort.siftDown, dif_pos (by omega)]
theorem sift_step (hi first r c : Nat) (d : Array Nat) (h : 2 * r + 1 < hi) (hc : c = if (decide (2 * r + 1 + 1 < hi) && lt64 d[first + (2 * r + 1)]! d[first + (2 * r + 1) + 1]!) = true then 2 * r + 2 else 2 * r + 1) :
    Sort.siftDown lt64 hi first r d = if lt64 d[first + r]! d[first + c]! = true then Sort.siftDown lt64 hi first c (Sort.swp d (first + r) (first + c)) else d := by
  conv => lhs; rw [Sort.siftDown]
  rw [dif_neg (by omega)]
  by_cases hg : (decide (2 * r + 1 + 1 < hi) && lt64 d[first + (2 * r + 1)]! d[first + (2 * r + 1) + 1]!) = true
  · rw [if_pos hg] at hc ⊢
    subst hc
    have h2 : 2 * r + 2 < hi := by rw [Bool.and_eq_true, decide_eq_true_iff] at hg; omega
    cases hl : lt64 d[first + r]! d[first + (2 * r + 2)]!
    · rw [if_pos (by rfl), if_neg (by simp)]
    · rw [if_neg (by simp), dif_pos h2, if_pos rfl]
  · rw [if_neg hg] at hc ⊢
    subst hc
    cases hl : lt64 d[first + r]! d[first + (2 * r + 1)]!
    · rw [if_pos (by rfl), if_neg (by simp)]
    · rw [if_neg (by simp), if_pos rfl]

set_option maxHeartbeats 8000000 in
theorem sift_any (g off cap n lo hi first : Nat) (d : Array Nat) (w : World) (h : NumsAt w g off d) (hn : n = d.size) (hb : first + hi ≤ n) (hn2 : n ≤ 1152921504606846976) (hlo : lo ≤ n) (hg : g < w.heap.size) :
    Calls Tryz.prog 108 #[.slice (some ⟨g, off, none⟩) n cap, .int .i64 (lo : Int), .int .i64 (hi : Int), .int .i64 (first : Int)] w fun e w' => e = .returned (.tuple #[]) ∧ NumsAt w' g off (Sort.siftDown lt64 hi first lo d) ∧ (Sort.siftDown lt64 hi first lo d).size = n ∧ ButS g w w' := by
  have Hn := Lib.hid hn
  have H := Lib.hid h
  clear h hn
  go_enter Tryz.func108, Tryz.ntmps108
  go_wp2_with fail
  go_loopw [8] (fun t wr => ∃ (r : Nat) (d1 : Array Nat), r ≤ n ∧ t = .int .i64 (r : Int) ∧ NumsAt wr g off d1 ∧ d1.size = n ∧ Sort.siftDown lt64 hi first r d1 = Sort.siftDown lt64 hi first lo d ∧ ButS g w wr) (fun t _ => n + 1 - (intOf t).toNat)
  case atStart => exact ⟨lo, d, hlo, rfl, H.out, Hn.out.symm, rfl, ButS.refl _ _⟩
  case round =>
    obtain ⟨r, d1, hr1, rfl, hnum, hsz, heq, hbut⟩ := hrel
    have Hnum := Lib.hid hnum
    have Hsz := Lib.hid hsz
    have Heq := Lib.hid heq
    clear hnum hsz heq
    have hgr := Nat.lt_of_lt_of_le hg hbut.2.2.2.1
    obtain ⟨k, hk⟩ : ∃ k, k = 2 * r + 1 := ⟨_, rfl⟩
    have W1 := Lib.hid (wr_nat (2 * (r : Int)) (2 * r) (by omega) (by omega))
    have W3 := Lib.hid (wr_nat (2 * (r : Int) + 1) k (by omega) (by omega))
    have Hk := Lib.hid hk
    have hkb : k ≤ 9223372036854775807 - 2 := by omega
    have hrk : r < k := by omega
    clear hk
    by_cases hge : hi ≤ k
    · have e1 : decide ((hi : Int) ≤ (k : Int)) = true := by rw [decide_eq_true_iff]; omega
      have e2 : decide (hi ≤ k) = true := by rw [decide_eq_true_iff]; omega
      have Hfin := Lib.hid ((sift_ge hi first r d1 (by rw [← Hk.out]; exact hge)).symm.trans Heq.out)
      clear hge
      obtain ⟨w1, w2⟩ := W1.out
      obtain ⟨w3, w4⟩ := W3.out
      go_wp2_with fail
      refine bodyPost_end (v := .tuple #[]) (results_none rfl _ _ _) rfl ⟨rfl, ?_, ?_, hbut⟩
      · rw [← Hfin.out]; exact Hnum.out
      · rw [← Hfin.out]; exact Hsz.out
    · have e1 : decide ((hi : Int) ≤ (k : Int)) = false := by rw [decide_eq_false_iff_not]; omega
      have e2 : decide (hi ≤ k) = false := by rw [decide_eq_false_iff_not]; omega
      obtain ⟨fk, hfk⟩ : ∃ k', k' = first + k := ⟨_, rfl⟩
      obtain ⟨fk1, hfk1⟩ : ∃ k', k' = first + k + 1 := ⟨_, rfl⟩
      obtain ⟨fr, hfr⟩ : ∃ k', k' = first + r := ⟨_, rfl⟩
      have hfkn : fk < n := by omega
      have hfrn : fr < n := by omega
      have W5 := Lib.hid (wr_nat ((first : Int) + (k : Int)) fk (by omega) (by omega))
      have W7 := Lib.hid (wr_nat ((fk : Int) + 1) fk1 (by omega) (by omega))
      have W9 := Lib.hid (wr_nat ((first : Int) + (r : Int)) fr (by omega) (by omega))
      obtain ⟨k1, hk1⟩ : ∃ k', k' = k + 1 := ⟨_, rfl⟩
      have W11 := Lib.hid (wr_nat ((k : Int) + 1) k1 (by omega) (by omega))
      obtain ⟨g1, hg1⟩ : ∃ b, b = decide (k1 < hi) := ⟨_, rfl⟩
      have e3 : decide ((k1 : Int) < (hi : Int)) = g1 := by rw [hg1, Bool.eq_iff_iff, decide_eq_true_iff, decide_eq_true_iff]; omega
      have e4 : decide (k1 < hi) = g1 := hg1.symm
      have hfk1n : g1 = true → fk1 < n := fun e => by rw [hg1, decide_eq_true_iff] at e; omega
      obtain ⟨l1, hl1⟩ : ∃ b, b = lt64 d1[fk]! d1[fk1]! := ⟨_, rfl⟩
      have kl := fun y : Ext wr => less_any d1[fk]! d1[fk1]! y.now
      simp only [← hl1] at kl
      have KL := Lib.hid kl
      have hstep := fun c (hc : c = if (g1 && l1) = true then k1 else k) => sift_step hi first r c d1 (by have := Hk.out; omega) (by have := Hk.out; rw [hc, hg1, hl1, hk1, hfk, hfk1, this])
      have Hstep := Lib.hid hstep
      have Hfk := Lib.hid hfk
      have Hfk1 := Lib.hid hfk1
      have Hfr := Lib.hid hfr
      have Hk1 := Lib.hid hk1
      have Hfk1n := Lib.hid hfk1n
      have hk1hi : g1 = true → k1 < hi := fun e => by rw [hg1, decide_eq_true_iff] at e; exact e
      have Hk1hi := Lib.hid hk1hi
      have ck := fun y : Ext wr => (Hnum.out.grow hgr y.out fk (by rw [Hsz.out]; exact hfkn)).1
      clear kl hl1 hstep hfk hfk1 hfr hk1 hg1 hfk1n hk1hi hge
      obtain ⟨w1, w2⟩ := W1.out
      obtain ⟨w3, w4⟩ := W3.out
      go_upto_region 3 with fail
      clear w1 w2 w3 w4
      obtain ⟨w5, w6⟩ := W5.out
      obtain ⟨w7, w8⟩ := W7.out
      obtain ⟨w11, w12⟩ := W11.out
      cases g1 <;> cases l1
      · have hfk1n2 : True := trivial
        refine wp_region_grow (by kernel_rfl) (by kernel_rfl) ?_
        repeat (first | go_big_quiet_step ((go_at_call 104; with_reducible exact calls_grow (KL.out _))) | quiet_step ((go_at_call 104; with_reducible exact calls_grow (KL.out _))))
        refine wpQuiet_nil ?_
        rintro w3 ⟨⟨_, hb3⟩, rfl⟩
        have hgr3 := Nat.lt_of_lt_of_le hgr hb3.size
        have Hnum3 := Lib.hid (Hnum.out.grow hgr hb3)
        have hbut3 := hbut.trans (butS_below hb3 g)
        have Hs := Lib.hid (Hstep.out k rfl)
        clear w5 w6 w7 w8 w11 w12
        clear ck KL Hstep e3 e4
        have hrc : r < k := hrk
        have hfc : first + k = fk := Hfk.out.symm
        have hfcn : fk < n := hfkn
        have hchi : k < hi := by have := of_decide_eq_false e2; omega
        have hfrr : first + r = fr := Hfr.out.symm
        have Hfc := Lib.hid hfc
        have Hfrr := Lib.hid hfrr
        obtain ⟨l2, hl2⟩ : ∃ b, b = lt64 d1[fr]! d1[fk]! := ⟨_, rfl⟩
        have kl := fun y : Ext w3 => less_any d1[fr]! d1[fk]! y.now
        simp only [← hl2] at kl
        have KL := Lib.hid kl
        have Hl2 := Lib.hid hl2
        have cr := fun y : Ext w3 => (Hnum3.out.grow hgr3 y.out fr (by rw [Hsz.out]; exact hfrn)).1
        have cc := fun y : Ext w3 => (Hnum3.out.grow hgr3 y.out fk (by rw [Hsz.out]; exact hfcn)).1
        clear kl hl2 hfc hfrr hfk1n2
        obtain ⟨w11, w12⟩ := W11.out
        go_upto_region 5 with fail
        clear w11 w12
        obtain ⟨w9, w10⟩ := W9.out
        obtain ⟨w13, w14⟩ := W5.out
        cases l2
        all_goals refine wp_region_grow (by kernel_rfl) (by kernel_rfl) ?_
        all_goals repeat (first | go_big_quiet_step ((go_at_call 104; with_reducible exact calls_grow (KL.out _))) | quiet_step ((go_at_call 104; with_reducible exact calls_grow (KL.out _))))
        all_goals refine wpQuiet_nil ?_
        all_goals rintro w5 ⟨⟨_, hb5⟩, rfl⟩
        all_goals have hgr5 := Nat.lt_of_lt_of_le hgr3 hb5.size
        all_goals have Hnum5 := Lib.hid (Hnum3.out.grow hgr3 hb5)
        all_goals have hbut5 := hbut3.trans (butS_below hb5 g)
        all_goals clear cr cc
        · have hs := Hs.out
          rw [Hfc.out, Hfrr.out, ← Hl2.out, if_neg (by simp)] at hs
          have Hfin := Lib.hid (hs.symm.trans Heq.out)
          clear hs
          go_wp2_with fail
          refine bodyPost_ret (v := .tuple #[]) (results_none rfl _ _ _) rfl ⟨rfl, ?_, ?_, hbut5⟩
          · rw [← Hfin.out]; exact Hnum5.out
          · rw [← Hfin.out]; exact Hsz.out
        · have hs := Hs.out
          rw [Hfc.out, Hfrr.out, ← Hl2.out, if_pos rfl] at hs
          have Hfin := Lib.hid (hs.symm.trans Heq.out)
          clear hs
          go_upto_region 6 with fail
          have hgr := hgr5
          refine wp_region_fixed (fun s => match s with | 53 => .slice (some ⟨g, off, none⟩) n cap | 54 => .int .i64 (first : Int) | 55 => .int .i64 (r : Int) | 56 => .int .i64 (fr : Int) | 57 => .slice (some ⟨g, off, none⟩) n cap | 58 => .int .i64 (first : Int) | 59 => .int .i64 (k : Int) | 60 => .int .i64 (fk : Int) | 61 => .slice (some ⟨g, off, none⟩) n cap | 62 => .int .i64 (first : Int) | 63 => .int .i64 (k : Int) | 64 => .int .i64 (fk : Int) | 65 => .pointer (some ⟨g, off + fk, none⟩) | 66 => .int .u64 (d1[fk]! : Int) | 67 => .slice (some ⟨g, off, none⟩) n cap | 68 => .int .i64 (first : Int) | 69 => .int .i64 (r : Int) | 70 => .int .i64 (fr : Int) | 71 => .pointer (some ⟨g, off + fr, none⟩) | 72 => .int .u64 (d1[fr]! : Int) | 73 => .pointer (some ⟨g, off + fr, none⟩) | 74 => .pointer (some ⟨g, off + fk, none⟩) | _ => undef) (SwJ w5.drew ⟨g, off + fr, none⟩ ⟨g, off + fk, none⟩ (.int .u64 (d1[fk]! : Int)) (.int .u64 (d1[fr]! : Int)) 21 23 13 19) 76 [53, 54, 55, 56, 57, 58, 59, 60, 61, 62, 63, 64, 65, 66, 67, 68, 69, 70, 71, 72, 73, 74] (by kernel_rfl) (by kernel_rfl) (by kernel_rfl) (by kernel_rfl) rfl SwJ.start ?_ ?_
          · intro i0 o0 hi0 dn a0 x hJ hd hpre hsame hV K hK
            have hlt0 := (Array.getElem?_eq_some_iff.1 hi0).1
            rcases many24 hlt0 rfl with rfl | rfl | rfl | rfl | rfl | rfl | rfl | rfl | rfl | rfl | rfl | rfl | rfl | rfl | rfl | rfl | rfl | rfl | rfl | rfl | rfl | rfl | rfl | rfl
            all_goals (have ho0 := Option.some.inj hi0; subst ho0; clear hi0 hlt0)
            · have q0 : a0.tmps[0]?.getD undef = .slice (some ⟨g, off, none⟩) n cap := hsame 0 (slot_free (by decide +kernel))
              have hJ2 := Lib.hid hJ; have hk := Lib.hid hK; clear hsame hpre hK hV hJ hd; go_simp; exact hk.out _ _ (fun s hs => by cases hs; rfl) (hJ2.out.more (by decide) (by decide))
            · have q3 : a0.tmps[3]?.getD undef = .int .i64 (first : Int) := hsame 3 (slot_free (by decide +kernel))
              have hJ2 := Lib.hid hJ; have hk := Lib.hid hK; clear hsame hpre hK hV hJ hd; go_simp; exact hk.out _ _ (fun s hs => by cases hs; rfl) (hJ2.out.more (by decide) (by decide))
            · have q8 : a0.tmps[8]?.getD undef = .int .i64 (r : Int) := hsame 8 (slot_free (by decide +kernel))
              have hJ2 := Lib.hid hJ; have hk := Lib.hid hK; clear hsame hpre hK hV hJ hd; go_simp; exact hk.out _ _ (fun s hs => by cases hs; rfl) (hJ2.out.more (by decide) (by decide))
            · have q54 : a0.tmps[54]?.getD undef = .int .i64 (first : Int) := hV 1 54 (hpre ⟨1, .data⟩ (by simp) rfl) rfl
              have q55 : a0.tmps[55]?.getD undef = .int .i64 (r : Int) := hV 2 55 (hpre ⟨2, .data⟩ (by simp) rfl) rfl
              have hJ2 := Lib.hid hJ; have hk := Lib.hid hK; clear hsame hpre hK hV hJ hd; go_simp; exact hk.out _ _ (fun s hs => by cases hs; rfl) (hJ2.out.more (by decide) (by decide))
            · have q0 : a0.tmps[0]?.getD undef = .slice (some ⟨g, off, none⟩) n cap := hsame 0 (slot_free (by decide +kernel))
              have hJ2 := Lib.hid hJ; have hk := Lib.hid hK; clear hsame hpre hK hV hJ hd; go_simp; exact hk.out _ _ (fun s hs => by cases hs; rfl) (hJ2.out.more (by decide) (by decide))
            · have q3 : a0.tmps[3]?.getD undef = .int .i64 (first : Int) := hsame 3 (slot_free (by decide +kernel))
              have hJ2 := Lib.hid hJ; have hk := Lib.hid hK; clear hsame hpre hK hV hJ hd; go_simp; exact hk.out _ _ (fun s hs => by cases hs; rfl) (hJ2.out.more (by decide) (by decide))
            · have q9 : a0.tmps[9]?.getD undef = .int .i64 (k : Int) := hsame 9 (slot_free (by decide +kernel))
              have hJ2 := Lib.hid hJ; have hk := Lib.hid hK; clear hsame hpre hK hV hJ hd; go_simp; exact hk.out _ _ (fun s hs => by cases hs; rfl) (hJ2.out.more (by decide) (by decide))
            · have q58 : a0.tmps[58]?.getD undef = .int .i64 (first : Int) := hV 5 58 (hpre ⟨5, .data⟩ (by simp) rfl) rfl
              have q59 : a0.tmps[59]?.getD undef = .int .i64 (k : Int) := hV 6 59 (hpre ⟨6, .data⟩ (by simp) rfl) rfl
              have hJ2 := Lib.hid hJ; have hk := Lib.hid hK; clear hsame hpre hK hV hJ hd; go_simp; exact hk.out _ _ (fun s hs => by cases hs; rfl) (hJ2.out.more (by decide) (by decide))
            · have q0 : a0.tmps[0]?.getD undef = .slice (some ⟨g, off, none⟩) n cap := hsame 0 (slot_free (by decide +kernel))
              have hJ2 := Lib.hid hJ; have hk := Lib.hid hK; clear hsame hpre hK hV hJ hd; go_simp; exact hk.out _ _ (fun s hs => by cases hs; rfl) (hJ2.out.more (by decide) (by decide))
            · have q3 : a0.tmps[3]?.getD undef = .int .i64 (first : Int) := hsame 3 (slot_free (by decide +kernel))
              have hJ2 := Lib.hid hJ; have hk := Lib.hid hK; clear hsame hpre hK hV hJ hd; go_simp; exact hk.out _ _ (fun s hs => by cases hs; rfl) (hJ2.out.more (by decide) (by decide))
            · have q9 : a0.tmps[9]?.getD undef = .int .i64 (k : Int) := hsame 9 (slot_free (by decide +kernel))
              have hJ2 := Lib.hid hJ; have hk := Lib.hid hK; clear hsame hpre hK hV hJ hd; go_simp; exact hk.out _ _ (fun s hs => by cases hs; rfl) (hJ2.out.more (by decide) (by decide))
            · have q62 : a0.tmps[62]?.getD undef = .int .i64 (first : Int) := hV 9 62 (hpre ⟨9, .data⟩ (by simp) rfl) rfl
              have q63 : a0.tmps[63]?.getD undef = .int .i64 (k : Int) := hV 10 63 (hpre ⟨10, .data⟩ (by simp) rfl) rfl
              have hJ2 := Lib.hid hJ; have hk := Lib.hid hK; clear hsame hpre hK hV hJ hd; go_simp; exact hk.out _ _ (fun s hs => by cases hs; rfl) (hJ2.out.more (by decide) (by decide))
            · have q61 : a0.tmps[61]?.getD undef = .slice (some ⟨g, off, none⟩) n cap := hV 8 61 (hpre ⟨8, .data⟩ (by simp) rfl) rfl
              have q64 : a0.tmps[64]?.getD undef = .int .i64 (fk : Int) := hV 11 64 (hpre ⟨11, .data⟩ (by simp) rfl) rfl
              have hJ2 := Lib.hid hJ; have hk := Lib.hid hK; clear hsame hpre hK hV hJ hd; go_simp; exact hk.out _ _ (fun s hs => by cases hs; rfl) (hJ2.out.more (by decide) (by decide))
            · have q65 : a0.tmps[65]?.getD undef = .pointer (some ⟨g, off + fk, none⟩) := hV 12 65 (hpre ⟨12, .data⟩ (by simp) rfl) rfl
              have hxX := hJ.load (.inl hd)
              have c0 : x.cell? ⟨g, off + fk, none⟩ = some (.int .u64 (d1[fk]! : Int)) := by rw [hxX]; exact (Hnum5.out _ (by rw [Hsz.out]; exact hfcn)).1
              clear hxX
              have hJ2 := Lib.hid hJ; have hk := Lib.hid hK; clear hsame hpre hK hV hJ hd; go_simp; exact hk.out _ _ (fun s hs => by cases hs; rfl) (hJ2.out.more (by decide) (by decide))
            · have q0 : a0.tmps[0]?.getD undef = .slice (some ⟨g, off, none⟩) n cap := hsame 0 (slot_free (by decide +kernel))
              have hJ2 := Lib.hid hJ; have hk := Lib.hid hK; clear hsame hpre hK hV hJ hd; go_simp; exact hk.out _ _ (fun s hs => by cases hs; rfl) (hJ2.out.more (by decide) (by decide))
            · have q3 : a0.tmps[3]?.getD undef = .int .i64 (first : Int) := hsame 3 (slot_free (by decide +kernel))
              have hJ2 := Lib.hid hJ; have hk := Lib.hid hK; clear hsame hpre hK hV hJ hd; go_simp; exact hk.out _ _ (fun s hs => by cases hs; rfl) (hJ2.out.more (by decide) (by decide))
            · have q8 : a0.tmps[8]?.getD undef = .int .i64 (r : Int) := hsame 8 (slot_free (by decide +kernel))
              have hJ2 := Lib.hid hJ; have hk := Lib.hid hK; clear hsame hpre hK hV hJ hd; go_simp; exact hk.out _ _ (fun s hs => by cases hs; rfl) (hJ2.out.more (by decide) (by decide))
            · have q68 : a0.tmps[68]?.getD undef = .int .i64 (first : Int) := hV 15 68 (hpre ⟨15, .data⟩ (by simp) rfl) rfl
              have q69 : a0.tmps[69]?.getD undef = .int .i64 (r : Int) := hV 16 69 (hpre ⟨16, .data⟩ (by simp) rfl) rfl
              have hJ2 := Lib.hid hJ; have hk := Lib.hid hK; clear hsame hpre hK hV hJ hd; go_simp; exact hk.out _ _ (fun s hs => by cases hs; rfl) (hJ2.out.more (by decide) (by decide))
            · have q67 : a0.tmps[67]?.getD undef = .slice (some ⟨g, off, none⟩) n cap := hV 14 67 (hpre ⟨14, .data⟩ (by simp) rfl) rfl
              have q70 : a0.tmps[70]?.getD undef = .int .i64 (fr : Int) := hV 17 70 (hpre ⟨17, .data⟩ (by simp) rfl) rfl
              have hJ2 := Lib.hid hJ; have hk := Lib.hid hK; clear hsame hpre hK hV hJ hd; go_simp; exact hk.out _ _ (fun s hs => by cases hs; rfl) (hJ2.out.more (by decide) (by decide))
            · have q71 : a0.tmps[71]?.getD undef = .pointer (some ⟨g, off + fr, none⟩) := hV 18 71 (hpre ⟨18, .data⟩ (by simp) rfl) rfl
              have hxX := hJ.load (.inr hd)
              have c0 : x.cell? ⟨g, off + fr, none⟩ = some (.int .u64 (d1[fr]! : Int)) := by rw [hxX]; exact (Hnum5.out _ (by rw [Hsz.out]; exact hfrn)).1
              clear hxX
              have hJ2 := Lib.hid hJ; have hk := Lib.hid hK; clear hsame hpre hK hV hJ hd; go_simp; exact hk.out _ _ (fun s hs => by cases hs; rfl) (hJ2.out.more (by decide) (by decide))
            · have q53 : a0.tmps[53]?.getD undef = .slice (some ⟨g, off, none⟩) n cap := hV 0 53 (hpre ⟨0, .data⟩ (by simp) rfl) rfl
              have q56 : a0.tmps[56]?.getD undef = .int .i64 (fr : Int) := hV 3 56 (hpre ⟨3, .data⟩ (by simp) rfl) rfl
              have hJ2 := Lib.hid hJ; have hk := Lib.hid hK; clear hsame hpre hK hV hJ hd; go_simp; exact hk.out _ _ (fun s hs => by cases hs; rfl) (hJ2.out.more (by decide) (by decide))
            · have q73 : a0.tmps[73]?.getD undef = .pointer (some ⟨g, off + fr, none⟩) := hV 20 73 (hpre ⟨20, .data⟩ (by simp) rfl) rfl
              have q66 : a0.tmps[66]?.getD undef = .int .u64 (d1[fk]! : Int) := hV 13 66 (hpre ⟨13, .data⟩ (by simp) rfl) rfl
              have hk : ∀ x', (SwJ w5.drew ⟨g, off + fr, none⟩ ⟨g, off + fk, none⟩ (.int .u64 (d1[fk]! : Int)) (.int .u64 (d1[fr]! : Int)) 21 23 13 19) (also dn 21) x' → K a0 x' := fun x' h2 => hK undef x' (fun s hs => by cases hs) h2
              have hJ2 := Lib.hid (hJ.st1 (by decide) hd (hpre ⟨13, .phase⟩ (by simp) rfl) (hpre ⟨19, .phase⟩ (by simp) rfl))
              have hxX : x = w5.drew := hJ.w0 hd
              have c0 : x.cell? ⟨g, off + fr, none⟩ = some (.int .u64 (d1[fr]! : Int)) := by rw [hxX]; exact (Hnum5.out _ (by rw [Hsz.out]; exact hfrn)).1
              have z0 : x.frozen? ⟨g, off + fr, none⟩ = false := by rw [hxX]; exact (Hnum5.out _ (by rw [Hsz.out]; exact hfrn)).2
              clear hsame hpre hK hV hJ hd hxX
              go_simp
              exact hk _ hJ2.out
            · have q57 : a0.tmps[57]?.getD undef = .slice (some ⟨g, off, none⟩) n cap := hV 4 57 (hpre ⟨4, .data⟩ (by simp) rfl) rfl
              have q60 : a0.tmps[60]?.getD undef = .int .i64 (fk : Int) := hV 7 60 (hpre ⟨7, .data⟩ (by simp) rfl) rfl
              have hJ2 := Lib.hid hJ; have hk := Lib.hid hK; clear hsame hpre hK hV hJ hd; go_simp; exact hk.out _ _ (fun s hs => by cases hs; rfl) (hJ2.out.more (by decide) (by decide))
            · have q74 : a0.tmps[74]?.getD undef = .pointer (some ⟨g, off + fk, none⟩) := hV 22 74 (hpre ⟨22, .data⟩ (by simp) rfl) rfl
              have q72 : a0.tmps[72]?.getD undef = .int .u64 (d1[fr]! : Int) := hV 19 72 (hpre ⟨19, .data⟩ (by simp) rfl) rfl
              have hk : ∀ x', (SwJ w5.drew ⟨g, off + fr, none⟩ ⟨g, off + fk, none⟩ (.int .u64 (d1[fk]! : Int)) (.int .u64 (d1[fr]! : Int)) 21 23 13 19) (also dn 23) x' → K a0 x' := fun x' h2 => hK undef x' (fun s hs => by cases hs) h2
              have hJ2 := Lib.hid (hJ.st2 (by decide) hd (hpre ⟨21, .chain⟩ (by simp) rfl))
              have hxX := hJ.w1 (hpre ⟨21, .chain⟩ (by simp) rfl) hd
              obtain ⟨u0, c0⟩ : ∃ u, x.cell? ⟨g, off + fk, none⟩ = some u := by rw [hxX]; exact cell_some _ _ _ _ _ (Hnum5.out _ (by rw [Hsz.out]; exact hfrn)).1 (Hnum5.out _ (by rw [Hsz.out]; exact hfcn)).1
              have z0 : x.frozen? ⟨g, off + fk, none⟩ = false := by rw [hxX, World.frozen?_setCell]; exact (Hnum5.out _ (by rw [Hsz.out]; exact hfcn)).2
              clear hsame hpre hK hV hJ hd hxX
              go_simp
              exact hk _ hJ2.out
          · intro dn x hall hJ
            have hx := hJ.w2 (hall 23 (by decide))
            have h44 := NumsAt.grow (w' := w5.drew) Hnum5.out hgr ((Below.refl _ _).drew)
            have HN5 := Lib.hid (show NumsAt x g off (Sort.swp d1 fr fk) by rw [hx]; exact h44.swp (by rw [Hsz.out]; exact hfrn) (by rw [Hsz.out]; exact hfcn))
            have hbut6 : ButS g w x := by
              rw [hx]
              exact ((hbut5.trans (butS_below ((Below.refl w5.heap.size w5).drew) g)).trans (butS_set _ _ _ _)).trans (butS_set _ _ _ _)
            clear hx h44 hJ hall
            clear w9 w10 w13 w14
            simp only [putAct]
            go_wp2_with fail
            go_roundw
            case rel => exact ⟨k, Sort.swp d1 fr fk, by omega, by go_num, HN5.out, by rw [swp_size]; exact Hsz.out, Hfin.out, hbut6⟩
            case measure => simp [intOf]; omega
      · have hfk1n2 : True := trivial
        refine wp_region_grow (by kernel_rfl) (by kernel_rfl) ?_
        repeat (first | go_big_quiet_step ((go_at_call 104; with_reducible exact calls_grow (KL.out _))) | quiet_step ((go_at_call 104; with_reducible exact calls_grow (KL.out _))))
        refine wpQuiet_nil ?_
        rintro w3 ⟨⟨_, hb3⟩, rfl⟩
        have hgr3 := Nat.lt_of_lt_of_le hgr hb3.size
        have Hnum3 := Lib.hid (Hnum.out.grow hgr hb3)
        have hbut3 := hbut.trans (butS_below hb3 g)
        have Hs := Lib.hid (Hstep.out k rfl)
        clear w5 w6 w7 w8 w11 w12
        clear ck KL Hstep e3 e4
        have hrc : r < k := hrk
        have hfc : first + k = fk := Hfk.out.symm
        have hfcn : fk < n := hfkn
        have hchi : k < hi := by have := of_decide_eq_false e2; omega
        have hfrr : first + r = fr := Hfr.out.symm
        have Hfc := Lib.hid hfc
        have Hfrr := Lib.hid hfrr
        obtain ⟨l2, hl2⟩ : ∃ b, b = lt64 d1[fr]! d1[fk]! := ⟨_, rfl⟩
        have kl := fun y : Ext w3 => less_any d1[fr]! d1[fk]! y.now
        simp only [← hl2] at kl
        have KL := Lib.hid kl
        have Hl2 := Lib.hid hl2
        have cr := fun y : Ext w3 => (Hnum3.out.grow hgr3 y.out fr (by rw [Hsz.out]; exact hfrn)).1
        have cc := fun y : Ext w3 => (Hnum3.out.grow hgr3 y.out fk (by rw [Hsz.out]; exact hfcn)).1
        clear kl hl2 hfc hfrr hfk1n2
        obtain ⟨w11, w12⟩ := W11.out
        go_upto_region 5 with fail
        clear w11 w12
        obtain ⟨w9, w10⟩ := W9.out
        obtain ⟨w13, w14⟩ := W5.out
        cases l2
        all_goals refine wp_region_grow (by kernel_rfl) (by kernel_rfl) ?_
        all_goals repeat (first | go_big_quiet_step ((go_at_call 104; with_reducible exact calls_grow (KL.out _))) | quiet_step ((go_at_call 104; with_reducible exact calls_grow (KL.out _))))
        all_goals refine wpQuiet_nil ?_
        all_goals rintro w5 ⟨⟨_, hb5⟩, rfl⟩
        all_goals have hgr5 := Nat.lt_of_lt_of_le hgr3 hb5.size
        all_goals have Hnum5 := Lib.hid (Hnum3.out.grow hgr3 hb5)
        all_goals have hbut5 := hbut3.trans (butS_below hb5 g)
        all_goals clear cr cc
        · have hs := Hs.out
          rw [Hfc.out, Hfrr.out, ← Hl2.out, if_neg (by simp)] at hs
          have Hfin := Lib.hid (hs.symm.trans Heq.out)
          clear hs
          go_wp2_with fail
          refine bodyPost_ret (v := .tuple #[]) (results_none rfl _ _ _) rfl ⟨rfl, ?_, ?_, hbut5⟩
          · rw [← Hfin.out]; exact Hnum5.out
          · rw [← Hfin.out]; exact Hsz.out
        · have hs := Hs.out
          rw [Hfc.out, Hfrr.out, ← Hl2.out, if_pos rfl] at hs
          have Hfin := Lib.hid (hs.symm.trans Heq.out)
          clear hs
          go_upto_region 6 with fail
          have hgr := hgr5
          refine wp_region_fixed (fun s => match s with | 53 => .slice (some ⟨g, off, none⟩) n cap | 54 => .int .i64 (first : Int) | 55 => .int .i64 (r : Int) | 56 => .int .i64 (fr : Int) | 57 => .slice (some ⟨g, off, none⟩) n cap | 58 => .int .i64 (first : Int) | 59 => .int .i64 (k : Int) | 60 => .int .i64 (fk : Int) | 61 => .slice (some ⟨g, off, none⟩) n cap | 62 => .int .i64 (first : Int) | 63 => .int .i64 (k : Int) | 64 => .int .i64 (fk : Int) | 65 => .pointer (some ⟨g, off + fk, none⟩) | 66 => .int .u64 (d1[fk]! : Int) | 67 => .slice (some ⟨g, off, none⟩) n cap | 68 => .int .i64 (first : Int) | 69 => .int .i64 (r : Int) | 70 => .int .i64 (fr : Int) | 71 => .pointer (some ⟨g, off + fr, none⟩) | 72 => .int .u64 (d1[fr]! : Int) | 73 => .pointer (some ⟨g, off + fr, none⟩) | 74 => .pointer (some ⟨g, off + fk, none⟩) | _ => undef) (SwJ w5.drew ⟨g, off + fr, none⟩ ⟨g, off + fk, none⟩ (.int .u64 (d1[fk]! : Int)) (.int .u64 (d1[fr]! : Int)) 21 23 13 19) 76 [53, 54, 55, 56, 57, 58, 59, 60, 61, 62, 63, 64, 65, 66, 67, 68, 69, 70, 71, 72, 73, 74] (by kernel_rfl) (by kernel_rfl) (by kernel_rfl) (by kernel_rfl) rfl SwJ.start ?_ ?_
          · intro i0 o0 hi0 dn a0 x hJ hd hpre hsame hV K hK
            have hlt0 := (Array.getElem?_eq_some_iff.1 hi0).1
            rcases many24 hlt0 rfl with rfl | rfl | rfl | rfl | rfl | rfl | rfl | rfl | rfl | rfl | rfl | rfl | rfl | rfl | rfl | rfl | rfl | rfl | rfl | rfl | rfl | rfl | rfl | rfl
            all_goals (have ho0 := Option.some.inj hi0; subst ho0; clear hi0 hlt0)
            · have q0 : a0.tmps[0]?.getD undef = .slice (some ⟨g, off, none⟩) n cap := hsame 0 (slot_free (by decide +kernel))
              have hJ2 := Lib.hid hJ; have hk := Lib.hid hK; clear hsame hpre hK hV hJ hd; go_simp; exact hk.out _ _ (fun s hs => by cases hs; rfl) (hJ2.out.more (by decide) (by decide))
            · have q3 : a0.tmps[3]?.getD undef = .int .i64 (first : Int) := hsame 3 (slot_free (by decide +kernel))
              have hJ2 := Lib.hid hJ; have hk := Lib.hid hK; clear hsame hpre hK hV hJ hd; go_simp; exact hk.out _ _ (fun s hs => by cases hs; rfl) (hJ2.out.more (by decide) (by decide))
            · have q8 : a0.tmps[8]?.getD undef = .int .i64 (r : Int) := hsame 8 (slot_free (by decide +kernel))
              have hJ2 := Lib.hid hJ; have hk := Lib.hid hK; clear hsame hpre hK hV hJ hd; go_simp; exact hk.out _ _ (fun s hs => by cases hs; rfl) (hJ2.out.more (by decide) (by decide))
            · have q54 : a0.tmps[54]?.getD undef = .int .i64 (first : Int) := hV 1 54 (hpre ⟨1, .data⟩ (by simp) rfl) rfl
              have q55 : a0.tmps[55]?.getD undef = .int .i64 (r : Int) := hV 2 55 (hpre ⟨2, .data⟩ (by simp) rfl) rfl
              have hJ2 := Lib.hid hJ; have hk := Lib.hid hK; clear hsame hpre hK hV hJ hd; go_simp; exact hk.out _ _ (fun s hs => by cases hs; rfl) (hJ2.out.more (by decide) (by decide))
            · have q0 : a0.tmps[0]?.getD undef = .slice (some ⟨g, off, none⟩) n cap := hsame 0 (slot_free (by decide +kernel))
              have hJ2 := Lib.hid hJ; have hk := Lib.hid hK; clear hsame hpre hK hV hJ hd; go_simp; exact hk.out _ _ (fun s hs => by cases hs; rfl) (hJ2.out.more (by decide) (by decide))
            · have q3 : a0.tmps[3]?.getD undef = .int .i64 (first : Int) := hsame 3 (slot_free (by decide +kernel))
              have hJ2 := Lib.hid hJ; have hk := Lib.hid hK; clear hsame hpre hK hV hJ hd; go_simp; exact hk.out _ _ (fun s hs => by cases hs; rfl) (hJ2.out.more (by decide) (by decide))
            · have q9 : a0.tmps[9]?.getD undef = .int .i64 (k : Int) := hsame 9 (slot_free (by decide +kernel))
              have hJ2 := Lib.hid hJ; have hk := Lib.hid hK; clear hsame hpre hK hV hJ hd; go_simp; exact hk.out _ _ (fun s hs => by cases hs; rfl) (hJ2.out.more (by decide) (by decide))
            · have q58 : a0.tmps[58]?.getD undef = .int .i64 (first : Int) := hV 5 58 (hpre ⟨5, .data⟩ (by simp) rfl) rfl
              have q59 : a0.tmps[59]?.getD undef = .int .i64 (k : Int) := hV 6 59 (hpre ⟨6, .data⟩ (by simp) rfl) rfl
              have hJ2 := Lib.hid hJ; have hk := Lib.hid hK; clear hsame hpre hK hV hJ hd; go_simp; exact hk.out _ _ (fun s hs => by cases hs; rfl) (hJ2.out.more (by decide) (by decide))
            · have q0 : a0.tmps[0]?.getD undef = .slice (some ⟨g, off, none⟩) n cap := hsame 0 (slot_free (by decide +kernel))
              have hJ2 := Lib.hid hJ; have hk := Lib.hid hK; clear hsame hpre hK hV hJ hd; go_simp; exact hk.out _ _ (fun s hs => by cases hs; rfl) (hJ2.out.more (by decide) (by decide))
            · have q3 : a0.tmps[3]?.getD undef = .int .i64 (first : Int) := hsame 3 (slot_free (by decide +kernel))
              have hJ2 := Lib.hid hJ; have hk := Lib.hid hK; clear hsame hpre hK hV hJ hd; go_simp; exact hk.out _ _ (fun s hs => by cases hs; rfl) (hJ2.out.more (by decide) (by decide))
            · have q9 : a0.tmps[9]?.getD undef = .int .i64 (k : Int) := hsame 9 (slot_free (by decide +kernel))
              have hJ2 := Lib.hid hJ; have hk := Lib.hid hK; clear hsame hpre hK hV hJ hd; go_simp; exact hk.out _ _ (fun s hs => by cases hs; rfl) (hJ2.out.more (by decide) (by decide))
            · have q62 : a0.tmps[62]?.getD undef = .int .i64 (first : Int) := hV 9 62 (hpre ⟨9, .data⟩ (by simp) rfl) rfl
              have q63 : a0.tmps[63]?.getD undef = .int .i64 (k : Int) := hV 10 63 (hpre ⟨10, .data⟩ (by simp) rfl) rfl
              have hJ2 := Lib.hid hJ; have hk := Lib.hid hK; clear hsame hpre hK hV hJ hd; go_simp; exact hk.out _ _ (fun s hs => by cases hs; rfl) (hJ2.out.more (by decide) (by decide))
            · have q61 : a0.tmps[61]?.getD undef = .slice (some ⟨g, off, none⟩) n cap := hV 8 61 (hpre ⟨8, .data⟩ (by simp) rfl) rfl
              have q64 : a0.tmps[64]?.getD undef = .int .i64 (fk : Int) := hV 11 64 (hpre ⟨11, .data⟩ (by simp) rfl) rfl
              have hJ2 := Lib.hid hJ; have hk := Lib.hid hK; clear hsame hpre hK hV hJ hd; go_simp; exact hk.out _ _ (fun s hs => by cases hs; rfl) (hJ2.out.more (by decide) (by decide))
            · have q65 : a0.tmps[65]?.getD undef = .pointer (some ⟨g, off + fk, none⟩) := hV 12 65 (hpre ⟨12, .data⟩ (by simp) rfl) rfl
              have hxX := hJ.load (.inl hd)
              have c0 : x.cell? ⟨g, off + fk, none⟩ = some (.int .u64 (d1[fk]! : Int)) := by rw [hxX]; exact (Hnum5.out _ (by rw [Hsz.out]; exact hfcn)).1
              clear hxX
              have hJ2 := Lib.hid hJ; have hk := Lib.hid hK; clear hsame hpre hK hV hJ hd; go_simp; exact hk.out _ _ (fun s hs => by cases hs; rfl) (hJ2.out.more (by decide) (by decide))
            · have q0 : a0.tmps[0]?.getD undef = .slice (some ⟨g, off, none⟩) n cap := hsame 0 (slot_free (by decide +kernel))
              have hJ2 := Lib.hid hJ; have hk := Lib.hid hK; clear hsame hpre hK hV hJ hd; go_simp; exact hk.out _ _ (fun s hs => by cases hs; rfl) (hJ2.out.more (by decide) (by decide))
            · have q3 : a0.tmps[3]?.getD undef = .int .i64 (first : Int) := hsame 3 (slot_free (by decide +kernel))
              have hJ2 := Lib.hid hJ; have hk := Lib.hid hK; clear hsame hpre hK hV hJ hd; go_simp; exact hk.out _ _ (fun s hs => by cases hs; rfl) (hJ2.out.more (by decide) (by decide))
            · have q8 : a0.tmps[8]?.getD undef = .int .i64 (r : Int) := hsame 8 (slot_free (by decide +kernel))
              have hJ2 := Lib.hid hJ; have hk := Lib.hid hK; clear hsame hpre hK hV hJ hd; go_simp; exact hk.out _ _ (fun s hs => by cases hs; rfl) (hJ2.out.more (by decide) (by decide))
            · have q68 : a0.tmps[68]?.getD undef = .int .i64 (first : Int) := hV 15 68 (hpre ⟨15, .data⟩ (by simp) rfl) rfl
              have q69 : a0.tmps[69]?.getD undef = .int .i64 (r : Int) := hV 16 69 (hpre ⟨16, .data⟩ (by simp) rfl) rfl
              have hJ2 := Lib.hid hJ; have hk := Lib.hid hK; clear hsame hpre hK hV hJ hd; go_simp; exact hk.out _ _ (fun s hs => by cases hs; rfl) (hJ2.out.more (by decide) (by decide))
            · have q67 : a0.tmps[67]?.getD undef = .slice (some ⟨g, off, none⟩) n cap := hV 14 67 (hpre ⟨14, .data⟩ (by simp) rfl) rfl
              have q70 : a0.tmps[70]?.getD undef = .int .i64 (fr : Int) := hV 17 70 (hpre ⟨17, .data⟩ (by simp) rfl) rfl
              have hJ2 := Lib.hid hJ; have hk := Lib.hid hK; clear hsame hpre hK hV hJ hd; go_simp; exact hk.out _ _ (fun s hs => by cases hs; rfl) (hJ2.out.more (by decide) (by decide))
            · have q71 : a0.tmps[71]?.getD undef = .pointer (some ⟨g, off + fr, none⟩) := hV 18 71 (hpre ⟨18, .data⟩ (by simp) rfl) rfl
              have hxX := hJ.load (.inr hd)
              have c0 : x.cell? ⟨g, off + fr, none⟩ = some (.int .u64 (d1[fr]! : Int)) := by rw [hxX]; exact (Hnum5.out _ (by rw [Hsz.out]; exact hfrn)).1
              clear hxX
              have hJ2 := Lib.hid hJ; have hk := Lib.hid hK; clear hsame hpre hK hV hJ hd; go_simp; exact hk.out _ _ (fun s hs => by cases hs; rfl) (hJ2.out.more (by decide) (by decide))
            · have q53 : a0.tmps[53]?.getD undef = .slice (some ⟨g, off, none⟩) n cap := hV 0 53 (hpre ⟨0, .data⟩ (by simp) rfl) rfl
              have q56 : a0.tmps[56]?.getD undef = .int .i64 (fr : Int) := hV 3 56 (hpre ⟨3, .data⟩ (by simp) rfl) rfl
              have hJ2 := Lib.hid hJ; have hk := Lib.hid hK; clear hsame hpre hK hV hJ hd; go_simp; exact hk.out _ _ (fun s hs => by cases hs; rfl) (hJ2.out.more (by decide) (by decide))
            · have q73 : a0.tmps[73]?.getD undef = .pointer (some ⟨g, off + fr, none⟩) := hV 20 73 (hpre ⟨20, .data⟩ (by simp) rfl) rfl
              have q66 : a0.tmps[66]?.getD undef = .int .u64 (d1[fk]! : Int) := hV 13 66 (hpre ⟨13, .data⟩ (by simp) rfl) rfl
              have hk : ∀ x', (SwJ w5.drew ⟨g, off + fr, none⟩ ⟨g, off + fk, none⟩ (.int .u64 (d1[fk]! : Int)) (.int .u64 (d1[fr]! : Int)) 21 23 13 19) (also dn 21) x' → K a0 x' := fun x' h2 => hK undef x' (fun s hs => by cases hs) h2
              have hJ2 := Lib.hid (hJ.st1 (by decide) hd (hpre ⟨13, .phase⟩ (by simp) rfl) (hpre ⟨19, .phase⟩ (by simp) rfl))
              have hxX : x = w5.drew := hJ.w0 hd
              have c0 : x.cell? ⟨g, off + fr, none⟩ = some (.int .u64 (d1[fr]! : Int)) := by rw [hxX]; exact (Hnum5.out _ (by rw [Hsz.out]; exact hfrn)).1
              have z0 : x.frozen? ⟨g, off + fr, none⟩ = false := by rw [hxX]; exact (Hnum5.out _ (by rw [Hsz.out]; exact hfrn)).2
              clear hsame hpre hK hV hJ hd hxX
              go_simp
              exact hk _ hJ2.out
            · have q57 : a0.tmps[57]?.getD undef = .slice (some ⟨g, off, none⟩) n cap := hV 4 57 (hpre ⟨4, .data⟩ (by simp) rfl) rfl
              have q60 : a0.tmps[60]?.getD undef = .int .i64 (fk : Int) := hV 7 60 (hpre ⟨7, .data⟩ (by simp) rfl) rfl
              have hJ2 := Lib.hid hJ; have hk := Lib.hid hK; clear hsame hpre hK hV hJ hd; go_simp; exact hk.out _ _ (fun s hs => by cases hs; rfl) (hJ2.out.more (by decide) (by decide))
            · have q74 : a0.tmps[74]?.getD undef = .pointer (some ⟨g, off + fk, none⟩) := hV 22 74 (hpre ⟨22, .data⟩ (by simp) rfl) rfl
              have q72 : a0.tmps[72]?.getD undef = .int .u64 (d1[fr]! : Int) := hV 19 72 (hpre ⟨19, .data⟩ (by simp) rfl) rfl
              have hk : ∀ x', (SwJ w5.drew ⟨g, off + fr, none⟩ ⟨g, off + fk, none⟩ (.int .u64 (d1[fk]! : Int)) (.int .u64 (d1[fr]! : Int)) 21 23 13 19) (also dn 23) x' → K a0 x' := fun x' h2 => hK undef x' (fun s hs => by cases hs) h2
              have hJ2 := Lib.hid (hJ.st2 (by decide) hd (hpre ⟨21, .chain⟩ (by simp) rfl))
              have hxX := hJ.w1 (hpre ⟨21, .chain⟩ (by simp) rfl) hd
              obtain ⟨u0, c0⟩ : ∃ u, x.cell? ⟨g, off + fk, none⟩ = some u := by rw [hxX]; exact cell_some _ _ _ _ _ (Hnum5.out _ (by rw [Hsz.out]; exact hfrn)).1 (Hnum5.out _ (by rw [Hsz.out]; exact hfcn)).1
              have z0 : x.frozen? ⟨g, off + fk, none⟩ = false := by rw [hxX, World.frozen?_setCell]; exact (Hnum5.out _ (by rw [Hsz.out]; exact hfcn)).2
              clear hsame hpre hK hV hJ hd hxX
              go_simp
              exact hk _ hJ2.out
          · intro dn x hall hJ
            have hx := hJ.w2 (hall 23 (by decide))
            have h44 := NumsAt.grow (w' := w5.drew) Hnum5.out hgr ((Below.refl _ _).drew)
            have HN5 := Lib.hid (show NumsAt x g off (Sort.swp d1 fr fk) by rw [hx]; exact h44.swp (by rw [Hsz.out]; exact hfrn) (by rw [Hsz.out]; exact hfcn))
            have hbut6 : ButS g w x := by
              rw [hx]
              exact ((hbut5.trans (butS_below ((Below.refl w5.heap.size w5).drew) g)).trans (butS_set _ _ _ _)).trans (butS_set _ _ _ _)
            clear hx h44 hJ hall
            clear w9 w10 w13 w14
            simp only [putAct]
            go_wp2_with fail
            go_roundw
            case rel => exact ⟨k, Sort.swp d1 fr fk, by omega, by go_num, HN5.out, by rw [swp_size]; exact Hsz.out, Hfin.out, hbut6⟩
            case measure => simp [intOf]; omega
      · have ck1 := fun y : Ext wr => (Hnum.out.grow hgr y.out fk1 (by rw [Hsz.out]; exact Hfk1n.out (by trivial))).1
        have hfk1n2 : fk1 < n := Hfk1n.out (by trivial)
        refine wp_region_grow (by kernel_rfl) (by kernel_rfl) ?_
        repeat (first | go_big_quiet_step ((go_at_call 104; with_reducible exact calls_grow (KL.out _))) | quiet_step ((go_at_call 104; with_reducible exact calls_grow (KL.out _))))
        refine wpQuiet_nil ?_
        rintro w3 ⟨⟨_, hb3⟩, rfl⟩
        have hgr3 := Nat.lt_of_lt_of_le hgr hb3.size
        have Hnum3 := Lib.hid (Hnum.out.grow hgr hb3)
        have hbut3 := hbut.trans (butS_below hb3 g)
        have Hs := Lib.hid (Hstep.out k rfl)
        clear w5 w6 w7 w8 w11 w12
        clear ck KL Hstep e3 e4 ck1
        have hrc : r < k := hrk
        have hfc : first + k = fk := Hfk.out.symm
        have hfcn : fk < n := hfkn
        have hchi : k < hi := by have := of_decide_eq_false e2; omega
        have hfrr : first + r = fr := Hfr.out.symm
        have Hfc := Lib.hid hfc
        have Hfrr := Lib.hid hfrr
        obtain ⟨l2, hl2⟩ : ∃ b, b = lt64 d1[fr]! d1[fk]! := ⟨_, rfl⟩
        have kl := fun y : Ext w3 => less_any d1[fr]! d1[fk]! y.now
        simp only [← hl2] at kl
        have KL := Lib.hid kl
        have Hl2 := Lib.hid hl2
        have cr := fun y : Ext w3 => (Hnum3.out.grow hgr3 y.out fr (by rw [Hsz.out]; exact hfrn)).1
        have cc := fun y : Ext w3 => (Hnum3.out.grow hgr3 y.out fk (by rw [Hsz.out]; exact hfcn)).1
        clear kl hl2 hfc hfrr hfk1n2
        obtain ⟨w11, w12⟩ := W11.out
        go_upto_region 5 with fail
        clear w11 w12
        obtain ⟨w9, w10⟩ := W9.out
        obtain ⟨w13, w14⟩ := W5.out
        cases l2
        all_goals refine wp_region_grow (by kernel_rfl) (by kernel_rfl) ?_
        all_goals repeat (first | go_big_quiet_step ((go_at_call 104; with_reducible exact calls_grow (KL.out _))) | quiet_step ((go_at_call 104; with_reducible exact calls_grow (KL.out _))))
        all_goals refine wpQuiet_nil ?_
        all_goals rintro w5 ⟨⟨_, hb5⟩, rfl⟩
        all_goals have hgr5 := Nat.lt_of_lt_of_le hgr3 hb5.size
        all_goals have Hnum5 := Lib.hid (Hnum3.out.grow hgr3 hb5)
        all_goals have hbut5 := hbut3.trans (butS_below hb5 g)
        all_goals clear cr cc
        · have hs := Hs.out
          rw [Hfc.out, Hfrr.out, ← Hl2.out, if_neg (by simp)] at hs
          have Hfin := Lib.hid (hs.symm.trans Heq.out)
          clear hs
          go_wp2_with fail
          refine bodyPost_ret (v := .tuple #[]) (results_none rfl _ _ _) rfl ⟨rfl, ?_, ?_, hbut5⟩
          · rw [← Hfin.out]; exact Hnum5.out
          · rw [← Hfin.out]; exact Hsz.out
        · have hs := Hs.out
          rw [Hfc.out, Hfrr.out, ← Hl2.out, if_pos rfl] at hs
          have Hfin := Lib.hid (hs.symm.trans Heq.out)
          clear hs
          go_upto_region 6 with fail
          have hgr := hgr5
          refine wp_region_fixed (fun s => match s with | 53 => .slice (some ⟨g, off, none⟩) n cap | 54 => .int .i64 (first : Int) | 55 => .int .i64 (r : Int) | 56 => .int .i64 (fr : Int) | 57 => .slice (some ⟨g, off, none⟩) n cap | 58 => .int .i64 (first : Int) | 59 => .int .i64 (k : Int) | 60 => .int .i64 (fk : Int) | 61 => .slice (some ⟨g, off, none⟩) n cap | 62 => .int .i64 (first : Int) | 63 => .int .i64 (k : Int) | 64 => .int .i64 (fk : Int) | 65 => .pointer (some ⟨g, off + fk, none⟩) | 66 => .int .u64 (d1[fk]! : Int) | 67 => .slice (some ⟨g, off, none⟩) n cap | 68 => .int .i64 (first : Int) | 69 => .int .i64 (r : Int) | 70 => .int .i64 (fr : Int) | 71 => .pointer (some ⟨g, off + fr, none⟩) | 72 => .int .u64 (d1[fr]! : Int) | 73 => .pointer (some ⟨g, off + fr, none⟩) | 74 => .pointer (some ⟨g, off + fk, none⟩) | _ => undef) (SwJ w5.drew ⟨g, off + fr, none⟩ ⟨g, off + fk, none⟩ (.int .u64 (d1[fk]! : Int)) (.int .u64 (d1[fr]! : Int)) 21 23 13 19) 76 [53, 54, 55, 56, 57, 58, 59, 60, 61, 62, 63, 64, 65, 66, 67, 68, 69, 70, 71, 72, 73, 74] (by kernel_rfl) (by kernel_rfl) (by kernel_rfl) (by kernel_rfl) rfl SwJ.start ?_ ?_
          · intro i0 o0 hi0 dn a0 x hJ hd hpre hsame hV K hK
            have hlt0 := (Array.getElem?_eq_some_iff.1 hi0).1
            rcases many24 hlt0 rfl with rfl | rfl | rfl | rfl | rfl | rfl | rfl | rfl | rfl | rfl | rfl | rfl | rfl | rfl | rfl | rfl | rfl | rfl | rfl | rfl | rfl | rfl | rfl | rfl
            all_goals (have ho0 := Option.some.inj hi0; subst ho0; clear hi0 hlt0)
            · have q0 : a0.tmps[0]?.getD undef = .slice (some ⟨g, off, none⟩) n cap := hsame 0 (slot_free (by decide +kernel))
              have hJ2 := Lib.hid hJ; have hk := Lib.hid hK; clear hsame hpre hK hV hJ hd; go_simp; exact hk.out _ _ (fun s hs => by cases hs; rfl) (hJ2.out.more (by decide) (by decide))
            · have q3 : a0.tmps[3]?.getD undef = .int .i64 (first : Int) := hsame 3 (slot_free (by decide +kernel))
              have hJ2 := Lib.hid hJ; have hk := Lib.hid hK; clear hsame hpre hK hV hJ hd; go_simp; exact hk.out _ _ (fun s hs => by cases hs; rfl) (hJ2.out.more (by decide) (by decide))
            · have q8 : a0.tmps[8]?.getD undef = .int .i64 (r : Int) := hsame 8 (slot_free (by decide +kernel))
              have hJ2 := Lib.hid hJ; have hk := Lib.hid hK; clear hsame hpre hK hV hJ hd; go_simp; exact hk.out _ _ (fun s hs => by cases hs; rfl) (hJ2.out.more (by decide) (by decide))
            · have q54 : a0.tmps[54]?.getD undef = .int .i64 (first : Int) := hV 1 54 (hpre ⟨1, .data⟩ (by simp) rfl) rfl
              have q55 : a0.tmps[55]?.getD undef = .int .i64 (r : Int) := hV 2 55 (hpre ⟨2, .data⟩ (by simp) rfl) rfl
              have hJ2 := Lib.hid hJ; have hk := Lib.hid hK; clear hsame hpre hK hV hJ hd; go_simp; exact hk.out _ _ (fun s hs => by cases hs; rfl) (hJ2.out.more (by decide) (by decide))
            · have q0 : a0.tmps[0]?.getD undef = .slice (some ⟨g, off, none⟩) n cap := hsame 0 (slot_free (by decide +kernel))
              have hJ2 := Lib.hid hJ; have hk := Lib.hid hK; clear hsame hpre hK hV hJ hd; go_simp; exact hk.out _ _ (fun s hs => by cases hs; rfl) (hJ2.out.more (by decide) (by decide))
            · have q3 : a0.tmps[3]?.getD undef = .int .i64 (first : Int) := hsame 3 (slot_free (by decide +kernel))
              have hJ2 := Lib.hid hJ; have hk := Lib.hid hK; clear hsame hpre hK hV hJ hd; go_simp; exact hk.out _ _ (fun s hs => by cases hs; rfl) (hJ2.out.more (by decide) (by decide))
            · have q9 : a0.tmps[9]?.getD undef = .int .i64 (k : Int) := hsame 9 (slot_free (by decide +kernel))
              have hJ2 := Lib.hid hJ; have hk := Lib.hid hK; clear hsame hpre hK hV hJ hd; go_simp; exact hk.out _ _ (fun s hs => by cases hs; rfl) (hJ2.out.more (by decide) (by decide))
            · have q58 : a0.tmps[58]?.getD undef = .int .i64 (first : Int) := hV 5 58 (hpre ⟨5, .data⟩ (by simp) rfl) rfl
              have q59 : a0.tmps[59]?.getD undef = .int .i64 (k : Int) := hV 6 59 (hpre ⟨6, .data⟩ (by simp) rfl) rfl
              have hJ2 := Lib.hid hJ; have hk := Lib.hid hK; clear hsame hpre hK hV hJ hd; go_simp; exact hk.out _ _ (fun s hs => by cases hs; rfl) (hJ2.out.more (by decide) (by decide))
            · have q0 : a0.tmps[0]?.getD undef = .slice (some ⟨g, off, none⟩) n cap := hsame 0 (slot_free (by decide +kernel))
              have hJ2 := Lib.hid hJ; have hk := Lib.hid hK; clear hsame hpre hK hV hJ hd; go_simp; exact hk.out _ _ (fun s hs => by cases hs; rfl) (hJ2.out.more (by decide) (by decide))
            · have q3 : a0.tmps[3]?.getD undef = .int .i64 (first : Int) := hsame 3 (slot_free (by decide +kernel))
              have hJ2 := Lib.hid hJ; have hk := Lib.hid hK; clear hsame hpre hK hV hJ hd; go_simp; exact hk.out _ _ (fun s hs => by cases hs; rfl) (hJ2.out.more (by decide) (by decide))
            · have q9 : a0.tmps[9]?.getD undef = .int .i64 (k : Int) := hsame 9 (slot_free (by decide +kernel))
              have hJ2 := Lib.hid hJ; have hk := Lib.hid hK; clear hsame hpre hK hV hJ hd; go_simp; exact hk.out _ _ (fun s hs => by cases hs; rfl) (hJ2.out.more (by decide) (by decide))
            · have q62 : a0.tmps[62]?.getD undef = .int .i64 (first : Int) := hV 9 62 (hpre ⟨9, .data⟩ (by simp) rfl) rfl
              have q63 : a0.tmps[63]?.getD undef = .int .i64 (k : Int) := hV 10 63 (hpre ⟨10, .data⟩ (by simp) rfl) rfl
              have hJ2 := Lib.hid hJ; have hk := Lib.hid hK; clear hsame hpre hK hV hJ hd; go_simp; exact hk.out _ _ (fun s hs => by cases hs; rfl) (hJ2.out.more (by decide) (by decide))
            · have q61 : a0.tmps[61]?.getD undef = .slice (some ⟨g, off, none⟩) n cap := hV 8 61 (hpre ⟨8, .data⟩ (by simp) rfl) rfl
              have q64 : a0.tmps[64]?.getD undef = .int .i64 (fk : Int) := hV 11 64 (hpre ⟨11, .data⟩ (by simp) rfl) rfl
              have hJ2 := Lib.hid hJ; have hk := Lib.hid hK; clear hsame hpre hK hV hJ hd; go_simp; exact hk.out _ _ (fun s hs => by cases hs; rfl) (hJ2.out.more (by decide) (by decide))
            · have q65 : a0.tmps[65]?.getD undef = .pointer (some ⟨g, off + fk, none⟩) := hV 12 65 (hpre ⟨12, .data⟩ (by simp) rfl) rfl
              have hxX := hJ.load (.inl hd)
              have c0 : x.cell? ⟨g, off + fk, none⟩ = some (.int .u64 (d1[fk]! : Int)) := by rw [hxX]; exact (Hnum5.out _ (by rw [Hsz.out]; exact hfcn)).1
              clear hxX
              have hJ2 := Lib.hid hJ; have hk := Lib.hid hK; clear hsame hpre hK hV hJ hd; go_simp; exact hk.out _ _ (fun s hs => by cases hs; rfl) (hJ2.out.more (by decide) (by decide))
            · have q0 : a0.tmps[0]?.getD undef = .slice (some ⟨g, off, none⟩) n cap := hsame 0 (slot_free (by decide +kernel))
              have hJ2 := Lib.hid hJ; have hk := Lib.hid hK; clear hsame hpre hK hV hJ hd; go_simp; exact hk.out _ _ (fun s hs => by cases hs; rfl) (hJ2.out.more (by decide) (by decide))
            · have q3 : a0.tmps[3]?.getD undef = .int .i64 (first : Int) := hsame 3 (slot_free (by decide +kernel))
              have hJ2 := Lib.hid hJ; have hk := Lib.hid hK; clear hsame hpre hK hV hJ hd; go_simp; exact hk.out _ _ (fun s hs => by cases hs; rfl) (hJ2.out.more (by decide) (by decide))
            · have q8 : a0.tmps[8]?.getD undef = .int .i64 (r : Int) := hsame 8 (slot_free (by decide +kernel))
              have hJ2 := Lib.hid hJ; have hk := Lib.hid hK; clear hsame hpre hK hV hJ hd; go_simp; exact hk.out _ _ (fun s hs => by cases hs; rfl) (hJ2.out.more (by decide) (by decide))
            · have q68 : a0.tmps[68]?.getD undef = .int .i64 (first : Int) := hV 15 68 (hpre ⟨15, .data⟩ (by simp) rfl) rfl
              have q69 : a0.tmps[69]?.getD undef = .int .i64 (r : Int) := hV 16 69 (hpre ⟨16, .data⟩ (by simp) rfl) rfl
              have hJ2 := Lib.hid hJ; have hk := Lib.hid hK; clear hsame hpre hK hV hJ hd; go_simp; exact hk.out _ _ (fun s hs => by cases hs; rfl) (hJ2.out.more (by decide) (by decide))
            · have q67 : a0.tmps[67]?.getD undef = .slice (some ⟨g, off, none⟩) n cap := hV 14 67 (hpre ⟨14, .data⟩ (by simp) rfl) rfl
              have q70 : a0.tmps[70]?.getD undef = .int .i64 (fr : Int) := hV 17 70 (hpre ⟨17, .data⟩ (by simp) rfl) rfl
              have hJ2 := Lib.hid hJ; have hk := Lib.hid hK; clear hsame hpre hK hV hJ hd; go_simp; exact hk.out _ _ (fun s hs => by cases hs; rfl) (hJ2.out.more (by decide) (by decide))
            · have q71 : a0.tmps[71]?.getD undef = .pointer (some ⟨g, off + fr, none⟩) := hV 18 71 (hpre ⟨18, .data⟩ (by simp) rfl) rfl
              have hxX := hJ.load (.inr hd)
              have c0 : x.cell? ⟨g, off + fr, none⟩ = some (.int .u64 (d1[fr]! : Int)) := by rw [hxX]; exact (Hnum5.out _ (by rw [Hsz.out]; exact hfrn)).1
              clear hxX
              have hJ2 := Lib.hid hJ; have hk := Lib.hid hK; clear hsame hpre hK hV hJ hd; go_simp; exact hk.out _ _ (fun s hs => by cases hs; rfl) (hJ2.out.more (by decide) (by decide))
            · have q53 : a0.tmps[53]?.getD undef = .slice (some ⟨g, off, none⟩) n cap := hV 0 53 (hpre ⟨0, .data⟩ (by simp) rfl) rfl
              have q56 : a0.tmps[56]?.getD undef = .int .i64 (fr : Int) := hV 3 56 (hpre ⟨3, .data⟩ (by simp) rfl) rfl
              have hJ2 := Lib.hid hJ; have hk := Lib.hid hK; clear hsame hpre hK hV hJ hd; go_simp; exact hk.out _ _ (fun s hs => by cases hs; rfl) (hJ2.out.more (by decide) (by decide))
            · have q73 : a0.tmps[73]?.getD undef = .pointer (some ⟨g, off + fr, none⟩) := hV 20 73 (hpre ⟨20, .data⟩ (by simp) rfl) rfl
              have q66 : a0.tmps[66]?.getD undef = .int .u64 (d1[fk]! : Int) := hV 13 66 (hpre ⟨13, .data⟩ (by simp) rfl) rfl
              have hk : ∀ x', (SwJ w5.drew ⟨g, off + fr, none⟩ ⟨g, off + fk, none⟩ (.int .u64 (d1[fk]! : Int)) (.int .u64 (d1[fr]! : Int)) 21 23 13 19) (also dn 21) x' → K a0 x' := fun x' h2 => hK undef x' (fun s hs => by cases hs) h2
              have hJ2 := Lib.hid (hJ.st1 (by decide) hd (hpre ⟨13, .phase⟩ (by simp) rfl) (hpre ⟨19, .phase⟩ (by simp) rfl))
              have hxX : x = w5.drew := hJ.w0 hd
              have c0 : x.cell? ⟨g, off + fr, none⟩ = some (.int .u64 (d1[fr]! : Int)) := by rw [hxX]; exact (Hnum5.out _ (by rw [Hsz.out]; exact hfrn)).1
              have z0 : x.frozen? ⟨g, off + fr, none⟩ = false := by rw [hxX]; exact (Hnum5.out _ (by rw [Hsz.out]; exact hfrn)).2
              clear hsame hpre hK hV hJ hd hxX
              go_simp
              exact hk _ hJ2.out
            · have q57 : a0.tmps[57]?.getD undef = .slice (some ⟨g, off, none⟩) n cap := hV 4 57 (hpre ⟨4, .data⟩ (by simp) rfl) rfl
              have q60 : a0.tmps[60]?.getD undef = .int .i64 (fk : Int) := hV 7 60 (hpre ⟨7, .data⟩ (by simp) rfl) rfl
              have hJ2 := Lib.hid hJ; have hk := Lib.hid hK; clear hsame hpre hK hV hJ hd; go_simp; exact hk.out _ _ (fun s hs => by cases hs; rfl) (hJ2.out.more (by decide) (by decide))
            · have q74 : a0.tmps[74]?.getD undef = .pointer (some ⟨g, off + fk, none⟩) := hV 22 74 (hpre ⟨22, .data⟩ (by simp) rfl) rfl
              have q72 : a0.tmps[72]?.getD undef = .int .u64 (d1[fr]! : Int) := hV 19 72 (hpre ⟨19, .data⟩ (by simp) rfl) rfl
              have hk : ∀ x', (SwJ w5.drew ⟨g, off + fr, none⟩ ⟨g, off + fk, none⟩ (.int .u64 (d1[fk]! : Int)) (.int .u64 (d1[fr]! : Int)) 21 23 13 19) (also dn 23) x' → K a0 x' := fun x' h2 => hK undef x' (fun s hs => by cases hs) h2
              have hJ2 := Lib.hid (hJ.st2 (by decide) hd (hpre ⟨21, .chain⟩ (by simp) rfl))
              have hxX := hJ.w1 (hpre ⟨21, .chain⟩ (by simp) rfl) hd
              obtain ⟨u0, c0⟩ : ∃ u, x.cell? ⟨g, off + fk, none⟩ = some u := by rw [hxX]; exact cell_some _ _ _ _ _ (Hnum5.out _ (by rw [Hsz.out]; exact hfrn)).1 (Hnum5.out _ (by rw [Hsz.out]; exact hfcn)).1
              have z0 : x.frozen? ⟨g, off + fk, none⟩ = false := by rw [hxX, World.frozen?_setCell]; exact (Hnum5.out _ (by rw [Hsz.out]; exact hfcn)).2
              clear hsame hpre hK hV hJ hd hxX
              go_simp
              exact hk _ hJ2.out
          · intro dn x hall hJ
            have hx := hJ.w2 (hall 23 (by decide))
            have h44 := NumsAt.grow (w' := w5.drew) Hnum5.out hgr ((Below.refl _ _).drew)
            have HN5 := Lib.hid (show NumsAt x g off (Sort.swp d1 fr fk) by rw [hx]; exact h44.swp (by rw [Hsz.out]; exact hfrn) (by rw [Hsz.out]; exact hfcn))
            have hbut6 : ButS g w x := by
              rw [hx]
              exact ((hbut5.trans (butS_below ((Below.refl w5.heap.size w5).drew) g)).trans (butS_set _ _ _ _)).trans (butS_set _ _ _ _)
            clear hx h44 hJ hall
            clear w9 w10 w13 w14
            simp only [putAct]
            go_wp2_with fail
            go_roundw
            case rel => exact ⟨k, Sort.swp d1 fr fk, by omega, by go_num, HN5.out, by rw [swp_size]; exact Hsz.out, Hfin.out, hbut6⟩
            case measure => simp [intOf]; omega
      · have ck1 := fun y : Ext wr => (Hnum.out.grow hgr y.out fk1 (by rw [Hsz.out]; exact Hfk1n.out (by trivial))).1
        have hfk1n2 : fk1 < n := Hfk1n.out (by trivial)
        refine wp_region_grow (by kernel_rfl) (by kernel_rfl) ?_
        repeat (first | go_big_quiet_step ((go_at_call 104; with_reducible exact calls_grow (KL.out _))) | quiet_step ((go_at_call 104; with_reducible exact calls_grow (KL.out _))))
        refine wpQuiet_nil ?_
        rintro w3 ⟨⟨_, hb3⟩, rfl⟩
        have hgr3 := Nat.lt_of_lt_of_le hgr hb3.size
        have Hnum3 := Lib.hid (Hnum.out.grow hgr hb3)
        have hbut3 := hbut.trans (butS_below hb3 g)
        have Hs := Lib.hid (Hstep.out k1 rfl)
        clear w5 w6 w7 w8 w11 w12
        clear ck KL Hstep e3 e4 ck1
        have hchi : k1 < hi := Hk1hi.out (by trivial)
        have hfcn : fk1 < n := hfk1n2
        have W13 := Lib.hid (wr_nat ((first : Int) + (k1 : Int)) fk1 (by have := Hk1.out; have := Hfk1.out; omega) (by omega))
        have hrc : r < k1 := by have := Hk1.out; omega
        have hfc : first + k1 = fk1 := by have := Hk1.out; have := Hfk1.out; omega
        have hfrr : first + r = fr := Hfr.out.symm
        have Hfc := Lib.hid hfc
        have Hfrr := Lib.hid hfrr
        obtain ⟨l2, hl2⟩ : ∃ b, b = lt64 d1[fr]! d1[fk1]! := ⟨_, rfl⟩
        have kl := fun y : Ext w3 => less_any d1[fr]! d1[fk1]! y.now
        simp only [← hl2] at kl
        have KL := Lib.hid kl
        have Hl2 := Lib.hid hl2
        have cr := fun y : Ext w3 => (Hnum3.out.grow hgr3 y.out fr (by rw [Hsz.out]; exact hfrn)).1
        have cc := fun y : Ext w3 => (Hnum3.out.grow hgr3 y.out fk1 (by rw [Hsz.out]; exact hfcn)).1
        clear kl hl2 hfc hfrr hfk1n2
        obtain ⟨w11, w12⟩ := W11.out
        go_upto_region 5 with fail
        clear w11 w12
        obtain ⟨w9, w10⟩ := W9.out
        obtain ⟨w13, w14⟩ := W13.out
        cases l2
        all_goals refine wp_region_grow (by kernel_rfl) (by kernel_rfl) ?_
        all_goals repeat (first | go_big_quiet_step ((go_at_call 104; with_reducible exact calls_grow (KL.out _))) | quiet_step ((go_at_call 104; with_reducible exact calls_grow (KL.out _))))
        all_goals refine wpQuiet_nil ?_
        all_goals rintro w5 ⟨⟨_, hb5⟩, rfl⟩
        all_goals have hgr5 := Nat.lt_of_lt_of_le hgr3 hb5.size
        all_goals have Hnum5 := Lib.hid (Hnum3.out.grow hgr3 hb5)
        all_goals have hbut5 := hbut3.trans (butS_below hb5 g)
        all_goals clear cr cc
        · have hs := Hs.out
          rw [Hfc.out, Hfrr.out, ← Hl2.out, if_neg (by simp)] at hs
          have Hfin := Lib.hid (hs.symm.trans Heq.out)
          clear hs
          go_wp2_with fail
          refine bodyPost_ret (v := .tuple #[]) (results_none rfl _ _ _) rfl ⟨rfl, ?_, ?_, hbut5⟩
          · rw [← Hfin.out]; exact Hnum5.out
          · rw [← Hfin.out]; exact Hsz.out
        · have hs := Hs.out
          rw [Hfc.out, Hfrr.out, ← Hl2.out, if_pos rfl] at hs
          have Hfin := Lib.hid (hs.symm.trans Heq.out)
          clear hs
          go_upto_region 6 with fail
          have hgr := hgr5
          refine wp_region_fixed (fun s => match s with | 53 => .slice (some ⟨g, off, none⟩) n cap | 54 => .int .i64 (first : Int) | 55 => .int .i64 (r : Int) | 56 => .int .i64 (fr : Int) | 57 => .slice (some ⟨g, off, none⟩) n cap | 58 => .int .i64 (first : Int) | 59 => .int .i64 (k1 : Int) | 60 => .int .i64 (fk1 : Int) | 61 => .slice (some ⟨g, off, none⟩) n cap | 62 => .int .i64 (first : Int) | 63 => .int .i64 (k1 : Int) | 64 => .int .i64 (fk1 : Int) | 65 => .pointer (some ⟨g, off + fk1, none⟩) | 66 => .int .u64 (d1[fk1]! : Int) | 67 => .slice (some ⟨g, off, none⟩) n cap | 68 => .int .i64 (first : Int) | 69 => .int .i64 (r : Int) | 70 => .int .i64 (fr : Int) | 71 => .pointer (some ⟨g, off + fr, none⟩) | 72 => .int .u64 (d1[fr]! : Int) | 73 => .pointer (some ⟨g, off + fr, none⟩) | 74 => .pointer (some ⟨g, off + fk1, none⟩) | _ => undef) (SwJ w5.drew ⟨g, off + fr, none⟩ ⟨g, off + fk1, none⟩ (.int .u64 (d1[fk1]! : Int)) (.int .u64 (d1[fr]! : Int)) 21 23 13 19) 76 [53, 54, 55, 56, 57, 58, 59, 60, 61, 62, 63, 64, 65, 66, 67, 68, 69, 70, 71, 72, 73, 74] (by kernel_rfl) (by kernel_rfl) (by kernel_rfl) (by kernel_rfl) rfl SwJ.start ?_ ?_
          · intro i0 o0 hi0 dn a0 x hJ hd hpre hsame hV K hK
            have hlt0 := (Array.getElem?_eq_some_iff.1 hi0).1
            rcases many24 hlt0 rfl with rfl | rfl | rfl | rfl | rfl | rfl | rfl | rfl | rfl | rfl | rfl | rfl | rfl | rfl | rfl | rfl | rfl | rfl | rfl | rfl | rfl | rfl | rfl | rfl
            all_goals (have ho0 := Option.some.inj hi0; subst ho0; clear hi0 hlt0)
            · have q0 : a0.tmps[0]?.getD undef = .slice (some ⟨g, off, none⟩) n cap := hsame 0 (slot_free (by decide +kernel))
              have hJ2 := Lib.hid hJ; have hk := Lib.hid hK; clear hsame hpre hK hV hJ hd; go_simp; exact hk.out _ _ (fun s hs => by cases hs; rfl) (hJ2.out.more (by decide) (by decide))
            · have q3 : a0.tmps[3]?.getD undef = .int .i64 (first : Int) := hsame 3 (slot_free (by decide +kernel))
              have hJ2 := Lib.hid hJ; have hk := Lib.hid hK; clear hsame hpre hK hV hJ hd; go_simp; exact hk.out _ _ (fun s hs => by cases hs; rfl) (hJ2.out.more (by decide) (by decide))
            · have q8 : a0.tmps[8]?.getD undef = .int .i64 (r : Int) := hsame 8 (slot_free (by decide +kernel))
              have hJ2 := Lib.hid hJ; have hk := Lib.hid hK; clear hsame hpre hK hV hJ hd; go_simp; exact hk.out _ _ (fun s hs => by cases hs; rfl) (hJ2.out.more (by decide) (by decide))
            · have q54 : a0.tmps[54]?.getD undef = .int .i64 (first : Int) := hV 1 54 (hpre ⟨1, .data⟩ (by simp) rfl) rfl
              have q55 : a0.tmps[55]?.getD undef = .int .i64 (r : Int) := hV 2 55 (hpre ⟨2, .data⟩ (by simp) rfl) rfl
              have hJ2 := Lib.hid hJ; have hk := Lib.hid hK; clear hsame hpre hK hV hJ hd; go_simp; exact hk.out _ _ (fun s hs => by cases hs; rfl) (hJ2.out.more (by decide) (by decide))
            · have q0 : a0.tmps[0]?.getD undef = .slice (some ⟨g, off, none⟩) n cap := hsame 0 (slot_free (by decide +kernel))
              have hJ2 := Lib.hid hJ; have hk := Lib.hid hK; clear hsame hpre hK hV hJ hd; go_simp; exact hk.out _ _ (fun s hs => by cases hs; rfl) (hJ2.out.more (by decide) (by decide))
            · have q3 : a0.tmps[3]?.getD undef = .int .i64 (first : Int) := hsame 3 (slot_free (by decide +kernel))
              have hJ2 := Lib.hid hJ; have hk := Lib.hid hK; clear hsame hpre hK hV hJ hd; go_simp; exact hk.out _ _ (fun s hs => by cases hs; rfl) (hJ2.out.more (by decide) (by decide))
            · have q9 : a0.tmps[9]?.getD undef = .int .i64 (k1 : Int) := hsame 9 (slot_free (by decide +kernel))
              have hJ2 := Lib.hid hJ; have hk := Lib.hid hK; clear hsame hpre hK hV hJ hd; go_simp; exact hk.out _ _ (fun s hs => by cases hs; rfl) (hJ2.out.more (by decide) (by decide))
            · have q58 : a0.tmps[58]?.getD undef = .int .i64 (first : Int) := hV 5 58 (hpre ⟨5, .data⟩ (by simp) rfl) rfl
              have q59 : a0.tmps[59]?.getD undef = .int .i64 (k1 : Int) := hV 6 59 (hpre ⟨6, .data⟩ (by simp) rfl) rfl
              have hJ2 := Lib.hid hJ; have hk := Lib.hid hK; clear hsame hpre hK hV hJ hd; go_simp; exact hk.out _ _ (fun s hs => by cases hs; rfl) (hJ2.out.more (by decide) (by decide))
            · have q0 : a0.tmps[0]?.getD undef = .slice (some ⟨g, off, none⟩) n cap := hsame 0 (slot_free (by decide +kernel))
              have hJ2 := Lib.hid hJ; have hk := Lib.hid hK; clear hsame hpre hK hV hJ hd; go_simp; exact hk.out _ _ (fun s hs => by cases hs; rfl) (hJ2.out.more (by decide) (by decide))
            · have q3 : a0.tmps[3]?.getD undef = .int .i64 (first : Int) := hsame 3 (slot_free (by decide +kernel))
              have hJ2 := Lib.hid hJ; have hk := Lib.hid hK; clear hsame hpre hK hV hJ hd; go_simp; exact hk.out _ _ (fun s hs => by cases hs; rfl) (hJ2.out.more (by decide) (by decide))
            · have q9 : a0.tmps[9]?.getD undef = .int .i64 (k1 : Int) := hsame 9 (slot_free (by decide +kernel))
              have hJ2 := Lib.hid hJ; have hk := Lib.hid hK; clear hsame hpre hK hV hJ hd; go_simp; exact hk.out _ _ (fun s hs => by cases hs; rfl) (hJ2.out.more (by decide) (by decide))
            · have q62 : a0.tmps[62]?.getD undef = .int .i64 (first : Int) := hV 9 62 (hpre ⟨9, .data⟩ (by simp) rfl) rfl
              have q63 : a0.tmps[63]?.getD undef = .int .i64 (k1 : Int) := hV 10 63 (hpre ⟨10, .data⟩ (by simp) rfl) rfl
              have hJ2 := Lib.hid hJ; have hk := Lib.hid hK; clear hsame hpre hK hV hJ hd; go_simp; exact hk.out _ _ (fun s hs => by cases hs; rfl) (hJ2.out.more (by decide) (by decide))
            · have q61 : a0.tmps[61]?.getD undef = .slice (some ⟨g, off, none⟩) n cap := hV 8 61 (hpre ⟨8, .data⟩ (by simp) rfl) rfl
              have q64 : a0.tmps[64]?.getD undef = .int .i64 (fk1 : Int) := hV 11 64 (hpre ⟨11, .data⟩ (by simp) rfl) rfl
              have hJ2 := Lib.hid hJ; have hk := Lib.hid hK; clear hsame hpre hK hV hJ hd; go_simp; exact hk.out _ _ (fun s hs => by cases hs; rfl) (hJ2.out.more (by decide) (by decide))
            · have q65 : a0.tmps[65]?.getD undef = .pointer (some ⟨g, off + fk1, none⟩) := hV 12 65 (hpre ⟨12, .data⟩ (by simp) rfl) rfl
              have hxX := hJ.load (.inl hd)
              have c0 : x.cell? ⟨g, off + fk1, none⟩ = some (.int .u64 (d1[fk1]! : Int)) := by rw [hxX]; exact (Hnum5.out _ (by rw [Hsz.out]; exact hfcn)).1
              clear hxX
              have hJ2 := Lib.hid hJ; have hk := Lib.hid hK; clear hsame hpre hK hV hJ hd; go_simp; exact hk.out _ _ (fun s hs => by cases hs; rfl) (hJ2.out.more (by decide) (by decide))
            · have q0 : a0.tmps[0]?.getD undef = .slice (some ⟨g, off, none⟩) n cap := hsame 0 (slot_free (by decide +kernel))
              have hJ2 := Lib.hid hJ; have hk := Lib.hid hK; clear hsame hpre hK hV hJ hd; go_simp; exact hk.out _ _ (fun s hs => by cases hs; rfl) (hJ2.out.more (by decide) (by decide))
            · have q3 : a0.tmps[3]?.getD undef = .int .i64 (first : Int) := hsame 3 (slot_free (by decide +kernel))
              have hJ2 := Lib.hid hJ; have hk := Lib.hid hK; clear hsame hpre hK hV hJ hd; go_simp; exact hk.out _ _ (fun s hs => by cases hs; rfl) (hJ2.out.more (by decide) (by decide))
            · have q8 : a0.tmps[8]?.getD undef = .int .i64 (r : Int) := hsame 8 (slot_free (by decide +kernel))
              have hJ2 := Lib.hid hJ; have hk := Lib.hid hK; clear hsame hpre hK hV hJ hd; go_simp; exact hk.out _ _ (fun s hs => by cases hs; rfl) (hJ2.out.more (by decide) (by decide))
            · have q68 : a0.tmps[68]?.getD undef = .int .i64 (first : Int) := hV 15 68 (hpre ⟨15, .data⟩ (by simp) rfl) rfl
              have q69 : a0.tmps[69]?.getD undef = .int .i64 (r : Int) := hV 16 69 (hpre ⟨16, .data⟩ (by simp) rfl) rfl
              have hJ2 := Lib.hid hJ; have hk := Lib.hid hK; clear hsame hpre hK hV hJ hd; go_simp; exact hk.out _ _ (fun s hs => by cases hs; rfl) (hJ2.out.more (by decide) (by decide))
            · have q67 : a0.tmps[67]?.getD undef = .slice (some ⟨g, off, none⟩) n cap := hV 14 67 (hpre ⟨14, .data⟩ (by simp) rfl) rfl
              have q70 : a0.tmps[70]?.getD undef = .int .i64 (fr : Int) := hV 17 70 (hpre ⟨17, .data⟩ (by simp) rfl) rfl
              have hJ2 := Lib.hid hJ; have hk := Lib.hid hK; clear hsame hpre hK hV hJ hd; go_simp; exact hk.out _ _ (fun s hs => by cases hs; rfl) (hJ2.out.more (by decide) (by decide))
            · have q71 : a0.tmps[71]?.getD undef = .pointer (some ⟨g, off + fr, none⟩) := hV 18 71 (hpre ⟨18, .data⟩ (by simp) rfl) rfl
              have hxX := hJ.load (.inr hd)
              have c0 : x.cell? ⟨g, off + fr, none⟩ = some (.int .u64 (d1[fr]! : Int)) := by rw [hxX]; exact (Hnum5.out _ (by rw [Hsz.out]; exact hfrn)).1
              clear hxX
              have hJ2 := Lib.hid hJ; have hk := Lib.hid hK; clear hsame hpre hK hV hJ hd; go_simp; exact hk.out _ _ (fun s hs => by cases hs; rfl) (hJ2.out.more (by decide) (by decide))
            · have q53 : a0.tmps[53]?.getD undef = .slice (some ⟨g, off, none⟩) n cap := hV 0 53 (hpre ⟨0, .data⟩ (by simp) rfl) rfl
              have q56 : a0.tmps[56]?.getD undef = .int .i64 (fr : Int) := hV 3 56 (hpre ⟨3, .data⟩ (by simp) rfl) rfl
              have hJ2 := Lib.hid hJ; have hk := Lib.hid hK; clear hsame hpre hK hV hJ hd; go_simp; exact hk.out _ _ (fun s hs => by cases hs; rfl) (hJ2.out.more (by decide) (by decide))
            · have q73 : a0.tmps[73]?.getD undef = .pointer (some ⟨g, off + fr, none⟩) := hV 20 73 (hpre ⟨20, .data⟩ (by simp) rfl) rfl
              have q66 : a0.tmps[66]?.getD undef = .int .u64 (d1[fk1]! : Int) := hV 13 66 (hpre ⟨13, .data⟩ (by simp) rfl) rfl
              have hk : ∀ x', (SwJ w5.drew ⟨g, off + fr, none⟩ ⟨g, off + fk1, none⟩ (.int .u64 (d1[fk1]! : Int)) (.int .u64 (d1[fr]! : Int)) 21 23 13 19) (also dn 21) x' → K a0 x' := fun x' h2 => hK undef x' (fun s hs => by cases hs) h2
              have hJ2 := Lib.hid (hJ.st1 (by decide) hd (hpre ⟨13, .phase⟩ (by simp) rfl) (hpre ⟨19, .phase⟩ (by simp) rfl))
              have hxX : x = w5.drew := hJ.w0 hd
              have c0 : x.cell? ⟨g, off + fr, none⟩ = some (.int .u64 (d1[fr]! : Int)) := by rw [hxX]; exact (Hnum5.out _ (by rw [Hsz.out]; exact hfrn)).1
              have z0 : x.frozen? ⟨g, off + fr, none⟩ = false := by rw [hxX]; exact (Hnum5.out _ (by rw [Hsz.out]; exact hfrn)).2
              clear hsame hpre hK hV hJ hd hxX
              go_simp
              exact hk _ hJ2.out
            · have q57 : a0.tmps[57]?.getD undef = .slice (some ⟨g, off, none⟩) n cap := hV 4 57 (hpre ⟨4, .data⟩ (by simp) rfl) rfl
              have q60 : a0.tmps[60]?.getD undef = .int .i64 (fk1 : Int) := hV 7 60 (hpre ⟨7, .data⟩ (by simp) rfl) rfl
              have hJ2 := Lib.hid hJ; have hk := Lib.hid hK; clear hsame hpre hK hV hJ hd; go_simp; exact hk.out _ _ (fun s hs => by cases hs; rfl) (hJ2.out.more (by decide) (by decide))
            · have q74 : a0.tmps[74]?.getD undef = .pointer (some ⟨g, off + fk1, none⟩) := hV 22 74 (hpre ⟨22, .data⟩ (by simp) rfl) rfl
              have q72 : a0.tmps[72]?.getD undef = .int .u64 (d1[fr]! : Int) := hV 19 72 (hpre ⟨19, .data⟩ (by simp) rfl) rfl
              have hk : ∀ x', (SwJ w5.drew ⟨g, off + fr, none⟩ ⟨g, off + fk1, none⟩ (.int .u64 (d1[fk1]! : Int)) (.int .u64 (d1[fr]! : Int)) 21 23 13 19) (also dn 23) x' → K a0 x' := fun x' h2 => hK undef x' (fun s hs => by cases hs) h2
              have hJ2 := Lib.hid (hJ.st2 (by decide) hd (hpre ⟨21, .chain⟩ (by simp) rfl))
              have hxX := hJ.w1 (hpre ⟨21, .chain⟩ (by simp) rfl) hd
              obtain ⟨u0, c0⟩ : ∃ u, x.cell? ⟨g, off + fk1, none⟩ = some u := by rw [hxX]; exact cell_some _ _ _ _ _ (Hnum5.out _ (by rw [Hsz.out]; exact hfrn)).1 (Hnum5.out _ (by rw [Hsz.out]; exact hfcn)).1
              have z0 : x.frozen? ⟨g, off + fk1, none⟩ = false := by rw [hxX, World.frozen?_setCell]; exact (Hnum5.out _ (by rw [Hsz.out]; exact hfcn)).2
              clear hsame hpre hK hV hJ hd hxX
              go_simp
              exact hk _ hJ2.out
          · intro dn x hall hJ
            have hx := hJ.w2 (hall 23 (by decide))
            have h44 := NumsAt.grow (w' := w5.drew) Hnum5.out hgr ((Below.refl _ _).drew)
            have HN5 := Lib.hid (show NumsAt x g off (Sort.swp d1 fr fk1) by rw [hx]; exact h44.swp (by rw [Hsz.out]; exact hfrn) (by rw [Hsz.out]; exact hfcn))
            have hbut6 : ButS g w x := by
              rw [hx]
              exact ((hbut5.trans (butS_below ((Below.refl w5.heap.size w5).drew) g)).trans (butS_set _ _ _ _)).trans (butS_set _ _ _ _)
            clear hx h44 hJ hall
            clear w9 w10 w13 w14
            simp only [putAct]
            go_wp2_with fail
            go_roundw
            case rel => exact ⟨k1, Sort.swp d1 fr fk1, by omega, by go_num, HN5.out, by rw [swp_size]; exact Hsz.out, Hfin.out, hbut6⟩
            case measure => simp [intOf]; omega
end Go.Proofs.YtdmbmkjiffhbcaaGreat

namespace Go.Proofs.YtdmbmkjiffhbcaaGreat
open Go.RowKit
set_option maxRecDepth 100000

theorem wr_int (x y : Int) (h : x = y) (h1 : -9223372036854775808 ≤ y) (h2 : y ≤ 9223372036854775807) : wrap64 x = y ∧ IntKind.i64.wrap x = y := by
  subst h
  constructor
  · unfold wrap64; omega
  · rw [IntKind.wrap_i64]; omega
theorem half_nat (k : Nat) (hk : k ≤ 9223372036854775807) : ((k : Int).tdiv 2 = ((k / 2 : Nat) : Int)) ∧ wrap64 ((k : Int).tdiv 2) = ((k / 2 : Nat) : Int) ∧ IntKind.i64.wrap ((k : Int).tdiv 2) = ((k / 2 : Nat) : Int) ∧ wrap64 ((k : Int) / 2) = ((k / 2 : Nat) : Int) ∧ IntKind.i64.wrap ((k : Int) / 2) = ((k / 2 : Nat) : Int) := by
  have e : (k : Int).tdiv 2 = ((k / 2 : Nat) : Int) := by rw [Int.tdiv_eq_ediv_of_nonneg (by omega)]; omega
  have e2 : (k : Int) / 2 = ((k / 2 : Nat) : Int) := by omega
  rw [e2, e]
  exact ⟨rfl, (wr_nat _ _ rfl (by omega)).1, (wr_nat _ _ rfl (by omega)).2, (wr_nat _ _ rfl (by omega)).1, (wr_nat _ _ rfl (by omega)).2⟩

set_option maxHeartbeats 8000000 in
theorem heap_any (g off cap n a b : Nat) (d : Array Nat) (w : World) (h : NumsAt w g off d) (hn : n = d.size) (hb : b ≤ n) (hab : a < b) (hn2 : n ≤ 1152921504606846976) (hg : g < w.heap.size) :
    Calls Tryz.prog 99 #[.slice (some ⟨g, off, none⟩) n cap, .int .i64 (a : Int), .int .i64 (b : Int)] w fun e w' => e = .returned (.tuple #[]) ∧ NumsAt w' g off (Sort.heapSort lt64 d a b) ∧ (Sort.heapSort lt64 d a b).size = n ∧ ButS g w w' := by
  have Hn := Lib.hid hn
  have H := Lib.hid h
  obtain ⟨hi, hhi⟩ : ∃ k, k = b - a := ⟨_, rfl⟩
  obtain ⟨h1, hh1⟩ : ∃ k, k = hi - 1 := ⟨_, rfl⟩
  obtain ⟨q, hq⟩ : ∃ k, k = h1 / 2 := ⟨_, rfl⟩
  have hfit : a + hi ≤ n := by omega
  have hi1 : hi = h1 + 1 := by omega
  obtain ⟨D, hD⟩ : ∃ D, D = Sort.heapBuild lt64 hi a (q + 1) d := ⟨_, rfl⟩
  obtain ⟨E, hE⟩ : ∃ E, E = Sort.heapPop lt64 a hi D := ⟨_, rfl⟩
  have hres : Sort.heapSort lt64 d a b = E := by unfold Sort.heapSort; rw [← hhi, ← hh1, ← hq, ← hD, ← hE]
  rw [hres]
  have W1 := Lib.hid (wr_nat ((b : Int) - (a : Int)) hi (by omega) (by omega))
  have W3 := Lib.hid (wr_nat ((hi : Int) - 1) h1 (by omega) (by omega))
  have hqn : q ≤ n := by omega
  have h5 := half_nat h1 (by omega)
  rw [← hq] at h5
  have W5 := Lib.hid h5
  clear h5
  have HD := Lib.hid hD
  have HE := Lib.hid hE
  have Hi1 := Lib.hid hi1
  clear hD hE hq hh1 hhi hres h hn hi1
  go_enter Tryz.func99, Tryz.ntmps99
  obtain ⟨w1, w2⟩ := W1.out
  go_upto_region 3 with fail
  clear w1 w2
  obtain ⟨w3, w4⟩ := W3.out
  refine wp_region_lit ?_
  go_upto_region 4 with fail
  clear w3 w4
  rw [W5.out.2.2.2.1]
  go_loopw [9] (fun t wr => ∃ (k : Nat) (z : Int) (d1 : Array Nat), z + 1 = k ∧ k ≤ q + 1 ∧ t = .int .i64 z ∧ NumsAt wr g off d1 ∧ d1.size = n ∧ Sort.heapBuild lt64 hi a k d1 = D ∧ ButS g w wr) (fun t _ => (intOf t + 1).toNat)
  case atStart => exact ⟨q + 1, q, d, by omega, by omega, rfl, H.out, Hn.out.symm, HD.out.symm, ButS.refl _ _⟩
  case round =>
    obtain ⟨k, z, d1, hz, hk1, rfl, hnum, hsz, heq, hbut⟩ := hrel
    have Hnum := Lib.hid hnum
    have Hsz := Lib.hid hsz
    have Heq := Lib.hid heq
    clear hnum hsz heq
    have hgr := Nat.lt_of_lt_of_le hg hbut.2.2.2.1
    rcases k with _ | m
    · obtain rfl : z = -1 := by omega
      have hD1 : d1 = D := Heq.out
      subst hD1
      obtain ⟨wb, hwb⟩ : ∃ x, x = wr := ⟨wr, rfl⟩
      subst hwb
      obtain ⟨w3, w4⟩ := W3.out
      go_wp2_with fail
      clear w3 w4
      go_loopw [10] (fun t wr => ∃ (k : Nat) (z : Int) (d2 : Array Nat), z + 1 = k ∧ k ≤ hi ∧ t = .int .i64 z ∧ NumsAt wr g off d2 ∧ d2.size = n ∧ Sort.heapPop lt64 a k d2 = E ∧ ButS g w wr) (fun t _ => (intOf t + 1).toNat)
      case atStart => exact ⟨hi, h1, d1, by have := Hi1.out; omega, by omega, rfl, Hnum.out, Hsz.out, HE.out.symm, hbut⟩
      case round =>
        obtain ⟨k, z, d2, hz, hk1, rfl, hnum2, hsz2, heq2, hbut2⟩ := hrel
        have Hnum2 := Lib.hid hnum2
        have Hsz2 := Lib.hid hsz2
        have Heq2 := Lib.hid heq2
        clear hnum2 hsz2 heq2
        have hgr := Nat.lt_of_lt_of_le hg hbut2.2.2.2.1
        rcases k with _ | m
        · obtain rfl : z = -1 := by omega
          have hE1 : d2 = E := Heq2.out
          subst hE1
          go_wp2_with fail
          exact bodyPost_end (v := .tuple #[]) (results_none rfl _ _ _) rfl ⟨rfl, Hnum2.out, Hsz2.out, hbut2⟩
        · obtain rfl : z = (m : Int) := by omega
          have e1 : decide ((0 : Int) ≤ (m : Int)) = true := by rw [decide_eq_true_iff]; omega
          obtain ⟨fm, hfm⟩ : ∃ k, k = a + m := ⟨_, rfl⟩
          have hfmn : fm < n := by omega
          have han : a < n := by omega
          have W11 := Lib.hid (wr_nat ((a : Int) + (m : Int)) fm (by omega) (by omega))
          have W13 := Lib.hid (wr_int ((m : Int) - 1) ((m : Int) - 1) rfl (by omega) (by omega))
          have Hfm := Lib.hid hfm
          have hmn : a + m ≤ n := by omega
          clear hfm
          go_upto_region 10 with fail
          clear e1
          obtain ⟨w11, w12⟩ := W11.out
          refine wp_region_fixed (fun s => match s with | 33 => .slice (some ⟨g, off, none⟩) n cap | 34 => .int .i64 (a : Int) | 35 => .slice (some ⟨g, off, none⟩) n cap | 36 => .int .i64 (a : Int) | 37 => .int .i64 (m : Int) | 38 => .int .i64 (fm : Int) | 39 => .slice (some ⟨g, off, none⟩) n cap | 40 => .int .i64 (a : Int) | 41 => .int .i64 (m : Int) | 42 => .int .i64 (fm : Int) | 43 => .pointer (some ⟨g, off + fm, none⟩) | 44 => .int .u64 (d2[fm]! : Int) | 45 => .slice (some ⟨g, off, none⟩) n cap | 46 => .int .i64 (a : Int) | 47 => .pointer (some ⟨g, off + a, none⟩) | 48 => .int .u64 (d2[a]! : Int) | 49 => .pointer (some ⟨g, off + a, none⟩) | 50 => .pointer (some ⟨g, off + fm, none⟩) | _ => undef) (SwJ wr.drew ⟨g, off + a, none⟩ ⟨g, off + fm, none⟩ (.int .u64 (d2[fm]! : Int)) (.int .u64 (d2[a]! : Int)) 17 19 11 15) 56 [33, 34, 35, 36, 37, 38, 39, 40, 41, 42, 43, 44, 45, 46, 47, 48, 49, 50] (by kernel_rfl) (by kernel_rfl) (by kernel_rfl) (by kernel_rfl) rfl SwJ.start ?_ ?_
          · intro i0 o0 hi0 dn a0 x hJ hd hpre hsame hV K hK
            have hlt0 := (Array.getElem?_eq_some_iff.1 hi0).1
            rcases many20 hlt0 rfl with rfl | rfl | rfl | rfl | rfl | rfl | rfl | rfl | rfl | rfl | rfl | rfl | rfl | rfl | rfl | rfl | rfl | rfl | rfl | rfl
            all_goals (have ho0 := Option.some.inj hi0; subst ho0; clear hi0 hlt0)
            · have q0 : a0.tmps[0]?.getD undef = .slice (some ⟨g, off, none⟩) n cap := hsame 0 (slot_free (by decide +kernel))
              have hJ2 := Lib.hid hJ; have hk := Lib.hid hK; clear hsame hpre hK hV hJ hd; go_simp; exact hk.out _ _ (fun s hs => by cases hs; rfl) (hJ2.out.more (by decide) (by decide))
            · have q6 : a0.tmps[6]?.getD undef = .int .i64 (a : Int) := hsame 6 (slot_free (by decide +kernel))
              have hJ2 := Lib.hid hJ; have hk := Lib.hid hK; clear hsame hpre hK hV hJ hd; go_simp; exact hk.out _ _ (fun s hs => by cases hs; rfl) (hJ2.out.more (by decide) (by decide))
            · have q0 : a0.tmps[0]?.getD undef = .slice (some ⟨g, off, none⟩) n cap := hsame 0 (slot_free (by decide +kernel))
              have hJ2 := Lib.hid hJ; have hk := Lib.hid hK; clear hsame hpre hK hV hJ hd; go_simp; exact hk.out _ _ (fun s hs => by cases hs; rfl) (hJ2.out.more (by decide) (by decide))
            · have q6 : a0.tmps[6]?.getD undef = .int .i64 (a : Int) := hsame 6 (slot_free (by decide +kernel))
              have hJ2 := Lib.hid hJ; have hk := Lib.hid hK; clear hsame hpre hK hV hJ hd; go_simp; exact hk.out _ _ (fun s hs => by cases hs; rfl) (hJ2.out.more (by decide) (by decide))
            · have q10 : a0.tmps[10]?.getD undef = .int .i64 (m : Int) := hsame 10 (slot_free (by decide +kernel))
              have hJ2 := Lib.hid hJ; have hk := Lib.hid hK; clear hsame hpre hK hV hJ hd; go_simp; exact hk.out _ _ (fun s hs => by cases hs; rfl) (hJ2.out.more (by decide) (by decide))
            · have q36 : a0.tmps[36]?.getD undef = .int .i64 (a : Int) := hV 3 36 (hpre ⟨3, .data⟩ (by simp) rfl) rfl
              have q37 : a0.tmps[37]?.getD undef = .int .i64 (m : Int) := hV 4 37 (hpre ⟨4, .data⟩ (by simp) rfl) rfl
              have hJ2 := Lib.hid hJ; have hk := Lib.hid hK; clear hsame hpre hK hV hJ hd; go_simp; exact hk.out _ _ (fun s hs => by cases hs; rfl) (hJ2.out.more (by decide) (by decide))
            · have q0 : a0.tmps[0]?.getD undef = .slice (some ⟨g, off, none⟩) n cap := hsame 0 (slot_free (by decide +kernel))
              have hJ2 := Lib.hid hJ; have hk := Lib.hid hK; clear hsame hpre hK hV hJ hd; go_simp; exact hk.out _ _ (fun s hs => by cases hs; rfl) (hJ2.out.more (by decide) (by decide))
            · have q6 : a0.tmps[6]?.getD undef = .int .i64 (a : Int) := hsame 6 (slot_free (by decide +kernel))
              have hJ2 := Lib.hid hJ; have hk := Lib.hid hK; clear hsame hpre hK hV hJ hd; go_simp; exact hk.out _ _ (fun s hs => by cases hs; rfl) (hJ2.out.more (by decide) (by decide))
            · have q10 : a0.tmps[10]?.getD undef = .int .i64 (m : Int) := hsame 10 (slot_free (by decide +kernel))
              have hJ2 := Lib.hid hJ; have hk := Lib.hid hK; clear hsame hpre hK hV hJ hd; go_simp; exact hk.out _ _ (fun s hs => by cases hs; rfl) (hJ2.out.more (by decide) (by decide))
            · have q40 : a0.tmps[40]?.getD undef = .int .i64 (a : Int) := hV 7 40 (hpre ⟨7, .data⟩ (by simp) rfl) rfl
              have q41 : a0.tmps[41]?.getD undef = .int .i64 (m : Int) := hV 8 41 (hpre ⟨8, .data⟩ (by simp) rfl) rfl
              have hJ2 := Lib.hid hJ; have hk := Lib.hid hK; clear hsame hpre hK hV hJ hd; go_simp; exact hk.out _ _ (fun s hs => by cases hs; rfl) (hJ2.out.more (by decide) (by decide))
            · have q39 : a0.tmps[39]?.getD undef = .slice (some ⟨g, off, none⟩) n cap := hV 6 39 (hpre ⟨6, .data⟩ (by simp) rfl) rfl
              have q42 : a0.tmps[42]?.getD undef = .int .i64 (fm : Int) := hV 9 42 (hpre ⟨9, .data⟩ (by simp) rfl) rfl
              have hJ2 := Lib.hid hJ; have hk := Lib.hid hK; clear hsame hpre hK hV hJ hd; go_simp; exact hk.out _ _ (fun s hs => by cases hs; rfl) (hJ2.out.more (by decide) (by decide))
            · have q43 : a0.tmps[43]?.getD undef = .pointer (some ⟨g, off + fm, none⟩) := hV 10 43 (hpre ⟨10, .data⟩ (by simp) rfl) rfl
              have hxX := hJ.load (.inl hd)
              have c0 : x.cell? ⟨g, off + fm, none⟩ = some (.int .u64 (d2[fm]! : Int)) := by rw [hxX]; exact (Hnum2.out _ (by rw [Hsz2.out]; exact hfmn)).1
              clear hxX
              have hJ2 := Lib.hid hJ; have hk := Lib.hid hK; clear hsame hpre hK hV hJ hd; go_simp; exact hk.out _ _ (fun s hs => by cases hs; rfl) (hJ2.out.more (by decide) (by decide))
            · have q0 : a0.tmps[0]?.getD undef = .slice (some ⟨g, off, none⟩) n cap := hsame 0 (slot_free (by decide +kernel))
              have hJ2 := Lib.hid hJ; have hk := Lib.hid hK; clear hsame hpre hK hV hJ hd; go_simp; exact hk.out _ _ (fun s hs => by cases hs; rfl) (hJ2.out.more (by decide) (by decide))
            · have q6 : a0.tmps[6]?.getD undef = .int .i64 (a : Int) := hsame 6 (slot_free (by decide +kernel))
              have hJ2 := Lib.hid hJ; have hk := Lib.hid hK; clear hsame hpre hK hV hJ hd; go_simp; exact hk.out _ _ (fun s hs => by cases hs; rfl) (hJ2.out.more (by decide) (by decide))
            · have q45 : a0.tmps[45]?.getD undef = .slice (some ⟨g, off, none⟩) n cap := hV 12 45 (hpre ⟨12, .data⟩ (by simp) rfl) rfl
              have q46 : a0.tmps[46]?.getD undef = .int .i64 (a : Int) := hV 13 46 (hpre ⟨13, .data⟩ (by simp) rfl) rfl
              have hJ2 := Lib.hid hJ; have hk := Lib.hid hK; clear hsame hpre hK hV hJ hd; go_simp; exact hk.out _ _ (fun s hs => by cases hs; rfl) (hJ2.out.more (by decide) (by decide))
            · have q47 : a0.tmps[47]?.getD undef = .pointer (some ⟨g, off + a, none⟩) := hV 14 47 (hpre ⟨14, .data⟩ (by simp) rfl) rfl
              have hxX := hJ.load (.inr hd)
              have c0 : x.cell? ⟨g, off + a, none⟩ = some (.int .u64 (d2[a]! : Int)) := by rw [hxX]; exact (Hnum2.out _ (by rw [Hsz2.out]; exact han)).1
              clear hxX
              have hJ2 := Lib.hid hJ; have hk := Lib.hid hK; clear hsame hpre hK hV hJ hd; go_simp; exact hk.out _ _ (fun s hs => by cases hs; rfl) (hJ2.out.more (by decide) (by decide))
            · have q33 : a0.tmps[33]?.getD undef = .slice (some ⟨g, off, none⟩) n cap := hV 0 33 (hpre ⟨0, .data⟩ (by simp) rfl) rfl
              have q34 : a0.tmps[34]?.getD undef = .int .i64 (a : Int) := hV 1 34 (hpre ⟨1, .data⟩ (by simp) rfl) rfl
              have hJ2 := Lib.hid hJ; have hk := Lib.hid hK; clear hsame hpre hK hV hJ hd; go_simp; exact hk.out _ _ (fun s hs => by cases hs; rfl) (hJ2.out.more (by decide) (by decide))
            · have q49 : a0.tmps[49]?.getD undef = .pointer (some ⟨g, off + a, none⟩) := hV 16 49 (hpre ⟨16, .data⟩ (by simp) rfl) rfl
              have q44 : a0.tmps[44]?.getD undef = .int .u64 (d2[fm]! : Int) := hV 11 44 (hpre ⟨11, .data⟩ (by simp) rfl) rfl
              have hk : ∀ x', (SwJ wr.drew ⟨g, off + a, none⟩ ⟨g, off + fm, none⟩ (.int .u64 (d2[fm]! : Int)) (.int .u64 (d2[a]! : Int)) 17 19 11 15) (also dn 17) x' → K a0 x' := fun x' h2 => hK undef x' (fun s hs => by cases hs) h2
              have hJ2 := Lib.hid (hJ.st1 (by decide) hd (hpre ⟨11, .phase⟩ (by simp) rfl) (hpre ⟨15, .phase⟩ (by simp) rfl))
              have hxX : x = wr.drew := hJ.w0 hd
              have c0 : x.cell? ⟨g, off + a, none⟩ = some (.int .u64 (d2[a]! : Int)) := by rw [hxX]; exact (Hnum2.out _ (by rw [Hsz2.out]; exact han)).1
              have z0 : x.frozen? ⟨g, off + a, none⟩ = false := by rw [hxX]; exact (Hnum2.out _ (by rw [Hsz2.out]; exact han)).2
              clear hsame hpre hK hV hJ hd hxX
              go_simp
              exact hk _ hJ2.out
            · have q35 : a0.tmps[35]?.getD undef = .slice (some ⟨g, off, none⟩) n cap := hV 2 35 (hpre ⟨2, .data⟩ (by simp) rfl) rfl
              have q38 : a0.tmps[38]?.getD undef = .int .i64 (fm : Int) := hV 5 38 (hpre ⟨5, .data⟩ (by simp) rfl) rfl
              have hJ2 := Lib.hid hJ; have hk := Lib.hid hK; clear hsame hpre hK hV hJ hd; go_simp; exact hk.out _ _ (fun s hs => by cases hs; rfl) (hJ2.out.more (by decide) (by decide))
            · have q50 : a0.tmps[50]?.getD undef = .pointer (some ⟨g, off + fm, none⟩) := hV 18 50 (hpre ⟨18, .data⟩ (by simp) rfl) rfl
              have q48 : a0.tmps[48]?.getD undef = .int .u64 (d2[a]! : Int) := hV 15 48 (hpre ⟨15, .data⟩ (by simp) rfl) rfl
              have hk : ∀ x', (SwJ wr.drew ⟨g, off + a, none⟩ ⟨g, off + fm, none⟩ (.int .u64 (d2[fm]! : Int)) (.int .u64 (d2[a]! : Int)) 17 19 11 15) (also dn 19) x' → K a0 x' := fun x' h2 => hK undef x' (fun s hs => by cases hs) h2
              have hJ2 := Lib.hid (hJ.st2 (by decide) hd (hpre ⟨17, .chain⟩ (by simp) rfl))
              have hxX := hJ.w1 (hpre ⟨17, .chain⟩ (by simp) rfl) hd
              obtain ⟨u0, c0⟩ : ∃ u, x.cell? ⟨g, off + fm, none⟩ = some u := by rw [hxX]; exact cell_some _ _ _ _ _ (Hnum2.out _ (by rw [Hsz2.out]; exact han)).1 (Hnum2.out _ (by rw [Hsz2.out]; exact hfmn)).1
              have z0 : x.frozen? ⟨g, off + fm, none⟩ = false := by rw [hxX, World.frozen?_setCell]; exact (Hnum2.out _ (by rw [Hsz2.out]; exact hfmn)).2
              clear hsame hpre hK hV hJ hd hxX
              go_simp
              exact hk _ hJ2.out
          · intro dn x hall hJ
            have hx := hJ.w2 (hall 19 (by decide))
            have h44 := NumsAt.grow (w' := wr.drew) Hnum2.out hgr ((Below.refl _ _).drew)
            have HN5 := Lib.hid (show NumsAt x g off (Sort.swp d2 a fm) by rw [hx]; exact h44.swp (by rw [Hsz2.out]; exact han) (by rw [Hsz2.out]; exact hfmn))
            have hbut5 : ButS g w x := by
              rw [hx]
              exact ((hbut2.trans (butS_below ((Below.refl wr.heap.size wr).drew) g)).trans (butS_set _ _ _ _)).trans (butS_set _ _ _ _)
            clear hx h44 hJ hall w11 w12
            have hs : Calls Tryz.prog 108 #[.slice (some ⟨g, off, none⟩) n cap, .int .i64 0, .int .i64 (m : Int), .int .i64 (a : Int)] x fun e w' => e = .returned (.tuple #[]) ∧ NumsAt w' g off (Sort.siftDown lt64 m a 0 (Sort.swp d2 a fm)) ∧ (Sort.siftDown lt64 m a 0 (Sort.swp d2 a fm)).size = n ∧ ButS g x w' := sift_any g off cap n 0 m a (Sort.swp d2 a fm) x HN5.out (by rw [swp_size]; exact Hsz2.out.symm) hmn hn2 (Nat.zero_le _) (Nat.lt_of_lt_of_le hg hbut5.2.2.2.1)
            have Hs := Lib.hid hs
            clear hs
            have heq3 : Sort.heapPop lt64 a m (Sort.siftDown lt64 m a 0 (Sort.swp d2 a fm)) = E := by rw [Hfm.out]; exact Heq2.out
            have Heq3 := Lib.hid heq3
            clear heq3
            obtain ⟨w13, w14⟩ := W13.out
            simp only [putAct]
            go_wp2_with (go_at_call 108; (with_reducible refine Hs.out.mono ?_); rintro e w6 ⟨rfl, hn6, hs6, hb6⟩; have HN6 := Lib.hid hn6; have HS6 := Lib.hid hs6; clear hn6 hs6)
            clear w13 w14
            go_roundw
            case rel => exact ⟨m, (m : Int) - 1, _, by omega, by omega, rfl, HN6.out, HS6.out, Heq3.out, hbut5.trans hb6⟩
            case measure => simp [intOf]
    · obtain rfl : z = (m : Int) := by omega
      have e1 : decide ((0 : Int) ≤ (m : Int)) = true := by rw [decide_eq_true_iff]; omega
      have W13 := Lib.hid (wr_int ((m : Int) - 1) ((m : Int) - 1) rfl (by omega) (by omega))
      have Hs := Lib.hid (sift_any g off cap n m hi a d1 wr Hnum.out Hsz.out.symm hfit hn2 (by omega) hgr)
      have Heq3 := Lib.hid (show Sort.heapBuild lt64 hi a m (Sort.siftDown lt64 hi a m d1) = D from Heq.out)
      obtain ⟨w13, w14⟩ := W13.out
      go_wp2_with (go_at_call 108; (with_reducible refine Hs.out.mono ?_); rintro e w6 ⟨rfl, hn6, hs6, hb6⟩; have HN6 := Lib.hid hn6; have HS6 := Lib.hid hs6; clear hn6 hs6)
      clear w13 w14
      go_roundw
      case rel => exact ⟨m, (m : Int) - 1, _, by omega, by omega, rfl, HN6.out, HS6.out, Heq3.out, hbut.trans hb6⟩
      case measure => simp [intOf]
end Go.Proofs.YtdmbmkjiffhbcaaGreat

namespace Go.Proofs.YtdmbmkjiffhbcaaGreat
open Go.RowKit
set_option maxRecDepth 100000

/-- A cell that holds the number of exchanges. -/
def NumAt (w : World) (s k : Nat) : Prop := w.cell? ⟨s, 0, none⟩ = some (.int .i64 (k : Int)) ∧ w.frozen? ⟨s, 0, none⟩ = false
theorem NumAt.grow {w w' : World} {s k : Nat} (h : NumAt w s k) (hs : s < w.heap.size) (hb : Below w.heap.size w w') : NumAt w' s k :=
  ⟨(hb.cell (p := ⟨s, 0, none⟩) hs).trans h.1, (hb.frozen (p := ⟨s, 0, none⟩) hs).trans h.2⟩
theorem NumsAt.but {w w' : World} {g off s : Nat} {d : Array Nat} (h : NumsAt w g off d) (hg : g < w.heap.size) (hgs : g ≠ s) (hb : ButS s w w') : NumsAt w' g off d := fun i hi =>
  ⟨(World.cell?_of_block (a := ⟨g, off + i, none⟩) (hb.2.2.2.2 g hg hgs)).trans (h i hi).1, (World.frozen?_of_block (a := ⟨g, off + i, none⟩) (hb.2.2.2.2 g hg hgs)).trans (h i hi).2⟩
theorem NumAt.set {w : World} {s k : Nat} (h : NumAt w s k) (m : Nat) : NumAt (w.setCell ⟨s, 0, none⟩ (.int .i64 (m : Int))) s m :=
  ⟨World.cell?_setCell_same w _ _ h.1, by rw [World.frozen?_setCell]; exact h.2⟩
def ordR (r : Nat × Nat × Nat) : Value := .tuple #[.int .i64 (r.1 : Int), .int .i64 (r.2.1 : Int)]

set_option maxHeartbeats 8000000 in
theorem order2_any (g off cap n s a b k : Nat) (d : Array Nat) (w : World) (h : NumsAt w g off d) (hn : n = d.size) (ha : a < n) (hb : b < n) (hg : g < w.heap.size) (hs : NumAt w s k) (hsl : s < w.heap.size) (hk : k ≤ 1000) :
    Calls Tryz.prog 114 #[.slice (some ⟨g, off, none⟩) n cap, .int .i64 (a : Int), .int .i64 (b : Int), .pointer (some ⟨s, 0, none⟩)] w fun e w' => e = .returned (ordR (Sort.order2 lt64 d a b k)) ∧ NumAt w' s (Sort.order2 lt64 d a b k).2.2 ∧ ButS s w w' := by
  obtain ⟨l, hl⟩ : ∃ l, l = lt64 d[b]! d[a]! := ⟨_, rfl⟩
  have hr : Sort.order2 lt64 d a b k = if l = true then (b, a, k + 1) else (a, b, k) := by unfold Sort.order2; rw [hl]
  rw [hr]
  have kl := fun y : Ext w => less_any d[b]! d[a]! y.now
  simp only [← hl] at kl
  have KL := Lib.hid kl
  have cb := fun y : Ext w => (h.grow hg y.out b (by rw [← hn]; exact hb)).1
  have ca := fun y : Ext w => (h.grow hg y.out a (by rw [← hn]; exact ha)).1
  have W1 := Lib.hid (wr_nat ((k : Int) + 1) (k + 1) (by omega) (by omega))
  clear kl hl hr h hn hk
  go_enter Tryz.func114, Tryz.ntmps114
  go_upto_region 1 with fail
  cases l
  all_goals refine wp_region_grow (by kernel_rfl) (by kernel_rfl) ?_
  all_goals repeat (first | go_big_quiet_step ((go_at_call 104; with_reducible exact calls_grow (KL.out _))) | quiet_step ((go_at_call 104; with_reducible exact calls_grow (KL.out _))))
  all_goals refine wpQuiet_nil ?_
  all_goals rintro w3 ⟨⟨_, hb3⟩, rfl⟩
  all_goals have hs3 := hs.grow hsl hb3
  all_goals clear ca cb KL
  · go_wp2_with fail
    exact bodyPost_ret (results_tmp2 rfl _ _ _) rfl ⟨rfl, hs3, butS_below hb3 s⟩
  · obtain ⟨c0, z0⟩ := hs3
    have hs3 : NumAt w3 s k := ⟨c0, z0⟩
    have HS3 := Lib.hid hs3
    clear hs3
    obtain ⟨w1, w2⟩ := W1.out
    go_wp2_with fail
    exact bodyPost_ret (results_tmp2 rfl _ _ _) rfl ⟨rfl, HS3.out.set (k + 1), (butS_below hb3 s).trans (butS_set _ _ _ _)⟩

theorem order2_in (d : Array Nat) (a b k : Nat) : ∃ x y m, Sort.order2 lt64 d a b k = (x, y, m) ∧ (x = a ∨ x = b) ∧ (y = a ∨ y = b) ∧ m ≤ k + 1 := by
  unfold Sort.order2
  split
  · exact ⟨_, _, _, rfl, .inr rfl, .inl rfl, Nat.le_refl _⟩
  · exact ⟨_, _, _, rfl, .inl rfl, .inr rfl, Nat.le_succ _⟩
theorem order2_tri (g off cap n s a b k x y m : Nat) (d : Array Nat) (w : World) (E : Sort.order2 lt64 d a b k = (x, y, m)) (h : NumsAt w g off d) (hn : n = d.size) (ha : a < n) (hb : b < n) (hg : g < w.heap.size) (hs : NumAt w s k) (hsl : s < w.heap.size) (hk : k ≤ 1000) :
    Calls Tryz.prog 114 #[.slice (some ⟨g, off, none⟩) n cap, .int .i64 (a : Int), .int .i64 (b : Int), .pointer (some ⟨s, 0, none⟩)] w fun e w' => e = .returned (.tuple #[.int .i64 (x : Int), .int .i64 (y : Int)]) ∧ NumAt w' s m ∧ ButS s w w' := by
  have := order2_any g off cap n s a b k d w h hn ha hb hg hs hsl hk
  rw [E] at this
  exact this

set_option maxHeartbeats 8000000 in
theorem median_any (g off cap n s a b c k : Nat) (d : Array Nat) (w : World) (h : NumsAt w g off d) (hn : n = d.size) (ha : a < n) (hb : b < n) (hc : c < n) (hg : g < w.heap.size) (hs : NumAt w s k) (hsl : s < w.heap.size) (hgs : g ≠ s) (hk : k ≤ 500) :
    Calls Tryz.prog 112 #[.slice (some ⟨g, off, none⟩) n cap, .int .i64 (a : Int), .int .i64 (b : Int), .int .i64 (c : Int), .pointer (some ⟨s, 0, none⟩)] w fun e w' => e = .returned (.int .i64 ((Sort.median lt64 d a b c k).1 : Int)) ∧ NumAt w' s (Sort.median lt64 d a b c k).2 ∧ ButS s w w' := by
  obtain ⟨x1, y1, k1, E1, hx1, hy1, hk1⟩ := order2_in d a b k
  obtain ⟨x2, y2, k2, E2, hx2, hy2, hk2⟩ := order2_in d y1 c k1
  obtain ⟨x3, y3, k3, E3, hx3, hy3, hk3⟩ := order2_in d x1 x2 k2
  have hr : Sort.median lt64 d a b c k = (y3, k3) := by unfold Sort.median; simp only [E1, E2, E3]
  rw [hr]
  have hx1n : x1 < n := by omega
  have hy1n : y1 < n := by omega
  have hx2n : x2 < n := by omega
  have C1 := Lib.hid (order2_tri g off cap n s a b k x1 y1 k1 d w E1 h hn ha hb hg hs hsl (by omega))
  have HK1 := Lib.hid (show k1 ≤ 1000 by omega)
  have HK2 := Lib.hid (show k2 ≤ 1000 by omega)
  have Hn := Lib.hid hn
  clear hx1 hy1 hk1 hx2 hy2 hk2 hx3 hy3 hk3 hr hs hn
  go_enter Tryz.func112, Tryz.ntmps112
  go_upto_region 2 with (go_at_call 114; (with_reducible refine C1.out.mono ?_); rintro e w1 ⟨rfl, hn1, hb1⟩)
  have HN1 := h.but hg hgs hb1
  have hg1 := Nat.lt_of_lt_of_le hg hb1.2.2.2.1
  have hs1 := Nat.lt_of_lt_of_le hsl hb1.2.2.2.1
  have C2 := Lib.hid (order2_tri g off cap n s y1 c k1 x2 y2 k2 d w1 E2 HN1 Hn.out hy1n hc hg1 hn1 hs1 HK1.out)
  clear C1 hn1
  refine wp_region_lit ?_
  go_upto_region 3 with (go_at_call 114; (with_reducible refine C2.out.mono ?_); rintro e w2 ⟨rfl, hn2, hb2⟩)
  have HN2 := HN1.but hg1 hgs hb2
  have hg2 := Nat.lt_of_lt_of_le hg1 hb2.2.2.2.1
  have hs2 := Nat.lt_of_lt_of_le hs1 hb2.2.2.2.1
  have C3 := Lib.hid (order2_tri g off cap n s x1 x2 k2 x3 y3 k3 d w2 E3 HN2 Hn.out hx1n hx2n hg2 hn2 hs2 HK2.out)
  clear C2 hn2
  refine wp_region_lit ?_
  go_wp2_with (go_at_call 114; (with_reducible refine C3.out.mono ?_); rintro e w3 ⟨rfl, hn3, hb3⟩)
  go_ret
  exact ⟨rfl, hn3, (hb1.trans hb2).trans hb3⟩

set_option maxHeartbeats 8000000 in
theorem madj_any (g off cap n s a k : Nat) (d : Array Nat) (w : World) (h : NumsAt w g off d) (hn : n = d.size) (ha : 1 ≤ a) (hb : a + 1 < n) (hn2 : n ≤ 1152921504606846976) (hg : g < w.heap.size) (hs : NumAt w s k) (hsl : s < w.heap.size) (hgs : g ≠ s) (hk : k ≤ 500) :
    Calls Tryz.prog 111 #[.slice (some ⟨g, off, none⟩) n cap, .int .i64 (a : Int), .pointer (some ⟨s, 0, none⟩)] w fun e w' => e = .returned (.int .i64 ((Sort.medianAdjacent lt64 d a k).1 : Int)) ∧ NumAt w' s (Sort.medianAdjacent lt64 d a k).2 ∧ ButS s w w' := by
  obtain ⟨a1, ha1⟩ : ∃ x, x = a - 1 := ⟨_, rfl⟩
  obtain ⟨a2, ha2⟩ : ∃ x, x = a + 1 := ⟨_, rfl⟩
  have hr : Sort.medianAdjacent lt64 d a k = Sort.median lt64 d a1 a a2 k := by rw [ha1, ha2]; rfl
  rw [hr]
  have W1 := Lib.hid (wr_nat ((a : Int) - 1) a1 (by omega) (by omega))
  have W3 := Lib.hid (wr_nat ((a : Int) + 1) a2 (by omega) (by omega))
  have C1 := Lib.hid (median_any g off cap n s a1 a a2 k d w h hn (by omega) (by omega) (by omega) hg hs hsl hgs hk)
  clear ha1 ha2 hr h hs hn
  go_enter Tryz.func111, Tryz.ntmps111
  obtain ⟨w1, w2⟩ := W1.out
  obtain ⟨w3, w4⟩ := W3.out
  go_wp2_with (go_at_call 112; (with_reducible refine C1.out.mono ?_); rintro e w5 ⟨rfl, hn1, hb1⟩)
  go_ret
  exact ⟨rfl, hn1, hb1⟩
end Go.Proofs.YtdmbmkjiffhbcaaGreat

namespace Go.Proofs.YtdmbmkjiffhbcaaGreat
open Go.RowKit
set_option maxRecDepth 100000

theorem quo_nat (k c q : Nat) (h : q = k / c) (hk : k ≤ 9223372036854775807) : wrap64 ((k : Int) / (c : Int)) = (q : Int) ∧ wrap64 ((k : Int).tdiv (c : Int)) = (q : Int) := by
  subst h
  have e2 : (k : Int) / (c : Int) = ((k / c : Nat) : Int) := by norm_cast
  have hle : k / c ≤ k := Nat.div_le_self _ _
  rw [Int.tdiv_eq_ediv_of_nonneg (by omega), e2]
  exact ⟨(wr_nat _ _ rfl (by omega)).1, (wr_nat _ _ rfl (by omega)).1⟩
def hintN : Sort.Hint → Int
  | .unknown => 0
  | .increasing => 1
  | .decreasing => 2
def hintOf (m : Nat) : Sort.Hint := if m = 0 then .increasing else if m = 12 then .decreasing else .unknown
theorem median_in (d : Array Nat) (a b c k : Nat) : ∃ x m, Sort.median lt64 d a b c k = (x, m) ∧ (x = a ∨ x = b ∨ x = c) ∧ m ≤ k + 3 := by
  obtain ⟨x1, y1, k1, E1, hx1, hy1, hk1⟩ := order2_in d a b k
  obtain ⟨x2, y2, k2, E2, hx2, hy2, hk2⟩ := order2_in d y1 c k1
  obtain ⟨x3, y3, k3, E3, hx3, hy3, hk3⟩ := order2_in d x1 x2 k2
  exact ⟨y3, k3, by unfold Sort.median; simp only [E1, E2, E3], by omega, by omega⟩
theorem median_tri (g off cap n s a b c k x m : Nat) (d : Array Nat) (w : World) (E : Sort.median lt64 d a b c k = (x, m)) (h : NumsAt w g off d) (hn : n = d.size) (ha : a < n) (hb : b < n) (hc : c < n) (hg : g < w.heap.size) (hs : NumAt w s k) (hsl : s < w.heap.size) (hgs : g ≠ s) (hk : k ≤ 500) :
    Calls Tryz.prog 112 #[.slice (some ⟨g, off, none⟩) n cap, .int .i64 (a : Int), .int .i64 (b : Int), .int .i64 (c : Int), .pointer (some ⟨s, 0, none⟩)] w fun e w' => e = .returned (.int .i64 (x : Int)) ∧ NumAt w' s m ∧ ButS s w w' := by
  have := median_any g off cap n s a b c k d w h hn ha hb hc hg hs hsl hgs hk
  rw [E] at this
  exact this
theorem madj_tri (g off cap n s a k x m : Nat) (d : Array Nat) (w : World) (E : Sort.medianAdjacent lt64 d a k = (x, m)) (h : NumsAt w g off d) (hn : n = d.size) (ha : 1 ≤ a) (hb : a + 1 < n) (hn2 : n ≤ 1152921504606846976) (hg : g < w.heap.size) (hs : NumAt w s k) (hsl : s < w.heap.size) (hgs : g ≠ s) (hk : k ≤ 500) :
    Calls Tryz.prog 111 #[.slice (some ⟨g, off, none⟩) n cap, .int .i64 (a : Int), .pointer (some ⟨s, 0, none⟩)] w fun e w' => e = .returned (.int .i64 (x : Int)) ∧ NumAt w' s m ∧ ButS s w w' := by
  have := madj_any g off cap n s a k d w h hn ha hb hn2 hg hs hsl hgs hk
  rw [E] at this
  exact this
theorem NumAt.of_alloc (w : World) : NumAt (w.alloc (.cells #[.int .i64 0] 3)) w.heap.size 0 :=
  ⟨by rw [World.cell?_alloc_at _ _ _ _ rfl]; rfl, World.frozen?_alloc_new _ _ _ _⟩
/-- Nothing that lay below has turned. -/
theorem below_but {w w' w'' : World} {s : Nat} (h : Below w.heap.size w w') (hs : w.heap.size ≤ s) (hb : ButS s w' w'') : Below w.heap.size w w'' :=
  h.trans ⟨hb.1, hb.2.1, hb.2.2.1, hb.2.2.2.1, fun k hk => hb.2.2.2.2 k (Nat.lt_of_lt_of_le hk h.size) (by omega)⟩

set_option maxHeartbeats 8000000 in
theorem pivot_any (g off cap n a b : Nat) (d : Array Nat) (w : World) (h : NumsAt w g off d) (hn : n = d.size) (hb : b ≤ n) (hab : a + 8 ≤ b) (hn2 : n ≤ 1152921504606846976) (hg : g < w.heap.size) :
    Calls Tryz.prog 101 #[.slice (some ⟨g, off, none⟩) n cap, .int .i64 (a : Int), .int .i64 (b : Int)] w fun e w' => e = .returned (.tuple #[.int .i64 ((Sort.choosePivot lt64 d a b).1 : Int), .int .i64 (hintN (Sort.choosePivot lt64 d a b).2)]) ∧ Below w.heap.size w w' := by
  obtain ⟨l, hl⟩ : ∃ x, x = b - a := ⟨_, rfl⟩
  obtain ⟨q, hq⟩ : ∃ x, x = l / 4 := ⟨_, rfl⟩
  obtain ⟨i, hi⟩ : ∃ x, x = a + q := ⟨_, rfl⟩
  obtain ⟨j, hj⟩ : ∃ x, x = a + q * 2 := ⟨_, rfl⟩
  obtain ⟨k, hk⟩ : ∃ x, x = a + q * 3 := ⟨_, rfl⟩
  have W1 := Lib.hid (wr_nat ((b : Int) - (a : Int)) l (by omega) (by omega))
  have Q := Lib.hid (show wrap64 ((l : Int) / 4) = (q : Int) from (quo_nat l 4 q hq (by omega)).1)
  have W3 := Lib.hid (wr_nat ((q : Int)) q (by omega) (by omega)).1
  have W5 := Lib.hid (wr_nat ((q : Int) * 2) (q * 2 : Nat) (by omega) (by omega)).1
  have W7 := Lib.hid (wr_nat ((q : Int) * 3) (q * 3 : Nat) (by omega) (by omega)).1
  have W9 := Lib.hid (wr_nat ((a : Int) + (q : Int)) i (by omega) (by omega)).1
  have W11 := Lib.hid (wr_nat ((a : Int) + ((q * 2 : Nat) : Int)) j (by omega) (by omega)).1
  have W13 := Lib.hid (wr_nat ((a : Int) + ((q * 3 : Nat) : Int)) k (by omega) (by omega)).1
  have e1 : decide ((8 : Int) ≤ (l : Int)) = true := by rw [decide_eq_true_iff]; omega
  have e1' : decide (8 ≤ l) = true := by rw [decide_eq_true_iff]; omega
  have hin : i < n ∧ 1 ≤ i ∧ j < n ∧ k < n ∧ i + 1 < n ∧ 1 ≤ j ∧ j + 1 < n ∧ 1 ≤ k ∧ k + 1 < n := by omega
  have Hin := Lib.hid hin
  have hr : Sort.choosePivot lt64 d a b = if 50 ≤ l then ((Sort.median lt64 d (Sort.medianAdjacent lt64 d i 0).1 (Sort.medianAdjacent lt64 d j (Sort.medianAdjacent lt64 d i 0).2).1 (Sort.medianAdjacent lt64 d k (Sort.medianAdjacent lt64 d j (Sort.medianAdjacent lt64 d i 0).2).2).1 (Sort.medianAdjacent lt64 d k (Sort.medianAdjacent lt64 d j (Sort.medianAdjacent lt64 d i 0).2).2).2).1, hintOf (Sort.median lt64 d (Sort.medianAdjacent lt64 d i 0).1 (Sort.medianAdjacent lt64 d j (Sort.medianAdjacent lt64 d i 0).2).1 (Sort.medianAdjacent lt64 d k (Sort.medianAdjacent lt64 d j (Sort.medianAdjacent lt64 d i 0).2).2).1 (Sort.medianAdjacent lt64 d k (Sort.medianAdjacent lt64 d j (Sort.medianAdjacent lt64 d i 0).2).2).2).2) else ((Sort.median lt64 d i j k 0).1, hintOf (Sort.median lt64 d i j k 0).2) := by
    unfold Sort.choosePivot hintOf
    simp only [← hl, ← hq, Nat.mul_one, ← hi, ← hj, ← hk]
    have h8 : l ≥ 8 := by omega
    rw [if_pos h8]
    by_cases h50 : 50 ≤ l
    · rw [if_pos h50, if_pos h50]
    · rw [if_neg h50, if_neg h50]
  have Hn := Lib.hid hn
  have HR := Lib.hid hr
  have HL := Lib.hid (show l = b - a from hl)
  clear hl hq hn hi hj hk hin hr
  have HA := NumAt.of_alloc w
  have hbA : Below w.heap.size w (w.alloc (.cells #[.int .i64 0] 3)) := (Below.refl _ _).alloc (Nat.le_refl _) _
  have hNA := h.grow hg hbA
  have hgA : g < (w.alloc (.cells #[.int .i64 0] 3)).heap.size := Nat.lt_of_lt_of_le hg hbA.size
  have hsA : w.heap.size < (w.alloc (.cells #[.int .i64 0] 3)).heap.size := by show _ < (w.heap.push _).size; rw [Array.size_push]; exact Nat.lt_succ_self _
  have hgs : g ≠ w.heap.size := Nat.ne_of_lt hg
  have HA := Lib.hid HA
  have HNA := Lib.hid hNA
  have HbA := Lib.hid hbA
  clear hNA hbA
  go_enter Tryz.func101, Tryz.ntmps101
  obtain ⟨w1, w2⟩ := W1.out
  go_upto_region 3 with fail
  clear w1 w2
  obtain ⟨wa, hwa⟩ : ∃ x, x = w.alloc (.cells #[.int .i64 0] 3) := ⟨_, rfl⟩
  obtain ⟨s, hs⟩ : ∃ x, x = w.heap.size := ⟨_, rfl⟩
  rw [← hwa] at HA HNA HbA hgA hsA ⊢
  rw [← hs] at HA hsA hgs ⊢
  have hsw : w.heap.size ≤ s := by omega
  clear hwa hs h hg
  refine wp_region_lit ?_
  go_upto_region 4 with fail
  rw [Q.out, W3.out, W9.out]
  refine wp_region_lit ?_
  go_upto_region 5 with fail
  rw [Q.out, W5.out, W11.out]
  refine wp_region_lit ?_
  go_upto_region 6 with fail
  rw [Q.out, W7.out, W13.out]
  clear Q W3 W5 W7 W9 W11 W13
  refine wp_region_lit ?_
  by_cases h50 : 50 ≤ l
  · have e2 : decide ((50 : Int) ≤ (l : Int)) = true := by rw [decide_eq_true_iff]; omega
    have e2' : decide (50 ≤ l) = true := by rw [decide_eq_true_iff]; omega
    have hr := HR.out
    rw [if_pos h50] at hr
    obtain ⟨x1, m1, E1, hx1, hm1⟩ := median_in d (i - 1) i (i + 1) 0
    obtain ⟨x2, m2, E2, hx2, hm2⟩ := median_in d (j - 1) j (j + 1) m1
    obtain ⟨x3, m3, E3, hx3, hm3⟩ := median_in d (k - 1) k (k + 1) m2
    have E1 : Sort.medianAdjacent lt64 d i 0 = (x1, m1) := E1
    have E2 : Sort.medianAdjacent lt64 d j m1 = (x2, m2) := E2
    have E3 : Sort.medianAdjacent lt64 d k m2 = (x3, m3) := E3
    simp only [E1, E2, E3] at hr
    obtain ⟨x, m, E, hx, hm⟩ := median_in d x1 x2 x3 m3
    rw [E] at hr
    have hi2 := Hin.out
    have X := Lib.hid (show x1 < n ∧ x2 < n ∧ x3 < n by omega)
    have M := Lib.hid (show m1 ≤ 500 ∧ m2 ≤ 500 ∧ m3 ≤ 500 by omega)
    clear hi2 hx1 hx2 hx3 hm1 hm2 hm3 hx hm h50 HR
    have Hr := Lib.hid hr
    clear hr
    have C1 := Lib.hid (madj_tri g off cap n s i 0 x1 m1 d wa E1 HNA.out Hn.out Hin.out.2.1 Hin.out.2.2.2.2.1 hn2 hgA HA.out hsA hgs (by omega))
    go_upto_region 9 with (go_at_call 111; (with_reducible refine C1.out.mono ?_); rintro e w1 ⟨rfl, hn1, hb1⟩)
    have HN1 := Lib.hid (HNA.out.but hgA hgs hb1)
    have hg1 := Nat.lt_of_lt_of_le hgA hb1.2.2.2.1
    have hs1 := Nat.lt_of_lt_of_le hsA hb1.2.2.2.1
    have C2 := Lib.hid (madj_tri g off cap n s j m1 x2 m2 d w1 E2 HN1.out Hn.out Hin.out.2.2.2.2.2.1 Hin.out.2.2.2.2.2.2.1 hn2 hg1 hn1 hs1 hgs M.out.1)
    clear C1 hn1
    refine wp_region_lit ?_
    go_upto_region 10 with (go_at_call 111; (with_reducible refine C2.out.mono ?_); rintro e w2 ⟨rfl, hn2', hb2⟩)
    have HN2 := Lib.hid (HN1.out.but hg1 hgs hb2)
    have hg2 := Nat.lt_of_lt_of_le hg1 hb2.2.2.2.1
    have hs2 := Nat.lt_of_lt_of_le hs1 hb2.2.2.2.1
    have C3 := Lib.hid (madj_tri g off cap n s k m2 x3 m3 d w2 E3 HN2.out Hn.out Hin.out.2.2.2.2.2.2.2.1 Hin.out.2.2.2.2.2.2.2.2 hn2 hg2 hn2' hs2 hgs M.out.2.1)
    clear C2 hn2'
    refine wp_region_lit ?_
    go_upto_region 11 with (go_at_call 111; (with_reducible refine C3.out.mono ?_); rintro e w3 ⟨rfl, hn3, hb3⟩)
    have HN3 := Lib.hid (HN2.out.but hg2 hgs hb3)
    have hg3 := Nat.lt_of_lt_of_le hg2 hb3.2.2.2.1
    have hs3 := Nat.lt_of_lt_of_le hs2 hb3.2.2.2.1
    have C := Lib.hid (median_tri g off cap n s x1 x2 x3 m3 x m d w3 E HN3.out Hn.out X.out.1 X.out.2.1 X.out.2.2 hg3 hn3 hs3 hgs M.out.2.2)
    clear C3 hn3
    refine wp_region_lit ?_
    go_upto_region 12 with (go_at_call 112; (with_reducible refine C.out.mono ?_); rintro e w4 ⟨rfl, hn4, hb4⟩)
    clear C
    obtain ⟨c0, _⟩ := hn4
    have hbb := below_but HbA.out hsw (((hb1.trans hb2).trans hb3).trans hb4)
    clear hb1
    by_cases m0 : m = 0
    · subst m0
      go_wp2_with fail
      refine bodyPost_ret (results_tmp2 rfl _ _ _) rfl ⟨?_, hbb⟩
      rw [Hr.out]
      rfl
    · by_cases m12 : m = 12
      · subst m12
        go_wp2_with fail
        refine bodyPost_ret (results_tmp2 rfl _ _ _) rfl ⟨?_, hbb⟩
        rw [Hr.out]
        rfl
      · have e3 : ((m : Int) == 0) = false := by rw [beq_eq_false_iff_ne]; omega
        have e4 : ((m : Int) == 12) = false := by rw [beq_eq_false_iff_ne]; omega
        have e5 : hintOf m = .unknown := by unfold hintOf; rw [if_neg m0, if_neg m12]
        have E5 := Lib.hid e5
        clear e5
        go_wp2_with fail
        refine bodyPost_ret (results_tmp2 rfl _ _ _) rfl ⟨?_, hbb⟩
        rw [Hr.out]
        simp only [E5.out]
        rfl
  · have e2 : decide ((50 : Int) ≤ (l : Int)) = false := by rw [decide_eq_false_iff_not]; omega
    have e2' : decide (50 ≤ l) = false := by rw [decide_eq_false_iff_not]; omega
    have hr := HR.out
    rw [if_neg h50] at hr
    obtain ⟨x, m, E, hx, hm⟩ := median_in d i j k 0
    rw [E] at hr
    have C := Lib.hid (median_tri g off cap n s i j k 0 x m d wa E HNA.out Hn.out Hin.out.1 Hin.out.2.2.1 Hin.out.2.2.2.1 hgA HA.out hsA hgs (by omega))
    clear HR hx h50
    have Hr := Lib.hid hr
    clear hr
    go_upto_region 12 with (go_at_call 112; (with_reducible refine C.out.mono ?_); rintro e w2 ⟨rfl, hn1, hb1⟩)
    clear C
    obtain ⟨c0, _⟩ := hn1
    have hbb := below_but HbA.out hsw hb1
    clear hb1
    by_cases m0 : m = 0
    · subst m0
      go_wp2_with fail
      refine bodyPost_ret (results_tmp2 rfl _ _ _) rfl ⟨?_, hbb⟩
      rw [Hr.out]
      rfl
    · by_cases m12 : m = 12
      · subst m12
        go_wp2_with fail
        refine bodyPost_ret (results_tmp2 rfl _ _ _) rfl ⟨?_, hbb⟩
        rw [Hr.out]
        rfl
      · have e3 : ((m : Int) == 0) = false := by rw [beq_eq_false_iff_ne]; omega
        have e4 : ((m : Int) == 12) = false := by rw [beq_eq_false_iff_ne]; omega
        have e5 : hintOf m = .unknown := by unfold hintOf; rw [if_neg m0, if_neg m12]
        have E5 := Lib.hid e5
        clear e5
        go_wp2_with fail
        refine bodyPost_ret (results_tmp2 rfl _ _ _) rfl ⟨?_, hbb⟩
        rw [Hr.out]
        simp only [E5.out]
        rfl
end Go.Proofs.YtdmbmkjiffhbcaaGreat
