/-
  The document's journal as mathematics: tell, lay, Add, Replace; that they do to the device what the program does.
  The document's journal as cells, its device's aside.
  The document's lay: what it writes, sector by sector.
  The document's journal: a tally is told.
  The document's journal: what lay does while a sector is laid.
-/
import Derived.Test.YtiaabgmmmekpnaaRefJ
import Derived.Test.YtiaabgmmmekpnaaJKit
import Derived.Test.YtiaabgmmmekpnaaRegionInv
import Derived.Deep.MidRow
import Derived.Test.YtiaabgmmmekpnaaRefSmall
import Derived.Test.YtiaabgmmmekpnaaRefDevs
import Derived.Deep.Cut
import Derived.Deep.DeepCutAuto
import Derived.Deep.LoopGhost
namespace Go.Proofs.Ytiaabgmmmekpnaa
open Go.RowKit
set_option maxRecDepth 100000

def tellR (D : Dev) (r : RJ) (n s : Nat) (data : List UInt8) : (Dev × RJ) × Int :=
  if (tellD D n s data.length).2 ≠ 0 then (((tellD D n s data.length).1, { r with broken := true }), (tellD D n s data.length).2)
  else (((tellD D n s data.length).1, { r with number := n, side := s, data := data }), 0)
/-- The sectors that lay writes. -/
def layW (D : Dev) (s t : Nat) (all : List UInt8) : Dev × Int := wrR D (2 + s * sideN D + t / 256) (all.drop (256 * (t / 256))) (secs all.length - t / 256)
def layR (D : Dev) (r : RJ) (s t : Nat) (all : List UInt8) : (Dev × RJ) × Int :=
  if sideN D * 256 < all.length ∨ r.number = 4611686018427387904 then ((D, r), 5)
  else if (layW D s t all).2 ≠ 0 then (((layW D s t all).1, { r with broken := true }), (layW D s t all).2)
  else if (layW D s t all).1.barrier.2 ≠ 0 then (((layW D s t all).1.barrier.1, { r with broken := true }), (layW D s t all).1.barrier.2)
  else tellR (layW D s t all).1.barrier.1 r (r.number + 1) s all
def addR (D : Dev) (r : RJ) (L : List (List UInt8)) : (Dev × RJ) × Int :=
  if r.broken then ((D, r), 3) else if ¬ fewLong L then ((D, r), 4) else if L = [] then ((D, r), 0)
  else if (layR D r r.side r.data.length (r.data ++ recsB L)).2 ≠ 0 then layR D r r.side r.data.length (r.data ++ recsB L)
  else (((layR D r r.side r.data.length (r.data ++ recsB L)).1.1, { (layR D r r.side r.data.length (r.data ++ recsB L)).1.2 with len := (layR D r r.side r.data.length (r.data ++ recsB L)).1.2.len + L.length }), 0)
def replR (D : Dev) (r : RJ) (L : List (List UInt8)) : (Dev × RJ) × Int :=
  if r.broken then ((D, r), 3) else if ¬ fewLong L then ((D, r), 4)
  else if (layR D r (1 - r.side) 0 (recsB L)).2 ≠ 0 then layR D r (1 - r.side) 0 (recsB L)
  else (((layR D r (1 - r.side) 0 (recsB L)).1.1, { (layR D r (1 - r.side) 0 (recsB L)).1.2 with len := L.length }), 0)

theorem layW_eq {D : Dev} (hw : D.Wf) (s u : Nat) (b : List UInt8) (hu : 2 + s * sideN D + u / 256 ≤ D.sure.length) (hl : (useB D s u 0).length = u) : layW D s u (useB D s u 0 ++ b) = sectD D s u b := by
  unfold layW sectD
  have e1 : (useB D s u 0 ++ b).drop (256 * (u / 256)) = laidB D s u b := by
    rw [use_split hw s u hu, List.append_assoc, List.drop_append_of_le_length (by rw [areaD_length hw _ _ hu]; omega), List.drop_of_length_le (by rw [areaD_length hw _ _ hu]; omega)]
    rfl
  have e2 : secs (useB D s u 0 ++ b).length - u / 256 = secs (u - u / 256 * 256 + b.length) := by
    rw [List.length_append, hl]
    unfold secs
    omega
  rw [e1, e2]
/-- What lay leaves, said by what the program's store leaves. -/
theorem layR_store {D : Dev} (hw : D.Wf) (r : RJ) (s u : Nat) (b : List UInt8) (hu : 2 + s * sideN D + u / 256 ≤ D.sure.length) (hl : (useB D s u 0).length = u) (hfit : u + b.length ≤ sideN D * 256) (hn : r.number ≠ 4611686018427387904) :
    layR D r s u (useB D s u 0 ++ b) = if (storeD D s u b (r.number + 1) s (u + b.length)).2 ≠ 0 then (((storeD D s u b (r.number + 1) s (u + b.length)).1, { r with broken := true }), (storeD D s u b (r.number + 1) s (u + b.length)).2)
      else (((storeD D s u b (r.number + 1) s (u + b.length)).1, { r with number := r.number + 1, side := s, data := useB D s u 0 ++ b }), 0) := by
  have hlen : (useB D s u 0 ++ b).length = u + b.length := by rw [List.length_append, hl]
  unfold layR storeD
  rw [if_neg (by rw [hlen]; omega), layW_eq hw s u b hu hl]
  by_cases h1 : (sectD D s u b).2 ≠ 0
  · rw [if_pos h1, if_pos h1, if_pos h1]
  · rw [if_neg h1, if_neg h1]
    by_cases h2 : (sectD D s u b).1.barrier.2 ≠ 0
    · rw [if_pos h2, if_pos h2, if_pos h2]
    · rw [if_neg h2, if_neg h2]
      unfold tellR
      rw [hlen]
theorem layR_full {D : Dev} {r : RJ} {s u : Nat} {all : List UInt8} (h : sideN D * 256 < all.length ∨ r.number = 4611686018427387904) : layR D r s u all = ((D, r), 5) := by
  unfold layR
  rw [if_pos h]

/-- The two journals tell of the same. -/
structure Alike (D : Dev) (J : JM) (r : RJ) : Prop where
  number : r.number = J.number
  side : r.side = J.side
  used : r.data.length = J.used
  data : r.data = useB D J.side J.used 0
  len : r.len = J.count
  broken : r.broken = J.broken
/-- What two answers have in common. -/
structure Both (a : (JM × Dev) × Int) (b : (Dev × RJ) × Int) : Prop where
  err : b.2 = a.2
  dev : b.1.1 = a.1.2
  number : b.1.2.number = a.1.1.number
  side : b.1.2.side = a.1.1.side
  len : b.1.2.len = a.1.1.count
  broken : b.1.2.broken = a.1.1.broken

theorem addR_both {D : Dev} (hw : D.Wf) {J : JM} {r : RJ} (h : Alike D J r) (hs : J.side ≤ 1) (hu : J.used ≤ sideN D * 256) (h6 : 6 ≤ D.sure.length) (L : List (List UInt8)) :
    Both (addJ J D L) (addR D r L) ∧ (addR D r L).1.2.data = if (addR D r L).2 = 0 then r.data ++ recsB L else r.data := by
  have hbd : 2 + J.side * sideN D + J.used / 256 ≤ D.sure.length := by
    have h1 : J.used / 256 ≤ sideN D := by omega
    have h2 : J.side * sideN D ≤ sideN D := by
      rcases Nat.lt_or_ge J.side 1 with h' | h'
      · obtain h0 : J.side = 0 := by omega
        rw [h0]; omega
      · obtain h0 : J.side = 1 := by omega
        rw [h0]; omega
    unfold sideN at *
    omega
  have hl : (useB D J.side J.used 0).length = J.used := by rw [← h.data, h.used]
  unfold addJ addR
  rw [h.broken]
  by_cases hb : J.broken = true
  · rw [if_pos hb, if_pos hb]
    exact ⟨⟨rfl, rfl, h.number, h.side, h.len, h.broken⟩, by rw [if_neg (by show ¬ (3 : Int) = 0; decide)]⟩
  · rw [if_neg hb, if_neg hb]
    by_cases hf : ¬ fewLong L
    · rw [if_pos hf, if_pos hf]
      exact ⟨⟨rfl, rfl, h.number, h.side, h.len, h.broken⟩, by rw [if_neg (by show ¬ (4 : Int) = 0; decide)]⟩
    · rw [if_neg hf, if_neg hf]
      by_cases h0 : L = []
      · subst h0
        rw [if_pos rfl, if_pos rfl]
        exact ⟨⟨rfl, rfl, h.number, h.side, h.len, h.broken⟩, by rw [if_pos rfl]; simp [recsB]⟩
      · rw [if_neg h0, if_neg h0]
        unfold putJ
        rw [h.side, h.used]
        by_cases hn : J.number = 4611686018427387904
        · rw [if_pos hn, layR_full (Or.inr (by rw [h.number]; exact hn)), if_pos (by show (5 : Int) ≠ 0; decide)]
          exact ⟨⟨rfl, rfl, h.number, h.side, h.len, h.broken⟩, by rw [if_neg (by show ¬ (5 : Int) = 0; decide)]⟩
        · rw [if_neg hn]
          by_cases hr : sideN D * 256 - J.used < (recsB L).length
          · rw [if_pos hr, layR_full (Or.inl (by rw [List.length_append, h.used]; omega)), if_pos (by show (5 : Int) ≠ 0; decide)]
            exact ⟨⟨rfl, rfl, h.number, h.side, h.len, h.broken⟩, by rw [if_neg (by show ¬ (5 : Int) = 0; decide)]⟩
          · rw [if_neg hr]
            have key := layR_store hw r J.side J.used (recsB L) hbd hl (by omega) (by rw [h.number]; exact hn)
            rw [← h.data, h.number] at key
            rw [key]
            generalize storeD D J.side J.used (recsB L) (J.number + 1) J.side (J.used + (recsB L).length) = S
            by_cases he : S.2 ≠ 0
            · rw [if_pos he, if_pos he, if_pos he]
              exact ⟨⟨rfl, rfl, by first | exact h.number | rfl, h.side, h.len, rfl⟩, by rw [if_neg he]⟩
            · rw [if_neg he, if_neg he, if_neg (by show ¬ ((0 : Int) ≠ 0); decide)]
              exact ⟨⟨rfl, rfl, rfl, rfl, by show r.len + L.length = J.count + L.length; rw [h.len], h.broken⟩, by rw [if_pos rfl]⟩
theorem replR_both {D : Dev} (hw : D.Wf) {J : JM} {r : RJ} (h : Alike D J r) (hs : J.side ≤ 1) (h6 : 6 ≤ D.sure.length) (L : List (List UInt8)) :
    Both (repJ J D L) (replR D r L) ∧ (replR D r L).1.2.data = if (replR D r L).2 = 0 then recsB L else r.data := by
  have hbd : 2 + (1 - J.side) * sideN D + 0 / 256 ≤ D.sure.length := by
    have h2 : (1 - J.side) * sideN D ≤ sideN D := by
      rcases Nat.lt_or_ge J.side 1 with h' | h'
      · obtain h0 : J.side = 0 := by omega
        rw [h0]; omega
      · obtain h0 : J.side = 1 := by omega
        rw [h0]; omega
    unfold sideN at *
    omega
  have hl0 : useB D (1 - J.side) 0 0 = [] := by unfold useB; simp
  unfold repJ replR
  rw [h.broken]
  by_cases hb : J.broken = true
  · rw [if_pos hb, if_pos hb]
    exact ⟨⟨rfl, rfl, h.number, h.side, h.len, h.broken⟩, by rw [if_neg (by show ¬ (3 : Int) = 0; decide)]⟩
  · rw [if_neg hb, if_neg hb]
    by_cases hf : ¬ fewLong L
    · rw [if_pos hf, if_pos hf]
      exact ⟨⟨rfl, rfl, h.number, h.side, h.len, h.broken⟩, by rw [if_neg (by show ¬ (4 : Int) = 0; decide)]⟩
    · rw [if_neg hf, if_neg hf]
      unfold putJ
      rw [h.side]
      by_cases hn : J.number = 4611686018427387904
      · rw [if_pos hn, layR_full (Or.inr (by rw [h.number]; exact hn)), if_pos (by show (5 : Int) ≠ 0; decide)]
        exact ⟨⟨rfl, rfl, h.number, h.side, h.len, h.broken⟩, by rw [if_neg (by show ¬ (5 : Int) = 0; decide)]⟩
      · rw [if_neg hn]
        by_cases hr : sideN D * 256 - 0 < (recsB L).length
        · rw [if_pos hr, layR_full (Or.inl (by omega)), if_pos (by show (5 : Int) ≠ 0; decide)]
          exact ⟨⟨rfl, rfl, h.number, h.side, h.len, h.broken⟩, by rw [if_neg (by show ¬ (5 : Int) = 0; decide)]⟩
        · rw [if_neg hr]
          have key := layR_store hw r (1 - J.side) 0 (recsB L) hbd (by rw [hl0]; rfl) (by omega) (by rw [h.number]; exact hn)
          rw [hl0, List.nil_append, h.number] at key
          rw [key]
          generalize storeD D (1 - J.side) 0 (recsB L) (J.number + 1) (1 - J.side) (0 + (recsB L).length) = S
          by_cases he : S.2 ≠ 0
          · rw [if_pos he, if_pos he, if_pos he]
            exact ⟨⟨rfl, rfl, by first | exact h.number | rfl, h.side, h.len, rfl⟩, by rw [if_neg he]⟩
          · rw [if_neg he, if_neg he, if_neg (by show ¬ ((0 : Int) ≠ 0); decide)]
            exact ⟨⟨rfl, rfl, rfl, rfl, by show L.length = 0 + L.length; omega, h.broken⟩, by rw [if_pos rfl]⟩
end Go.Proofs.Ytiaabgmmmekpnaa

namespace Go.Proofs.Ytiaabgmmmekpnaa
open Go.RowKit
set_option maxRecDepth 100000

def zeroD : Array Value := #[.slice none 0 0, .slice none 0 0, .int .i64 0, .slice none 0 0, .int .i64 0, .int .i64 0, .int .i64 0, .bool false]
theorem blk_lt' {w : World} {g : Nat} {t : TypeId} {cs : Array Value} (h : Blk w g t cs) : g < w.heap.size := (Array.getElem?_eq_some_iff.1 h).1
theorem Blk.setRow_ {w : World} {g : Nat} {t : TypeId} {old : Array Value} (h : Blk w g t old) (cs : Array Value) : Blk (w.setRow g cs) g t cs := setRow_heap w g old cs t (0, 0) h
theorem Blk.setRowFar {w : World} {g k : Nat} {t : TypeId} {old : Array Value} (h : Blk w k t old) (hk : k ≠ g) (cs : Array Value) : Blk (w.setRow g cs) k t old := (setRow_other w g k cs hk).trans h
theorem below_setRow {B : Nat} {a w : World} (h : Below B a w) {g : Nat} (hg : B ≤ g) (cs : Array Value) : Below B a (w.setRow g cs) :=
  ⟨h.os, h.tape, h.output, by rw [setRow_size]; exact h.size, fun k hk => (setRow_other w g k cs (by omega)).trans (h.block k hk)⟩
theorem results_cell_tmp {P : Program} {fn : Func} {p q : Tmp} {ty : TypeId} (h : fn.results = #[.cell p ty, .tmp q]) (tmps : Array Value) (w : World) (g : Nat) (t : TypeId) (cs : Array Value) (fr : Nat × Nat) (d : TypeDesc) (v : Value)
    (hp : tmps.getD p undef = .pointer (some ⟨g, 0, none⟩)) (hq : tmps.getD q undef = v) (hg : w.heap[g]? = some (.cells cs t fr))
    (hu : P.underlying ty = some d) (hd : (match d with | .struct _ | .array _ _ => true | _ => false) = true) (hi : (P.info? ty).map (·.size) = some cs.size) :
    (results fn tmps).run P w = .ok (.tuple #[.agg cs, v]) w := by
  have hp' : tmps[p]?.getD undef = .pointer (some ⟨g, 0, none⟩) := by simpa using hp
  have hq' : tmps[q]?.getD undef = v := by simpa using hq
  simp [results, h, hp', hq', asAddr, run_loadVar_row w g t ty cs fr d hg hu hd hi]
theorem below_setCellsJ {B b : Nat} (hb : B ≤ b) (vs : List Value) (o : Nat) {a : World} (w : World) (h : Below B a w) : Below B a (w.setCells b o vs) :=
  ⟨(same_setCells b vs o w).1.trans h.os, (same_setCells b vs o w).2.1.trans h.tape, (same_setCells b vs o w).2.2.trans h.output, by rw [size_setCells]; exact h.size, fun k hk => (heap_setCells b vs o w k (by omega)).trans (h.block k hk)⟩
theorem jn_info : (Try.prog.info? 40).map (·.size) = some 13 := by kernel_rfl
theorem put_left {D : Dev} {M : Int} (h : D.left ≤ M) (h0 : 0 ≤ M) (i : Int) (x : List UInt8) : (D.put i x).1.left ≤ M := by
  unfold Dev.put
  split
  · exact h
  · split
    · exact h
    · unfold Dev.change
      split
      · unfold Dev.cut
        split
        · exact h
        · show (-1 : Int) ≤ M
          omega
      · show (if 0 < D.left then D.left - 1 else D.left) ≤ M
        split <;> omega
theorem dev_info : (Try.prog.info? 36).map (·.size) = some 8 := by kernel_rfl
theorem IsDev.size {w : World} {ok : Nat → Prop} {cs : Array Value} {D : Dev} (h : IsDev w ok (.agg cs) D) : cs.size = 8 ∧ cs.all (·.oneCell') = true := by
  obtain ⟨A1, c1, A2, c2, A3, c3, e, _⟩ := h
  cases e
  exact ⟨rfl, by simp [Value.oneCell']⟩

/-- The document's journal as cells: its device's, and its own. -/
def jc (C : Array Value) (r : RJ) : Array Value := (C.toList ++ [.int .u64 (r.number : Int), .int .i64 (r.side : Int), str r.data, .int .i64 (r.len : Int), .bool r.broken]).toArray
def rj0 : RJ := ⟨0, 0, [], 0, false⟩
theorem IsRJ.cells {w : World} {ok : Nat → Prop} {v : Value} {D : Dev} {r : RJ} (h : IsRJ w ok v D r) : ∃ C, v = .agg (jc C r) ∧ IsDev w ok (.agg C) D := by
  obtain ⟨A1, c1, A2, c2, A3, c3, rfl, hd⟩ := h
  exact ⟨_, rfl, hd⟩
theorem IsRJ.of_cells {w : World} {ok : Nat → Prop} {C : Array Value} {D : Dev} (h : IsDev w ok (.agg C) D) (r : RJ) : IsRJ w ok (.agg (jc C r)) D r := by
  have h' := h
  obtain ⟨A1, c1, A2, c2, A3, c3, e, _⟩ := h
  cases e
  exact ⟨A1, c1, A2, c2, A3, c3, rfl, h'⟩
section
variable {C C' : Array Value} {r : RJ} {w : World} {g : Nat} {t : TypeId}
theorem jc_size (hC : C.size = 8) : (jc C r).size = 13 := by unfold jc; simp [hC]
theorem jc_one (hC : C.all (·.oneCell') = true) : (jc C r).all (·.oneCell') = true := by
  rw [Array.all_eq_true_iff_forall_mem] at hC ⊢
  intro v hv
  unfold jc at hv
  simp only [List.mem_toArray, List.mem_append] at hv
  rcases hv with hv | hv
  · exact hC v (by simpa using hv)
  · simp at hv
    rcases hv with rfl | rfl | rfl | rfl | rfl <;> rfl
theorem jc_tail (hC : C.size = 8) (i : Nat) : (jc C r)[8 + i]? = ([.int .u64 (r.number : Int), .int .i64 (r.side : Int), str r.data, .int .i64 (r.len : Int), .bool r.broken] : List Value)[i]? := by
  unfold jc
  rw [List.getElem?_toArray, List.getElem?_append_right (by simp [hC])]
  simp [hC]
theorem jc_set (hC : C.size = 8) (i : Nat) (u : Value) : (jc C r).setIfInBounds (8 + i) u = (C.toList ++ ([.int .u64 (r.number : Int), .int .i64 (r.side : Int), str r.data, .int .i64 (r.len : Int), .bool r.broken] : List Value).set i u).toArray := by
  unfold jc
  rw [List.setIfInBounds_toArray, List.set_append_right _ _ (by simp [hC])]
  simp [hC]
theorem jc_range (_ : C.size = 8) (h : Blk w g t (jc C r)) : w.rangeAt g 0 C.toList := Blk.range h 0 C.toList (by rw [List.drop_zero]; exact List.take_left)
theorem jc_there (hC : C.size = 8) (h : Blk w g t (jc C r)) : w.there g 0 8 := Blk.there h 0 8 (by simp [hC])
theorem jc_put (hC : C.size = 8) (hC' : C'.size = 8) (h : Blk w g t (jc C r)) : Blk (w.setCells g 0 C'.toList) g t (jc C' r) := by
  have := Blk.setCells C'.toList 0 w _ h (by simp [hC, hC'])
  have e : splice (C.toList ++ [.int .u64 (r.number : Int), .int .i64 (r.side : Int), str r.data, .int .i64 (r.len : Int), .bool r.broken]) 0 C'.toList = C'.toList ++ [.int .u64 (r.number : Int), .int .i64 (r.side : Int), str r.data, .int .i64 (r.len : Int), .bool r.broken] := by
    unfold splice
    rw [List.take_zero, List.nil_append, Nat.zero_add, List.drop_append_of_le_length (by simp [hC, hC']), List.drop_of_length_le (by simp [hC, hC'])]
    rfl
  rw [e] at this
  exact this
theorem jc_st8 (hC : C.size = 8) (n : Nat) : (jc C r).setIfInBounds 8 (.int .u64 (n : Int)) = jc C { r with number := n } := jc_set hC 0 _
theorem jc_st9 (hC : C.size = 8) (n : Nat) : (jc C r).setIfInBounds 9 (.int .i64 (n : Int)) = jc C { r with side := n } := jc_set hC 1 _
theorem jc_st10 (hC : C.size = 8) (l : List UInt8) : (jc C r).setIfInBounds 10 (str l) = jc C { r with data := l } := jc_set hC 2 _
theorem jc_st11 (hC : C.size = 8) (n : Nat) : (jc C r).setIfInBounds 11 (.int .i64 (n : Int)) = jc C { r with len := n } := jc_set hC 3 _
theorem jc_st12 (hC : C.size = 8) (b : Bool) : (jc C r).setIfInBounds 12 (.bool b) = jc C { r with broken := b } := jc_set hC 4 _
end
theorem jc_zero : jc zeroD rj0 = #[.slice none 0 0, .slice none 0 0, .int .i64 0, .slice none 0 0, .int .i64 0, .int .i64 0, .int .i64 0, .bool false, .int .u64 0, .int .i64 0, str [], .int .i64 0, .bool false] := rfl
end Go.Proofs.Ytiaabgmmmekpnaa

namespace Go.Proofs.Ytiaabgmmmekpnaa
open Go.RowKit
set_option maxRecDepth 100000

theorem change_left {D : Dev} {M : Int} (h : D.left ≤ M) (h0 : 0 ≤ M) : D.change.1.left ≤ M := by
  unfold Dev.change
  split
  · unfold Dev.cut
    split
    · exact h
    · show (-1 : Int) ≤ M
      omega
  · show (if 0 < D.left then D.left - 1 else D.left) ≤ M
    split <;> omega
theorem barrier_left {D : Dev} {M : Int} (h : D.left ≤ M) (h0 : 0 ≤ M) : D.barrier.1.left ≤ M := by
  unfold Dev.barrier
  split
  · exact h
  · split
    · exact change_left h h0
    · exact change_left h h0
theorem wrR_left {D : Dev} {M : Int} (h : D.left ≤ M) (h0 : 0 ≤ M) (st : Nat) (l : List UInt8) (k : Nat) : (wrR D st l k).1.left ≤ M := by
  induction k with
  | zero => exact h
  | succ k ih =>
    show (if (wrR D st l k).2 ≠ 0 then wrR D st l k else _).1.left ≤ M
    split
    · exact ih
    · exact put_left ih h0 _ _
/-- What is laid, with zeros up to whole sectors. -/
def lpadB (l : List UInt8) : List UInt8 := l ++ List.replicate (256 * secs l.length - l.length) 0
theorem lpadB_length (l : List UInt8) : (lpadB l).length = 256 * secs l.length := by
  unfold lpadB
  rw [List.length_append, List.length_replicate]
  unfold secs
  omega
theorem lpadB_piece (l : List UInt8) (a k : Nat) (h : a + k < secs l.length) : ((lpadB l).take (256 * (a + k + 1))).drop (256 * (a + k)) = wholeB (pieceB (l.drop (256 * a)) k) := by
  have hs : 256 * (a + k) ≤ l.length := by unfold secs at h; omega
  unfold lpadB wholeB pieceB
  rw [List.drop_drop, show 256 * a + 256 * k = 256 * (a + k) by omega, List.drop_take, List.drop_append_of_le_length hs, List.take_append, List.take_take, List.length_take, List.length_drop, List.take_replicate]
  have e1 : 256 * (a + k + 1) - 256 * (a + k) = 256 := by omega
  rw [e1, Nat.min_self]
  congr 2
  unfold secs at h ⊢
  omega
end Go.Proofs.Ytiaabgmmmekpnaa

namespace Go.Proofs.Ytiaabgmmmekpnaa
open Go.RowKit
set_option maxRecDepth 100000

/-- What stands while the tally is written, whatever has been done of it. -/
def tI (BX DC : Array Value) (n s : Nat) (data T : List UInt8) (i : Int) (R : Dev × Int) (ok : Nat → Prop) (w W : World) (d : Nat → Bool) (a : Act) (x : World) : Prop :=
  ∃ (v10 v11 v12 v13 v14 v15 v16 v17 v18 v19 v20 v21 v22 v23 v24 v25 v26 v27 : Value) (g10 : Nat) (C8 : Array Value) (okP : Nat → Prop), a = ⟨#[.agg BX, .int .u64 (n : Int), .int .i64 (s : Int), str data, .pointer (some ⟨w.heap.size, 0, none⟩), undef, undef, undef, .pointer (some ⟨w.heap.size + 1, 0, none⟩), .int .i64 0, v10, v11, v12, v13, v14, v15, v16, v17, v18, v19, v20, v21, v22, v23, v24, v25, v26, v27, undef, undef, undef, undef, undef, undef, undef, undef, undef, undef, undef, undef, undef, undef, undef, undef, undef, undef, undef, undef, undef], []⟩ ∧ Below W.heap.size W x ∧
    (d 0 = true → v13 = .pointer (some ⟨w.heap.size, 0, none⟩)) ∧
    (d 1 = true → v14 = .agg DC) ∧
    (d 2 = true → v15 = .int .u64 (n : Int)) ∧
    (d 3 = true → v16 = .int .u64 i) ∧
    (d 4 = true → v17 = .int .i64 i) ∧
    (d 5 = true → v18 = .int .u64 (n : Int)) ∧
    (d 6 = true → v19 = .int .i64 (s : Int)) ∧
    (d 7 = true → v20 = .int .u64 (s : Int)) ∧
    (d 8 = true → v21 = str data) ∧
    (d 9 = true → v22 = .int .i64 (data.length : Int)) ∧
    (d 10 = true → v23 = .int .u64 (data.length : Int)) ∧
    (d 11 = true → v24 = str T) ∧
    (d 12 = true → v25 = .tuple #[.agg C8, .int .i64 R.2]) ∧
    (d 12 = true → IsDev x okP (.agg C8) R.1) ∧
    (d 12 = true → ∀ k, okP k → ((ok k ∧ k < w.heap.size) ∨ W.heap.size ≤ k) ∧ k < x.heap.size) ∧
    (d 12 = true → d 16 = true → ¬ okP g10) ∧
    (d 13 = true → v12 = .tuple #[.agg C8, .int .i64 R.2]) ∧
    (d 14 = true → v26 = .agg C8) ∧
    (d 15 = true → v27 = .int .i64 R.2) ∧
    (d 16 = true → v10 = .pointer (some ⟨g10, 0, none⟩) ∧ W.heap.size ≤ g10 ∧ Blk x g10 36 (if d 17 = true then C8 else zeroD)) ∧
    (d 18 = true → v11 = .int .i64 R.2) ∧
    (d 13 = true → d 12 = true) ∧
    (d 14 = true → d 12 = true) ∧
    (d 15 = true → d 12 = true) ∧
    (d 17 = true → d 16 = true) ∧
    (d 17 = true → d 12 = true) ∧
    (d 18 = true → d 12 = true)
theorem nineteen {k n : Nat} (h : k < n) (hn : n = 19) : k = 0 ∨ k = 1 ∨ k = 2 ∨ k = 3 ∨ k = 4 ∨ k = 5 ∨ k = 6 ∨ k = 7 ∨ k = 8 ∨ k = 9 ∨ k = 10 ∨ k = 11 ∨ k = 12 ∨ k = 13 ∨ k = 14 ∨ k = 15 ∨ k = 16 ∨ k = 17 ∨ k = 18 := by omega

set_option maxHeartbeats 4000000 in
theorem reftell_any (ok : Nat → Prop) (v : Value) (D : Dev) (r : RJ) (n s : Nat) (data : List UInt8) (w : World) (hv : IsRJ w ok v D r) (hwf : D.Wf) (hl : D.sure.length ≤ 4096) (hfew : D.loose.length ≤ 1000000 ∧ D.changes ≤ 1000000) (hlt : D.left ≤ 9223372036854775807) (hn : n < 9223372036854775808) (hs : s ≤ 1) (hdata : data.length ≤ 1000000000) :
    Calls Try.prog 41 #[v, .int .u64 (n : Int), .int .i64 (s : Int), str data] w fun e w' => ∃ v', e = .returned (.tuple #[v', .int .i64 (tellR D r n s data).2]) ∧ IsRJ w' (fun k => ok k ∨ w.heap.size ≤ k) v' (tellR D r n s data).1.1 (tellR D r n s data).1.2 ∧ Below w.heap.size w w' := by
  obtain ⟨C0, rfl, hdv⟩ := hv.cells
  have hC0 := hdv.size
  obtain ⟨W, hW⟩ : ∃ W, W = ((w.alloc (.cells (jc C0 r) 40)).alloc (.cells (jc zeroD rj0) 40)) := ⟨_, rfl⟩
  have hbW : Below w.heap.size w W := by rw [hW]; exact ((Below.refl _ _).alloc (Nat.le_refl _) _).alloc (by simp) _
  have hB0 : Blk W w.heap.size 40 (jc C0 r) := by rw [hW]; exact (Blk.new w _ _).alloc _
  have hZ0 : Blk W (w.heap.size + 1) 40 (jc zeroD rj0) := by
    have := Blk.new (w.alloc (.cells (jc C0 r) 40)) 40 (jc zeroD rj0)
    rw [World.size_alloc] at this
    rw [hW]; exact this
  have hV : IsDev W (fun k => ok k ∧ k < w.heap.size) (.agg C0) D := hdv.move (fun k hk hk2 => ⟨⟨hk, hk2⟩, hbW.block k hk2⟩)
  obtain ⟨i, hi⟩ : ∃ i : Int, i = ((n % 2 : Nat) : Int) := ⟨_, rfl⟩
  have hmod : (n : Int).tmod 2 = i := by rw [hi, Int.tmod_eq_emod_of_nonneg (by omega)]; omega
  have hiw : IntKind.i64.wrap i = i := by rw [hi, IntKind.wrap_i64] <;> omega
  have hiw2 : IntKind.u64.wrap i = i := by rw [hi, IntKind.wrap_u64]; omega
  have hsw : IntKind.u64.wrap (s : Int) = (s : Int) := by rw [IntKind.wrap_u64]; omega
  have hdw : IntKind.u64.wrap (data.length : Int) = (data.length : Int) := by rw [IntKind.wrap_u64]; omega
  have hT := fun z => reftally_any n s data.length z (by omega) (by omega) (by omega)
  have htl := tallyB_length n s data.length
  obtain ⟨R, hR⟩ : ∃ R : Dev × Int, R = D.put i (tallyB n s data.length) := ⟨_, rfl⟩
  have hP : ∀ (okx : Nat → Prop) (x : World), IsDev x okx (.agg C0) D → Calls Try.prog 64 #[.agg C0, .int .i64 i, str (tallyB n s data.length)] x fun e w' => ∃ v', e = .returned (.tuple #[v', .int .i64 R.2]) ∧ IsDev w' (fun k => okx k ∨ x.heap.size ≤ k) v' R.1 ∧ Below x.heap.size x w' := fun okx x hx => by
    rw [hR]
    exact refput_any okx _ D i _ x hx hwf (by omega) (by omega) (by omega) hlt (by rw [htl]; unfold maxLen; omega)
  have hRw : R.1.Wf := by rw [hR]; exact put_wf hwf _ _
  have hRt : R.1.left ≤ 9223372036854775807 := by rw [hR]; exact put_left hlt (by omega) _ _
  have HL := Lib.hid hRt
  clear hRt
  have hRl : R.1.sure.length ≤ 4096 := by rw [hR, put_length]; exact hl
  have hRf : R.1.loose.length ≤ 1000001 ∧ R.1.changes ≤ 1000001 := by
    have := put_few (D := D) (m := 1000000) ⟨hfew.1, hfew.2⟩ i (tallyB n s data.length)
    rw [← hR] at this
    exact ⟨this.1, this.2⟩
  have htD : tellD D n s data.length = if R.2 ≠ 0 then R else R.1.barrier := by unfold tellD; rw [← hi, ← hR]
  obtain ⟨TT, hTT⟩ : ∃ TT, TT = tallyB n s data.length := ⟨_, rfl⟩
  rw [← hTT] at hT hP
  have HW := Lib.hid hW
  rw [jc_zero] at HW
  have HbW := Lib.hid hbW
  have HWs := Lib.hid hbW.size
  have HB := Lib.hid hB0
  have HZ := Lib.hid hZ0
  have HV := Lib.hid hV
  have HT := Lib.hid hT
  have HP := Lib.hid hP
  have HR := Lib.hid (And.intro hRw (And.intro hRl hRf))
  have HtD := Lib.hid htD
  have hC8 := Lib.hid hC0
  have HI := Lib.hid hi
  clear hC0
  clear hW hbW hB0 hZ0 hV hT hP hRw hRl hRf htD hTT hR htl hdv hi hwf hl hfew hlt hn hs hdata
  go_enter Try.func41, Try.ntmps41
  go_upto_region 1 with (fail)
  rw [← HW.out]
  go_cut [10, 11] (fun p q wx => ∃ (g10 : Nat) (C8 : Array Value) (okP : Nat → Prop), p = .pointer (some ⟨g10, 0, none⟩) ∧ q = .int .i64 R.2 ∧ W.heap.size ≤ g10 ∧ Blk wx g10 36 C8 ∧ IsDev wx okP (.agg C8) R.1 ∧ (∀ k, okP k → ((ok k ∧ k < w.heap.size) ∨ W.heap.size ≤ k) ∧ k < wx.heap.size) ∧ ¬ okP g10 ∧ Below W.heap.size W wx)
  case first =>
    refine wp_region_inv (tI (jc C0 r) C0 n s data TT i R ok w W) (by kernel_rfl) (by kernel_rfl) ?_ ?_ ?_
    · exact ⟨undef, undef, undef, undef, undef, undef, undef, undef, undef, undef, undef, undef, undef, undef, undef, undef, undef, undef, 0, #[], fun _ => False, rfl, (Below.refl W.heap.size W).drew, (fun q => by cases q), (fun q => by cases q), (fun q => by cases q), (fun q => by cases q), (fun q => by cases q), (fun q => by cases q), (fun q => by cases q), (fun q => by cases q), (fun q => by cases q), (fun q => by cases q), (fun q => by cases q), (fun q => by cases q), (fun q => by cases q), (fun q => by cases q), (fun q => by cases q), (fun q => by cases q), (fun q => by cases q), (fun q => by cases q), (fun q => by cases q), (fun q => by cases q), (fun q => by cases q), (fun q => by cases q), (fun q => by cases q), (fun q => by cases q), (fun q => by cases q), (fun q => by cases q), (fun q => by cases q)⟩
    · intro i' o hi d a x hd hpre hI K hK
      obtain ⟨v10, v11, v12, v13, v14, v15, v16, v17, v18, v19, v20, v21, v22, v23, v24, v25, v26, v27, g10, C8, okP, rfl, hb, h0, h1, h2, h3, h4, h5, h6, h7, h8, h9, h10, h11, h12, hD, hok, hno, h13, h14, h15, h16, h18, k13, k14, k15, k17, k172, k18⟩ := hI
      have hlt := (Array.getElem?_eq_some_iff.1 hi).1
      rcases nineteen hlt rfl with rfl | rfl | rfl | rfl | rfl | rfl | rfl | rfl | rfl | rfl | rfl | rfl | rfl | rfl | rfl | rfl | rfl | rfl | rfl
      all_goals (have ho := Option.some.inj hi; subst ho; clear hi hlt)
      · go_simp
        exact hK _ _ ⟨v10, v11, v12, _, v14, v15, v16, v17, v18, v19, v20, v21, v22, v23, v24, v25, v26, v27, g10, C8, okP, rfl, hb, fun _ => rfl, h1, h2, h3, h4, h5, h6, h7, h8, h9, h10, h11, h12, hD, hok, hno, h13, h14, h15, h16, h18, k13, k14, k15, k17, k172, k18⟩
      · obtain rfl := h0 (hpre { on := 0, ground := Ground.data } (by simp) rfl)
        refine step_plain rfl (wp_load_mid 36 (.tmp 13) rfl w.heap.size 0 rfl C0.toList _ (jc_range hC8.out.1 (HB.out.grow hb)) Try.underlying36 rfl (by rw [Array.length_toList, hC8.out.1]; exact dev_info) (hK _ _ ?_))
        exact ⟨v10, v11, v12, _, _, v15, v16, v17, v18, v19, v20, v21, v22, v23, v24, v25, v26, v27, g10, C8, okP, rfl, hb, h0, fun _ => by simp, h2, h3, h4, h5, h6, h7, h8, h9, h10, h11, h12, hD, hok, hno, h13, h14, h15, h16, h18, k13, k14, k15, k17, k172, k18⟩
      · go_simp
        exact hK _ _ ⟨v10, v11, v12, v13, v14, _, v16, v17, v18, v19, v20, v21, v22, v23, v24, v25, v26, v27, g10, C8, okP, rfl, hb, h0, h1, fun _ => rfl, h3, h4, h5, h6, h7, h8, h9, h10, h11, h12, hD, hok, hno, h13, h14, h15, h16, h18, k13, k14, k15, k17, k172, k18⟩
      · obtain rfl := h2 (hpre { on := 2, ground := Ground.data } (by simp) rfl)
        go_simp
        exact hK _ _ ⟨v10, v11, v12, v13, v14, _, _, v17, v18, v19, v20, v21, v22, v23, v24, v25, v26, v27, g10, C8, okP, rfl, hb, h0, h1, h2, fun _ => rfl, h4, h5, h6, h7, h8, h9, h10, h11, h12, hD, hok, hno, h13, h14, h15, h16, h18, k13, k14, k15, k17, k172, k18⟩
      · obtain rfl := h3 (hpre { on := 3, ground := Ground.data } (by simp) rfl)
        go_simp
        exact hK _ _ ⟨v10, v11, v12, v13, v14, v15, _, _, v18, v19, v20, v21, v22, v23, v24, v25, v26, v27, g10, C8, okP, rfl, hb, h0, h1, h2, h3, fun _ => rfl, h5, h6, h7, h8, h9, h10, h11, h12, hD, hok, hno, h13, h14, h15, h16, h18, k13, k14, k15, k17, k172, k18⟩
      · go_simp
        exact hK _ _ ⟨v10, v11, v12, v13, v14, v15, v16, v17, _, v19, v20, v21, v22, v23, v24, v25, v26, v27, g10, C8, okP, rfl, hb, h0, h1, h2, h3, h4, fun _ => rfl, h6, h7, h8, h9, h10, h11, h12, hD, hok, hno, h13, h14, h15, h16, h18, k13, k14, k15, k17, k172, k18⟩
      · go_simp
        exact hK _ _ ⟨v10, v11, v12, v13, v14, v15, v16, v17, v18, _, v20, v21, v22, v23, v24, v25, v26, v27, g10, C8, okP, rfl, hb, h0, h1, h2, h3, h4, h5, fun _ => rfl, h7, h8, h9, h10, h11, h12, hD, hok, hno, h13, h14, h15, h16, h18, k13, k14, k15, k17, k172, k18⟩
      · obtain rfl := h6 (hpre { on := 6, ground := Ground.data } (by simp) rfl)
        go_simp
        exact hK _ _ ⟨v10, v11, v12, v13, v14, v15, v16, v17, v18, _, _, v21, v22, v23, v24, v25, v26, v27, g10, C8, okP, rfl, hb, h0, h1, h2, h3, h4, h5, h6, fun _ => rfl, h8, h9, h10, h11, h12, hD, hok, hno, h13, h14, h15, h16, h18, k13, k14, k15, k17, k172, k18⟩
      · go_simp
        exact hK _ _ ⟨v10, v11, v12, v13, v14, v15, v16, v17, v18, v19, v20, _, v22, v23, v24, v25, v26, v27, g10, C8, okP, rfl, hb, h0, h1, h2, h3, h4, h5, h6, h7, fun _ => rfl, h9, h10, h11, h12, hD, hok, hno, h13, h14, h15, h16, h18, k13, k14, k15, k17, k172, k18⟩
      · obtain rfl := h8 (hpre { on := 8, ground := Ground.data } (by simp) rfl)
        go_simp
        exact hK _ _ ⟨v10, v11, v12, v13, v14, v15, v16, v17, v18, v19, v20, _, _, v23, v24, v25, v26, v27, g10, C8, okP, rfl, hb, h0, h1, h2, h3, h4, h5, h6, h7, h8, fun _ => rfl, h10, h11, h12, hD, hok, hno, h13, h14, h15, h16, h18, k13, k14, k15, k17, k172, k18⟩
      · obtain rfl := h9 (hpre { on := 9, ground := Ground.data } (by simp) rfl)
        go_simp
        exact hK _ _ ⟨v10, v11, v12, v13, v14, v15, v16, v17, v18, v19, v20, v21, _, _, v24, v25, v26, v27, g10, C8, okP, rfl, hb, h0, h1, h2, h3, h4, h5, h6, h7, h8, h9, fun _ => rfl, h11, h12, hD, hok, hno, h13, h14, h15, h16, h18, k13, k14, k15, k17, k172, k18⟩
      · obtain rfl := h5 (hpre { on := 5, ground := Ground.data } (by simp) rfl)
        obtain rfl := h7 (hpre { on := 7, ground := Ground.data } (by simp) rfl)
        obtain rfl := h10 (hpre { on := 10, ground := Ground.data } (by simp) rfl)
        go_simp
        refine (HT.out _).mono ?_
        rintro e x2 ⟨rfl, hb2⟩
        have hsame : ∀ k, k < x.heap.size → x2.heap[k]? = x.heap[k]? := fun k hk => hb2.block k hk
        go_simp
        exact hK _ _ ⟨v10, v11, v12, v13, v14, v15, v16, v17, _, v19, _, v21, v22, _, _, v25, v26, v27, g10, C8, okP, rfl, below_call hb hb2, h0, h1, h2, h3, h4, h5, h6, h7, h8, h9, h10, fun _ => rfl, h12, fun q => (hD q).frame (fun k _ hk => hsame k hk), fun q k hk => ⟨(hok q k hk).1, Nat.lt_of_lt_of_le (hok q k hk).2 hb2.size⟩, hno, h13, h14, h15, fun q => ⟨(h16 q).1, (h16 q).2.1, (h16 q).2.2.grow hb2⟩, h18, k13, k14, k15, k17, k172, k18⟩
      · obtain rfl := h1 (hpre { on := 1, ground := Ground.data } (by simp) rfl)
        obtain rfl := h4 (hpre { on := 4, ground := Ground.data } (by simp) rfl)
        obtain rfl := h11 (hpre { on := 11, ground := Ground.data } (by simp) rfl)
        go_simp
        have hdx : IsDev x (fun k => ok k ∧ k < w.heap.size) (.agg C0) D := HV.out.move (fun k hk hl => ⟨hk, hb.block k hl⟩)
        refine (HP.out _ x hdx).mono ?_
        rintro e x2 ⟨v', rfl, hdev, hb2⟩
        obtain ⟨C, rfl⟩ : ∃ C : Array Value, v' = .agg C := by obtain ⟨_, _, _, _, _, _, e, _⟩ := hdev; exact ⟨_, e⟩
        have hdev2 : IsDev x2 (fun k => ((ok k ∧ k < w.heap.size) ∨ x.heap.size ≤ k) ∧ k < x2.heap.size) (.agg C) R.1 := hdev.move (fun k hk hl => ⟨⟨hk, hl⟩, rfl⟩)
        go_simp
        exact hK _ _ ⟨v10, v11, v12, v13, _, v15, v16, _, v18, v19, v20, v21, v22, v23, _, _, v26, v27, g10, C, (fun k => ((ok k ∧ k < w.heap.size) ∨ x.heap.size ≤ k) ∧ k < x2.heap.size), rfl, below_call hb hb2, h0, h1, h2, h3, h4, h5, h6, h7, h8, h9, h10, h11, fun _ => rfl, fun _ => hdev2, fun _ k hk => ⟨hk.1.elim (fun q => Or.inl q) (fun q => Or.inr (Nat.le_trans hb.size q)), hk.2⟩, fun _ q hk => hk.1.elim (fun y => by have := (h16 q).2.1; have := HWs.out; omega) (fun y => by have := blk_lt' (h16 q).2.2; omega), (fun q => by have := k13 q; rw [hd] at this; cases this), (fun q => by have := k14 q; rw [hd] at this; cases this), (fun q => by have := k15 q; rw [hd] at this; cases this), fun q => ⟨(h16 q).1, (h16 q).2.1, (by have h := (h16 q).2.2; rw [if_neg (fun y => by have := k172 y; rw [hd] at this; cases this)] at h; rw [if_neg (fun y => by have := k172 y; rw [hd] at this; cases this)]; exact h.grow hb2)⟩, (fun q => by have := k18 q; rw [hd] at this; cases this), fun _ => rfl, fun _ => rfl, fun _ => rfl, k17, fun _ => rfl, fun _ => rfl⟩
      · obtain rfl := h12 (hpre { on := 12, ground := Ground.data } (by simp) rfl)
        go_simp
        exact hK _ _ ⟨v10, v11, _, v13, v14, v15, v16, v17, v18, v19, v20, v21, v22, v23, v24, _, v26, v27, g10, C8, okP, rfl, hb, h0, h1, h2, h3, h4, h5, h6, h7, h8, h9, h10, h11, h12, hD, hok, hno, fun _ => rfl, h14, h15, h16, h18, fun _ => hpre { on := 12, ground := Ground.data } (by simp) rfl, k14, k15, k17, k172, k18⟩
      · obtain rfl := h13 (hpre { on := 13, ground := Ground.data } (by simp) rfl)
        go_simp
        exact hK _ _ ⟨v10, v11, _, v13, v14, v15, v16, v17, v18, v19, v20, v21, v22, v23, v24, v25, _, v27, g10, C8, okP, rfl, hb, h0, h1, h2, h3, h4, h5, h6, h7, h8, h9, h10, h11, h12, hD, hok, hno, h13, fun _ => rfl, h15, h16, h18, k13, fun _ => k13 (hpre { on := 13, ground := Ground.data } (by simp) rfl), k15, k17, k172, k18⟩
      · obtain rfl := h13 (hpre { on := 13, ground := Ground.data } (by simp) rfl)
        go_simp
        exact hK _ _ ⟨v10, v11, _, v13, v14, v15, v16, v17, v18, v19, v20, v21, v22, v23, v24, v25, v26, _, g10, C8, okP, rfl, hb, h0, h1, h2, h3, h4, h5, h6, h7, h8, h9, h10, h11, h12, hD, hok, hno, h13, h14, fun _ => rfl, h16, h18, k13, k14, fun _ => k13 (hpre { on := 13, ground := Ground.data } (by simp) rfl), k17, k172, k18⟩
      · go_simp
        exact hK _ _ ⟨.pointer (some ⟨x.heap.size, 0, none⟩), v11, v12, v13, v14, v15, v16, v17, v18, v19, v20, v21, v22, v23, v24, v25, v26, v27, x.heap.size, C8, okP, rfl, hb.alloc hb.size _, h0, h1, h2, h3, h4, h5, h6, h7, h8, h9, h10, h11, h12, fun q => (hD q).frame (fun k _ hk => Below.heap_alloc _ _ _ hk), fun q k hk => ⟨(hok q k hk).1, by have := (hok q k hk).2; rw [World.size_alloc]; omega⟩, fun q _ hk => by have := (hok q _ hk).2; omega, h13, h14, h15, fun _ => ⟨rfl, hb.size, by rw [if_neg (fun q => by have q2 := k17 q; rw [hd] at q2; cases q2)]; exact Blk.new x _ _⟩, h18, k13, k14, k15, fun _ => rfl, k172, k18⟩
      · have d16 := hpre { on := 16, ground := Ground.data } (by simp) rfl
        have d14 := hpre { on := 14, ground := Ground.data } (by simp) rfl
        have d12 := k14 d14
        obtain rfl := h14 d14
        obtain ⟨rfl, hg, hblk⟩ := h16 d16
        rw [if_neg (by rw [hd]; decide)] at hblk
        have hsz := (hD d12).size
        refine step_plain rfl (wp_store_row 36 (.tmp 10) (.tmp 26) rfl g10 C8 rfl rfl 36 zeroD hblk (by rw [hsz.1]; exact dev_info) (by rw [hsz.1]; rfl) hsz.2 (hK _ _ ?_))
        exact ⟨_, v11, v12, v13, v14, v15, v16, v17, v18, v19, v20, v21, v22, v23, v24, v25, _, v27, g10, C8, okP, rfl, below_setRow hb hg _, h0, h1, h2, h3, h4, h5, h6, h7, h8, h9, h10, h11, h12, fun q => (hD q).frame (fun k hk _ => setRow_other _ _ _ _ (fun e => hno q d16 (e ▸ hk))), fun q k hk => ⟨(hok q k hk).1, by have := (hok q k hk).2; simpa using this⟩, hno, h13, h14, h15, fun _ => ⟨rfl, hg, hblk.setRow_ C8⟩, h18, k13, k14, k15, fun _ => d16, fun _ => d12, k18⟩
      · obtain rfl := h15 (hpre { on := 15, ground := Ground.data } (by simp) rfl)
        go_simp
        exact hK _ _ ⟨v10, _, v12, v13, v14, v15, v16, v17, v18, v19, v20, v21, v22, v23, v24, v25, v26, _, g10, C8, okP, rfl, hb, h0, h1, h2, h3, h4, h5, h6, h7, h8, h9, h10, h11, h12, hD, hok, hno, h13, h14, h15, h16, fun _ => rfl, k13, k14, k15, k17, k172, fun _ => k15 (hpre { on := 15, ground := Ground.data } (by simp) rfl)⟩
    · intro d a x hall hI
      obtain ⟨v10, v11, v12, v13, v14, v15, v16, v17, v18, v19, v20, v21, v22, v23, v24, v25, v26, v27, g10, C8, okP, rfl, hb, h0, h1, h2, h3, h4, h5, h6, h7, h8, h9, h10, h11, h12, hD, hok, hno, h13, h14, h15, h16, h18, k13, k14, k15, k17, k172, k18⟩ := hI
      obtain ⟨rfl, hg, b10⟩ := h16 (hall 16 (by decide))
      rw [if_pos (hall 17 (by decide))] at b10
      obtain rfl := h18 (hall 18 (by decide))
      have dD := hD (hall 12 (by decide))
      have dok := hok (hall 12 (by decide))
      have dno := hno (hall 12 (by decide)) (hall 16 (by decide))
      have B10 := Lib.hid b10
      have DD := Lib.hid dD
      have DK := Lib.hid dok
      have DN := Lib.hid dno
      have Hg := Lib.hid hg
      clear h0 h1 h2 h3 h4 h5 h6 h7 h8 h9 h10 h11 h12 hD hok hno h13 h14 h15 h16 k13 k14 k15 k17 k172 k18 hall b10 dD dok dno hg
      dsimp only
      go_wp2_with fail
      go_meet
      exact ⟨_, _, _, rfl, rfl, Hg.out, B10.out, DD.out, DK.out, DN.out, hb⟩
  case rest =>
    obtain ⟨g10, C8, okP, rfl, rfl, hg, hblk, hdev, hok, hno, hbx⟩ := hcut
    have hx1 := HB.out.grow hbx
    have hx2 := HZ.out.grow hbx
    have hb0 := below_call HbW.out hbx
    have hW1 := blk_lt' HZ.out
    have hsz := hdev.size
    have hok2 : ∀ k, okP k → ((ok k ∨ w.heap.size ≤ k) ∧ k ≠ w.heap.size ∧ k ≠ w.heap.size + 1) ∧ k < wc.heap.size := fun k h => by
      have h1 := hok k h
      refine ⟨?_, h1.2⟩
      rcases h1.1 with h2 | h2
      · exact ⟨Or.inl h2.1, by omega, by omega⟩
      · exact ⟨Or.inr (by omega), by omega, by omega⟩
    have hgw : w.heap.size + 1 < g10 := by omega
    have hglt := blk_lt' hblk
    have Hx1 := Lib.hid hx1
    have Hx2 := Lib.hid hx2
    have Hx3 := Lib.hid hblk
    have Hx4 := Lib.hid hdev
    have Hok := Lib.hid hok2
    have Hno := Lib.hid hno
    have Hsz := Lib.hid hsz
    clear hx1 hx2 hblk hdev hok hok2 hno hsz hbx hg hW1
    go_upto_if 29 with fail
    go_cut [11] (fun q wy => ∃ (C : Array Value) (E : Dev × Int) (okQ : Nat → Prop), q = .int .i64 E.2 ∧ E = tellD D n s data.length ∧ C.size = 8 ∧ C.all (·.oneCell') = true ∧ Blk wy w.heap.size 40 (jc C0 r) ∧ Blk wy (w.heap.size + 1) 40 (jc zeroD rj0) ∧ Blk wy g10 36 C ∧ IsDev wy okQ (.agg C) E.1 ∧ (∀ k, okQ k → (ok k ∨ w.heap.size ≤ k) ∧ k ≠ w.heap.size ∧ k ≠ w.heap.size + 1) ∧ Below w.heap.size w wy)
    case first =>
      by_cases hR0 : R.2 = 0
      · rw [hR0]
        have HR0 := Lib.hid hR0
        clear hR0
        have hd8 : (Try.prog.info? 36).map (·.size) = some C8.size := by rw [Hsz.out.1]; exact dev_info
        have Hd8 := Lib.hid hd8
        clear hd8
        go_wp2_with (refine wpList_load_row rfl 36 (.tmp 10) rfl g10 rfl 36 C8 (0, 0) _ Hx3.out Try.underlying36 rfl Hd8.out ?_)
        refine (refbarrier_any okP (.agg C8) R.1 _ Hx4.out HR.out.1 (by have := HR.out.2.1; omega) (by have := HR.out.2.2; omega) (by have := HR.out.2.2; omega) HL.out).mono ?_
        rintro e x2 ⟨v', rfl, hdev2, hb2⟩
        obtain ⟨C, rfl⟩ : ∃ C : Array Value, v' = .agg C := by obtain ⟨_, _, _, _, _, _, e, _⟩ := hdev2; exact ⟨_, e⟩
        have hsz2 := hdev2.size
        have htd := HtD.out
        rw [HR0.out, if_neg (by decide)] at htd
        have Hy3 := Lib.hid (Hx3.out.grow hb2)
        obtain ⟨x3, hx3⟩ : ∃ x3, x3 = x2.setRow g10 C := ⟨_, rfl⟩
        have a1 : Blk x3 w.heap.size 40 (jc C0 r) := by rw [hx3]; exact (Hx1.out.grow hb2).setRowFar (by omega) C
        have a2 : Blk x3 (w.heap.size + 1) 40 (jc zeroD rj0) := by rw [hx3]; exact (Hx2.out.grow hb2).setRowFar (by omega) C
        have a3 : Blk x3 g10 36 C := by rw [hx3]; exact Hy3.out.setRow_ C
        have hb2s := hb2.size
        have a4 : IsDev x3 (fun k => okP k ∨ wc.heap.size ≤ k) (.agg C) R.1.barrier.1 := by
          rw [hx3]
          exact hdev2.move (fun k hk _ => ⟨hk, setRow_other _ _ _ _ (fun e => by subst e; rcases hk with h | h; exact Hno.out h; omega)⟩)
        have a5 : Below w.heap.size w x3 := by rw [hx3]; exact below_setRow (below_call hb0 hb2) (by omega) C
        have a6 : ∀ k, (okP k ∨ wc.heap.size ≤ k) → (ok k ∨ w.heap.size ≤ k) ∧ k ≠ w.heap.size ∧ k ≠ w.heap.size + 1 := fun k hk => by
          rcases hk with h | h
          · exact (Hok.out k h).1
          · exact ⟨Or.inr (by omega), by omega, by omega⟩
        have A1 := Lib.hid a1
        have A2 := Lib.hid a2
        have A3 := Lib.hid a3
        have A4 := Lib.hid a4
        have A5 := Lib.hid a5
        have A6 := Lib.hid a6
        have HX3 := Lib.hid hx3
        have Hsz2 := Lib.hid hsz2
        have HtD2 := Lib.hid htd
        have hd9 : (Try.prog.info? 36).map (·.size) = some C.size := by rw [hsz2.1]; exact dev_info
        have Hd9 := Lib.hid hd9
        have Hold := Lib.hid (Hsz.out.1.trans hsz2.1.symm)
        clear a1 a2 a3 a4 a5 a6 hx3 hsz2 htd hdev2 hb2 hd9 hb2s hb0
        go_wp2_with (refine wpList_store_row rfl 36 (.tmp 10) (.tmp 33) rfl g10 C rfl rfl 36 C8 Hy3.out Hd9.out Hold.out Hsz2.out.2 ?_; rw [← HX3.out])
        go_meet
        exact ⟨C, R.1.barrier, _, rfl, HtD2.out.symm, Hsz2.out.1, Hsz2.out.2, A1.out, A2.out, A3.out, A4.out, A6.out, A5.out⟩
      · have hq0 : (R.2 == 0) = false := beq_eq_false_iff_ne.2 hR0
        have htd := HtD.out
        rw [if_pos hR0] at htd
        have HtD2 := Lib.hid htd
        have Hb0 := Lib.hid hb0
        clear htd hR0 hb0
        go_wp2_with fail
        go_meet
        exact ⟨C8, R, okP, rfl, HtD2.out.symm, Hsz.out.1, Hsz.out.2, Hx1.out, Hx2.out, Hx3.out, Hx4.out, fun k h => (Hok.out k h).1, Hb0.out⟩
    case rest =>
      obtain ⟨C, E, okQ, rfl, hE, hs8, hs1, a1, a2, a3, a4, a6, a5⟩ := hcut
      obtain ⟨y3, hy3⟩ : ∃ y3, y3 = wc := ⟨_, rfl⟩
      rw [← hy3] at a1 a2 a3 a4 a5 ⊢
      clear hy3
      obtain ⟨x4, hx4⟩ : ∃ x4, x4 = y3.setCells w.heap.size 0 C.toList := ⟨_, rfl⟩
      have b1 : Blk x4 w.heap.size 40 (jc C r) := by rw [hx4]; exact jc_put hC8.out.1 hs8 a1
      have b2 : Blk x4 (w.heap.size + 1) 40 (jc zeroD rj0) := by rw [hx4]; exact (heap_setCells _ _ _ _ _ (by omega)).trans a2
      have b4 : IsDev x4 okQ (.agg C) E.1 := a4.frame (fun k hk _ => by rw [hx4]; exact heap_setCells _ _ _ _ _ (a6 k hk).2.1)
      have b5 : Below w.heap.size w x4 := by rw [hx4]; exact below_setCellsJ (Nat.le_refl _) _ 0 _ a5
      have t5 : y3.there w.heap.size 0 C.size := by rw [hs8]; exact jc_there hC8.out.1 a1
      have hd9 : (Try.prog.info? 36).map (·.size) = some C.size := by rw [hs8]; exact dev_info
      by_cases hE0 : E.2 = 0
      · rw [hE0]
        have htr : tellR D r n s data = ((E.1, { r with number := n, side := s, data := data }), 0) := by
          unfold tellR
          rw [← hE, if_neg (by rw [hE0]; decide)]
        obtain ⟨r2, hr2⟩ : ∃ r2 : RJ, r2 = { r with number := n, side := s, data := data } := ⟨_, rfl⟩
        rw [← hr2] at htr
        obtain ⟨x5, hx5⟩ : ∃ x5, x5 = (((x4.setCell ⟨w.heap.size, 8, none⟩ (.int .u64 (n : Int))).setCell ⟨w.heap.size, 9, none⟩ (.int .i64 (s : Int))).setCell ⟨w.heap.size, 10, none⟩ (str data)) := ⟨_, rfl⟩
        have c1 : Blk x5 w.heap.size 40 (jc C r2) := by
          rw [hx5, hr2]
          have := (((b1.set_ 8 (.int .u64 (n : Int))).set_ 9 (.int .i64 (s : Int))).set_ 10 (str data))
          simpa only [jc_st8 hs8, jc_st9 hs8, jc_st10 hs8] using this
        have c2 : Blk x5 (w.heap.size + 1) 40 (jc zeroD rj0) := by rw [hx5]; exact (((b2.far (p := ⟨w.heap.size, 8, none⟩) (by show w.heap.size + 1 ≠ w.heap.size; omega) (.int .u64 (n : Int))).far (p := ⟨w.heap.size, 9, none⟩) (by show w.heap.size + 1 ≠ w.heap.size; omega) (.int .i64 (s : Int))).far (p := ⟨w.heap.size, 10, none⟩) (by show w.heap.size + 1 ≠ w.heap.size; omega) (str data))
        have c4 : IsDev x5 okQ (.agg C) E.1 := b4.frame (fun k hk _ => by rw [hx5]; exact (heap_setCell_other _ _ _ _ (a6 k hk).2.1).trans ((heap_setCell_other _ _ _ _ (a6 k hk).2.1).trans (heap_setCell_other _ _ _ _ (a6 k hk).2.1)))
        have c5 : Below w.heap.size w x5 := by rw [hx5]; exact (((b5.setCell (p := ⟨w.heap.size, 8, none⟩) (Nat.le_refl _) (.int .u64 (n : Int))).setCell (p := ⟨w.heap.size, 9, none⟩) (Nat.le_refl _) (.int .i64 (s : Int))).setCell (p := ⟨w.heap.size, 10, none⟩) (Nat.le_refl _) (str data))
        have q8 := b1.cell 8
        rw [show (8 : Nat) = 8 + 0 from rfl, jc_tail hs8] at q8
        have q8' : x4.cell? ⟨w.heap.size, 8, none⟩ = some (.int .u64 (r.number : Int)) := q8
        have f8 := b1.frozen 8
        have q9 := b1.cell 9
        rw [show (9 : Nat) = 8 + 1 from rfl, jc_tail hs8] at q9
        have q9' : x4.cell? ⟨w.heap.size, 9, none⟩ = some (.int .i64 (r.side : Int)) := q9
        have f9 := b1.frozen 9
        have q10 := b1.cell 10
        rw [show (10 : Nat) = 8 + 2 from rfl, jc_tail hs8] at q10
        have q10' : x4.cell? ⟨w.heap.size, 10, none⟩ = some (str r.data) := q10
        have f10 := b1.frozen 10
        clear q8 q9 q10
        obtain ⟨x6, hx6⟩ : ∃ x6, x6 = x5.setRow (w.heap.size + 1) (jc C r2) := ⟨_, rfl⟩
        have d2 : Blk x6 (w.heap.size + 1) 40 (jc C r2) := by rw [hx6]; exact c2.setRow_ _
        have d4 : IsDev x6 (fun k => ok k ∨ w.heap.size ≤ k) (.agg C) E.1 := by rw [hx6]; exact c4.move (fun k hk _ => ⟨(a6 k hk).1, setRow_other _ _ _ _ (a6 k hk).2.2⟩)
        have d5 : Below w.heap.size w x6 := by rw [hx6]; exact below_setRow c5 (by omega) _
        have hj : (Try.prog.info? 40).map (·.size) = some (jc C r2).size := by rw [jc_size hs8]; exact jn_info
        have ho : (jc zeroD rj0).size = (jc C r2).size := by rw [jc_size hs8]; rfl
        have hone : (jc C r2).all (·.oneCell') = true := jc_one hs1
        have Htr := Lib.hid htr
        have HX4 := Lib.hid hx4
        have HX5 := Lib.hid hx5
        have HX6 := Lib.hid hx6
        have C1 := Lib.hid c1
        have C2 := Lib.hid c2
        have D2 := Lib.hid d2
        have D4 := Lib.hid d4
        have D5 := Lib.hid d5
        have Hj := Lib.hid hj
        have Ho := Lib.hid ho
        have Hone := Lib.hid hone
        have T5 := Lib.hid t5
        have Hd9 := Lib.hid hd9
        have Hs1 := Lib.hid hs1
        have A3 := Lib.hid a3
        clear htr hr2 hx4 hx5 hx6 c1 c2 c4 c5 d2 d4 d5 hj ho hone t5 hd9 hs1 a3 b1 b2 b4 b5 a1 a2 a4 a5 a6 hs8 hE
        go_wp2_with (first | (refine wpList_load_row rfl 36 (.tmp 10) rfl g10 rfl 36 C (0, 0) _ A3.out Try.underlying36 rfl Hd9.out ?_) | (refine wpList_store_mid rfl 36 (.tmp 36) (.tmp 35) rfl w.heap.size 0 C rfl rfl T5.out Hd9.out Hs1.out ?_; rw [← HX4.out]) | (rw [← HX5.out]; refine wpList_load_row rfl 40 (.tmp 4) rfl w.heap.size rfl 40 (jc C r2) (0, 0) _ C1.out Try.underlying40 rfl Hj.out ?_) | (refine wpList_store_row rfl 40 (.tmp 8) (.tmp 48) rfl (w.heap.size + 1) (jc C r2) rfl rfl 40 (jc zeroD rj0) C2.out Hj.out Ho.out Hone.out ?_; rw [← HX6.out]))
        refine bodyPost_ret (v := .tuple #[.agg (jc C r2), .int .i64 0]) (results_cell_tmp Try.results41 _ _ (w.heap.size + 1) 40 (jc C r2) (0, 0) _ _ rfl rfl D2.out Try.underlying40 rfl Hj.out) rfl ⟨.agg (jc C r2), by rw [Htr.out], ?_, D5.out⟩
        rw [Htr.out]
        exact IsRJ.of_cells D4.out r2
      · have hq0 : (E.2 != 0) = true := bne_iff_ne.2 hE0
        have htr : tellR D r n s data = ((E.1, { r with broken := true }), E.2) := by
          unfold tellR
          rw [← hE, if_pos hE0]
        obtain ⟨r2, hr2⟩ : ∃ r2 : RJ, r2 = { r with broken := true } := ⟨_, rfl⟩
        rw [← hr2] at htr
        obtain ⟨x5, hx5⟩ : ∃ x5, x5 = (x4.setCell ⟨w.heap.size, 12, none⟩ (.bool true)) := ⟨_, rfl⟩
        have c1 : Blk x5 w.heap.size 40 (jc C r2) := by
          rw [hx5, hr2]
          have := (b1.set_ 12 (.bool true))
          simpa only [jc_st12 hs8] using this
        have c2 : Blk x5 (w.heap.size + 1) 40 (jc zeroD rj0) := by rw [hx5]; exact (b2.far (p := ⟨w.heap.size, 12, none⟩) (by show w.heap.size + 1 ≠ w.heap.size; omega) (.bool true))
        have c4 : IsDev x5 okQ (.agg C) E.1 := b4.frame (fun k hk _ => by rw [hx5]; exact heap_setCell_other _ _ _ _ (a6 k hk).2.1)
        have c5 : Below w.heap.size w x5 := by rw [hx5]; exact (b5.setCell (p := ⟨w.heap.size, 12, none⟩) (Nat.le_refl _) (.bool true))
        have q12 := b1.cell 12
        rw [show (12 : Nat) = 8 + 4 from rfl, jc_tail hs8] at q12
        have q12' : x4.cell? ⟨w.heap.size, 12, none⟩ = some (.bool r.broken) := q12
        have f12 := b1.frozen 12
        clear q12
        obtain ⟨x6, hx6⟩ : ∃ x6, x6 = x5.setRow (w.heap.size + 1) (jc C r2) := ⟨_, rfl⟩
        have d2 : Blk x6 (w.heap.size + 1) 40 (jc C r2) := by rw [hx6]; exact c2.setRow_ _
        have d4 : IsDev x6 (fun k => ok k ∨ w.heap.size ≤ k) (.agg C) E.1 := by rw [hx6]; exact c4.move (fun k hk _ => ⟨(a6 k hk).1, setRow_other _ _ _ _ (a6 k hk).2.2⟩)
        have d5 : Below w.heap.size w x6 := by rw [hx6]; exact below_setRow c5 (by omega) _
        have hj : (Try.prog.info? 40).map (·.size) = some (jc C r2).size := by rw [jc_size hs8]; exact jn_info
        have ho : (jc zeroD rj0).size = (jc C r2).size := by rw [jc_size hs8]; rfl
        have hone : (jc C r2).all (·.oneCell') = true := jc_one hs1
        have Htr := Lib.hid htr
        have HX4 := Lib.hid hx4
        have HX5 := Lib.hid hx5
        have HX6 := Lib.hid hx6
        have C1 := Lib.hid c1
        have C2 := Lib.hid c2
        have D2 := Lib.hid d2
        have D4 := Lib.hid d4
        have D5 := Lib.hid d5
        have Hj := Lib.hid hj
        have Ho := Lib.hid ho
        have Hone := Lib.hid hone
        have T5 := Lib.hid t5
        have Hd9 := Lib.hid hd9
        have Hs1 := Lib.hid hs1
        have A3 := Lib.hid a3
        clear htr hr2 hx4 hx5 hx6 c1 c2 c4 c5 d2 d4 d5 hj ho hone t5 hd9 hs1 a3 b1 b2 b4 b5 a1 a2 a4 a5 a6 hs8 hE
        go_wp2_with (first | (refine wpList_load_row rfl 36 (.tmp 10) rfl g10 rfl 36 C (0, 0) _ A3.out Try.underlying36 rfl Hd9.out ?_) | (refine wpList_store_mid rfl 36 (.tmp 36) (.tmp 35) rfl w.heap.size 0 C rfl rfl T5.out Hd9.out Hs1.out ?_; rw [← HX4.out]) | (rw [← HX5.out]; refine wpList_load_row rfl 40 (.tmp 4) rfl w.heap.size rfl 40 (jc C r2) (0, 0) _ C1.out Try.underlying40 rfl Hj.out ?_) | (refine wpList_store_row rfl 40 (.tmp 8) (.tmp 40) rfl (w.heap.size + 1) (jc C r2) rfl rfl 40 (jc zeroD rj0) C2.out Hj.out Ho.out Hone.out ?_; rw [← HX6.out]))
        refine bodyPost_ret (v := .tuple #[.agg (jc C r2), .int .i64 E.2]) (results_cell_tmp Try.results41 _ _ (w.heap.size + 1) 40 (jc C r2) (0, 0) _ _ rfl rfl D2.out Try.underlying40 rfl Hj.out) rfl ⟨.agg (jc C r2), by rw [Htr.out], ?_, D5.out⟩
        rw [Htr.out]
        exact IsRJ.of_cells D4.out r2
end Go.Proofs.Ytiaabgmmmekpnaa

namespace Go.Proofs.Ytiaabgmmmekpnaa
open Go.RowKit
set_option maxRecDepth 100000

/-- What stands while a sector is laid, whatever has been done of it. -/
def lI (F : Nat → Value) (B s m lo hi : Nat) (RM NN M1 M2 IX K1 : Int) (P T : List UInt8) (C : Array Value) (R : Dev × Int) (ok : Nat → Prop) (Y : World) (d : Nat → Bool) (a : Act) (x : World) : Prop :=
  ∃ (v12 v13 v44 v45 v46 v47 v48 v49 v50 v51 v52 v53 v54 v55 v56 v57 v58 v59 v60 v61 v62 v63 v64 v65 : Value) (g : Nat) (C8 : Array Value) (okP : Nat → Prop), a = ⟨#[(F 0), .int .i64 (s : Int), (F 2), (F 3), .pointer (some ⟨B, 0, none⟩), (F 5), (F 6), (F 7), (F 8), (F 9), str P, .int .i64 (m : Int), v12, v13, (F 14), (F 15), (F 16), (F 17), (F 18), (F 19), (F 20), (F 21), (F 22), (F 23), (F 24), (F 25), (F 26), (F 27), (F 28), (F 29), (F 30), (F 31), (F 32), (F 33), (F 34), (F 35), (F 36), (F 37), (F 38), (F 39), (F 40), (F 41), (F 42), (F 43), v44, v45, v46, v47, v48, v49, v50, v51, v52, v53, v54, v55, v56, v57, v58, v59, v60, v61, v62, v63, v64, v65, (F 66), (F 67), (F 68), (F 69), (F 70), (F 71), (F 72), (F 73), (F 74), (F 75), (F 76), (F 77), (F 78), (F 79), (F 80), (F 81), (F 82), (F 83), (F 84), (F 85), (F 86), (F 87), (F 88), (F 89), (F 90), (F 91), (F 92), (F 93), (F 94)], []⟩ ∧ Below Y.heap.size Y x ∧
    (d 0 = true → v45 = .pointer (some ⟨B, 0, none⟩)) ∧
    (d 1 = true → v46 = .agg C) ∧
    (d 2 = true → v47 = .int .i64 (s : Int)) ∧
    (d 3 = true → v48 = .pointer (some ⟨B, 0, none⟩)) ∧
    (d 4 = true → v49 = .agg C) ∧
    (d 5 = true → v50 = .int .i64 RM) ∧
    (d 6 = true → v51 = .int .i64 NN) ∧
    (d 7 = true → v52 = .int .i64 M1) ∧
    (d 8 = true → v53 = .int .i64 M2) ∧
    (d 9 = true → v54 = .int .i64 (m : Int)) ∧
    (d 10 = true → v55 = .int .i64 IX) ∧
    (d 11 = true → v56 = str P) ∧
    (d 12 = true → v57 = .int .i64 (m : Int)) ∧
    (d 13 = true → v58 = .int .i64 (lo : Int)) ∧
    (d 14 = true → v59 = .int .i64 (m : Int)) ∧
    (d 15 = true → v60 = .int .i64 K1) ∧
    (d 16 = true → v61 = .int .i64 (hi : Int)) ∧
    (d 17 = true → v62 = str T) ∧
    (d 18 = true → v63 = .tuple #[.agg C8, .int .i64 R.2]) ∧
    (d 18 = true → IsDev x okP (.agg C8) R.1) ∧
    (d 18 = true → ∀ k, okP k → (ok k ∨ Y.heap.size ≤ k) ∧ k < x.heap.size) ∧
    (d 18 = true → d 22 = true → ¬ okP g) ∧
    (d 19 = true → v44 = .tuple #[.agg C8, .int .i64 R.2]) ∧
    (d 20 = true → v64 = .agg C8) ∧
    (d 21 = true → v65 = .int .i64 R.2) ∧
    (d 22 = true → v12 = .pointer (some ⟨g, 0, none⟩) ∧ Y.heap.size ≤ g ∧ Blk x g 36 (if d 23 = true then C8 else zeroD)) ∧
    (d 24 = true → v13 = .int .i64 R.2) ∧
    (d 19 = true → d 18 = true) ∧
    (d 20 = true → d 18 = true) ∧
    (d 21 = true → d 18 = true) ∧
    (d 23 = true → d 22 = true) ∧
    (d 23 = true → d 18 = true) ∧
    (d 24 = true → d 18 = true)
theorem twentyfive {k n : Nat} (h : k < n) (hn : n = 25) : k = 0 ∨ k = 1 ∨ k = 2 ∨ k = 3 ∨ k = 4 ∨ k = 5 ∨ k = 6 ∨ k = 7 ∨ k = 8 ∨ k = 9 ∨ k = 10 ∨ k = 11 ∨ k = 12 ∨ k = 13 ∨ k = 14 ∨ k = 15 ∨ k = 16 ∨ k = 17 ∨ k = 18 ∨ k = 19 ∨ k = 20 ∨ k = 21 ∨ k = 22 ∨ k = 23 ∨ k = 24 := by omega

theorem wp_frame95 {P : Program} {Q : Exit → Act → World → Prop} {c : Code} {a : Act} {w : World} (hs : a.tmps.size = 95) (hd : a.defers = []) (h : ∀ F : Nat → Value, F = (fun i => a.tmps.getD i undef) → c.wp P Q ⟨#[F 0, F 1, F 2, F 3, F 4, F 5, F 6, F 7, F 8, F 9, F 10, F 11, F 12, F 13, F 14, F 15, F 16, F 17, F 18, F 19, F 20, F 21, F 22, F 23, F 24, F 25, F 26, F 27, F 28, F 29, F 30, F 31, F 32, F 33, F 34, F 35, F 36, F 37, F 38, F 39, F 40, F 41, F 42, F 43, F 44, F 45, F 46, F 47, F 48, F 49, F 50, F 51, F 52, F 53, F 54, F 55, F 56, F 57, F 58, F 59, F 60, F 61, F 62, F 63, F 64, F 65, F 66, F 67, F 68, F 69, F 70, F 71, F 72, F 73, F 74, F 75, F 76, F 77, F 78, F 79, F 80, F 81, F 82, F 83, F 84, F 85, F 86, F 87, F 88, F 89, F 90, F 91, F 92, F 93, F 94], []⟩ w) : c.wp P Q a w := by
  have h' := h _ rfl
  obtain ⟨A, de⟩ := a
  cases hd
  have e : A = #[A.getD 0 undef, A.getD 1 undef, A.getD 2 undef, A.getD 3 undef, A.getD 4 undef, A.getD 5 undef, A.getD 6 undef, A.getD 7 undef, A.getD 8 undef, A.getD 9 undef, A.getD 10 undef, A.getD 11 undef, A.getD 12 undef, A.getD 13 undef, A.getD 14 undef, A.getD 15 undef, A.getD 16 undef, A.getD 17 undef, A.getD 18 undef, A.getD 19 undef, A.getD 20 undef, A.getD 21 undef, A.getD 22 undef, A.getD 23 undef, A.getD 24 undef, A.getD 25 undef, A.getD 26 undef, A.getD 27 undef, A.getD 28 undef, A.getD 29 undef, A.getD 30 undef, A.getD 31 undef, A.getD 32 undef, A.getD 33 undef, A.getD 34 undef, A.getD 35 undef, A.getD 36 undef, A.getD 37 undef, A.getD 38 undef, A.getD 39 undef, A.getD 40 undef, A.getD 41 undef, A.getD 42 undef, A.getD 43 undef, A.getD 44 undef, A.getD 45 undef, A.getD 46 undef, A.getD 47 undef, A.getD 48 undef, A.getD 49 undef, A.getD 50 undef, A.getD 51 undef, A.getD 52 undef, A.getD 53 undef, A.getD 54 undef, A.getD 55 undef, A.getD 56 undef, A.getD 57 undef, A.getD 58 undef, A.getD 59 undef, A.getD 60 undef, A.getD 61 undef, A.getD 62 undef, A.getD 63 undef, A.getD 64 undef, A.getD 65 undef, A.getD 66 undef, A.getD 67 undef, A.getD 68 undef, A.getD 69 undef, A.getD 70 undef, A.getD 71 undef, A.getD 72 undef, A.getD 73 undef, A.getD 74 undef, A.getD 75 undef, A.getD 76 undef, A.getD 77 undef, A.getD 78 undef, A.getD 79 undef, A.getD 80 undef, A.getD 81 undef, A.getD 82 undef, A.getD 83 undef, A.getD 84 undef, A.getD 85 undef, A.getD 86 undef, A.getD 87 undef, A.getD 88 undef, A.getD 89 undef, A.getD 90 undef, A.getD 91 undef, A.getD 92 undef, A.getD 93 undef, A.getD 94 undef] := by
    apply Array.ext
    · exact hs
    · intro i h1 h2
      have hs' : A.size = 95 := hs
      have h3 : i < 95 := by omega
      have key : ∀ k : Nat, (hk : k < A.size) → A.getD k undef = A[k] := fun k hk => by simp [Array.getD, hk]
      rcases (by omega : i = 0 ∨ i = 1 ∨ i = 2 ∨ i = 3 ∨ i = 4 ∨ i = 5 ∨ i = 6 ∨ i = 7 ∨ i = 8 ∨ i = 9 ∨ i = 10 ∨ i = 11 ∨ i = 12 ∨ i = 13 ∨ i = 14 ∨ i = 15 ∨ i = 16 ∨ i = 17 ∨ i = 18 ∨ i = 19 ∨ i = 20 ∨ i = 21 ∨ i = 22 ∨ i = 23 ∨ i = 24 ∨ i = 25 ∨ i = 26 ∨ i = 27 ∨ i = 28 ∨ i = 29 ∨ i = 30 ∨ i = 31 ∨ i = 32 ∨ i = 33 ∨ i = 34 ∨ i = 35 ∨ i = 36 ∨ i = 37 ∨ i = 38 ∨ i = 39 ∨ i = 40 ∨ i = 41 ∨ i = 42 ∨ i = 43 ∨ i = 44 ∨ i = 45 ∨ i = 46 ∨ i = 47 ∨ i = 48 ∨ i = 49 ∨ i = 50 ∨ i = 51 ∨ i = 52 ∨ i = 53 ∨ i = 54 ∨ i = 55 ∨ i = 56 ∨ i = 57 ∨ i = 58 ∨ i = 59 ∨ i = 60 ∨ i = 61 ∨ i = 62 ∨ i = 63 ∨ i = 64 ∨ i = 65 ∨ i = 66 ∨ i = 67 ∨ i = 68 ∨ i = 69 ∨ i = 70 ∨ i = 71 ∨ i = 72 ∨ i = 73 ∨ i = 74 ∨ i = 75 ∨ i = 76 ∨ i = 77 ∨ i = 78 ∨ i = 79 ∨ i = 80 ∨ i = 81 ∨ i = 82 ∨ i = 83 ∨ i = 84 ∨ i = 85 ∨ i = 86 ∨ i = 87 ∨ i = 88 ∨ i = 89 ∨ i = 90 ∨ i = 91 ∨ i = 92 ∨ i = 93 ∨ i = 94) with rfl | rfl | rfl | rfl | rfl | rfl | rfl | rfl | rfl | rfl | rfl | rfl | rfl | rfl | rfl | rfl | rfl | rfl | rfl | rfl | rfl | rfl | rfl | rfl | rfl | rfl | rfl | rfl | rfl | rfl | rfl | rfl | rfl | rfl | rfl | rfl | rfl | rfl | rfl | rfl | rfl | rfl | rfl | rfl | rfl | rfl | rfl | rfl | rfl | rfl | rfl | rfl | rfl | rfl | rfl | rfl | rfl | rfl | rfl | rfl | rfl | rfl | rfl | rfl | rfl | rfl | rfl | rfl | rfl | rfl | rfl | rfl | rfl | rfl | rfl | rfl | rfl | rfl | rfl | rfl | rfl | rfl | rfl | rfl | rfl | rfl | rfl | rfl | rfl | rfl | rfl | rfl | rfl | rfl | rfl <;> exact (key _ h1).symm
  rw [e]
  exact h'

theorem lI_start (F : Nat → Value) (B s m lo hi : Nat) (RM NN M1 M2 IX K1 : Int) (P T : List UInt8) (C : Array Value) (R : Dev × Int) (ok : Nat → Prop) (Y : World) (a : Act) (x : World) (ha : ∃ v12 v13 v44 v45 v46 v47 v48 v49 v50 v51 v52 v53 v54 v55 v56 v57 v58 v59 v60 v61 v62 v63 v64 v65, a = ⟨#[(F 0), .int .i64 (s : Int), (F 2), (F 3), .pointer (some ⟨B, 0, none⟩), (F 5), (F 6), (F 7), (F 8), (F 9), str P, .int .i64 (m : Int), v12, v13, (F 14), (F 15), (F 16), (F 17), (F 18), (F 19), (F 20), (F 21), (F 22), (F 23), (F 24), (F 25), (F 26), (F 27), (F 28), (F 29), (F 30), (F 31), (F 32), (F 33), (F 34), (F 35), (F 36), (F 37), (F 38), (F 39), (F 40), (F 41), (F 42), (F 43), v44, v45, v46, v47, v48, v49, v50, v51, v52, v53, v54, v55, v56, v57, v58, v59, v60, v61, v62, v63, v64, v65, (F 66), (F 67), (F 68), (F 69), (F 70), (F 71), (F 72), (F 73), (F 74), (F 75), (F 76), (F 77), (F 78), (F 79), (F 80), (F 81), (F 82), (F 83), (F 84), (F 85), (F 86), (F 87), (F 88), (F 89), (F 90), (F 91), (F 92), (F 93), (F 94)], []⟩) (hb : Below Y.heap.size Y x) : lI F B s m lo hi RM NN M1 M2 IX K1 P T C R ok Y (fun _ => false) a x := by
  obtain ⟨v12, v13, v44, v45, v46, v47, v48, v49, v50, v51, v52, v53, v54, v55, v56, v57, v58, v59, v60, v61, v62, v63, v64, v65, rfl⟩ := ha
  exact ⟨v12, v13, v44, v45, v46, v47, v48, v49, v50, v51, v52, v53, v54, v55, v56, v57, v58, v59, v60, v61, v62, v63, v64, v65, 0, #[], fun _ => False, rfl, hb, (fun q => by cases q), (fun q => by cases q), (fun q => by cases q), (fun q => by cases q), (fun q => by cases q), (fun q => by cases q), (fun q => by cases q), (fun q => by cases q), (fun q => by cases q), (fun q => by cases q), (fun q => by cases q), (fun q => by cases q), (fun q => by cases q), (fun q => by cases q), (fun q => by cases q), (fun q => by cases q), (fun q => by cases q), (fun q => by cases q), (fun q => by cases q), (fun q => by cases q), (fun q => by cases q), (fun q => by cases q), (fun q => by cases q), (fun q => by cases q), (fun q => by cases q), (fun q => by cases q), (fun q => by cases q), (fun q => by cases q), (fun q => by cases q), (fun q => by cases q), (fun q => by cases q), (fun q => by cases q), (fun q => by cases q)⟩

set_option maxHeartbeats 4000000 in
theorem reflay_any (ok : Nat → Prop) (v : Value) (D : Dev) (r : RJ) (s t : Nat) (all : List UInt8) (w : World) (hv : IsRJ w ok v D r) (hwf : D.Wf) (h2 : 2 ≤ D.sure.length) (hl : D.sure.length ≤ 4096) (hfew : D.Few 500000) (hlt : D.left ≤ 9223372036854775807) (hn : r.number ≤ 4611686018427387904) (hs : s ≤ 1) (ht : t ≤ 1000000000) (hall : all.length ≤ 1000000000) :
    Calls Try.prog 44 #[v, .int .i64 (s : Int), .int .i64 (t : Int), str all] w fun e w' => ∃ v', e = .returned (.tuple #[v', .int .i64 (layR D r s t all).2]) ∧ IsRJ w' (fun k => ok k ∨ w.heap.size ≤ k) v' (layR D r s t all).1.1 (layR D r s t all).1.2 ∧ Below w.heap.size w w' := by
  obtain ⟨C0, rfl, hdv⟩ := hv.cells
  have hC0 := hdv.size
  obtain ⟨W, hW⟩ : ∃ W, W = ((w.alloc (.cells (jc C0 r) 40)).alloc (.cells (jc zeroD rj0) 40)) := ⟨_, rfl⟩
  have hbW : Below w.heap.size w W := by rw [hW]; exact ((Below.refl _ _).alloc (Nat.le_refl _) _).alloc (by simp) _
  have hB0 : Blk W w.heap.size 40 (jc C0 r) := by rw [hW]; exact (Blk.new w _ _).alloc _
  have hZ0 : Blk W (w.heap.size + 1) 40 (jc zeroD rj0) := by
    have := Blk.new (w.alloc (.cells (jc C0 r) 40)) 40 (jc zeroD rj0)
    rw [World.size_alloc] at this
    rw [hW]; exact this
  have hV : IsDev W (fun k => ok k ∧ k < w.heap.size) (.agg C0) D := hdv.move (fun k hk hk2 => ⟨⟨hk, hk2⟩, hbW.block k hk2⟩)
  have hrm : ∀ (okx : Nat → Prop) (x : World), IsDev x okx (.agg C0) D → Calls Try.prog 40 #[.agg C0] x fun e w' => e = .returned (.int .i64 ((sideN D * 256 : Nat) : Int)) ∧ Below x.heap.size x w' := fun okx x hx => refroom_any okx _ D x hx h2 hl
  have hN : sideN D ≤ 2047 := by unfold sideN; omega
  obtain ⟨n, hn0⟩ : ∃ n, n = sideN D := ⟨_, rfl⟩
  rw [← hn0] at hrm hN
  have hd8 : (Try.prog.info? 36).map (·.size) = some C0.toList.length := by rw [Array.length_toList, hC0.1]; exact dev_info
  have HW := Lib.hid hW
  rw [jc_zero] at HW
  have HbW := Lib.hid hbW
  have HB := Lib.hid hB0
  have HZ := Lib.hid hZ0
  have HV := Lib.hid hV
  have HRm := Lib.hid hrm
  have HN0 := Lib.hid hn0
  have hC8 := Lib.hid hC0
  have Hd8 := Lib.hid hd8
  have Hwf := Lib.hid hwf
  have Hfew := Lib.hid hfew
  have q8 := hB0.cell 8
  rw [show (8 : Nat) = 8 + 0 from rfl, jc_tail hC0.1] at q8
  have q8' : W.cell? ⟨w.heap.size, 8, none⟩ = some (.int .u64 (r.number : Int)) := q8
  have f8 := hB0.frozen 8
  clear q8
  clear hW hbW hB0 hZ0 hV hrm hdv hn0 hC0 hd8 hwf hfew
  by_cases hfull : n * 256 < all.length ∨ r.number = 4611686018427387904
  · obtain ⟨RM, hRM⟩ : ∃ RM : Int, RM = ((n * 256 : Nat) : Int) := ⟨_, rfl⟩
    rw [← hRM] at HRm
    have htr : layR D r s t all = ((D, r), 5) := layR_full (by rw [← HN0.out]; exact hfull)
    have hor : RM < (all.length : Int) ∨ r.number = 4611686018427387904 := hfull.imp (fun h => by omega) id
    clear hRM hfull
    have Htr0 := Lib.hid htr
    clear htr
    by_cases hA : RM < (all.length : Int)
    · clear hor
      go_enter Try.func44, Try.ntmps44
      go_upto_region 1 with (fail)
      rw [← HW.out]
      go_wp2_with (refine wpList_load_mid rfl 36 (.tmp 18) rfl w.heap.size 0 rfl C0.toList _ (jc_range hC8.out.1 HB.out) Try.underlying36 rfl Hd8.out ?_)
      refine (HRm.out _ W HV.out).mono ?_
      rintro e x2 ⟨rfl, hb2⟩
      have cz := hC8.out
      have c1 := HB.out.grow hb2
      have c2 := HZ.out.grow hb2
      have c4 : IsDev x2 (fun k => ok k ∧ k < w.heap.size) (.agg C0) D := HV.out.frame (fun k _ hk => hb2.block k hk)
      have c5 := below_call HbW.out hb2
      have c6 : ∀ k, (ok k ∧ k < w.heap.size) → (ok k ∨ w.heap.size ≤ k) ∧ k ≠ w.heap.size ∧ k ≠ w.heap.size + 1 := fun k hk => ⟨Or.inl hk.1, by omega, by omega⟩
      have htr := Htr0.out
      obtain ⟨x6, hx6⟩ : ∃ x6, x6 = x2.setRow (w.heap.size + 1) (jc C0 r) := ⟨_, rfl⟩
      have d2 : Blk x6 (w.heap.size + 1) 40 (jc C0 r) := by rw [hx6]; exact c2.setRow_ _
      have d4 : IsDev x6 (fun k => ok k ∨ w.heap.size ≤ k) (.agg C0) D := by rw [hx6]; exact c4.move (fun k hk _ => ⟨(c6 k hk).1, setRow_other _ _ _ _ (c6 k hk).2.2⟩)
      have d5 : Below w.heap.size w x6 := by rw [hx6]; exact below_setRow c5 (by omega) _
      have hj : (Try.prog.info? 40).map (·.size) = some (jc C0 r).size := by rw [jc_size cz.1]; exact jn_info
      have ho : (jc zeroD rj0).size = (jc C0 r).size := by rw [jc_size cz.1]; rfl
      have hone : (jc C0 r).all (·.oneCell') = true := jc_one cz.2
      have Htr := Lib.hid htr
      have HX6 := Lib.hid hx6
      have C1 := Lib.hid c1
      have C2 := Lib.hid c2
      have D2 := Lib.hid d2
      have D4 := Lib.hid d4
      have D5 := Lib.hid d5
      have Hj := Lib.hid hj
      have Ho := Lib.hid ho
      have Hone := Lib.hid hone
      clear htr hx6 c1 c2 c4 c5 c6 cz d2 d4 d5 hj ho hone hb2
      go_wp2_with (first | (refine wpList_load_row rfl 40 (.tmp 4) rfl w.heap.size rfl 40 (jc C0 r) (0, 0) _ C1.out Try.underlying40 rfl Hj.out ?_) | (refine wpList_store_row rfl 40 (.tmp 8) (.tmp 27) rfl (w.heap.size + 1) (jc C0 r) rfl rfl 40 (jc zeroD rj0) C2.out Hj.out Ho.out Hone.out ?_; rw [← HX6.out]))
      refine bodyPost_ret (v := .tuple #[.agg (jc C0 r), .int .i64 5]) (results_cell_tmp Try.results44 _ _ (w.heap.size + 1) 40 (jc C0 r) (0, 0) _ _ rfl rfl D2.out Try.underlying40 rfl Hj.out) rfl ⟨.agg (jc C0 r), by rw [Htr.out], ?_, D5.out⟩
      rw [Htr.out]
      exact IsRJ.of_cells D4.out r
    · have hq : r.number = 4611686018427387904 := hor.resolve_left hA
      have hq2 : ((r.number : Int) == 4611686018427387904) = true := beq_iff_eq.2 (by omega)
      clear hor
      have Hq := Lib.hid hq
      clear hq
      go_enter Try.func44, Try.ntmps44
      go_upto_region 1 with (fail)
      rw [← HW.out]
      go_wp2_with (refine wpList_load_mid rfl 36 (.tmp 18) rfl w.heap.size 0 rfl C0.toList _ (jc_range hC8.out.1 HB.out) Try.underlying36 rfl Hd8.out ?_)
      refine (HRm.out _ W HV.out).mono ?_
      rintro e x2 ⟨rfl, hb2⟩
      have g8 : x2.cell? ⟨w.heap.size, 8, none⟩ = some (.int .u64 (r.number : Int)) := (hb2.cell (blk_lt' HB.out)).trans q8'
      have cz := hC8.out
      have c1 := HB.out.grow hb2
      have c2 := HZ.out.grow hb2
      have c4 : IsDev x2 (fun k => ok k ∧ k < w.heap.size) (.agg C0) D := HV.out.frame (fun k _ hk => hb2.block k hk)
      have c5 := below_call HbW.out hb2
      have c6 : ∀ k, (ok k ∧ k < w.heap.size) → (ok k ∨ w.heap.size ≤ k) ∧ k ≠ w.heap.size ∧ k ≠ w.heap.size + 1 := fun k hk => ⟨Or.inl hk.1, by omega, by omega⟩
      have htr := Htr0.out
      obtain ⟨x6, hx6⟩ : ∃ x6, x6 = x2.setRow (w.heap.size + 1) (jc C0 r) := ⟨_, rfl⟩
      have d2 : Blk x6 (w.heap.size + 1) 40 (jc C0 r) := by rw [hx6]; exact c2.setRow_ _
      have d4 : IsDev x6 (fun k => ok k ∨ w.heap.size ≤ k) (.agg C0) D := by rw [hx6]; exact c4.move (fun k hk _ => ⟨(c6 k hk).1, setRow_other _ _ _ _ (c6 k hk).2.2⟩)
      have d5 : Below w.heap.size w x6 := by rw [hx6]; exact below_setRow c5 (by omega) _
      have hj : (Try.prog.info? 40).map (·.size) = some (jc C0 r).size := by rw [jc_size cz.1]; exact jn_info
      have ho : (jc zeroD rj0).size = (jc C0 r).size := by rw [jc_size cz.1]; rfl
      have hone : (jc C0 r).all (·.oneCell') = true := jc_one cz.2
      have Htr := Lib.hid htr
      have HX6 := Lib.hid hx6
      have C1 := Lib.hid c1
      have C2 := Lib.hid c2
      have D2 := Lib.hid d2
      have D4 := Lib.hid d4
      have D5 := Lib.hid d5
      have Hj := Lib.hid hj
      have Ho := Lib.hid ho
      have Hone := Lib.hid hone
      clear htr hx6 c1 c2 c4 c5 c6 cz d2 d4 d5 hj ho hone hb2
      go_wp2_with (first | (refine wpList_load_row rfl 40 (.tmp 4) rfl w.heap.size rfl 40 (jc C0 r) (0, 0) _ C1.out Try.underlying40 rfl Hj.out ?_) | (refine wpList_store_row rfl 40 (.tmp 8) (.tmp 27) rfl (w.heap.size + 1) (jc C0 r) rfl rfl 40 (jc zeroD rj0) C2.out Hj.out Ho.out Hone.out ?_; rw [← HX6.out]))
      refine bodyPost_ret (v := .tuple #[.agg (jc C0 r), .int .i64 5]) (results_cell_tmp Try.results44 _ _ (w.heap.size + 1) 40 (jc C0 r) (0, 0) _ _ rfl rfl D2.out Try.underlying40 rfl Hj.out) rfl ⟨.agg (jc C0 r), by rw [Htr.out], ?_, D5.out⟩
      rw [Htr.out]
      exact IsRJ.of_cells D4.out r
  · obtain ⟨RM, hRM⟩ : ∃ RM : Int, RM = ((n * 256 : Nat) : Int) := ⟨_, rfl⟩
    rw [← hRM] at HRm
    have hf1 : ¬ (RM < (all.length : Int)) := by omega
    have hf2 : ((r.number : Int) == 4611686018427387904) = false := beq_eq_false_iff_ne.2 (by omega)
    have hf2' : ¬ (r.number : Int) = 4611686018427387904 := by omega
    have Hf1 := Lib.hid hf1
    have HRM := Lib.hid hRM
    have Hfull := Lib.hid hfull
    clear hRM hfull
    go_enter Try.func44, Try.ntmps44
    go_upto_region 1 with (fail)
    rw [← HW.out]
    go_cut [26] (fun q wx => q = .bool false ∧ Below W.heap.size W wx)
    case first =>
      go_wp2_with (refine wpList_load_mid rfl 36 (.tmp 18) rfl w.heap.size 0 rfl C0.toList _ (jc_range hC8.out.1 HB.out) Try.underlying36 rfl Hd8.out ?_)
      refine (HRm.out _ W HV.out).mono ?_
      rintro e x2 ⟨rfl, hb2⟩
      have g8 : x2.cell? ⟨w.heap.size, 8, none⟩ = some (.int .u64 (r.number : Int)) := (hb2.cell (blk_lt' HB.out)).trans q8'
      go_wp2_with fail
      go_meet
      exact ⟨congrArg Value.bool (decide_eq_false (Int.not_lt.2 Hf1.out)), hb2⟩
    case rest =>
      obtain ⟨rfl, hb1⟩ := hcut
      obtain ⟨p, hp⟩ : ∃ p, p = 256 * secs all.length - all.length := ⟨_, rfl⟩
      have hpm : p ≤ 255 ∧ (all.length + p) % 256 = 0 := by unfold secs at hp; omega
      have HP0 := Lib.hid hp
      clear hp q8' f8
      go_wp2_with fail
      go_loopg [10] p (fun k q wr => ∃ j : Nat, k = p - j ∧ j ≤ p ∧ q = str (all ++ List.replicate j 0) ∧ wr = wc)
      case atStart => exact ⟨0, by omega, by omega, by simp, rfl⟩
      case round =>
        obtain ⟨j, hk, hjp, rfl, rfl⟩ := hrel
        obtain ⟨T, hT⟩ : ∃ T, T = all ++ List.replicate j 0 := ⟨_, rfl⟩
        have hTl : T.length = all.length + j := by rw [hT, List.length_append, List.length_replicate]
        rw [← hT]
        by_cases hj : j = p
        · have hm : (T.length : Int) % 256 = 0 := by rw [hTl, hj]; omega
          have hTP : T = lpadB all := by rw [hT, hj, HP0.out]; rfl
          have HT := Lib.hid hTP
          have HTl := Lib.hid hTl
          clear hT hTP hTl
          obtain ⟨a, ha⟩ : ∃ a : Nat, a = t / 256 := ⟨_, rfl⟩
          have hta : (t : Int) / 256 = (a : Int) := by omega
          obtain ⟨S, hS⟩ : ∃ S, S = secs all.length := ⟨_, rfl⟩
          have hTS : T.length = 256 * S := by rw [HT.out, lpadB_length, hS]
          have hTq : (T.length : Int) / 256 = (S : Int) := by omega
          have hSn : S ≤ 2047 := by have := HRM.out; have := Hfull.out; unfold secs at hS; omega
          obtain ⟨EE, hEE⟩ : ∃ EE : Nat → Dev × Int, EE = wrR D (2 + s * n + a) (all.drop (256 * a)) := ⟨_, rfl⟩
          have hE0 : EE 0 = (D, 0) := by rw [hEE]; rfl
          have hEn : ∀ i, (EE i).2 = 0 → EE (i + 1) = (EE i).1.put ((2 + s * n + (a + i) : Nat) : Int) (wholeB (pieceB (all.drop (256 * a)) i)) := fun i h => by
            rw [hEE] at h ⊢
            rw [wrR_next _ _ _ _ h, Nat.add_assoc (2 + s * n) a i]
          have hEi : ∀ i, i ≤ 4096 → (EE i).1.Wf ∧ (EE i).1.sure.length = D.sure.length ∧ (EE i).1.Few 504096 ∧ (EE i).1.left ≤ 9223372036854775807 := fun i hi => by
            rw [hEE]
            exact ⟨wrR_wf Hwf.out _ _ _, wrR_length _ _ _ _, (wrR_few Hfew.out _ _ _).mono (by omega), wrR_left hlt (by omega) _ _ _⟩
          have hEs : ∀ i, i + 1 ≤ S - a → (EE (i + 1)).2 ≠ 0 → layW D s t all = EE (i + 1) := fun i hi h => by
            unfold layW
            rw [← HN0.out, ← ha, ← hS]
            rw [hEE] at h ⊢
            exact wrR_stop _ _ _ _ _ h hi
          have hEl : layW D s t all = EE (S - a) := by
            unfold layW
            rw [← HN0.out, ← ha, ← hS, hEE]
          have HEE0 := Lib.hid hE0
          have HEn := Lib.hid hEn
          have HEi := Lib.hid hEi
          have HEs := Lib.hid hEs
          have HEl := Lib.hid hEl
          have HTS := Lib.hid hTS
          have HS := Lib.hid hS
          have Hlt := Lib.hid hlt
          have Hb1 := Lib.hid hb1
          have Hpm := Lib.hid hpm
          clear hE0 hEn hEi hEs hEl hEE hTS hS ha hlt hb1 hpm
          go_wp2_with fail
          clear hm
          go_loopg [11] (S - a) (fun k q wr => ∃ (i : Nat) (C : Array Value) (okQ : Nat → Prop), k = S - a - i ∧ (i ≤ S - a) ∧ q = .int .i64 ((a + i : Nat) : Int) ∧ (EE i).2 = 0 ∧ C.size = 8 ∧ C.all (·.oneCell') = true ∧ Blk wr w.heap.size 40 (jc C r) ∧ Blk wr (w.heap.size + 1) 40 (jc zeroD rj0) ∧ IsDev wr okQ (.agg C) (EE i).1 ∧ (∀ k, okQ k → ((ok k ∨ w.heap.size ≤ k) ∧ k ≠ w.heap.size ∧ k ≠ w.heap.size + 1) ∧ k < wr.heap.size) ∧ Below w.heap.size w wr)
          case atStart =>
            have hW1 := blk_lt' HZ.out
            refine ⟨0, C0, (fun k => ok k ∧ k < w.heap.size), by omega, by omega, rfl, by rw [HEE0.out], hC8.out.1, hC8.out.2, HB.out.grow Hb1.out, HZ.out.grow Hb1.out, ?_, fun k hk => ⟨⟨Or.inl hk.1, by omega, by omega⟩, ?_⟩, below_call HbW.out Hb1.out⟩
            · rw [HEE0.out]
              exact HV.out.frame (fun k _ hk => Hb1.out.block k hk)
            · have := Hb1.out.size
              omega
          case round =>
            obtain ⟨i, C, okQ, hk, hiS, rfl, hEi0, hs8, hs1, y1, y2, y3, y4, y5⟩ := hrel
            by_cases hi : a + i < S
            · obtain ⟨m, hm⟩ : ∃ m, m = a + i := ⟨_, rfl⟩
              rw [← hm]
              have hmS : (m : Int) < (S : Int) := by omega
              have hEI := HEi.out i (by omega)
              obtain ⟨Dk, hDk⟩ : ∃ Dk, Dk = (EE i).1 := ⟨_, rfl⟩
              rw [← hDk] at y3 hEI
              obtain ⟨R, hR⟩ : ∃ R, R = EE (i + 1) := ⟨_, rfl⟩
              obtain ⟨X, hX⟩ : ∃ X, X = wholeB (pieceB (all.drop (256 * a)) i) := ⟨_, rfl⟩
              have hXl : X.length = 256 := by rw [hX]; exact wholeB_length _
              have hRp : R = Dk.put ((2 + s * n + m : Nat) : Int) X := by rw [hR, HEn.out i hEi0, ← hDk, ← hX, ← hm]
              obtain ⟨lo, hlo⟩ : ∃ lo : Nat, lo = 256 * m := ⟨_, rfl⟩
              obtain ⟨hi2, hhi⟩ : ∃ hi2 : Nat, hi2 = 256 * (m + 1) := ⟨_, rfl⟩
              have hx : (⟨T.toArray⟩ : ByteArray).extract lo hi2 = ⟨X.toArray⟩ := by
                rw [extract_str, HT.out, hlo, hhi, hX, hm, lpadB_piece all a i (by rw [← HS.out]; exact hi)]
              have hlohi : lo ≤ hi2 := by omega
              have hhiT : hi2 ≤ T.length := by rw [HTS.out]; omega
              obtain ⟨RMV, hRMV⟩ : ∃ RMV : Int, RMV = ((n * 256 : Nat) : Int) := ⟨_, rfl⟩
              obtain ⟨NN, hNN⟩ : ∃ NN : Int, NN = (n : Int) := ⟨_, rfl⟩
              obtain ⟨M1, hM1⟩ : ∃ M1 : Int, M1 = ((s * n : Nat) : Int) := ⟨_, rfl⟩
              obtain ⟨M2, hM2⟩ : ∃ M2 : Int, M2 = ((2 + s * n : Nat) : Int) := ⟨_, rfl⟩
              obtain ⟨IX, hIX⟩ : ∃ IX : Int, IX = ((2 + s * n + m : Nat) : Int) := ⟨_, rfl⟩
              obtain ⟨K1, hK1⟩ : ∃ K1 : Int, K1 = ((m + 1 : Nat) : Int) := ⟨_, rfl⟩
              have hsn : s * n ≤ 2047 := by
                rcases (by omega : s = 0 ∨ s = 1) with h | h <;> rw [h] <;> omega
              have o1 : RMV.tdiv 256 = NN := by rw [hRMV, hNN, Int.tdiv_eq_ediv_of_nonneg (by omega)]; omega
              have o1b : IntKind.i64.wrap NN = NN := by rw [hNN, IntKind.wrap_i64] <;> omega
              have o2 : IntKind.i64.wrap ((s : Int) * NN) = M1 := by rw [hNN, hM1, ← Int.natCast_mul, IntKind.wrap_i64] <;> omega
              have o3 : IntKind.i64.wrap (2 + M1) = M2 := by rw [hM1, hM2, IntKind.wrap_i64] <;> omega
              have o4 : IntKind.i64.wrap (M2 + (m : Int)) = IX := by rw [hM2, hIX, IntKind.wrap_i64] <;> omega
              have o5 : IntKind.i64.wrap ((m : Int) * 256) = (lo : Int) := by rw [hlo, IntKind.wrap_i64] <;> omega
              have o6 : IntKind.i64.wrap ((m : Int) + 1) = K1 := by rw [hK1, IntKind.wrap_i64] <;> omega
              have o7 : IntKind.i64.wrap (K1 * 256) = (hi2 : Int) := by rw [hK1, hhi, IntKind.wrap_i64] <;> omega
              have hrm2 : ∀ (okx : Nat → Prop) (x : World), IsDev x okx (.agg C) Dk → Calls Try.prog 40 #[.agg C] x fun e w' => e = .returned (.int .i64 RMV) ∧ Below x.heap.size x w' := fun okx x hx => by
                have h := refroom_any okx _ Dk x hx (by rw [hEI.2.1]; exact h2) (by rw [hEI.2.1]; exact hl)
                rw [hRMV, HN0.out]
                have e : sideN Dk = sideN D := by unfold sideN; rw [hEI.2.1]
                rw [e] at h
                exact h
              have hput : ∀ (okx : Nat → Prop) (x : World), IsDev x okx (.agg C) Dk → Calls Try.prog 64 #[.agg C, .int .i64 IX, str X] x fun e w' => ∃ v', e = .returned (.tuple #[v', .int .i64 R.2]) ∧ IsDev w' (fun k => okx k ∨ x.heap.size ≤ k) v' R.1 ∧ Below x.heap.size x w' := fun okx x hx => by
                rw [hRp, hIX]
                exact refput_any okx _ Dk _ X x hx hEI.1 (by rw [hEI.2.1]; omega) (by have := hEI.2.2.1.1; omega) (by have := hEI.2.2.1.2; omega) hEI.2.2.2 (by rw [hXl]; unfold maxLen; omega)
              have hok3 : ∀ k, okQ k → k < wr.heap.size := fun k h => (y4 k h).2
              have HP := Lib.hid hput
              have HRm2 := Lib.hid hrm2
              have HR := Lib.hid hR
              have HY1 := Lib.hid y1
              have HY2 := Lib.hid y2
              have HV2 := Lib.hid y3
              have HY4 := Lib.hid y4
              have HY5 := Lib.hid y5
              have HOK := Lib.hid hok3
              have hC9 := Lib.hid (And.intro hs8 hs1)
              have Hm := Lib.hid hm
              have Hk := Lib.hid hk
              have Hi := Lib.hid hi
              have HDk := Lib.hid hDk
              have Hei0 := Lib.hid hEi0
              clear hput hrm2 hR y1 y2 y3 y4 y5 hok3 hs8 hs1 hm hk hi hDk hEi0 hX hXl hRp hlo hhi hRMV hNN hM1 hM2 hIX hK1 hsn hEI
              go_upto_region 9 with fail
              go_cut [12, 13] (fun p q wx => ∃ (g : Nat) (C8 : Array Value) (okP : Nat → Prop), p = .pointer (some ⟨g, 0, none⟩) ∧ q = .int .i64 R.2 ∧ wr.heap.size ≤ g ∧ Blk wx g 36 C8 ∧ IsDev wx okP (.agg C8) R.1 ∧ (∀ k, okP k → (okQ k ∨ wr.heap.size ≤ k) ∧ k < wx.heap.size) ∧ ¬ okP g ∧ Below wr.heap.size wr wx)
              case first =>
                refine wp_frame95 rfl rfl (fun F hF => ?_)
                apply wp_region_inv (I := lI F w.heap.size s m lo hi2 RMV NN M1 M2 IX K1 T X C R okQ wr)
                case hm => kernel_rfl
                case ho => kernel_rfl
                case h0 => subst hF; exact lI_start _ w.heap.size s m lo hi2 RMV NN M1 M2 IX K1 T X C R okQ wr _ _ ⟨_, _, _, _, _, _, _, _, _, _, _, _, _, _, _, _, _, _, _, _, _, _, _, _, rfl⟩ (Below.refl _ _).drew
                case hstep =>
                  clear hF
                  intro i' o hi d a x hd hpre hI K hK
                  obtain ⟨v12, v13, v44, v45, v46, v47, v48, v49, v50, v51, v52, v53, v54, v55, v56, v57, v58, v59, v60, v61, v62, v63, v64, v65, g, C8, okP, rfl, hb, h0, h1, h2, h3, h4, h5, h6, h7, h8, h9, h10, h11, h12, h13, h14, h15, h16, h17, h18, hD, hok, hno, h19, h20, h21, h22, h24, k19_18, k20_18, k21_18, k23_22, k23_18, k24_18⟩ := hI
                  have hlt := (Array.getElem?_eq_some_iff.1 hi).1
                  rcases twentyfive hlt rfl with rfl | rfl | rfl | rfl | rfl | rfl | rfl | rfl | rfl | rfl | rfl | rfl | rfl | rfl | rfl | rfl | rfl | rfl | rfl | rfl | rfl | rfl | rfl | rfl | rfl
                  all_goals (have ho := Option.some.inj hi; subst ho; clear hi hlt)
                  · go_simp
                    exact hK _ _ ⟨v12, v13, v44, _, v46, v47, v48, v49, v50, v51, v52, v53, v54, v55, v56, v57, v58, v59, v60, v61, v62, v63, v64, v65, g, C8, okP, rfl, hb, fun _ => rfl, h1, h2, h3, h4, h5, h6, h7, h8, h9, h10, h11, h12, h13, h14, h15, h16, h17, h18, hD, hok, hno, h19, h20, h21, h22, h24, k19_18, k20_18, k21_18, k23_22, k23_18, k24_18⟩
                  · obtain rfl := h0 (hpre { on := 0, ground := Ground.data } (by simp) rfl)
                    refine step_plain rfl (wp_load_mid 36 (.tmp 45) rfl w.heap.size 0 rfl C.toList _ (jc_range hC9.out.1 (HY1.out.grow hb)) Try.underlying36 rfl (by rw [Array.length_toList, hC9.out.1]; exact dev_info) (hK _ _ ?_))
                    exact ⟨v12, v13, v44, _, _, v47, v48, v49, v50, v51, v52, v53, v54, v55, v56, v57, v58, v59, v60, v61, v62, v63, v64, v65, g, C8, okP, rfl, hb, h0, fun _ => by simp, h2, h3, h4, h5, h6, h7, h8, h9, h10, h11, h12, h13, h14, h15, h16, h17, h18, hD, hok, hno, h19, h20, h21, h22, h24, k19_18, k20_18, k21_18, k23_22, k23_18, k24_18⟩
                  · go_simp
                    exact hK _ _ ⟨v12, v13, v44, v45, v46, _, v48, v49, v50, v51, v52, v53, v54, v55, v56, v57, v58, v59, v60, v61, v62, v63, v64, v65, g, C8, okP, rfl, hb, h0, h1, fun _ => rfl, h3, h4, h5, h6, h7, h8, h9, h10, h11, h12, h13, h14, h15, h16, h17, h18, hD, hok, hno, h19, h20, h21, h22, h24, k19_18, k20_18, k21_18, k23_22, k23_18, k24_18⟩
                  · go_simp
                    exact hK _ _ ⟨v12, v13, v44, v45, v46, v47, _, v49, v50, v51, v52, v53, v54, v55, v56, v57, v58, v59, v60, v61, v62, v63, v64, v65, g, C8, okP, rfl, hb, h0, h1, h2, fun _ => rfl, h4, h5, h6, h7, h8, h9, h10, h11, h12, h13, h14, h15, h16, h17, h18, hD, hok, hno, h19, h20, h21, h22, h24, k19_18, k20_18, k21_18, k23_22, k23_18, k24_18⟩
                  · obtain rfl := h3 (hpre { on := 3, ground := Ground.data } (by simp) rfl)
                    refine step_plain rfl (wp_load_mid 36 (.tmp 48) rfl w.heap.size 0 rfl C.toList _ (jc_range hC9.out.1 (HY1.out.grow hb)) Try.underlying36 rfl (by rw [Array.length_toList, hC9.out.1]; exact dev_info) (hK _ _ ?_))
                    exact ⟨v12, v13, v44, v45, v46, v47, _, _, v50, v51, v52, v53, v54, v55, v56, v57, v58, v59, v60, v61, v62, v63, v64, v65, g, C8, okP, rfl, hb, h0, h1, h2, h3, fun _ => by simp, h5, h6, h7, h8, h9, h10, h11, h12, h13, h14, h15, h16, h17, h18, hD, hok, hno, h19, h20, h21, h22, h24, k19_18, k20_18, k21_18, k23_22, k23_18, k24_18⟩
                  · obtain rfl := h4 (hpre { on := 4, ground := Ground.data } (by simp) rfl)
                    go_simp
                    have hdx : IsDev x okQ (.agg C) Dk := HV2.out.move (fun k hk hl => ⟨hk, hb.block k hl⟩)
                    refine (HRm2.out okQ x hdx).mono ?_
                    rintro e x2 ⟨rfl, hb2⟩
                    have hsame : ∀ k, k < x.heap.size → x2.heap[k]? = x.heap[k]? := fun k hk => hb2.block k hk
                    go_simp
                    exact hK _ _ ⟨v12, v13, v44, v45, v46, v47, v48, _, _, v51, v52, v53, v54, v55, v56, v57, v58, v59, v60, v61, v62, v63, v64, v65, g, C8, okP, rfl, (below_call hb hb2), h0, h1, h2, h3, h4, fun _ => rfl, h6, h7, h8, h9, h10, h11, h12, h13, h14, h15, h16, h17, h18, fun q => (hD q).frame (fun k _ hk => hsame k hk), fun q k hk => ⟨(hok q k hk).1, Nat.lt_of_lt_of_le (hok q k hk).2 hb2.size⟩, hno, h19, h20, h21, fun q => ⟨(h22 q).1, (h22 q).2.1, (h22 q).2.2.grow hb2⟩, h24, k19_18, k20_18, k21_18, k23_22, k23_18, k24_18⟩
                  · obtain rfl := h5 (hpre { on := 5, ground := Ground.data } (by simp) rfl)
                    go_simp
                    exact hK _ _ ⟨v12, v13, v44, v45, v46, v47, v48, v49, _, _, v52, v53, v54, v55, v56, v57, v58, v59, v60, v61, v62, v63, v64, v65, g, C8, okP, rfl, hb, h0, h1, h2, h3, h4, h5, fun _ => rfl, h7, h8, h9, h10, h11, h12, h13, h14, h15, h16, h17, h18, hD, hok, hno, h19, h20, h21, h22, h24, k19_18, k20_18, k21_18, k23_22, k23_18, k24_18⟩
                  · obtain rfl := h2 (hpre { on := 2, ground := Ground.data } (by simp) rfl)
                    obtain rfl := h6 (hpre { on := 6, ground := Ground.data } (by simp) rfl)
                    go_simp
                    exact hK _ _ ⟨v12, v13, v44, v45, v46, _, v48, v49, v50, _, _, v53, v54, v55, v56, v57, v58, v59, v60, v61, v62, v63, v64, v65, g, C8, okP, rfl, hb, h0, h1, h2, h3, h4, h5, h6, fun _ => rfl, h8, h9, h10, h11, h12, h13, h14, h15, h16, h17, h18, hD, hok, hno, h19, h20, h21, h22, h24, k19_18, k20_18, k21_18, k23_22, k23_18, k24_18⟩
                  · obtain rfl := h7 (hpre { on := 7, ground := Ground.data } (by simp) rfl)
                    go_simp
                    exact hK _ _ ⟨v12, v13, v44, v45, v46, v47, v48, v49, v50, v51, _, _, v54, v55, v56, v57, v58, v59, v60, v61, v62, v63, v64, v65, g, C8, okP, rfl, hb, h0, h1, h2, h3, h4, h5, h6, h7, fun _ => rfl, h9, h10, h11, h12, h13, h14, h15, h16, h17, h18, hD, hok, hno, h19, h20, h21, h22, h24, k19_18, k20_18, k21_18, k23_22, k23_18, k24_18⟩
                  · go_simp
                    exact hK _ _ ⟨v12, v13, v44, v45, v46, v47, v48, v49, v50, v51, v52, v53, _, v55, v56, v57, v58, v59, v60, v61, v62, v63, v64, v65, g, C8, okP, rfl, hb, h0, h1, h2, h3, h4, h5, h6, h7, h8, fun _ => rfl, h10, h11, h12, h13, h14, h15, h16, h17, h18, hD, hok, hno, h19, h20, h21, h22, h24, k19_18, k20_18, k21_18, k23_22, k23_18, k24_18⟩
                  · obtain rfl := h8 (hpre { on := 8, ground := Ground.data } (by simp) rfl)
                    obtain rfl := h9 (hpre { on := 9, ground := Ground.data } (by simp) rfl)
                    go_simp
                    exact hK _ _ ⟨v12, v13, v44, v45, v46, v47, v48, v49, v50, v51, v52, _, _, _, v56, v57, v58, v59, v60, v61, v62, v63, v64, v65, g, C8, okP, rfl, hb, h0, h1, h2, h3, h4, h5, h6, h7, h8, h9, fun _ => rfl, h11, h12, h13, h14, h15, h16, h17, h18, hD, hok, hno, h19, h20, h21, h22, h24, k19_18, k20_18, k21_18, k23_22, k23_18, k24_18⟩
                  · go_simp
                    exact hK _ _ ⟨v12, v13, v44, v45, v46, v47, v48, v49, v50, v51, v52, v53, v54, v55, _, v57, v58, v59, v60, v61, v62, v63, v64, v65, g, C8, okP, rfl, hb, h0, h1, h2, h3, h4, h5, h6, h7, h8, h9, h10, fun _ => rfl, h12, h13, h14, h15, h16, h17, h18, hD, hok, hno, h19, h20, h21, h22, h24, k19_18, k20_18, k21_18, k23_22, k23_18, k24_18⟩
                  · go_simp
                    exact hK _ _ ⟨v12, v13, v44, v45, v46, v47, v48, v49, v50, v51, v52, v53, v54, v55, v56, _, v58, v59, v60, v61, v62, v63, v64, v65, g, C8, okP, rfl, hb, h0, h1, h2, h3, h4, h5, h6, h7, h8, h9, h10, h11, fun _ => rfl, h13, h14, h15, h16, h17, h18, hD, hok, hno, h19, h20, h21, h22, h24, k19_18, k20_18, k21_18, k23_22, k23_18, k24_18⟩
                  · obtain rfl := h12 (hpre { on := 12, ground := Ground.data } (by simp) rfl)
                    go_simp
                    exact hK _ _ ⟨v12, v13, v44, v45, v46, v47, v48, v49, v50, v51, v52, v53, v54, v55, v56, _, _, v59, v60, v61, v62, v63, v64, v65, g, C8, okP, rfl, hb, h0, h1, h2, h3, h4, h5, h6, h7, h8, h9, h10, h11, h12, fun _ => rfl, h14, h15, h16, h17, h18, hD, hok, hno, h19, h20, h21, h22, h24, k19_18, k20_18, k21_18, k23_22, k23_18, k24_18⟩
                  · go_simp
                    exact hK _ _ ⟨v12, v13, v44, v45, v46, v47, v48, v49, v50, v51, v52, v53, v54, v55, v56, v57, v58, _, v60, v61, v62, v63, v64, v65, g, C8, okP, rfl, hb, h0, h1, h2, h3, h4, h5, h6, h7, h8, h9, h10, h11, h12, h13, fun _ => rfl, h15, h16, h17, h18, hD, hok, hno, h19, h20, h21, h22, h24, k19_18, k20_18, k21_18, k23_22, k23_18, k24_18⟩
                  · obtain rfl := h14 (hpre { on := 14, ground := Ground.data } (by simp) rfl)
                    go_simp
                    exact hK _ _ ⟨v12, v13, v44, v45, v46, v47, v48, v49, v50, v51, v52, v53, v54, v55, v56, v57, v58, _, _, v61, v62, v63, v64, v65, g, C8, okP, rfl, hb, h0, h1, h2, h3, h4, h5, h6, h7, h8, h9, h10, h11, h12, h13, h14, fun _ => rfl, h16, h17, h18, hD, hok, hno, h19, h20, h21, h22, h24, k19_18, k20_18, k21_18, k23_22, k23_18, k24_18⟩
                  · obtain rfl := h15 (hpre { on := 15, ground := Ground.data } (by simp) rfl)
                    go_simp
                    exact hK _ _ ⟨v12, v13, v44, v45, v46, v47, v48, v49, v50, v51, v52, v53, v54, v55, v56, v57, v58, v59, _, _, v62, v63, v64, v65, g, C8, okP, rfl, hb, h0, h1, h2, h3, h4, h5, h6, h7, h8, h9, h10, h11, h12, h13, h14, h15, fun _ => rfl, h17, h18, hD, hok, hno, h19, h20, h21, h22, h24, k19_18, k20_18, k21_18, k23_22, k23_18, k24_18⟩
                  · obtain rfl := h11 (hpre { on := 11, ground := Ground.data } (by simp) rfl)
                    obtain rfl := h13 (hpre { on := 13, ground := Ground.data } (by simp) rfl)
                    obtain rfl := h16 (hpre { on := 16, ground := Ground.data } (by simp) rfl)
                    go_simp
                    exact hK _ _ ⟨v12, v13, v44, v45, v46, v47, v48, v49, v50, v51, v52, v53, v54, v55, _, v57, _, v59, v60, _, _, v63, v64, v65, g, C8, okP, rfl, hb, h0, h1, h2, h3, h4, h5, h6, h7, h8, h9, h10, h11, h12, h13, h14, h15, h16, fun _ => rfl, h18, hD, hok, hno, h19, h20, h21, h22, h24, k19_18, k20_18, k21_18, k23_22, k23_18, k24_18⟩
                  · obtain rfl := h1 (hpre { on := 1, ground := Ground.data } (by simp) rfl)
                    obtain rfl := h10 (hpre { on := 10, ground := Ground.data } (by simp) rfl)
                    obtain rfl := h17 (hpre { on := 17, ground := Ground.data } (by simp) rfl)
                    go_simp
                    have hdx : IsDev x okQ (.agg C) Dk := HV2.out.move (fun k hk hl => ⟨hk, hb.block k hl⟩)
                    refine (HP.out okQ x hdx).mono ?_
                    rintro e x2 ⟨v', rfl, hdev, hb2⟩
                    obtain ⟨C', rfl⟩ : ∃ C' : Array Value, v' = .agg C' := by obtain ⟨_, _, _, _, _, _, e, _⟩ := hdev; exact ⟨_, e⟩
                    have hdev2 : IsDev x2 (fun k => (okQ k ∨ x.heap.size ≤ k) ∧ k < x2.heap.size) (.agg C') R.1 := hdev.move (fun k hk hl => ⟨⟨hk, hl⟩, rfl⟩)
                    go_simp
                    exact hK _ _ ⟨v12, v13, v44, v45, _, v47, v48, v49, v50, v51, v52, v53, v54, _, v56, v57, v58, v59, v60, v61, _, _, v64, v65, g, C', (fun k => (okQ k ∨ x.heap.size ≤ k) ∧ k < x2.heap.size), rfl, (below_call hb hb2), h0, h1, h2, h3, h4, h5, h6, h7, h8, h9, h10, h11, h12, h13, h14, h15, h16, h17, fun _ => rfl, fun _ => hdev2, fun _ k hk => ⟨hk.1.elim (fun q => Or.inl q) (fun q => Or.inr (Nat.le_trans hb.size q)), hk.2⟩, fun _ q hk => hk.1.elim (fun y => by have := (h22 q).2.1; have := HOK.out _ y; omega) (fun y => by have := blk_lt' (h22 q).2.2; omega), (fun q => by have := k19_18 q; rw [hd] at this; cases this), (fun q => by have := k20_18 q; rw [hd] at this; cases this), (fun q => by have := k21_18 q; rw [hd] at this; cases this), fun q => ⟨(h22 q).1, (h22 q).2.1, (by have h := (h22 q).2.2; rw [if_neg (fun y => by have := k23_18 y; rw [hd] at this; cases this)] at h; rw [if_neg (fun y => by have := k23_18 y; rw [hd] at this; cases this)]; exact h.grow hb2)⟩, (fun q => by have := k24_18 q; rw [hd] at this; cases this), fun _ => rfl, fun _ => rfl, fun _ => rfl, k23_22, fun _ => rfl, fun _ => rfl⟩
                  · obtain rfl := h18 (hpre { on := 18, ground := Ground.data } (by simp) rfl)
                    go_simp
                    exact hK _ _ ⟨v12, v13, _, v45, v46, v47, v48, v49, v50, v51, v52, v53, v54, v55, v56, v57, v58, v59, v60, v61, v62, _, v64, v65, g, C8, okP, rfl, hb, h0, h1, h2, h3, h4, h5, h6, h7, h8, h9, h10, h11, h12, h13, h14, h15, h16, h17, h18, hD, hok, hno, fun _ => rfl, h20, h21, h22, h24, fun _ => hpre { on := 18, ground := Ground.data } (by simp) rfl, k20_18, k21_18, k23_22, k23_18, k24_18⟩
                  · obtain rfl := h19 (hpre { on := 19, ground := Ground.data } (by simp) rfl)
                    go_simp
                    exact hK _ _ ⟨v12, v13, _, v45, v46, v47, v48, v49, v50, v51, v52, v53, v54, v55, v56, v57, v58, v59, v60, v61, v62, v63, _, v65, g, C8, okP, rfl, hb, h0, h1, h2, h3, h4, h5, h6, h7, h8, h9, h10, h11, h12, h13, h14, h15, h16, h17, h18, hD, hok, hno, h19, fun _ => rfl, h21, h22, h24, k19_18, fun _ => k19_18 (hpre { on := 19, ground := Ground.data } (by simp) rfl), k21_18, k23_22, k23_18, k24_18⟩
                  · obtain rfl := h19 (hpre { on := 19, ground := Ground.data } (by simp) rfl)
                    go_simp
                    exact hK _ _ ⟨v12, v13, _, v45, v46, v47, v48, v49, v50, v51, v52, v53, v54, v55, v56, v57, v58, v59, v60, v61, v62, v63, v64, _, g, C8, okP, rfl, hb, h0, h1, h2, h3, h4, h5, h6, h7, h8, h9, h10, h11, h12, h13, h14, h15, h16, h17, h18, hD, hok, hno, h19, h20, fun _ => rfl, h22, h24, k19_18, k20_18, fun _ => k19_18 (hpre { on := 19, ground := Ground.data } (by simp) rfl), k23_22, k23_18, k24_18⟩
                  · go_simp
                    exact hK _ _ ⟨.pointer (some ⟨x.heap.size, 0, none⟩), v13, v44, v45, v46, v47, v48, v49, v50, v51, v52, v53, v54, v55, v56, v57, v58, v59, v60, v61, v62, v63, v64, v65, x.heap.size, C8, okP, rfl, (hb.alloc hb.size _), h0, h1, h2, h3, h4, h5, h6, h7, h8, h9, h10, h11, h12, h13, h14, h15, h16, h17, h18, fun q => (hD q).frame (fun k _ hk => Below.heap_alloc _ _ _ hk), fun q k hk => ⟨(hok q k hk).1, by have := (hok q k hk).2; rw [World.size_alloc]; omega⟩, fun q _ hk => by have := (hok q _ hk).2; omega, h19, h20, h21, fun _ => ⟨rfl, hb.size, by rw [if_neg (fun q => by have q2 := k23_22 q; rw [hd] at q2; cases q2)]; exact Blk.new x _ _⟩, h24, k19_18, k20_18, k21_18, fun _ => rfl, k23_18, k24_18⟩
                  · have d22 := hpre { on := 22, ground := Ground.data } (by simp) rfl
                    have d20 := hpre { on := 20, ground := Ground.data } (by simp) rfl
                    have d18 := k20_18 d20
                    obtain rfl := h20 d20
                    obtain ⟨rfl, hg, hblk⟩ := h22 d22
                    rw [if_neg (by rw [hd]; decide)] at hblk
                    have hsz := (hD d18).size
                    refine step_plain rfl (wp_store_row 36 (.tmp 12) (.tmp 64) rfl g C8 rfl rfl 36 zeroD hblk (by rw [hsz.1]; exact dev_info) (by rw [hsz.1]; rfl) hsz.2 (hK _ _ ?_))
                    exact ⟨_, v13, v44, v45, v46, v47, v48, v49, v50, v51, v52, v53, v54, v55, v56, v57, v58, v59, v60, v61, v62, v63, _, v65, g, C8, okP, rfl, (below_setRow hb hg _), h0, h1, h2, h3, h4, h5, h6, h7, h8, h9, h10, h11, h12, h13, h14, h15, h16, h17, h18, fun q => (hD q).frame (fun k hk _ => setRow_other _ _ _ _ (fun e => hno q d22 (e ▸ hk))), fun q k hk => ⟨(hok q k hk).1, by have := (hok q k hk).2; simpa using this⟩, hno, h19, h20, h21, fun _ => ⟨rfl, hg, hblk.setRow_ C8⟩, h24, k19_18, k20_18, k21_18, fun _ => d22, fun _ => d18, k24_18⟩
                  · obtain rfl := h21 (hpre { on := 21, ground := Ground.data } (by simp) rfl)
                    go_simp
                    exact hK _ _ ⟨v12, _, v44, v45, v46, v47, v48, v49, v50, v51, v52, v53, v54, v55, v56, v57, v58, v59, v60, v61, v62, v63, v64, _, g, C8, okP, rfl, hb, h0, h1, h2, h3, h4, h5, h6, h7, h8, h9, h10, h11, h12, h13, h14, h15, h16, h17, h18, hD, hok, hno, h19, h20, h21, h22, fun _ => rfl, k19_18, k20_18, k21_18, k23_22, k23_18, fun _ => k21_18 (hpre { on := 21, ground := Ground.data } (by simp) rfl)⟩
                case hend =>
                  intro d a x hall hI
                  obtain ⟨v12, v13, v44, v45, v46, v47, v48, v49, v50, v51, v52, v53, v54, v55, v56, v57, v58, v59, v60, v61, v62, v63, v64, v65, g, C8, okP, rfl, hb, h0, h1, h2, h3, h4, h5, h6, h7, h8, h9, h10, h11, h12, h13, h14, h15, h16, h17, h18, hD, hok, hno, h19, h20, h21, h22, h24, k19_18, k20_18, k21_18, k23_22, k23_18, k24_18⟩ := hI
                  obtain ⟨rfl, hg, b12⟩ := h22 (hall 22 (by decide))
                  rw [if_pos (hall 23 (by decide))] at b12
                  obtain rfl := h24 (hall 24 (by decide))
                  have dD := hD (hall 18 (by decide))
                  have dok := hok (hall 18 (by decide))
                  have dno := hno (hall 18 (by decide)) (hall 22 (by decide))
                  have B12 := Lib.hid b12
                  have DD := Lib.hid dD
                  have DK := Lib.hid dok
                  have DN := Lib.hid dno
                  have Hg := Lib.hid hg
                  clear h0 h1 h2 h3 h4 h5 h6 h7 h8 h9 h10 h11 h12 h13 h14 h15 h16 h17 h18 hD hok hno h19 h20 h21 h22 h24 k19_18 k20_18 k21_18 k23_22 k23_18 k24_18 hall b12 dD dok dno hg
                  subst hF
                  dsimp only
                  go_wp2_with fail
                  go_meet
                  exact ⟨_, _, _, rfl, rfl, Hg.out, B12.out, DD.out, DK.out, DN.out, hb⟩
              case rest =>
                obtain ⟨g, C8, okP, rfl, rfl, hg, hblk, hdev, hokP, hno, hbx⟩ := hcut
                have hW1 := blk_lt' HY2.out
                have hblt := blk_lt' HY1.out
                have a1 := HY1.out.grow hbx
                have a2 := HY2.out.grow hbx
                have hsz := hdev.size
                have a6 : ∀ k, okP k → ((ok k ∨ w.heap.size ≤ k) ∧ k ≠ w.heap.size ∧ k ≠ w.heap.size + 1) ∧ k < wc.heap.size := fun k h => by
                  have h1 := hokP k h
                  refine ⟨?_, h1.2⟩
                  rcases h1.1 with h2 | h2
                  · exact (HY4.out k h2).1
                  · exact ⟨Or.inr (by omega), by omega, by omega⟩
                obtain ⟨x4, hx4⟩ : ∃ x4, x4 = wc.setCells w.heap.size 0 C8.toList := ⟨_, rfl⟩
                have b1 : Blk x4 w.heap.size 40 (jc C8 r) := by rw [hx4]; exact jc_put hC9.out.1 hsz.1 a1
                have b2 : Blk x4 (w.heap.size + 1) 40 (jc zeroD rj0) := by rw [hx4]; exact (heap_setCells _ _ _ _ _ (by omega)).trans a2
                have b4 : IsDev x4 okP (.agg C8) R.1 := hdev.frame (fun k hk _ => by rw [hx4]; exact heap_setCells _ _ _ _ _ (a6 k hk).1.2.1)
                have b5 : Below w.heap.size w x4 := by rw [hx4]; exact below_setCellsJ (Nat.le_refl _) _ 0 _ (below_call HY5.out hbx)
                have t5 : wc.there w.heap.size 0 C8.size := by rw [hsz.1]; exact jc_there hC9.out.1 a1
                have hd9 : (Try.prog.info? 36).map (·.size) = some C8.size := by rw [hsz.1]; exact dev_info
                have hx4s : x4.heap.size = wc.heap.size := by rw [hx4, size_setCells]
                have Hd9 := Lib.hid hd9
                have T5 := Lib.hid t5
                have A3 := Lib.hid hblk
                have HX4 := Lib.hid hx4
                have Hsz := Lib.hid hsz
                have A6 := Lib.hid a6
                have B4 := Lib.hid b4
                have B2 := Lib.hid b2
                have B1 := Lib.hid b1
                have B5 := Lib.hid b5
                have Hx4s := Lib.hid hx4s
                clear o1 o1b o2 o3 o4 o5 o6 o7 hx hd9 t5 hblk hx4 hsz a6 b1 b2 b4 b5 a1 a2 hdev hokP hno hbx hx4s
                by_cases hE0 : R.2 = 0
                · rw [hE0]
                  have HE0 := Lib.hid hE0
                  clear hE0
                  go_wp2_with (first | (refine wpList_load_row rfl 36 (.tmp 12) rfl g rfl 36 C8 (0, 0) _ A3.out Try.underlying36 rfl Hd9.out ?_) | (refine wpList_store_mid rfl 36 (.tmp 67) (.tmp 66) rfl w.heap.size 0 C8 rfl rfl T5.out Hd9.out Hsz.out.2 ?_; rw [← HX4.out]))
                  go_roundg (S - a - (i + 1))
                  case measure => have := Hi.out; have := Hk.out; omega
                  case rel =>
                    have := Hi.out
                    have hR' := HR.out
                    refine ⟨i + 1, C8, okP, rfl, by omega, ?_, by rw [← hR']; exact HE0.out, Hsz.out.1, Hsz.out.2, B1.out, B2.out, by rw [← hR']; exact B4.out, fun k hk => ⟨(A6.out k hk).1, by rw [Hx4s.out]; exact (A6.out k hk).2⟩, B5.out⟩
                    rw [Hm.out]
                    go_num
                · have hq0 : (R.2 != 0) = true := bne_iff_ne.2 hE0
                  have htr : layR D r s t all = ((R.1, { r with broken := true }), R.2) := by
                    have h1 := HEs.out i (by have := Hi.out; omega) (by rw [← HR.out]; exact hE0)
                    rw [← HR.out] at h1
                    unfold layR
                    rw [if_neg (by rw [← HN0.out]; exact Hfull.out), h1, if_pos hE0]
                  have cz := Hsz.out
                  have c5 : Below w.heap.size w (x4.setCell ⟨w.heap.size, 12, none⟩ (.bool true)) := B5.out.setCell (p := ⟨w.heap.size, 12, none⟩) (Nat.le_refl _) (.bool true)
                  have c1 : Blk (x4.setCell ⟨w.heap.size, 12, none⟩ (.bool true)) w.heap.size 40 (jc C8 { r with broken := true }) := by
                    have := (B1.out.set_ 12 (.bool true))
                    simpa only [jc_st12 cz.1] using this
                  have c2 : Blk (x4.setCell ⟨w.heap.size, 12, none⟩ (.bool true)) (w.heap.size + 1) 40 (jc zeroD rj0) := B2.out.far (p := ⟨w.heap.size, 12, none⟩) (by show w.heap.size + 1 ≠ w.heap.size; omega) (.bool true)
                  have c4 : IsDev (x4.setCell ⟨w.heap.size, 12, none⟩ (.bool true)) okP (.agg C8) R.1 := B4.out.frame (fun k hk _ => heap_setCell_other _ _ _ _ (A6.out k hk).1.2.1)
                  have c6 : ∀ k, okP k → (ok k ∨ w.heap.size ≤ k) ∧ k ≠ w.heap.size ∧ k ≠ w.heap.size + 1 := fun k hk => (A6.out k hk).1
                  obtain ⟨r2, hr2⟩ : ∃ r2 : RJ, r2 = { r with broken := true } := ⟨_, rfl⟩
                  rw [← hr2] at htr c1
                  obtain ⟨x5, hx5⟩ : ∃ x5, x5 = x4.setCell ⟨w.heap.size, 12, none⟩ (.bool true) := ⟨_, rfl⟩
                  rw [← hx5] at c1 c2 c4 c5
                  have q12 := B1.out.cell 12
                  rw [show (12 : Nat) = 8 + 4 from rfl, jc_tail cz.1] at q12
                  have q12' : x4.cell? ⟨w.heap.size, 12, none⟩ = some (.bool r.broken) := q12
                  have f12 := B1.out.frozen 12
                  clear q12
                  have HX5 := Lib.hid hx5
                  clear hx5 hr2 hE0
                  obtain ⟨x6, hx6⟩ : ∃ x6, x6 = x5.setRow (w.heap.size + 1) (jc C8 r2) := ⟨_, rfl⟩
                  have d2 : Blk x6 (w.heap.size + 1) 40 (jc C8 r2) := by rw [hx6]; exact c2.setRow_ _
                  have d4 : IsDev x6 (fun k => ok k ∨ w.heap.size ≤ k) (.agg C8) R.1 := by rw [hx6]; exact c4.move (fun k hk _ => ⟨(c6 k hk).1, setRow_other _ _ _ _ (c6 k hk).2.2⟩)
                  have d5 : Below w.heap.size w x6 := by rw [hx6]; exact below_setRow c5 (by omega) _
                  have hj : (Try.prog.info? 40).map (·.size) = some (jc C8 r2).size := by rw [jc_size cz.1]; exact jn_info
                  have ho : (jc zeroD rj0).size = (jc C8 r2).size := by rw [jc_size cz.1]; rfl
                  have hone : (jc C8 r2).all (·.oneCell') = true := jc_one cz.2
                  have Htr := Lib.hid htr
                  have HX6 := Lib.hid hx6
                  have C1 := Lib.hid c1
                  have C2 := Lib.hid c2
                  have D2 := Lib.hid d2
                  have D4 := Lib.hid d4
                  have D5 := Lib.hid d5
                  have Hj := Lib.hid hj
                  have Ho := Lib.hid ho
                  have Hone := Lib.hid hone
                  clear htr hx6 c1 c2 c4 c5 c6 cz d2 d4 d5 hj ho hone 
                  go_wp2_with (first | (refine wpList_load_row rfl 36 (.tmp 12) rfl g rfl 36 C8 (0, 0) _ A3.out Try.underlying36 rfl Hd9.out ?_) | (refine wpList_store_mid rfl 36 (.tmp 67) (.tmp 66) rfl w.heap.size 0 C8 rfl rfl T5.out Hd9.out Hsz.out.2 ?_; rw [← HX4.out]) | (rw [← HX5.out]; refine wpList_load_row rfl 40 (.tmp 4) rfl w.heap.size rfl 40 (jc C8 r2) (0, 0) _ C1.out Try.underlying40 rfl Hj.out ?_) | (refine wpList_store_row rfl 40 (.tmp 8) (.tmp 71) rfl (w.heap.size + 1) (jc C8 r2) rfl rfl 40 (jc zeroD rj0) C2.out Hj.out Ho.out Hone.out ?_; rw [← HX6.out]))
                  refine bodyPost_ret (v := .tuple #[.agg (jc C8 r2), .int .i64 R.2]) (results_cell_tmp Try.results44 _ _ (w.heap.size + 1) 40 (jc C8 r2) (0, 0) _ _ rfl rfl D2.out Try.underlying40 rfl Hj.out) rfl ⟨.agg (jc C8 r2), by rw [Htr.out], ?_, D5.out⟩
                  rw [Htr.out]
                  exact IsRJ.of_cells D4.out r2
            · obtain rfl : i = S - a := by omega
              obtain ⟨m, hm⟩ : ∃ m, m = a + (S - a) := ⟨_, rfl⟩
              rw [← hm]
              have hmS : ¬ ((m : Int) < (S : Int)) := by omega
              have hEI := HEi.out (S - a) (by omega)
              obtain ⟨Dk, hDk⟩ : ∃ Dk, Dk = (EE (S - a)).1 := ⟨_, rfl⟩
              rw [← hDk] at y3 hEI
              obtain ⟨R, hR⟩ : ∃ R, R = Dk.barrier := ⟨_, rfl⟩
              have hlay : layR D r s t all = if R.2 ≠ 0 then ((R.1, { r with broken := true }), R.2) else tellR R.1 r (r.number + 1) s all := by
                unfold layR
                rw [if_neg (by rw [← HN0.out]; exact Hfull.out), HEl.out, if_neg (by rw [hEi0]; decide), ← hDk, ← hR]
              have hbar : Calls Try.prog 66 #[.agg C] wr fun e w' => ∃ v', e = .returned (.tuple #[v', .int .i64 R.2]) ∧ IsDev w' (fun k => okQ k ∨ wr.heap.size ≤ k) v' R.1 ∧ Below wr.heap.size wr w' := by
                rw [hR]
                exact refbarrier_any okQ (.agg C) Dk wr y3 hEI.1 (by rw [hEI.2.1]; omega) (by have := hEI.2.2.1.1; omega) (by have := hEI.2.2.1.2; omega) hEI.2.2.2
              have hR1 : R.1.Wf ∧ R.1.sure.length ≤ 4096 ∧ (R.1.loose.length ≤ 1000000 ∧ R.1.changes ≤ 1000000) ∧ R.1.left ≤ 9223372036854775807 := by
                rw [hR]
                have hf := barrier_few hEI.2.2.1
                exact ⟨barrier_wf hEI.1, by rw [barrier_length, hEI.2.1]; exact hl, ⟨by have := hf.1; omega, by have := hf.2; omega⟩, barrier_left hEI.2.2.2 (by omega)⟩
              have hd10 : (Try.prog.info? 36).map (·.size) = some C.toList.length := by rw [Array.length_toList, hs8]; exact dev_info
              have hW1 := blk_lt' y2
              have HBar := Lib.hid hbar
              have Hlay := Lib.hid hlay
              have HR1 := Lib.hid hR1
              have HY1 := Lib.hid y1
              have HY2 := Lib.hid y2
              have HY4 := Lib.hid y4
              have HY5 := Lib.hid y5
              have hC9 := Lib.hid (And.intro hs8 hs1)
              have Hd10 := Lib.hid hd10
              clear hbar hlay hR1 y1 y2 y3 y4 y5 hs8 hs1 hd10 hR hDk hEI hEi0 hi hiS hk hm
              go_wp2_with (refine wpList_load_mid rfl 36 (.tmp 74) rfl w.heap.size 0 rfl C.toList _ (jc_range hC9.out.1 HY1.out) Try.underlying36 rfl Hd10.out ?_)
              refine HBar.out.mono ?_
              rintro e x2 ⟨v', rfl, hdev2, hb2⟩
              obtain ⟨C9, rfl⟩ : ∃ C9 : Array Value, v' = .agg C9 := by obtain ⟨_, _, _, _, _, _, e, _⟩ := hdev2; exact ⟨_, e⟩
              have hsz := hdev2.size
              have hb2s := hb2.size
              obtain ⟨x3, hx3⟩ : ∃ x3, x3 = (x2.alloc (.cells #[.slice none 0 0, .slice none 0 0, .int .i64 0, .slice none 0 0, .int .i64 0, .int .i64 0, .int .i64 0, .bool false] 36)).setRow x2.heap.size C9 := ⟨_, rfl⟩
              have a0 : Blk (x2.alloc (.cells #[.slice none 0 0, .slice none 0 0, .int .i64 0, .slice none 0 0, .int .i64 0, .int .i64 0, .int .i64 0, .bool false] 36)) x2.heap.size 36 zeroD := Blk.new x2 _ _
              have a1 : Blk x3 w.heap.size 40 (jc C r) := by rw [hx3]; exact ((HY1.out.grow hb2).alloc _).setRowFar (by omega) C9
              have a2 : Blk x3 (w.heap.size + 1) 40 (jc zeroD rj0) := by rw [hx3]; exact ((HY2.out.grow hb2).alloc _).setRowFar (by omega) C9
              have a3 : Blk x3 x2.heap.size 36 C9 := by rw [hx3]; exact a0.setRow_ C9
              have a4 : IsDev x3 (fun k => (okQ k ∨ wr.heap.size ≤ k) ∧ k < x2.heap.size) (.agg C9) R.1 := by
                rw [hx3]
                exact hdev2.move (fun k hk hl => ⟨⟨hk, hl⟩, (setRow_other _ _ _ _ (by omega)).trans (Below.heap_alloc _ _ _ hl)⟩)
              have a5 : Below w.heap.size w x3 := by rw [hx3]; exact below_setRow ((below_call HY5.out hb2).alloc (by omega) _) (by omega) C9
              have a6 : ∀ k, ((okQ k ∨ wr.heap.size ≤ k) ∧ k < x2.heap.size) → (ok k ∨ w.heap.size ≤ k) ∧ k ≠ w.heap.size ∧ k ≠ w.heap.size + 1 := fun k hk => by
                rcases hk.1 with h | h
                · exact (HY4.out k h).1
                · exact ⟨Or.inr (by omega), by omega, by omega⟩
              obtain ⟨x4, hx4⟩ : ∃ x4, x4 = x3.setCells w.heap.size 0 C9.toList := ⟨_, rfl⟩
              have b1 : Blk x4 w.heap.size 40 (jc C9 r) := by rw [hx4]; exact jc_put hC9.out.1 hsz.1 a1
              have b2 : Blk x4 (w.heap.size + 1) 40 (jc zeroD rj0) := by rw [hx4]; exact (heap_setCells _ _ _ _ _ (by omega)).trans a2
              have b4 : IsDev x4 (fun k => (okQ k ∨ wr.heap.size ≤ k) ∧ k < x2.heap.size) (.agg C9) R.1 := a4.frame (fun k hk _ => by rw [hx4]; exact heap_setCells _ _ _ _ _ (a6 k hk).2.1)
              have b5 : Below w.heap.size w x4 := by rw [hx4]; exact below_setCellsJ (Nat.le_refl _) _ 0 _ a5
              have t5 : x3.there w.heap.size 0 C9.size := by rw [hsz.1]; exact jc_there hC9.out.1 a1
              have hd9 : (Try.prog.info? 36).map (·.size) = some C9.size := by rw [hsz.1]; exact dev_info
              have hold : zeroD.size = C9.size := by rw [hsz.1]; rfl
              have Hd9 := Lib.hid hd9
              have T5 := Lib.hid t5
              have A0 := Lib.hid a0
              have A3 := Lib.hid a3
              have A6 := Lib.hid a6
              have HX3 := Lib.hid hx3
              have HX4 := Lib.hid hx4
              have Hsz := Lib.hid hsz
              have B1 := Lib.hid b1
              have B2 := Lib.hid b2
              have B4 := Lib.hid b4
              have B5 := Lib.hid b5
              have Hold := Lib.hid hold
              clear hd9 t5 a0 a1 a2 a3 a4 a5 a6 b1 b2 b4 b5 hx3 hx4 hsz hold hdev2 hb2 hb2s
              by_cases hR0 : R.2 = 0
              · rw [hR0]
                have hlay := Hlay.out
                rw [if_neg (by rw [hR0]; decide)] at hlay
                have Hlay2 := Lib.hid hlay
                clear hlay hR0
                obtain ⟨NX, hNX⟩ : ∃ NX : Int, NX = ((r.number + 1 : Nat) : Int) := ⟨_, rfl⟩
                have n1 : (r.number : Int) + 1 = NX := by omega
                have n2 : IntKind.u64.wrap NX = NX := by rw [hNX, IntKind.wrap_u64] <;> omega
                have htell : Calls Try.prog 41 #[.agg (jc C9 r), .int .u64 NX, .int .i64 (s : Int), str all] x4 fun e w' => ∃ v', e = .returned (.tuple #[v', .int .i64 (tellR R.1 r (r.number + 1) s all).2]) ∧ IsRJ w' (fun k => ((okQ k ∨ wr.heap.size ≤ k) ∧ k < x2.heap.size) ∨ x4.heap.size ≤ k) v' (tellR R.1 r (r.number + 1) s all).1.1 (tellR R.1 r (r.number + 1) s all).1.2 ∧ Below x4.heap.size x4 w' := by
                  rw [hNX]
                  exact reftell_any _ _ R.1 r (r.number + 1) s all x4 (IsRJ.of_cells B4.out r) HR1.out.1 HR1.out.2.1 HR1.out.2.2.1 HR1.out.2.2.2 (by omega) hs hall
                obtain ⟨TR, hTR⟩ : ∃ TR, TR = tellR R.1 r (r.number + 1) s all := ⟨_, rfl⟩
                rw [← hTR] at htell
                rw [← hTR] at Hlay2
                have q8 := B1.out.cell 8
                rw [show (8 : Nat) = 8 + 0 from rfl, jc_tail Hsz.out.1] at q8
                have q8' : x4.cell? ⟨w.heap.size, 8, none⟩ = some (.int .u64 (r.number : Int)) := q8
                have hj : (Try.prog.info? 40).map (·.size) = some (jc C9 r).size := by rw [jc_size Hsz.out.1]; exact jn_info
                have Hj := Lib.hid hj
                have HTell := Lib.hid htell
                clear q8 hTR hNX hj htell
                go_wp2_with (first | (refine wpList_store_row rfl 36 (.tmp 14) (.tmp 77) rfl x2.heap.size C9 rfl rfl 36 zeroD A0.out Hd9.out Hold.out Hsz.out.2 ?_; rw [← HX3.out]) | (refine wpList_load_row rfl 36 (.tmp 14) rfl x2.heap.size rfl 36 C9 (0, 0) _ A3.out Try.underlying36 rfl Hd9.out ?_) | (refine wpList_store_mid rfl 36 (.tmp 80) (.tmp 79) rfl w.heap.size 0 C9 rfl rfl T5.out Hd9.out Hsz.out.2 ?_; rw [← HX4.out]) | (refine wpList_load_row rfl 40 (.tmp 4) rfl w.heap.size rfl 40 (jc C9 r) (0, 0) _ B1.out Try.underlying40 rfl Hj.out ?_))
                refine HTell.out.mono ?_
                rintro e x7 ⟨v', rfl, hrj, hb7⟩
                obtain ⟨C7, rfl, hd7⟩ := hrj.cells
                have hz7 := hd7.size
                have hx42 := blk_lt' B2.out
                have b8 : Blk x7 (w.heap.size + 1) 40 (jc zeroD rj0) := B2.out.grow hb7
                obtain ⟨x8, hx8⟩ : ∃ x8, x8 = x7.setRow (w.heap.size + 1) (jc C7 TR.1.2) := ⟨_, rfl⟩
                have d2 : Blk x8 (w.heap.size + 1) 40 (jc C7 TR.1.2) := by rw [hx8]; exact b8.setRow_ _
                have d4 : IsDev x8 (fun k => ok k ∨ w.heap.size ≤ k) (.agg C7) TR.1.1 := by
                  rw [hx8]
                  refine hd7.move (fun k hk _ => ?_)
                  rcases hk with h | h
                  · exact ⟨(A6.out k h).1, setRow_other _ _ _ _ (A6.out k h).2.2⟩
                  · exact ⟨Or.inr (by omega), setRow_other _ _ _ _ (by omega)⟩
                have d5 : Below w.heap.size w x8 := by rw [hx8]; exact below_setRow (below_call B5.out hb7) (by omega) _
                have hj8 : (Try.prog.info? 40).map (·.size) = some (jc C7 TR.1.2).size := by rw [jc_size hz7.1]; exact jn_info
                have ho8 : (jc zeroD rj0).size = (jc C7 TR.1.2).size := by rw [jc_size hz7.1]; rfl
                have hone8 : (jc C7 TR.1.2).all (·.oneCell') = true := jc_one hz7.2
                have B8 := Lib.hid b8
                have HX8 := Lib.hid hx8
                have D2 := Lib.hid d2
                have D4 := Lib.hid d4
                have D5 := Lib.hid d5
                have Hj8 := Lib.hid hj8
                have Ho8 := Lib.hid ho8
                have Hone8 := Lib.hid hone8
                clear b8 hx8 d2 d4 d5 hj8 ho8 hone8 hz7 hd7 hrj hb7 n1 n2 q8' hx42
                go_wp2_with (refine wpList_store_row rfl 40 (.tmp 8) (.tmp 93) rfl (w.heap.size + 1) (jc C7 TR.1.2) rfl rfl 40 (jc zeroD rj0) B8.out Hj8.out Ho8.out Hone8.out ?_; rw [← HX8.out])
                refine bodyPost_ret (v := .tuple #[.agg (jc C7 TR.1.2), .int .i64 TR.2]) (results_cell_tmp Try.results44 _ _ (w.heap.size + 1) 40 (jc C7 TR.1.2) (0, 0) _ _ rfl rfl D2.out Try.underlying40 rfl Hj8.out) rfl ⟨.agg (jc C7 TR.1.2), by rw [Hlay2.out], ?_, D5.out⟩
                rw [Hlay2.out]
                exact IsRJ.of_cells D4.out TR.1.2
              · have hq0 : (R.2 != 0) = true := bne_iff_ne.2 hR0
                have htr := Hlay.out
                rw [if_pos hR0] at htr
                have cz := Hsz.out
                have c5 : Below w.heap.size w (x4.setCell ⟨w.heap.size, 12, none⟩ (.bool true)) := B5.out.setCell (p := ⟨w.heap.size, 12, none⟩) (Nat.le_refl _) (.bool true)
                have c1 : Blk (x4.setCell ⟨w.heap.size, 12, none⟩ (.bool true)) w.heap.size 40 (jc C9 { r with broken := true }) := by
                  have := (B1.out.set_ 12 (.bool true))
                  simpa only [jc_st12 cz.1] using this
                have c2 : Blk (x4.setCell ⟨w.heap.size, 12, none⟩ (.bool true)) (w.heap.size + 1) 40 (jc zeroD rj0) := B2.out.far (p := ⟨w.heap.size, 12, none⟩) (by show w.heap.size + 1 ≠ w.heap.size; omega) (.bool true)
                have c4 : IsDev (x4.setCell ⟨w.heap.size, 12, none⟩ (.bool true)) (fun k => (okQ k ∨ wr.heap.size ≤ k) ∧ k < x2.heap.size) (.agg C9) R.1 := B4.out.frame (fun k hk _ => heap_setCell_other _ _ _ _ (A6.out k hk).2.1)
                have c6 := A6.out
                obtain ⟨r2, hr2⟩ : ∃ r2 : RJ, r2 = { r with broken := true } := ⟨_, rfl⟩
                rw [← hr2] at htr c1
                obtain ⟨x5, hx5⟩ : ∃ x5, x5 = x4.setCell ⟨w.heap.size, 12, none⟩ (.bool true) := ⟨_, rfl⟩
                rw [← hx5] at c1 c2 c4 c5
                have q12 := B1.out.cell 12
                rw [show (12 : Nat) = 8 + 4 from rfl, jc_tail cz.1] at q12
                have q12' : x4.cell? ⟨w.heap.size, 12, none⟩ = some (.bool r.broken) := q12
                have f12 := B1.out.frozen 12
                clear q12
                have HX5 := Lib.hid hx5
                clear hx5 hr2 hR0
                obtain ⟨x6, hx6⟩ : ∃ x6, x6 = x5.setRow (w.heap.size + 1) (jc C9 r2) := ⟨_, rfl⟩
                have d2 : Blk x6 (w.heap.size + 1) 40 (jc C9 r2) := by rw [hx6]; exact c2.setRow_ _
                have d4 : IsDev x6 (fun k => ok k ∨ w.heap.size ≤ k) (.agg C9) R.1 := by rw [hx6]; exact c4.move (fun k hk _ => ⟨(c6 k hk).1, setRow_other _ _ _ _ (c6 k hk).2.2⟩)
                have d5 : Below w.heap.size w x6 := by rw [hx6]; exact below_setRow c5 (by omega) _
                have hj : (Try.prog.info? 40).map (·.size) = some (jc C9 r2).size := by rw [jc_size cz.1]; exact jn_info
                have ho : (jc zeroD rj0).size = (jc C9 r2).size := by rw [jc_size cz.1]; rfl
                have hone : (jc C9 r2).all (·.oneCell') = true := jc_one cz.2
                have Htr := Lib.hid htr
                have HX6 := Lib.hid hx6
                have C1 := Lib.hid c1
                have C2 := Lib.hid c2
                have D2 := Lib.hid d2
                have D4 := Lib.hid d4
                have D5 := Lib.hid d5
                have Hj := Lib.hid hj
                have Ho := Lib.hid ho
                have Hone := Lib.hid hone
                clear htr hx6 c1 c2 c4 c5 c6 cz d2 d4 d5 hj ho hone 
                go_wp2_with (first | (refine wpList_store_row rfl 36 (.tmp 14) (.tmp 77) rfl x2.heap.size C9 rfl rfl 36 zeroD A0.out Hd9.out Hold.out Hsz.out.2 ?_; rw [← HX3.out]) | (refine wpList_load_row rfl 36 (.tmp 14) rfl x2.heap.size rfl 36 C9 (0, 0) _ A3.out Try.underlying36 rfl Hd9.out ?_) | (refine wpList_store_mid rfl 36 (.tmp 80) (.tmp 79) rfl w.heap.size 0 C9 rfl rfl T5.out Hd9.out Hsz.out.2 ?_; rw [← HX4.out]) | (rw [← HX5.out]; refine wpList_load_row rfl 40 (.tmp 4) rfl w.heap.size rfl 40 (jc C9 r2) (0, 0) _ C1.out Try.underlying40 rfl Hj.out ?_) | (refine wpList_store_row rfl 40 (.tmp 8) (.tmp 84) rfl (w.heap.size + 1) (jc C9 r2) rfl rfl 40 (jc zeroD rj0) C2.out Hj.out Ho.out Hone.out ?_; rw [← HX6.out]))
                refine bodyPost_ret (v := .tuple #[.agg (jc C9 r2), .int .i64 R.2]) (results_cell_tmp Try.results44 _ _ (w.heap.size + 1) 40 (jc C9 r2) (0, 0) _ _ rfl rfl D2.out Try.underlying40 rfl Hj.out) rfl ⟨.agg (jc C9 r2), by rw [Htr.out], ?_, D5.out⟩
                rw [Htr.out]
                exact IsRJ.of_cells D4.out r2
        · have hm : ¬ (T.length : Int) % 256 = 0 := by rw [hTl]; omega
          have hm2 : ((T.length : Int) % 256 != 0) = true := bne_iff_ne.2 hm
          have hadd := fun z : World => run_str_add (P := Try.prog) z T [0] (by simp; omega)
          have HT := Lib.hid hT
          have HTl := Lib.hid hTl
          clear hT hTl
          go_wp2_with fail
          go_roundg (p - (j + 1))
          case measure => omega
          case rel =>
            refine ⟨j + 1, rfl, by omega, ?_, rfl⟩
            rw [HT.out, List.append_assoc, ← List.replicate_succ']
end Go.Proofs.Ytiaabgmmmekpnaa
