/-
  One version: strings.Clone, version.copied, version.Head, the document's Head, Gone of either side.
-/
import Derived.Test.YtcpjgohclncbkaaDoorVeOne
import Derived.Test.YtcpjgohclncbkaaDoorVeBase
import Derived.Test.YtcpjgohclncbkaaDoorEnBase
import Derived.Test.YtcpjgohclncbkaaDoorVeKit
import Derived.Test.YtcpjgohclncbkaaDoorShelf
import Derived.Deep.Cut
import Derived.Deep.DeepCutAuto
import Derived.Deep.DeepMust
namespace Go.Proofs.YtcpjgohclncbkaaDoor
open Go.RowKit
set_option maxRecDepth 100000

def headE (v : Ent) : Bool := eqV v.by_ zeroV
def zeroE : Array Value := #[.int .i64 0, .int .u32 0, .int .i64 0, .int .u32 0, .string ⟨#[]⟩, .int .i64 0, .int .u32 0, .int .u32 0, .int .u32 0, .int .u32 0, .int .u32 0, .int .u32 0, .int .u32 0, .int .u32 0, .int .u32 0]
/-- The parts of an entry that lies there. -/
structure EntCells (W : World) (g o : Nat) (v : Ent) : Prop where
  id : W.rangeAt g o (idC v.rep v.seq).toList
  dir : W.rangeAt g (o + 2) (idC v.drep v.dseq).toList
  data : W.cell? ⟨g, o + 4, none⟩ = some (str v.data)
  obj : W.rangeAt g (o + 5) (idC v.orep v.oseq).toList
  by_ : W.rangeAt g (o + 7) (av v.by_).toList
  all : W.rangeAt g o (entC v).toList
theorem entCells {W : World} {g o : Nat} {v : Ent} (h : W.rangeAt g o (entC v).toList) : EntCells W g o v :=
  ⟨fun j u hu => by
      have hj : j < 2 := (List.getElem?_eq_some_iff.1 hu).1
      refine h j u ?_
      rw [← hu]
      rcases (by omega : j = 0 ∨ j = 1) with rfl | rfl <;> rfl,
   fun j u hu => by
      have hj : j < 2 := (List.getElem?_eq_some_iff.1 hu).1
      rw [Nat.add_assoc]
      refine h (2 + j) u ?_
      rw [← hu]
      rcases (by omega : j = 0 ∨ j = 1) with rfl | rfl <;> rfl,
   h 4 _ rfl,
   fun j u hu => by
      have hj : j < 2 := (List.getElem?_eq_some_iff.1 hu).1
      rw [Nat.add_assoc]
      refine h (5 + j) u ?_
      rw [← hu]
      rcases (by omega : j = 0 ∨ j = 1) with rfl | rfl <;> rfl,
   fun j u hu => by
      have hj : j < 8 := (List.getElem?_eq_some_iff.1 hu).1
      rw [Nat.add_assoc]
      refine h (7 + j) u ?_
      rw [← hu]
      rcases lt8 hj with rfl | rfl | rfl | rfl | rfl | rfl | rfl | rfl <;> rfl,
   h⟩
theorem Blk.ent {W : World} {g : Nat} {t : TypeId} {v : Ent} (h : Blk W g t (entC v)) : EntCells W g 0 v := entCells (h.range _ _ fun j u hu => by rw [Nat.zero_add, ← Array.getElem?_toList]; exact hu)
theorem ecopied_any (v : Ent) (hd : v.data.length ≤ 1000) (w : World) :
    Calls Tryd.prog 39 #[.agg (entC v)] w fun e w' => e = .returned (.agg (entC v)) ∧ Below w.heap.size w w' := by
  obtain ⟨W, hW⟩ : ∃ W, W = ((w.alloc (.cells (entC v) 29)).alloc (.cells zeroE 29)) := ⟨_, rfl⟩
  have hA : Blk W w.heap.size 29 (entC v) := by rw [hW]; exact (Blk.new w _ _).alloc _
  have hB : Blk W (w.heap.size + 1) 29 zeroE := by
    have := Blk.new (w.alloc (.cells (entC v) 29)) 29 zeroE
    rw [World.size_alloc] at this
    rw [hW]; exact this
  have hbel : Below w.heap.size w W := by rw [hW]; exact ((Below.refl _ _).alloc (Nat.le_refl _) _).alloc (by simp) _
  have hdat := hA.ent.data
  have Hc := Lib.hid fun z => strclone_any v.data hd z
  have HA := Lib.hid hA
  have HB := Lib.hid hB
  have Hbel := Lib.hid hbel
  have HW := Lib.hid (show W = ((w.alloc (.cells (entC v) 29)).alloc (.cells #[.int .i64 0, .int .u32 0, .int .i64 0, .int .u32 0, .string ⟨#[]⟩, .int .i64 0, .int .u32 0, .int .u32 0, .int .u32 0, .int .u32 0, .int .u32 0, .int .u32 0, .int .u32 0, .int .u32 0, .int .u32 0] 29)) from hW)
  obtain ⟨C, hC⟩ : ∃ C, C = entC v := ⟨_, rfl⟩
  have hset : ∀ x, x = str v.data → C.setIfInBounds 4 x = C := fun x hx => by rw [hC, hx]; rfl
  have Hset := Lib.hid hset
  have hone : C.all (·.oneCell') = true := by rw [hC]; exact entC_one v
  have hsz : C.size = 15 := by rw [hC]; rfl
  have hinf : (Tryd.prog.info? 29).map (·.size) = some C.size := by rw [hsz]; exact ent_info
  have Hone := Lib.hid hone
  have Hinf := Lib.hid hinf
  have Hsz := Lib.hid hsz
  rw [Nat.zero_add] at hdat
  rw [← hC] at HA HW ⊢
  clear hA hB hbel hW hset hone hinf hsz hC
  go_enter Tryd.func39, Tryd.ntmps39
  go_upto_region 1 with fail
  rw [← HW.out]
  go_upto_region 2 with (go_at_call 52; go_must (refine (Hc.out _).mono ?_; rintro e1 w1 ⟨rfl, hb1⟩; have hcell1 := (HA.out.grow hb1).cell 4; have hfz1 := (HA.out.grow hb1).frozen 4; rw [Array.getElem?_eq_getElem (by rw [Hsz.out]; omega)] at hcell1))
  have hA1 := (HA.out.grow hb1).set_ 4 (str v.data)
  rw [Hset.out _ rfl] at hA1
  have hB1 := (HB.out.grow hb1).far (p := ⟨w.heap.size, 4, none⟩) (by show w.heap.size + 1 ≠ w.heap.size; omega) (str v.data)
  have hbel1 : Below w.heap.size w (w1.setCell ⟨w.heap.size, 4, none⟩ (str v.data)) := (below_call Hbel.out hb1).setCell (Nat.le_refl _) _
  obtain ⟨w2, hw2⟩ : ∃ w2, w2 = w1.setCell ⟨w.heap.size, 4, none⟩ (str v.data) := ⟨_, rfl⟩
  rw [← hw2] at hA1 hB1 hbel1 ⊢
  have HA1 := Lib.hid hA1
  have HB1 := Lib.hid hB1
  have Hbel1 := Lib.hid hbel1
  clear hw2 hA1 hB1 hbel1 hcell1 hfz1 hb1
  go_wp2_with (first | (refine wpList_load_row rfl 29 (.tmp 1) rfl w.heap.size rfl 29 C (0, 0) _ HA1.out Tryd.underlying29 rfl Hinf.out ?_) | (refine wpList_store_row rfl 29 (.tmp 2) (.tmp 7) rfl (w.heap.size + 1) C rfl rfl 29 _ HB1.out Hinf.out (by rw [Hsz.out]; rfl) Hone.out ?_))
  have hend := HB1.out.setRow_ C
  exact bodyPost_ret (v := .agg C) (results_cell_row Tryd.results39 _ _ (w.heap.size + 1) 29 C (0, 0) _ rfl hend Tryd.underlying29 rfl Hinf.out) rfl ⟨rfl, below_setRow Hbel1.out (by omega) _⟩

theorem ehead_any (v : Ent) (w : World) :
    Calls Tryd.prog 19 #[.agg (entC v)] w fun e w' => e = .returned (.bool (headE v)) ∧ Below w.heap.size w w' := by
  have hA : Blk (w.alloc (.cells (entC v) 29)) w.heap.size 29 (entC v) := Blk.new w _ _
  have hbel : Below w.heap.size w (w.alloc (.cells (entC v) 29)) := (Below.refl _ _).alloc (Nat.le_refl _) _
  have R := Lib.hid hA.ent.by_
  have heq := fun z => eql_run v.by_ zeroV z
  obtain ⟨b, hb⟩ : ∃ b, b = headE v := ⟨_, rfl⟩
  rw [show eqV v.by_ zeroV = b from hb.symm] at heq
  rw [← hb]
  obtain ⟨C, hC⟩ : ∃ C, C = entC v := ⟨_, rfl⟩
  rw [← hC] at hA R hbel ⊢
  have Hbel := Lib.hid hbel
  unfold vv at heq
  rw [zero_av] at heq
  obtain ⟨A, hAv⟩ : ∃ A, A = av v.by_ := ⟨_, rfl⟩
  rw [← hAv] at heq R
  have hinf : (Tryd.prog.info? 27).map (·.size) = some A.toList.length := by rw [hAv]; exact vec_info
  have Hinf := Lib.hid hinf
  clear hA hb hC hbel hAv hinf
  go_enter Tryd.func19, Tryd.ntmps19
  go_wp2_with (refine wpList_load_mid (op := ⟨some 4, _, _, _, _, _⟩) rfl 27 (.tmp 3) rfl w.heap.size (0 + 7) rfl _ _ R.out Tryd.underlying27 rfl Hinf.out ?_)
  go_ret
  exact ⟨rfl, Hbel.out⟩
end Go.Proofs.YtcpjgohclncbkaaDoor
