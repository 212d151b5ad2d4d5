/-
  One version: strings.Clone, version.copied, version.Head, the document's Head, Gone of either side.
-/
import Derived.Test.YtnehoabeameioaaVeBase
import Derived.Test.YtnehoabeameioaaVeKit
import Derived.Test.YtnehoabeameioaaShelf
import Derived.Deep.Cut
import Derived.Deep.DeepCutAuto
import Derived.Deep.DeepMust
namespace Go.Proofs.Ytnehoabeameioaa
open Go.RowKit
set_option maxRecDepth 100000

def headV (v : Ver) : Bool := eqV v.by_ zeroV
def goneV (A B : Nat → Nat) : Bool := (List.range 8).any fun i => decide (0 < A i ∧ A i ≤ B i)
def zeroC : Array Value := #[.int .i64 0, .int .u32 0, .string ⟨#[]⟩, .int .u32 0, .int .u32 0, .int .u32 0, .int .u32 0, .int .u32 0, .int .u32 0, .int .u32 0, .int .u32 0]
/-- The parts of a version that lies there. -/
structure VerCells (W : World) (g o : Nat) (v : Ver) : Prop where
  id : W.rangeAt g o (idC v.rep v.seq).toList
  data : W.cell? ⟨g, o + 2, none⟩ = some (str v.data)
  by_ : W.rangeAt g (o + 3) (av v.by_).toList
  all : W.rangeAt g o (verC v).toList
theorem verCells {W : World} {g o : Nat} {v : Ver} (h : W.rangeAt g o (verC v).toList) : VerCells W g o v :=
  ⟨fun j u hu => by
      have hj : j < 2 := (List.getElem?_eq_some_iff.1 hu).1
      refine h j u ?_
      rw [← hu]
      rcases (by omega : j = 0 ∨ j = 1) with rfl | rfl <;> rfl,
   h 2 _ rfl,
   fun j u hu => by
      have hj : j < 8 := (List.getElem?_eq_some_iff.1 hu).1
      rw [Nat.add_assoc]
      refine h (3 + j) u ?_
      rw [← hu]
      rcases lt8 hj with rfl | rfl | rfl | rfl | rfl | rfl | rfl | rfl <;> rfl,
   h⟩
theorem Blk.ver {W : World} {g : Nat} {t : TypeId} {v : Ver} (h : Blk W g t (verC v)) : VerCells W g 0 v := verCells (h.range _ _ fun j u hu => by rw [Nat.zero_add, ← Array.getElem?_toList]; exact hu)
theorem VerCells.ext {W W' : World} {g o : Nat} {v : Ver} (h : VerCells W g o v) (hb : Below W.heap.size W W') : VerCells W' g o v := verCells (range_ext h.all hb)

theorem strclone_any (s : List UInt8) (hs : s.length ≤ 1000) (w : World) : Calls Try.prog 39 #[.string ⟨s.toArray⟩] w fun e w' => e = .returned (.string ⟨s.toArray⟩) ∧ Below w.heap.size w w' := by
  have hsz : (⟨s.toArray⟩ : ByteArray).size ≤ 1000 := by show s.toArray.size ≤ _; simp; omega
  have hc := fun z => Try.stringslite_Clone ⟨s.toArray⟩ z (by omega)
  have Hc := Lib.hid hc
  clear hc hsz
  go_enter Try.func39, Try.ntmps39
  go_wp2_with fail
  refine (Hc.out _).mono ?_
  rintro e w1 ⟨rfl, hb1⟩
  go_wp2_with fail
  go_ret
  exact ⟨rfl, hb1⟩

theorem copied_any (v : Ver) (hd : v.data.length ≤ 1000) (w : World) :
    Calls Try.prog 35 #[.agg (verC v)] w fun e w' => e = .returned (.agg (verC v)) ∧ Below w.heap.size w w' := by
  obtain ⟨W, hW⟩ : ∃ W, W = ((w.alloc (.cells (verC v) 39)).alloc (.cells zeroC 39)) := ⟨_, rfl⟩
  have hA : Blk W w.heap.size 39 (verC v) := by rw [hW]; exact (Blk.new w _ _).alloc _
  have hB : Blk W (w.heap.size + 1) 39 zeroC := by
    have := Blk.new (w.alloc (.cells (verC v) 39)) 39 zeroC
    rw [World.size_alloc] at this
    rw [hW]; exact this
  have hbel : Below w.heap.size w W := by rw [hW]; exact ((Below.refl _ _).alloc (Nat.le_refl _) _).alloc (by simp) _
  have hdat := hA.ver.data
  have Hc := Lib.hid fun z => strclone_any v.data hd z
  have HA := Lib.hid hA
  have HB := Lib.hid hB
  have Hbel := Lib.hid hbel
  have HW := Lib.hid (show W = ((w.alloc (.cells (verC v) 39)).alloc (.cells #[.int .i64 0, .int .u32 0, .string ⟨#[]⟩, .int .u32 0, .int .u32 0, .int .u32 0, .int .u32 0, .int .u32 0, .int .u32 0, .int .u32 0, .int .u32 0] 39)) from hW)
  obtain ⟨C, hC⟩ : ∃ C, C = verC v := ⟨_, rfl⟩
  have hset : ∀ x, x = str v.data → C.setIfInBounds 2 x = C := fun x hx => by rw [hC, hx]; rfl
  have Hset := Lib.hid hset
  have hone : C.all (·.oneCell') = true := by rw [hC]; exact verC_one v
  have hsz : C.size = 11 := by rw [hC]; rfl
  have hinf : (Try.prog.info? 39).map (·.size) = some C.size := by rw [hsz]; exact ver_info
  have Hone := Lib.hid hone
  have Hinf := Lib.hid hinf
  have Hsz := Lib.hid hsz
  rw [Nat.zero_add] at hdat
  rw [← hC] at HA HW ⊢
  clear hA hB hbel hW hset hone hinf hsz hC
  go_enter Try.func35, Try.ntmps35
  go_upto_region 1 with fail
  rw [← HW.out]
  go_upto_region 2 with (go_at_call 39; go_must (refine (Hc.out _).mono ?_; rintro e1 w1 ⟨rfl, hb1⟩; have hcell1 := (HA.out.grow hb1).cell 2; have hfz1 := (HA.out.grow hb1).frozen 2; rw [Array.getElem?_eq_getElem (by rw [Hsz.out]; omega)] at hcell1))
  have hA1 := (HA.out.grow hb1).set_ 2 (str v.data)
  rw [Hset.out _ rfl] at hA1
  have hB1 := (HB.out.grow hb1).far (p := ⟨w.heap.size, 2, none⟩) (by show w.heap.size + 1 ≠ w.heap.size; omega) (str v.data)
  have hbel1 : Below w.heap.size w (w1.setCell ⟨w.heap.size, 2, none⟩ (str v.data)) := (below_call Hbel.out hb1).setCell (Nat.le_refl _) _
  obtain ⟨w2, hw2⟩ : ∃ w2, w2 = w1.setCell ⟨w.heap.size, 2, none⟩ (str v.data) := ⟨_, rfl⟩
  rw [← hw2] at hA1 hB1 hbel1 ⊢
  have HA1 := Lib.hid hA1
  have HB1 := Lib.hid hB1
  have Hbel1 := Lib.hid hbel1
  clear hw2 hA1 hB1 hbel1 hcell1 hfz1 hb1
  go_wp2_with (first | (refine wpList_load_row rfl 39 (.tmp 1) rfl w.heap.size rfl 39 C (0, 0) _ HA1.out Try.underlying39 rfl Hinf.out ?_) | (refine wpList_store_row rfl 39 (.tmp 2) (.tmp 7) rfl (w.heap.size + 1) C rfl rfl 39 _ HB1.out Hinf.out (by rw [Hsz.out]; rfl) Hone.out ?_))
  have hend := HB1.out.setRow_ C
  exact bodyPost_ret (v := .agg C) (results_cell_row Try.results35 _ _ (w.heap.size + 1) 39 C (0, 0) _ rfl hend Try.underlying39 rfl Hinf.out) rfl ⟨rfl, below_setRow Hbel1.out (by omega) _⟩

theorem head_any (v : Ver) (w : World) :
    Calls Try.prog 21 #[.agg (verC v)] w fun e w' => e = .returned (.bool (headV v)) ∧ Below w.heap.size w w' := by
  have hA : Blk (w.alloc (.cells (verC v) 39)) w.heap.size 39 (verC v) := Blk.new w _ _
  have hbel : Below w.heap.size w (w.alloc (.cells (verC v) 39)) := (Below.refl _ _).alloc (Nat.le_refl _) _
  have R := Lib.hid hA.ver.by_
  have heq := fun z => eql_run v.by_ zeroV z
  obtain ⟨b, hb⟩ : ∃ b, b = headV v := ⟨_, rfl⟩
  rw [show eqV v.by_ zeroV = b from hb.symm] at heq
  rw [← hb]
  obtain ⟨C, hC⟩ : ∃ C, C = verC v := ⟨_, rfl⟩
  rw [← hC] at hA R hbel ⊢
  have Hbel := Lib.hid hbel
  unfold vv at heq
  rw [zero_av] at heq
  obtain ⟨A, hAv⟩ : ∃ A, A = av v.by_ := ⟨_, rfl⟩
  rw [← hAv] at heq R
  have hinf : (Try.prog.info? 37).map (·.size) = some A.toList.length := by rw [hAv]; exact vec_info
  have Hinf := Lib.hid hinf
  clear hA hb hC hbel hAv hinf
  go_enter Try.func21, Try.ntmps21
  go_wp2_with (refine wpList_load_mid (op := ⟨some 4, _, _, _, _, _⟩) rfl 37 (.tmp 3) rfl w.heap.size (0 + 3) rfl _ _ R.out Try.underlying37 rfl Hinf.out ?_)
  go_ret
  exact ⟨rfl, Hbel.out⟩
end Go.Proofs.Ytnehoabeameioaa
