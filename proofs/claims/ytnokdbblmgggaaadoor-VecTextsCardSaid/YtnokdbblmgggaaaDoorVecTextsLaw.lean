/-
  The walk of VecTexts.
-/
import Derived.Test.YtnokdbblmgggaaaDoorVecLawKit
import Derived.Test.YtnokdbblmgggaaaDoorVecText5
namespace Go.Proofs.YtnokdbblmgggaaaDoor
open Go.RowKit
set_option maxRecDepth 100000

theorem Blk.vec {W : World} {g : Nat} {V : Nat → Nat} (h : Blk W g 24 (av V)) : ∀ i, i < 8 → W.cell? ⟨g, i, none⟩ = some (.int .u32 (V i : Int)) := fun i hi => by rw [h.cell, av_get V hi]

set_option maxHeartbeats 4000000 in
theorem vectexts_walk (V : Nat → Nat) (s : List UInt8) (w : World) (hV : okV V) (hs : s.length ≤ 9223372036854775807) (he : Env w) :
    Calls Tryd.prog 3 #[vv V, .string ⟨s.toArray⟩] w fun e w' => e = .returned (.bool true) ∧ Below w.heap.size w w' := by
  have hA0 : Blk (w.alloc (.cells (av V) 24)) w.heap.size 24 (av V) := Blk.new w _ _
  have hbel : Below w.heap.size w (w.alloc (.cells (av V) 24)) := (Below.refl _ _).alloc (Nat.le_refl _) _
  have HA := Lib.hid hA0
  have HV := Lib.hid hV
  have He := Lib.hid he
  clear hA0 hV he
  unfold vv
  go_enter Tryd.func3, Tryd.ntmps3
  go_wp2_with fail
  refine (lives_any _).mono ?_
  rintro e w1 ⟨rfl, hb1⟩
  have hb01 := below_call hbel hb1
  have HA1 := Lib.hid (HA.out.grow hb1)
  clear hbel hb1 HA
  rcases Nat.lt_or_ge 300 s.length with hlong | hshort
  · have hl : 300 < s.length := hlong
    go_wp2_with fail
    refine (lives_any _).mono ?_
    rintro e w2 ⟨rfl, hb2⟩
    go_wp2_with fail
    go_ret
    exact ⟨rfl, below_call hb01 hb2⟩
  · go_wp2_with (refine wpList_load_row rfl 24 (.tmp 2) rfl w.heap.size rfl 24 (av V) (0, 0) _ HA1.out Tryd.underlying24 rfl vec_info ?_)
    refine (write_any V HV.out _ (He.out.grow hb01).pow).mono ?_
    rintro e w2 ⟨rfl, hb2⟩
    have hb02 := below_call hb01 hb2
    have HA2 := Lib.hid (HA1.out.grow hb2)
    have hown : ∀ U x, ReadIs (writeT V) U x → x = 0 ∧ av U = av V := fun U x h => h.own HV.out
    have hTl : (writeT V).length ≤ 400 := by have := writeK_len HV.out (Nat.le_refl 8); show (writeK V 8).length ≤ _; omega
    have hrw := fun z hz => refwrite_any V HV.out z hz
    have Hown := Lib.hid hown
    have Hrw := Lib.hid hrw
    clear hown hrw hb2 HA1
    generalize writeT V = T at Hown hTl Hrw ⊢
    unfold str at Hrw ⊢
    go_wp2_with fail
    refine (vecread_any T hTl _ (He.out.grow hb02)).mono ?_
    rintro e w3 ⟨hb3, U, x, hU, rfl⟩
    obtain ⟨rfl, hUV⟩ := Hown.out U x hU
    unfold vv
    rw [hUV]
    have hb03 := below_call hb02 hb3
    have HA3 := Lib.hid (HA2.out.grow hb3)
    have hg3 : w.heap.size < w3.heap.size := blk_lt HA3.out
    have HA4 := Lib.hid ((HA3.out.alloc (.cells (av zeroV) 24)).setRowFar (k := w.heap.size) (g := w3.heap.size) (by omega) (av V))
    have HB3 := Lib.hid (Blk.new w3 24 (av zeroV))
    have HB4 := Lib.hid (HB3.out.setRow_ (av V))
    have hb04 := below_setRow (hb03.alloc hb03.size (.cells (av zeroV) 24)) (g := w3.heap.size) hb03.size (av V)
    clear hUV hU hb3 HA2 Hown hb03
    go_wp2_with (refine wpList_store_row rfl 24 (.tmp 6) (.tmp 25) rfl w3.heap.size (av V) rfl rfl 24 _ HB3.out vec_info rfl (av_one _) ?_)
    refine (vecread_any s (by omega) _ (He.out.grow hb04)).mono ?_
    rintro e w5 ⟨hb5, U1, x1, hU1, rfl⟩
    unfold vv
    have hb05 := below_call hb04 hb5
    have HA5 := Lib.hid (HA4.out.grow hb5)
    have HB5 := Lib.hid (HB4.out.grow hb5)
    have hg5 : w3.heap.size < w5.heap.size := blk_lt HB5.out
    have HA6 := Lib.hid ((HA5.out.alloc (.cells (av zeroV) 24)).setRowFar (k := w.heap.size) (g := w5.heap.size) (by omega) (av U1))
    have HB6 := Lib.hid ((HB5.out.alloc (.cells (av zeroV) 24)).setRowFar (k := w3.heap.size) (g := w5.heap.size) (by omega) (av U1))
    have HC5 := Lib.hid (Blk.new w5 24 (av zeroV))
    have HC6 := Lib.hid (HC5.out.setRow_ (av U1))
    have hb06 := below_setRow (hb05.alloc hb05.size (.cells (av zeroV) 24)) (g := w5.heap.size) hb05.size (av U1)
    clear hb5 hb04 hb05 HA4 HB4 HA3 HB3
    have HU1 := Lib.hid hU1
    clear hU1
    go_wp2_with (refine wpList_store_row rfl 24 (.tmp 8) (.tmp 30) rfl w5.heap.size (av U1) rfl rfl 24 _ HC5.out vec_info rfl (av_one _) ?_)
    refine (refread_any s (by omega) _ (He.out.grow hb06).pow).mono ?_
    rintro e w7 ⟨hb7, U2, x2, hU2, rfl⟩
    obtain ⟨rfl, hUU⟩ := HU1.out.same hU2
    unfold vv
    rw [← hUU]
    have hb07 := below_call hb06 hb7
    have HA7 := Lib.hid (HA6.out.grow hb7)
    have HB7 := Lib.hid (HB6.out.grow hb7)
    have HC7 := Lib.hid (HC6.out.grow hb7)
    have hg7 : w5.heap.size < w7.heap.size := blk_lt HC7.out
    have HA8 := Lib.hid ((HA7.out.alloc (.cells (av zeroV) 24)).setRowFar (k := w.heap.size) (g := w7.heap.size) (by omega) (av U1))
    have HB8 := Lib.hid ((HB7.out.alloc (.cells (av zeroV) 24)).setRowFar (k := w3.heap.size) (g := w7.heap.size) (by omega) (av U1))
    have HC8 := Lib.hid ((HC7.out.alloc (.cells (av zeroV) 24)).setRowFar (k := w5.heap.size) (g := w7.heap.size) (by omega) (av U1))
    have HD7 := Lib.hid (Blk.new w7 24 (av zeroV))
    have HD8 := Lib.hid (HD7.out.setRow_ (av U1))
    have hb08 := below_setRow (hb07.alloc hb07.size (.cells (av zeroV) 24)) (g := w7.heap.size) hb07.size (av U1)
    clear hb7 hb06 hb07 HA6 HB6 HC6 HA5 HB5 HC5 hUU hU2 HU1
    go_wp2_with (first | (refine wpList_store_row rfl 24 (.tmp 10) (.tmp 35) rfl w7.heap.size (av U1) rfl rfl 24 _ HD7.out vec_info rfl (av_one _) ?_) | (refine wpList_load_row rfl 24 (.tmp 2) rfl w.heap.size rfl 24 (av V) (0, 0) _ HA8.out Tryd.underlying24 rfl vec_info ?_))
    refine (Hrw.out _ (He.out.grow hb08).pow).mono ?_
    rintro e w9 ⟨rfl, hb9⟩
    have hb09 := below_call hb08 hb9
    have xa := (HA8.out.grow hb9).vec
    have xb := (HB8.out.grow hb9).vec
    have xc := (HC8.out.grow hb9).vec
    have xd := (HD8.out.grow hb9).vec
    have e1 : ∀ w : World, (binOp .eql 24 (.agg #[.int .u32 (V 0 : Int), .int .u32 (V 1 : Int), .int .u32 (V 2 : Int), .int .u32 (V 3 : Int), .int .u32 (V 4 : Int), .int .u32 (V 5 : Int), .int .u32 (V 6 : Int), .int .u32 (V 7 : Int)]) (.agg #[.int .u32 (V 0 : Int), .int .u32 (V 1 : Int), .int .u32 (V 2 : Int), .int .u32 (V 3 : Int), .int .u32 (V 4 : Int), .int .u32 (V 5 : Int), .int .u32 (V 6 : Int), .int .u32 (V 7 : Int)])).run Tryd.prog w = .ok (.bool true) w := eql_same V
    have e2 : ∀ w : World, (binOp .eql 24 (.agg #[.int .u32 (U1 0 : Int), .int .u32 (U1 1 : Int), .int .u32 (U1 2 : Int), .int .u32 (U1 3 : Int), .int .u32 (U1 4 : Int), .int .u32 (U1 5 : Int), .int .u32 (U1 6 : Int), .int .u32 (U1 7 : Int)]) (.agg #[.int .u32 (U1 0 : Int), .int .u32 (U1 1 : Int), .int .u32 (U1 2 : Int), .int .u32 (U1 3 : Int), .int .u32 (U1 4 : Int), .int .u32 (U1 5 : Int), .int .u32 (U1 6 : Int), .int .u32 (U1 7 : Int)])).run Tryd.prog w = .ok (.bool true) w := eql_same U1
    clear hb9 hb08 HA8 HB8 HC8 HD8 HA7 HB7 HC7 HD7 hg3 hg5 hg7
    go_wp2
    go_ret
    exact ⟨rfl, hb09⟩
end Go.Proofs.YtnokdbblmgggaaaDoor
