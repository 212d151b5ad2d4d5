/-
  The walk of VecEvents.
-/
import Derived.Test.YtjakgmidhpddoaaDoorVecLawKit
import Derived.Test.YtjakgmidhpddoaaDoorVecA
namespace Go.Proofs.YtjakgmidhpddoaaDoor
open Go.RowKit
set_option maxRecDepth 100000

/-- A vector and two numbers in boxes of their own. -/
theorem boxesE (V : Nat → Nat) (r : Int) (s : Nat) (r' : Int) (s' : Nat) (w : World) : ∃ W, W = ((w.alloc (.cells (av V) 24)).alloc (.cells #[.int .i64 r, .int .u32 (s : Int)] 30)).alloc (.cells #[.int .i64 r', .int .u32 (s' : Int)] 30) ∧
    Blk W w.heap.size 24 (av V) ∧ Blk W (w.heap.size + 1) 30 #[.int .i64 r, .int .u32 (s : Int)] ∧ Blk W (w.heap.size + 1 + 1) 30 #[.int .i64 r', .int .u32 (s' : Int)] ∧ Below w.heap.size w W := by
  refine ⟨_, rfl, ((Blk.new w _ _).alloc _).alloc _, ?_, ?_, (((Below.refl _ _).alloc (Nat.le_refl _) _).alloc (by simp) _).alloc (by simp; omega) _⟩
  · have := (Blk.new (w.alloc (.cells (av V) 24)) 30 #[.int .i64 r, .int .u32 (s : Int)]).alloc (.cells #[.int .i64 r', .int .u32 (s' : Int)] 30)
    rw [World.size_alloc] at this
    exact this
  · have := Blk.new ((w.alloc (.cells (av V) 24)).alloc (.cells #[.int .i64 r, .int .u32 (s : Int)] 30)) 30 #[.int .i64 r', .int .u32 (s' : Int)]
    rw [World.size_alloc, World.size_alloc] at this
    exact this
theorem Blk.id0 {W : World} {g : Nat} {r : Int} {s : Nat} (h : Blk W g 30 #[.int .i64 r, .int .u32 (s : Int)]) : ∀ y : Ext W, y.now.cell? ⟨g, 0, none⟩ = some (.int .i64 r) := fun y => by rw [(h.grow y.out).cell]; rfl
theorem Blk.id1 {W : World} {g : Nat} {r : Int} {s : Nat} (h : Blk W g 30 #[.int .i64 r, .int .u32 (s : Int)]) : ∀ y : Ext W, y.now.cell? ⟨g, 1, none⟩ = some (.int .u32 (s : Int)) := fun y => by rw [(h.grow y.out).cell]; rfl
/-- A new box, and a vector stored into it. -/
theorem boxed (N : Nat → Nat) (w : World) : ∃ W, W = (w.alloc (.cells #[.int .u32 0, .int .u32 0, .int .u32 0, .int .u32 0, .int .u32 0, .int .u32 0, .int .u32 0, .int .u32 0] 24)).setRow w.heap.size (av N) ∧ Blk W w.heap.size 24 (av N) ∧ Below w.heap.size w W :=
  ⟨_, rfl, (Blk.new w 24 (av zeroV)).setRow_ _, below_setRow ((Below.refl _ _).alloc (Nat.le_refl _) _) (Nat.le_refl _) _⟩

set_option maxHeartbeats 4000000 in
theorem vecevents_walk (V : Nat → Nat) (r : Int) (s : Nat) (r' : Int) (s' : Nat) (w : World) (hV : okV V) (_ : -9223372036854775808 ≤ r ∧ r ≤ 9223372036854775807) (_ : s < 4294967296) (_ : -9223372036854775808 ≤ r' ∧ r' ≤ 9223372036854775807) (_ : s' < 4294967296) :
    Calls Tryd.prog 4 #[vv V, idv r s, idv r' s'] w fun e w' => e = .returned (.bool true) ∧ Below w.heap.size w w' := by
  obtain ⟨W, hW, hA, hB, hC, hbel⟩ := boxesE V r s r' s' w
  have HW := Lib.hid hW
  have HA := Lib.hid hA
  have HB := Lib.hid hB
  have HC := Lib.hid hC
  have hn1 := fun w => next_any V hV r w
  have hn2 := fun w => refnext_any V hV r w
  have g1 := fun w => get_any V r w
  have g2 := fun w => refget_any V r w
  have h1 := fun w => has_any V r s w
  have h2 := fun w => refhas_any V r s w
  have t1 := fun w => with_any V hV r s w
  have t2 := fun w => refwith_any V r s w
  have l1 := fun w => less_any r s r' s' w
  have l2 := fun w => refless_any r s r' s' w
  have he1 := eql_same (withV V r s)
  have he2 : ∀ w : World, (binOp .eql 24 (.agg #[.int .u32 ((nextV V r).1 0 : Int), .int .u32 ((nextV V r).1 1 : Int), .int .u32 ((nextV V r).1 2 : Int), .int .u32 ((nextV V r).1 3 : Int), .int .u32 ((nextV V r).1 4 : Int), .int .u32 ((nextV V r).1 5 : Int), .int .u32 ((nextV V r).1 6 : Int), .int .u32 ((nextV V r).1 7 : Int)]) (.agg #[.int .u32 ((nextV V r).1 0 : Int), .int .u32 ((nextV V r).1 1 : Int), .int .u32 ((nextV V r).1 2 : Int), .int .u32 ((nextV V r).1 3 : Int), .int .u32 ((nextV V r).1 4 : Int), .int .u32 ((nextV V r).1 5 : Int), .int .u32 ((nextV V r).1 6 : Int), .int .u32 ((nextV V r).1 7 : Int)])).run Tryd.prog w = .ok (.bool true) w := eql_same (nextV V r).1
  unfold vv idv at *
  generalize nextV V r = N at hn1 hn2 he2
  generalize withV V r s = T at t1 t2 he1
  generalize lessV r s r' s' = L at l1 l2
  generalize hasV V r s = S at h1 h2
  generalize getV V r = G at g1 g2
  have N1 := Lib.hid hn1
  have N2 := Lib.hid hn2
  have G1 := Lib.hid g1
  have G2 := Lib.hid g2
  have H1 := Lib.hid h1
  have H2 := Lib.hid h2
  have T1 := Lib.hid t1
  have T2 := Lib.hid t2
  have L1 := Lib.hid l1
  have L2 := Lib.hid l2
  clear hW hA hB hC hn1 hn2 g1 g2 h1 h2 t1 t2 l1 l2
  go_enter Tryd.func4, Tryd.ntmps4
  go_wp2_with fail
  rw [← HW.out]
  refine (lives_any _).mono ?_
  rintro e w1 ⟨rfl, hb1⟩
  have hb01 := below_call hbel hb1
  have hA1 := HA.out.grow hb1
  have hB1 := HB.out.grow hb1
  have hC1 := HC.out.grow hb1
  have HA1 := Lib.hid hA1
  have HB1 := Lib.hid hB1
  have HC1 := Lib.hid hC1
  have x0 := hB1.cell 0
  simp only [List.getElem?_toArray, List.getElem?_cons_zero] at x0
  clear hA1 hB1 hC1 hb1 hbel HW HA HB HC
  go_wp2_with (refine wpList_load_row rfl 24 (.tmp 3) rfl w.heap.size rfl 24 (av V) (0, 0) _ HA1.out Tryd.underlying24 rfl vec_info ?_)
  refine (N1.out _).mono ?_
  rintro e w2 ⟨rfl, hb2⟩
  obtain ⟨_, rfl, hN3, hb3⟩ := boxed N.1 w2
  have hA3 := (HA1.out.grow hb2).grow hb3
  have hB3 := (HB1.out.grow hb2).grow hb3
  have hC3 := (HC1.out.grow hb2).grow hb3
  have hb03 := below_call (below_call hb01 hb2) hb3
  have x3 := hB3.cell 0
  simp only [List.getElem?_toArray, List.getElem?_cons_zero] at x3
  have HN3 := Lib.hid hN3
  have HA3 := Lib.hid hA3
  have HB3 := Lib.hid hB3
  have HC3 := Lib.hid hC3
  have Hb03 := Lib.hid hb03
  clear hN3 hA3 hB3 hC3 hb03 x0 hb01 hb2 hb3
  go_wp2_with (first | (refine wpList_store_row rfl 24 (.tmp 7) (.tmp 18) rfl w2.heap.size (av N.1) rfl rfl 24 (av zeroV) (Blk.new w2 24 (av zeroV)) vec_info rfl (av_one _) ?_) | (refine wpList_load_row rfl 24 (.tmp 3) rfl w.heap.size rfl 24 (av V) (0, 0) _ HA3.out Tryd.underlying24 rfl vec_info ?_))
  refine (N2.out _).mono ?_
  rintro e w4 ⟨rfl, hb4⟩
  clear x3
  have hA4 := HA3.out.grow hb4
  have hB4 := HB3.out.grow hb4
  have hC4 := HC3.out.grow hb4
  have hN4 := HN3.out.grow hb4
  have hb04 := below_call Hb03.out hb4
  obtain ⟨W5, hW5, hM5, hb5⟩ := boxed N.1 w4
  have rA := (hA4.grow hb5).reads
  have rB0 := (hB4.grow hb5).id0
  have rB1 := (hB4.grow hb5).id1
  have rC0 := (hC4.grow hb5).id0
  have rC1 := (hC4.grow hb5).id1
  have rN := (hN4.grow hb5).reads
  have rM := hM5.reads
  have hb05 := below_call hb04 hb5
  have HW5 := Lib.hid hW5
  clear hA4 hB4 hC4 hN4 hb04 hW5 hM5 hb5 hb4
  go_wp2_with (refine wpList_store_row rfl 24 (.tmp 9) (.tmp 25) rfl w4.heap.size (av N.1) rfl rfl 24 (av zeroV) (Blk.new w4 24 (av zeroV)) vec_info rfl (av_one _) ?_)
  rw [← HW5.out]
  refine wp_region_grow (by kernel_rfl) (by kernel_rfl) ?_
  repeat (first | go_big_quiet_step ((first | (go_at_call 20; exact calls_grow (G1.out _)) | (go_at_call 21; exact calls_grow (G2.out _)) | (go_at_call 22; exact calls_grow (H1.out _)) | (go_at_call 23; exact calls_grow (H2.out _)) | (go_at_call 24; exact calls_grow (T1.out _)) | (go_at_call 25; exact calls_grow (T2.out _)) | (go_at_call 26; exact calls_grow (L1.out _)) | (go_at_call 27; exact calls_grow (L2.out _)))))
  refine wpQuiet_nil ?_
  rintro _ ⟨⟨w6, hb6⟩, rfl⟩
  go_wp2
  go_ret
  exact ⟨rfl, below_call hb05 hb6⟩
end Go.Proofs.YtjakgmidhpddoaaDoor
