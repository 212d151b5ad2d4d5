/-
  wardshipref07.Grow.
-/
import Derived.Test.YtpfhhkdmgkkidaaSpRefRead
namespace Go.Proofs.Ytpfhhkdmgkkidaa
open Go.RowKit
set_option maxRecDepth 100000

set_option maxHeartbeats 400000 in
theorem refgrow_any (l : List UInt8) (B : Nat → Nat) (hB : okV B) (w : World) (hl : l.length ≤ 1000) :
    Calls Try.prog 13 #[str l, vv B] w (GrowPost l B w) := by
  obtain ⟨h1, h2, hbel⟩ := boxes2 B zeroV w
  have hrd := fun w1 (hb : Below ((w.alloc (.cells (av B) 24)).alloc (.cells (av zeroV) 24)).heap.size ((w.alloc (.cells (av B) 24)).alloc (.cells (av zeroV) 24)) w1) => refread_any l w1 hl
  have hrd0 := hrd _ (Below.refl _ _)
  have hdo := readD_ok l
  have hgv : growV l B = if (readD l).2 ≠ 0 then (zeroV, (readD l).2) else if farN (readD l).1 B 8 = true then (zeroV, 7) else (addV (readD l).1 B, 0) := rfl
  unfold RDPost at hrd0
  generalize readD l = R at hgv hrd0 hdo
  obtain ⟨D, q⟩ := R
  simp only [] at hgv hrd0 hdo
  obtain ⟨W, hW⟩ : ∃ W, W = ((w.alloc (.cells (av B) 24)).alloc (.cells (av zeroV) 24)) := ⟨_, rfl⟩
  rw [← hW] at h1 h2 hbel hrd0
  have HW := Lib.hid hW
  have H1 := Lib.hid h1
  have H2 := Lib.hid h2
  have Hrd := Lib.hid hrd0
  have Hdo := Lib.hid hdo
  clear hW h1 h2 hrd0 hrd hdo
  have hsz := H2.out.lt
  unfold vv
  by_cases hq : q = 0
  · subst hq
    rw [if_neg (by simp)] at hgv
    have Hgv := Lib.hid hgv
    clear hgv
    go_enter Try.func13, Try.ntmps13
    go_wp2_with fail
    rw [← zero_av]
    rw [← HW.out]
    refine Hrd.out.mono ?_
    rintro e w1 ⟨rfl, hb1⟩
    have hD : Blk (w1.alloc (.cells (ai zeroD) 46)) w1.heap.size 46 (ai zeroD) := Blk.new w1 _ _
    have HD := Lib.hid hD
    clear hD
    have h1s := hb1.size
    obtain ⟨Z, hZ⟩ : ∃ Z, Z = ((w1.alloc (.cells (ai zeroD) 46)).setRow w1.heap.size (ai D)) := ⟨_, rfl⟩
    have hZD : Blk Z w1.heap.size 46 (ai D) := by rw [hZ]; exact HD.out.setRow_ (ai D)
    have hZ1 : Blk Z w.heap.size 24 (av B) := by rw [hZ]; exact Blk.setRowFar ((H1.out.grow hb1).alloc _) (by omega) _
    have hZ2 : Blk Z (w.heap.size + 1) 24 (av zeroV) := by rw [hZ]; exact Blk.setRowFar ((H2.out.grow hb1).alloc _) (by omega) _
    have hZs : Z.heap.size = w1.heap.size + 1 := by rw [hZ, setRow_size]; simp
    have hbZ : Below w.heap.size w Z := by rw [hZ]; exact below_setRow ((below_call hbel hb1).alloc (by omega) _) (by omega) _
    have HZ := Lib.hid hZ
    have HZD := Lib.hid hZD
    have HZ1 := Lib.hid hZ1
    have HZ2 := Lib.hid hZ2
    have HZs := Lib.hid hZs
    clear hZ hZD hZ1 hZ2
    have hzs := HZs.out
    have hV3 : Blk (Z.alloc (.cells (av zeroV) 24)) Z.heap.size 24 (av zeroV) := Blk.new Z _ _
    have hV1 : Blk (Z.alloc (.cells (av zeroV) 24)) w.heap.size 24 (av B) := HZ1.out.alloc _
    have hV2 : Blk (Z.alloc (.cells (av zeroV) 24)) (w.heap.size + 1) 24 (av zeroV) := HZ2.out.alloc _
    have hV5 : Blk (Z.alloc (.cells (av zeroV) 24)) w1.heap.size 46 (ai D) := HZD.out.alloc _
    have hV4 : Below w.heap.size w (Z.alloc (.cells (av zeroV) 24)) := hbZ.alloc (by omega) _
    rw [hzs] at hV3
    clear hzs
    go_wp2_with (first | (refine wpList_store_row rfl 46 (.tmp 6) (.tmp 14) rfl w1.heap.size (ai D) rfl rfl 46 (ai zeroD) (by exact HD.out) arr_info rfl (ai_one _) ?_; rw [show (ai zeroD) = #[.int .i64 0, .int .i64 0, .int .i64 0, .int .i64 0, .int .i64 0, .int .i64 0, .int .i64 0, .int .i64 0] from rfl] at HZ; rw [← HZ.out]))
    rw [← cutV_zero (addV D B)] at hV3
    have hgs : w.heap.size + 1 < w1.heap.size + 1 := by omega
    have HBok := Lib.hid hB
    clear hbZ hbel hb1 hsz h1s hB
    go_loopw [9] (fun i wr => ∃ k : Nat, k ≤ 8 ∧ i = .int .i64 (k : Int) ∧ farN D B k = false ∧ Blk wr w.heap.size 24 (av B) ∧ Blk wr (w.heap.size + 1) 24 (av zeroV) ∧ Blk wr (w1.heap.size + 1) 24 (av (cutV (addV D B) k)) ∧ Blk wr w1.heap.size 46 (ai D) ∧ Below w.heap.size w wr) (fun i _ => 8 - (intOf i).toNat)
    case atStart => exact ⟨0, by omega, rfl, by rw [farN_false]; intro i hi; omega, hV1, hV2, hV3, hV5, hV4⟩
    case round =>
      obtain ⟨k, hk, rfl, hfar, hb1, hb2, hb3, hb5, hbw⟩ := hrel
      clear hV1 hV2 hV3 hV4 hV5
      have Hb5 := Lib.hid hb5
      have Hfar := Lib.hid hfar
      have Hb2 := Lib.hid hb2
      have Hb3 := Lib.hid hb3
      by_cases hlt : k < 8
      · have hc5 := hb5.cell k
        rw [ai_get D hlt] at hc5
        have hc1 := hb1.cell k
        rw [av_get B hlt] at hc1
        have hBk := HBok.out k hlt
        have hDk := Hdo.out k
        have hw1 : IntKind.i64.wrap (B k : Int) = (B k : Int) := IntWalk.i64_in _ (by omega)
        have hw2 : IntKind.i64.wrap ((B k : Int) + D k) = (B k : Int) + D k := IntWalk.i64_in _ (by omega)
        by_cases hout : (B k : Int) + D k < 0 ∨ 4294967295 < (B k : Int) + D k
        · have hv := Hgv.out
          rw [if_pos (farN_hit hlt hout)] at hv
          have Hv := Lib.hid hv
          clear hv hfar hb2 hb3
          rcases (show ((B k : Int) + D k < 0) ∨ (0 ≤ (B k : Int) + D k) by omega) with h0 | h0
          · have hd0 : decide ((B k : Int) + D k < 0) = true := by rw [decide_eq_true_iff]; exact h0
            clear hout h0 hBk hDk
            go_wp2_with fail
            go_quiet (fail)
            go_wp2_with (refine wpList_store_row rfl 24 (.tmp 4) (.tmp 39) rfl (w.heap.size + 1) (av zeroV) rfl rfl 24 (av zeroV) (by exact Hb2.out) vec_info rfl (av_one _) ?_)
            have hend := Hb2.out.setRow_ (av zeroV)
            exact bodyPost_ret (v := .tuple #[.agg (av zeroV), .int .i64 7]) (results_cell_tmp Try.results13 _ _ (w.heap.size + 1) 24 (av zeroV) (0, 0) _ _ rfl rfl hend Try.underlying24 rfl vec_info) rfl (GrowPost.of Hv.out (below_setRow (below_drewN hbw _) (by omega) _))
          · have hd0 : decide ((B k : Int) + D k < 0) = false := by rw [decide_eq_false_iff_not]; omega
            have hd1 : decide (4294967295 < (B k : Int) + D k) = true := by rw [decide_eq_true_iff]; omega
            clear hout h0 hBk hDk
            go_wp2_with fail
            go_quiet (fail)
            go_wp2_with (refine wpList_store_row rfl 24 (.tmp 4) (.tmp 39) rfl (w.heap.size + 1) (av zeroV) rfl rfl 24 (av zeroV) (by exact Hb2.out) vec_info rfl (av_one _) ?_)
            have hend := Hb2.out.setRow_ (av zeroV)
            exact bodyPost_ret (v := .tuple #[.agg (av zeroV), .int .i64 7]) (results_cell_tmp Try.results13 _ _ (w.heap.size + 1) 24 (av zeroV) (0, 0) _ _ rfl rfl hend Try.underlying24 rfl vec_info) rfl (GrowPost.of Hv.out (below_setRow (below_drewN hbw _) (by omega) _))
        · have hin : 0 ≤ (B k : Int) + D k ∧ (B k : Int) + D k ≤ 4294967295 := by omega
          have hd0 : decide ((B k : Int) + D k < 0) = false := by rw [decide_eq_false_iff_not]; omega
          have hd1 : decide (4294967295 < (B k : Int) + D k) = false := by rw [decide_eq_false_iff_not]; omega
          have hw3 : IntKind.u32.wrap ((B k : Int) + D k) = (B k : Int) + D k := by rw [IntKind.wrap_u32]; omega
          have hcell := hb3.cell k
          rw [av_get _ hlt] at hcell
          have hfrz := hb3.frozen k
          have Hin := Lib.hid hin
          have Hb1 := Lib.hid hb1
          clear hfar hb1 hb2 hb3 hb5 hout hin hBk hDk
          go_wp2_with fail
          go_quiet (fail)
          go_wp2_with fail
          go_roundw
          case rel =>
            have hset := Hb3.out.set_ k (.int .u32 ((addV D B k : Nat) : Int))
            rw [cutV_step _ hlt] at hset
            rw [show ((addV D B k : Nat) : Int) = (B k : Int) + D k from by unfold addV; have := Hin.out; omega] at hset
            exact ⟨k + 1, by omega, by go_num, farN_step Hfar.out Hin.out.1 Hin.out.2, Hb1.out.far (by show w.heap.size ≠ w1.heap.size + 1; omega) _, Hb2.out.far (by show w.heap.size + 1 ≠ w1.heap.size + 1; omega) _, hset, Hb5.out.far (by show w1.heap.size ≠ w1.heap.size + 1; omega) _, (below_drewN hbw _).setCell (by show w.heap.size ≤ w1.heap.size + 1; omega) _⟩
          case measure => simp [intOf]; omega
      · obtain rfl : k = 8 := by omega
        have hv := Hgv.out
        rw [if_neg (by rw [Hfar.out]; simp)] at hv
        have Hv := Lib.hid hv
        rw [cutV_full] at hb3
        have Hb8 := Lib.hid hb3
        clear hv hfar hb2 hb3 hb1 hb5
        go_wp2_with (first | (refine wpList_load_row rfl 24 (.tmp 8) rfl (w1.heap.size + 1) rfl 24 (av (addV D B)) (0, 0) _ (by exact Hb8.out) Try.underlying24 rfl vec_info ?_) | (refine wpList_store_row rfl 24 (.tmp 4) (.tmp 44) rfl (w.heap.size + 1) (av (addV D B)) rfl rfl 24 (av zeroV) (by exact Hb2.out) vec_info rfl (av_one _) ?_))
        have hend := Hb2.out.setRow_ (av (addV D B))
        exact bodyPost_ret (v := .tuple #[.agg (av (addV D B)), .int .i64 0]) (results_cell_tmp Try.results13 _ _ (w.heap.size + 1) 24 (av (addV D B)) (0, 0) _ _ rfl rfl hend Try.underlying24 rfl vec_info) rfl (GrowPost.of Hv.out (below_setRow hbw (by omega) _))
  · rw [if_pos hq] at hgv
    have Hgv := Lib.hid hgv
    have hq' : ((q : Int) != 0) = true := by rw [bne_iff_ne]; omega
    clear hgv hq
    go_enter Try.func13, Try.ntmps13
    go_wp2_with fail
    rw [← zero_av]
    rw [← HW.out]
    refine Hrd.out.mono ?_
    rintro e w1 ⟨rfl, hb1⟩
    have hD : Blk (w1.alloc (.cells (ai zeroD) 46)) w1.heap.size 46 (ai zeroD) := Blk.new w1 _ _
    have HD := Lib.hid hD
    clear hD
    have h1s := hb1.size
    obtain ⟨Z, hZ⟩ : ∃ Z, Z = ((w1.alloc (.cells (ai zeroD) 46)).setRow w1.heap.size (ai D)) := ⟨_, rfl⟩
    have hZ2 : Blk Z (w.heap.size + 1) 24 (av zeroV) := by rw [hZ]; exact Blk.setRowFar ((H2.out.grow hb1).alloc _) (by omega) _
    have hbZ : Below w.heap.size w Z := by rw [hZ]; exact below_setRow ((below_call hbel hb1).alloc (by omega) _) (by omega) _
    have HZ := Lib.hid hZ
    have HZ2 := Lib.hid hZ2
    clear hZ hZ2
    go_wp2_with (first | (refine wpList_store_row rfl 46 (.tmp 6) (.tmp 14) rfl w1.heap.size (ai D) rfl rfl 46 (ai zeroD) (by exact HD.out) arr_info rfl (ai_one _) ?_; rw [show (ai zeroD) = #[.int .i64 0, .int .i64 0, .int .i64 0, .int .i64 0, .int .i64 0, .int .i64 0, .int .i64 0, .int .i64 0] from rfl] at HZ; rw [← HZ.out]) | (refine wpList_store_row rfl 24 (.tmp 4) (.tmp 18) rfl (w.heap.size + 1) (av zeroV) rfl rfl 24 (av zeroV) (by exact HZ2.out) vec_info rfl (av_one _) ?_))
    have hend := HZ2.out.setRow_ (av zeroV)
    exact bodyPost_ret (v := .tuple #[.agg (av zeroV), .int .i64 (q : Int)]) (results_cell_tmp Try.results13 _ _ (w.heap.size + 1) 24 (av zeroV) (0, 0) _ _ rfl rfl hend Try.underlying24 rfl vec_info) rfl (GrowPost.of Hgv.out (below_setRow hbZ (by omega) _))
end Go.Proofs.Ytpfhhkdmgkkidaa
