/-
  The walk of VecTotals.
-/
import Derived.Test.YtjakgmidhpddoaaDoorVecEventsLaw
import Derived.Test.YtjakgmidhpddoaaDoorVecLawKit
import Derived.Test.YtjakgmidhpddoaaDoorVecA
import Derived.Deep.RegionWith
import Derived.Deep.Cut
import Derived.Deep.DeepCutAuto
namespace Go.Proofs.YtjakgmidhpddoaaDoor
open Go.RowKit
set_option maxRecDepth 100000

theorem boxesT (V : Nat → Nat) (r : Int) (s : Nat) (w : World) : ∃ W, W = (w.alloc (.cells (av V) 24)).alloc (.cells #[.int .i64 r, .int .u32 (s : Int)] 30) ∧
    Blk W w.heap.size 24 (av V) ∧ Blk W (w.heap.size + 1) 30 #[.int .i64 r, .int .u32 (s : Int)] ∧ Below w.heap.size w W := by
  refine ⟨_, rfl, (Blk.new w _ _).alloc _, ?_, ((Below.refl _ _).alloc (Nat.le_refl _) _).alloc (by simp) _⟩
  have := Blk.new (w.alloc (.cells (av V) 24)) 30 #[.int .i64 r, .int .u32 (s : Int)]
  rw [World.size_alloc] at this
  exact this
theorem getV_at (V : Nat → Nat) (k : Nat) (h : k < 8) : getV V ((k : Int) + 1) = V k := by
  unfold getV
  rw [if_pos (repV_iff.2 (by omega))]
  congr 1
  omega

theorem Blk.vec {W : World} {g : Nat} {V : Nat → Nat} (h : Blk W g 24 (av V)) : ∀ i, i < 8 → W.cell? ⟨g, i, none⟩ = some (.int .u32 (V i : Int)) := fun i hi => by rw [h.cell, av_get V hi]
/-- What an event more makes of a vector. -/
structure OneMore (V N : Nat → Nat) (r : Int) (m : Nat) : Prop where
  total : totalV N = totalV V + 1
  get : getV N r = m
  was : hasV V r m = false
  is : hasV N r m = true
  others : ∀ s, s ≠ m → hasV N r s = hasV V r s
  order : orderV V N = -1
  with_ : withV V r m = N
  ok : okV N
  fits : m < 4294967296
theorem one_more {V : Nat → Nat} (hV : okV V) {r : Int} (h1 : 1 ≤ r) (h2 : r ≤ 8) (h3 : ¬ 1048576 ≤ V (r - 1).toNat) : OneMore V (updV V (r - 1).toNat (V (r - 1).toNat + 1)) r (V (r - 1).toNat + 1) := by
  have hr : repV r = true := repV_iff.2 ⟨h1, h2⟩
  obtain ⟨k, hk⟩ : ∃ k, k = (r - 1).toNat := ⟨_, rfl⟩
  have hk8 : k < 8 := by omega
  rw [← hk] at h3 ⊢
  have hg : ∀ W : Nat → Nat, getV W r = W k := fun W => by unfold getV; rw [if_pos hr, ← hk]
  have hu : updV V k (V k + 1) k = V k + 1 := by unfold updV; rw [if_pos rfl]
  have hl : leqV V (updV V k (V k + 1)) = true := leqV_iff.2 fun i _ => by
    unfold updV
    split
    · rename_i h; rw [h]; omega
    · exact Nat.le_refl _
  have hl2 : leqV (updV V k (V k + 1)) V = false := leqV_not.2 ⟨k, hk8, by rw [hu]; omega⟩
  refine ⟨?_, ?_, ?_, ?_, fun s hs => ?_, ?_, ?_, okV_upd hV _ (by omega), by omega⟩
  · have := sumV_upd V k (V k + 1) 8 hk8
    unfold totalV
    omega
  · rw [hg, hu]
  · unfold hasV; rw [hg]; simp
  · unfold hasV; rw [hg, hu]; simp
  · unfold hasV
    rw [hg, hg, hu, Bool.eq_iff_iff, decide_eq_true_iff, decide_eq_true_iff]
    omega
  · unfold orderV
    rw [eqV_leq, hl, hl2]
    rfl
  · unfold withV
    rw [if_pos hr, ← hk]
    congr 1
    omega

theorem id_set {w : World} {g : Nat} (h : Blk w g 30 #[.int .i64 0, .int .u32 0]) (r : Int) (m : Int) : Blk ((w.setCell ⟨g, 0, none⟩ (.int .i64 r)).setCell ⟨g, 1, none⟩ (.int .u32 m)) g 30 #[.int .i64 r, .int .u32 m] := (h.set_ 0 _).set_ 1 _
set_option maxHeartbeats 40000000 in
theorem vectotals_walk (V : Nat → Nat) (r : Int) (s : Nat) (w : World) (hV : okV V) (_ : -9223372036854775808 ≤ r ∧ r ≤ 9223372036854775807) (_ : s < 4294967296) :
    Calls Tryd.prog 8 #[vv V, idv r s] w fun e w' => e = .returned (.bool true) ∧ Below w.heap.size w w' := by
  obtain ⟨W, hW, hA, hB, hbel⟩ := boxesT V r s w
  have HW := Lib.hid hW
  have HA := Lib.hid hA
  have HB := Lib.hid hB
  have HV := Lib.hid hV
  have hn1 := fun w => next_any V hV r w
  have htot := fun w => total_any V hV w
  have hcases : (nextV V r = (zeroV, 1) ∧ repV r = false) ∨ (nextV V r = (zeroV, 12) ∧ (1 ≤ r ∧ r ≤ 8) ∧ 1048576 ≤ getV V r) ∨ ∃ m N, nextV V r = (N, 0) ∧ OneMore V N r m := by
    unfold nextV
    cases hr : repV r with
    | false => exact .inl ⟨rfl, rfl⟩
    | true =>
      obtain ⟨h1, h2⟩ := repV_iff.1 hr
      right
      by_cases hm : 1048576 ≤ V (r - 1).toNat
      · left
        refine ⟨?_, ⟨h1, h2⟩, ?_⟩
        · rw [if_pos rfl, if_pos hm]
        · unfold getV; rw [if_pos hr]; exact hm
      · right
        refine ⟨_, _, ?_, one_more hV h1 h2 hm⟩
        rw [if_pos rfl, if_neg hm]
  have Hcases := Lib.hid hcases
  unfold vv idv at *
  have N1 := Lib.hid hn1
  have TT := Lib.hid htot
  clear hW hA hB hn1 htot hcases hV
  obtain ⟨R, hR⟩ : ∃ R, R = nextV V r := ⟨_, rfl⟩
  rw [← hR] at N1 Hcases
  clear hR
  go_enter Tryd.func8, Tryd.ntmps8
  go_wp2_with fail
  rw [← HW.out]
  refine (lives_any _).mono ?_
  rintro e w1 ⟨rfl, hb1⟩
  have hb01 := below_call hbel hb1
  have hA1 := HA.out.grow hb1
  have hB1 := HB.out.grow hb1
  have HA1 := Lib.hid hA1
  have HB1 := Lib.hid hB1
  have x0 := hB1.cell 0
  simp only [List.getElem?_toArray, List.getElem?_cons_zero] at x0
  clear hA1 hB1 hb1 hbel HW HA HB
  go_wp2_with (refine wpList_load_row rfl 24 (.tmp 2) rfl w.heap.size rfl 24 (av V) (0, 0) _ HA1.out Tryd.underlying24 rfl vec_info ?_)
  refine (N1.out _).mono ?_
  rintro e w2 ⟨rfl, hb2⟩
  obtain ⟨W3, hW3, hN3, hb3⟩ := boxed R.1 w2
  have hA3 := (HA1.out.grow hb2).grow hb3
  have hB3 := (HB1.out.grow hb2).grow hb3
  have hb03 := below_call (below_call hb01 hb2) hb3
  have HW3 := Lib.hid hW3
  have HN3 := Lib.hid hN3
  have HA3 := Lib.hid hA3
  have HB3 := Lib.hid hB3
  clear hN3 hA3 hB3 x0 hb01 hb2 hb3 hW3 N1
  go_wp2_with (refine wpList_store_row rfl 24 (.tmp 5) (.tmp 17) rfl w2.heap.size (av R.1) rfl rfl 24 (av zeroV) (Blk.new w2 24 (av zeroV)) vec_info rfl (av_one _) ?_)
  rw [← HW3.out]
  go_loopw [7, 19] (fun n i wr => ∃ k : Nat, k ≤ 8 ∧ i = .int .i64 (k : Int) ∧ n = .int .u64 (sumV V k : Int) ∧ Below W3.heap.size W3 wr) (fun _ i _ => 8 - (intOf i).toNat)
  case atStart => exact ⟨0, by omega, rfl, rfl, Below.refl _ _⟩
  case round =>
    obtain ⟨k, hk, rfl, rfl, hbr⟩ := hrel
    by_cases hlt : k < 8
    · have hs1 := sumV_lt HV.out k hk
      have hs2 := HV.out k hlt
      obtain ⟨m, hm⟩ : ∃ m, m = sumV V k := ⟨_, rfl⟩
      rw [← hm] at hs1 ⊢
      have hs3 : m ≤ 34359738360 := by omega
      have hs : sumV V (k + 1) = m + V k := by rw [hm]; rfl
      have hg := getV_at V k hlt
      have Hs := Lib.hid hs
      have Hg := Lib.hid hg
      have hAr := HA3.out.grow hbr
      have HAr := Lib.hid hAr
      clear hm hs hs1 hg hAr
      go_wp2_with (refine wpList_load_row rfl 24 (.tmp 2) rfl w.heap.size rfl 24 (av V) (0, 0) _ HAr.out Tryd.underlying24 rfl vec_info ?_)
      refine (get_any V _ _).mono ?_
      rintro e w4 ⟨rfl, hb4⟩
      rw [Hg.out]
      go_wp2_with fail
      go_roundw
      case rel => exact ⟨k + 1, by omega, by go_num, by rw [Hs.out]; go_num, below_call hbr hb4⟩
      case measure => simp [intOf]; omega
    · obtain rfl : k = 8 := by omega
      have hS : sumV V 8 ≤ 34359738360 := sumV_lt HV.out 8 (Nat.le_refl _)
      have htt : totalV V = sumV V 8 := rfl
      rw [htt] at TT
      obtain ⟨S, hSd⟩ : ∃ S, S = sumV V 8 := ⟨_, rfl⟩
      rw [← hSd] at hS TT ⊢
      have HSd := Lib.hid hSd
      obtain ⟨Wr, hWr⟩ : ∃ x, x = wr := ⟨wr, rfl⟩
      rw [← hWr] at hbr ⊢
      clear hWr wr htt hSd hk hlt
      have hAr := HA3.out.grow hbr
      have HAr := Lib.hid hAr
      clear hAr
      go_wp2_with (refine wpList_load_row rfl 24 (.tmp 2) rfl w.heap.size rfl 24 (av V) (0, 0) _ HAr.out Tryd.underlying24 rfl vec_info ?_)
      refine (TT.out _).mono ?_
      rintro e w4 ⟨rfl, hb4⟩
      have hb04 := below_call hb03 (below_call hbr hb4)
      have hA4 := HAr.out.grow hb4
      have hB4 := (HB3.out.grow hbr).grow hb4
      have hN4 := (HN3.out.grow hbr).grow hb4
      have x0 := hB4.cell 0
      have x1 := hB4.cell 1
      simp only [List.getElem?_toArray, List.getElem?_cons_zero, List.getElem?_cons_succ] at x0 x1
      have HA4 := Lib.hid hA4
      have HB4 := Lib.hid hB4
      have HN4 := Lib.hid hN4
      clear hA4 hB4 hN4 hbr hb4 hb03 HA1 HB1 HA3 HB3 HN3 HAr TT
      rcases Hcases.out with ⟨hR, hr⟩ | ⟨hR, ⟨h1, h2⟩, hge⟩ | ⟨m, N, hR, hM⟩
      · subst hR
        have hz : ∀ z : World, (binOp .eql 24 (.agg (av zeroV)) (.agg #[.int .u32 0, .int .u32 0, .int .u32 0, .int .u32 0, .int .u32 0, .int .u32 0, .int .u32 0, .int .u32 0])).run Tryd.prog z = .ok (.bool true) z := eql_same zeroV
        have hno : ¬ (1 ≤ r ∧ r ≤ 8) := fun h => by rw [repV_iff.2 h] at hr; cases hr
        clear Hcases hr
        by_cases hlo : r < 1
        · have hd : decide (r < 1) = true := by simpa using hlo
          clear hno
          go_wp2_with (refine wpList_load_row rfl 24 (.tmp 5) rfl w2.heap.size rfl 24 (av zeroV) (0, 0) _ HN4.out Tryd.underlying24 rfl vec_info ?_)
          go_ret
          exact ⟨rfl, hb04⟩
        · have hd : decide (r < 1) = false := by simpa using hlo
          have hd2 : decide (8 < r) = true := by rw [decide_eq_true_iff]; omega
          clear hno
          go_wp2_with (refine wpList_load_row rfl 24 (.tmp 5) rfl w2.heap.size rfl 24 (av zeroV) (0, 0) _ HN4.out Tryd.underlying24 rfl vec_info ?_)
          go_ret
          exact ⟨rfl, hb04⟩
      · subst hR
        have hz : ∀ z : World, (binOp .eql 24 (.agg (av zeroV)) (.agg #[.int .u32 0, .int .u32 0, .int .u32 0, .int .u32 0, .int .u32 0, .int .u32 0, .int .u32 0, .int .u32 0])).run Tryd.prog z = .ok (.bool true) z := eql_same zeroV
        have hd : decide (r < 1) = false := by rw [decide_eq_false_iff_not]; omega
        have hd2 : decide (8 < r) = false := by rw [decide_eq_false_iff_not]; omega
        have hg := fun z => get_any V r z
        obtain ⟨G, hG⟩ : ∃ G, G = getV V r := ⟨_, rfl⟩
        rw [← hG] at hg hge
        have hd3 : decide ((1048576 : Int) ≤ (G : Int)) = true := by rw [decide_eq_true_iff]; omega
        unfold vv at hg
        have Hg := Lib.hid hg
        have xv := HA4.out.vec
        clear Hcases hg hG hge
        go_wp2_with (first | (refine wpList_load_row rfl 24 (.tmp 5) rfl w2.heap.size rfl 24 (av zeroV) (0, 0) _ HN4.out Tryd.underlying24 rfl vec_info ?_) | (go_at_call 20; refine (Hg.out _).mono ?_; rintro e w5 ⟨rfl, hb5⟩))
        go_ret
        exact ⟨rfl, below_call hb04 hb5⟩
      · subst hR
        clear Hcases
        have hget := fun w => get_any N r w
        rw [hM.get] at hget
        unfold vv at hget
        have Hget := Lib.hid hget
        have xa := HN4.out.vec
        have lt1 := HB4.out.lt
        have lt2 := HN4.out.lt
        have lt3 := HA4.out.lt
        clear hget
        clear xa
        go_upto_region 14 with (fail)
        go_cut [9] (fun p wx => ∃ g : Nat, p = .pointer (some ⟨g, 0, none⟩) ∧ Blk wx g 30 #[.int .i64 r, .int .u32 (m : Int)] ∧ Below w4.heap.size w4 wx)
        case first =>
          have xa := HN4.out.vec
          go_region_with (go_at_call 20; refine (Hget.out _).mono ?_; rintro e w5 ⟨rfl, hb5⟩; have hb5' : Below w4.heap.size w4 w5 := (by first | exact below_drew_then hb5 | exact below_call ((Below.refl w4.heap.size w4).drew.alloc (Nat.le_refl _) _) hb5 | exact below_call (((Below.refl w4.heap.size w4).alloc (Nat.le_refl _) _).drew) hb5); have ya := (HN4.out.grow hb5').vec; have y0 := cell_then hb5' x0; have lu1 := (HB4.out.grow hb5').lt; have lu2 := (HN4.out.grow hb5').lt; have lu3 := (HA4.out.grow hb5').lt; (first | (have hz : Blk w5 w4.heap.size 30 #[.int .i64 0, .int .u32 0] := (hb5.block w4.heap.size (by simp)).trans (row_new w4 (.cells #[.int .i64 0, .int .u32 0] 30 (0, 0))); have q0 := hz.cell 0; have q1 := hz.cell 1; have q2 := hz.frozen 0; have q3 := hz.frozen 1; simp only [List.getElem?_toArray, List.getElem?_cons_zero, List.getElem?_cons_succ] at q0 q1; have HZ5 := Lib.hid hz; clear hz) | skip))
          all_goals go_wp2_with fail
          all_goals go_meet
          all_goals first
            | exact ⟨w5.heap.size, rfl, Blk.new w5 _ _, hb5'.alloc hb5'.size _⟩
            | exact ⟨w5.heap.size, rfl, Blk.new w5 _ _, (hb5'.alloc hb5'.size _).drew⟩
            | exact ⟨w4.heap.size, rfl, id_set HZ5.out _ _, (hb5'.setCell (Nat.le_refl _) _).setCell (Nat.le_refl _) _⟩
        case rest =>
          obtain ⟨g, rfl, hI, hb5⟩ := hcut
          have hb06 := below_call hb04 hb5
          have rA := (HA4.out.grow hb5).reads
          have rN := (HN4.out.grow hb5).reads
          have rB0 := (HB4.out.grow hb5).id0
          have rB1 := (HB4.out.grow hb5).id1
          have rI0 := hI.id0
          have rI1 := hI.id1
          have e1 := hM.was
          have e2 := hM.is
          have e3 := hM.order
          have e5 := hM.with_
          have e6 := hM.total
          have hw := fun z => with_any V HV.out r m z
          have ht := fun z => total_any N hM.ok z
          rw [e5] at hw
          rw [e6] at ht
          have e7 : totalV V = S := HSd.out.symm
          rw [e7] at ht
          have hsum : ((S + 1 : Nat) : Int) = (S : Int) + 1 := by omega
          rw [hsum] at ht
          have hwr : IntKind.u64.wrap ((S : Int) + 1) = (S : Int) + 1 := by rw [IntKind.wrap_u64]; omega
          have heN : ∀ z : World, (binOp .eql 24 (.agg (av N)) (.agg #[.int .u32 (N 0 : Int), .int .u32 (N 1 : Int), .int .u32 (N 2 : Int), .int .u32 (N 3 : Int), .int .u32 (N 4 : Int), .int .u32 (N 5 : Int), .int .u32 (N 6 : Int), .int .u32 (N 7 : Int)])).run Tryd.prog z = .ok (.bool true) z := eql_same N
          unfold vv idv at *
          have Hw := Lib.hid hw
          have Ht := Lib.hid ht
          have heq := hM.others
          clear hS
          by_cases hsm : s = m
          · subst hsm
            clear hw ht e5 e6 e7 hsum hI hb5 HA4 HB4 HN4 hM heq
            go_wp2_with fail
            refine wp_region_grow (by kernel_rfl) (by kernel_rfl) ?_
            repeat (first | go_big_quiet_step ((first | (go_at_call 32; exact calls_grow (Ht.out _)) | (go_at_call 22; exact calls_grow (has_any _ _ _ _)) | (go_at_call 10; exact calls_grow (order_any _ _ _)) | (go_at_call 24; exact calls_grow (Hw.out _)))))
            refine wpQuiet_nil ?_
            rintro _ ⟨⟨w6, hb6⟩, rfl⟩
            go_wp2
            go_ret
            exact ⟨rfl, below_call hb06 hb6⟩
          · have hne : ((s : Int) == (m : Int)) = false := by rw [beq_eq_false_iff_ne]; omega
            have e8 := heq s hsm
            clear hw ht e5 e6 e7 hsum hI hb5 HA4 HB4 HN4 hM heq hsm
            go_wp2_with fail
            refine wp_region_grow (by kernel_rfl) (by kernel_rfl) ?_
            repeat (first | go_big_quiet_step ((first | (go_at_call 32; exact calls_grow (Ht.out _)) | (go_at_call 22; exact calls_grow (has_any _ _ _ _)) | (go_at_call 10; exact calls_grow (order_any _ _ _)) | (go_at_call 24; exact calls_grow (Hw.out _)))))
            refine wpQuiet_nil ?_
            rintro _ ⟨⟨w6, hb6⟩, rfl⟩
            go_wp2
            go_ret
            exact ⟨rfl, below_call hb06 hb6⟩
end Go.Proofs.YtjakgmidhpddoaaDoor
