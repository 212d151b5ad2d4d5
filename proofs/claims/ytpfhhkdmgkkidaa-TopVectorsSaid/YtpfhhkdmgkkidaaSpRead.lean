/-
  span.read: the differences that bytes tell.
-/
import Derived.Test.YtpfhhkdmgkkidaaSpDiff
import Derived.WalkMore
namespace Go.Proofs.Ytpfhhkdmgkkidaa
open Go.RowKit
set_option maxRecDepth 100000

/-- What read answers. -/
def RDPost (l : List UInt8) (w : World) (e : Ending) (w' : World) : Prop :=
  e = .returned (.tuple #[.agg (ai (readD l).1), .int .i64 ((readD l).2 : Int)]) ∧ Below w.heap.size w w'

theorem RDPost.of {l : List UInt8} {w w' : World} {D : Nat → Int} {e : Nat} (h : readD l = (D, e)) (hb : Below w.heap.size w w') : RDPost l w (.returned (.tuple #[.agg (ai D), .int .i64 (e : Int)])) w' := by
  refine ⟨?_, hb⟩
  rw [h]

set_option maxHeartbeats 400000 in
theorem spread_any (ok : Nat → Prop) (A : Option Addr) (c : Nat) (l : List UInt8) (w : World) (hlc : l.length ≤ c) (hcm : c ≤ maxLen) (hr : Rd w ok A (l.map u8)) :
    Calls Try.prog 18 #[.slice A l.length c] w (RDPost l w) := by
  have hcm' := hcm
  unfold maxLen at hcm
  obtain ⟨W, hW⟩ : ∃ W, W = w.alloc (.cells #[.int .i64 0, .int .i64 0, .int .i64 0, .int .i64 0, .int .i64 0, .int .i64 0, .int .i64 0, .int .i64 0] 47) := ⟨_, rfl⟩
  have hC : Blk W w.heap.size 47 (ai zeroD) := by rw [hW]; exact Blk.new w _ _
  have hbel : Below w.heap.size w W := by rw [hW]; exact (Below.refl _ _).alloc (Nat.le_refl _) _
  have HW := Lib.hid hW
  have HC := Lib.hid hC
  clear hW hC
  by_cases h2 : l.length < 2
  · have hv : readD l = (zeroD, 8) := by
      rcases l with _ | ⟨m, _ | ⟨s, r⟩⟩
      · rfl
      · rfl
      · simp at h2; omega
    have Hv := Lib.hid hv
    clear hv hr
    go_enter Try.func18, Try.ntmps18
    go_wp2_with fail
    go_step3
    rw [← HW.out]
    go_wp2_with (refine wpList_store_row rfl 47 (.tmp 2) (.tmp 17) rfl w.heap.size (ai zeroD) rfl rfl 47 _ HC.out diff_info rfl (ai_one _) ?_)
    rw [Exit.noGoto_ret]
    have hend := HC.out.setRow_ (ai zeroD)
    exact bodyPost_ret (v := .tuple #[.agg (ai zeroD), .int .i64 8]) (results_cell_tmp Try.results18 _ _ w.heap.size 47 (ai zeroD) (0, 0) _ _ rfl rfl hend Try.underlying47 rfl diff_info) rfl (RDPost.of Hv.out (below_setRow hbel (by omega) _))
  · rcases l with _ | ⟨m, _ | ⟨s, r⟩⟩
    · simp at h2
    · simp at h2
    · have hm := m.toNat_lt
      have hs := s.toNat_lt
      have hr0 := fun b off (e : A = some ⟨b, off, none⟩) => (show Rd w ok (some ⟨b, off + 2, none⟩) (r.map u8) from by
        subst e
        have := hr.drop' (k := 2)
        simpa using this)
      obtain ⟨b, off, rfl, _, hblt, hc⟩ := hr.byte (by simp)
      have hr0 := (hr0 b off rfl).low
      have hc0 := hc 0 (by simp)
      have hc1 := hc 1 (by simp)
      rw [Nat.add_zero] at hc0
      simp only [List.getElem_cons_zero, List.getElem_cons_succ] at hc0 hc1
      have hcb : ∀ o, W.cell? ⟨b, o, none⟩ = w.cell? ⟨b, o, none⟩ := fun o => hbel.cell (p := ⟨b, o, none⟩) hblt
      rw [← hcb] at hc0 hc1
      clear hcb
      have hl1 : (m :: s :: r).length = r.length + 2 := rfl
      rw [hl1] at hlc h2 ⊢
      clear hl1 hc hr h2
      have hfs : readD (m :: s :: r) = if bothN m.toNat s.toNat = true then (zeroD, 7) else if (stepsD m.toNat s.toNat r 8).2.2 ≠ 0 then (zeroD, (stepsD m.toNat s.toNat r 8).2.2) else if (stepsD m.toNat s.toNat r 8).2.1 ≠ [] then (zeroD, 4) else ((stepsD m.toNat s.toNat r 8).1, 0) := rfl
      have hR : ∀ z : World, Below w.heap.size w z → IsB z (fun k => k < w.heap.size) (.slice (if c = 2 then some ⟨b, off, none⟩ else some ⟨b, off + 2, none⟩) r.length (c - 2)) r := fun z hz => by
        refine IsB.frame (w := w) (IsB.of rfl (by omega) (by omega) ?_) (fun k hk _ => hz.block k hk)
        by_cases e : c = 2
        · have : r = [] := List.eq_nil_of_length_eq_zero (by omega)
          subst this
          exact Rd.nil
        · rw [if_neg e]; exact hr0
      have HR := Lib.hid hR
      clear hR hr0
      have hand := and_zero hm hs
      cases hb : bothN m.toNat s.toNat with
      | true =>
        rw [hb] at hand
        rw [if_pos hb] at hfs
        have Hv := Lib.hid hfs
        clear hfs hb
        go_enter Try.func18, Try.ntmps18
        go_wp2_with fail
        go_step3
        rw [← HW.out]
        go_wp2_with fail
        go_quiet (fail)
        all_goals go_wp2_with (refine wpList_store_row rfl 47 (.tmp 2) (.tmp 30) rfl w.heap.size (ai zeroD) rfl rfl 47 _ (by exact HC.out) diff_info rfl (ai_one _) ?_)
        all_goals try rw [Exit.noGoto_ret]
        all_goals have hend := HC.out.setRow_ (ai zeroD)
        all_goals exact bodyPost_ret (v := .tuple #[.agg (ai zeroD), .int .i64 7]) (results_cell_tmp Try.results18 _ _ w.heap.size 47 (ai zeroD) (0, 0) _ _ rfl rfl hend Try.underlying47 rfl diff_info) rfl (RDPost.of Hv.out (below_setRow (below_drewN hbel _) (by omega) _))
      | false =>
        rw [hb] at hand
        rw [if_neg (by rw [hb]; simp)] at hfs
        clear hb
        have HV := Lib.hid hfs
        have HS := Lib.hid (stepsD_ok m.toNat s.toNat r)
        have HE := Lib.hid (fun k h j => @stepsD_err m.toNat s.toNat r k h j)
        have HK := Lib.hid (fun k h => @stepsD_skip m.toNat s.toNat r k h)
        have HG := Lib.hid (fun k h0 h => @stepsD_go m.toNat s.toNat r k h0 h)
        have HB1 := Lib.hid (fun k hk => @bits_and_of m.toNat k hm hk)
        have HB2 := Lib.hid (fun k hk => @bits_and_of s.toNat k hs hk)
        clear hfs
        generalize hT : stepsD m.toNat s.toNat r = T at HV HS HE HK HG
        have HT := Lib.hid hT
        clear hT
        go_enter Try.func18, Try.ntmps18
        go_wp2_with fail
        go_step3
        rw [← HW.out]
        go_wp2_with fail
        go_quiet (fail)
        all_goals go_wp2_with fail
        all_goals go_step3
        all_goals go_wp2_with fail
        all_goals obtain ⟨Z, hZ⟩ : ∃ Z, Z = (W.drewN nq).alloc (.cells #[.int .i64 0, .int .i64 0, .int .i64 0, .int .i64 0, .int .i64 0, .int .i64 0, .int .i64 0, .int .i64 0] 47) := ⟨_, rfl⟩
        all_goals rw [← hZ]
        all_goals have hZ1 : Blk Z w.heap.size 47 (ai zeroD) := by rw [hZ]; exact Blk.alloc (w := W.drewN nq) HC.out _
        all_goals have hZ2 : Blk Z W.heap.size 47 (ai zeroD) := by rw [hZ]; exact Blk.new (W.drewN nq) _ _
        all_goals have hZ3 : Below w.heap.size w Z := by rw [hZ]; exact (below_drewN hbel _).alloc (by have := hbel.size; simpa using this) _
        all_goals have hZ0 := HR.out Z hZ3
        all_goals clear hZ
        all_goals have hT0 : T 0 = (zeroD, r, 0) := by rw [← HT.out]; rfl
        all_goals have HT0 := Lib.hid hT0
        all_goals clear hT0
        · rw [if_pos (by assumption), show c - 2 = 0 by omega] at hZ0
          have hws : w.heap.size < W.heap.size := HC.out.lt
          go_loopw [6, 31] (fun v i wr => ∃ k : Nat, k ≤ 8 ∧ i = .int .i64 (k : Int) ∧ (T k).2.2 = 0 ∧ IsB wr (fun j => j < w.heap.size) v (T k).2.1 ∧ Blk wr w.heap.size 47 (ai zeroD) ∧ Blk wr W.heap.size 47 (ai (T k).1) ∧ Below w.heap.size w wr) (fun _ i _ => 8 - (intOf i).toNat)
          case atStart => exact ⟨0, by omega, rfl, by rw [HT0.out], by rw [HT0.out]; exact hZ0, hZ1, by rw [HT0.out]; exact hZ2, hZ3⟩
          case round =>
            obtain ⟨k, hk, rfl, he, hv, hbC, hbD, hbw⟩ := hrel
            obtain ⟨A', c', rfl, hvl, hvm, hvr⟩ := hv
            clear hZ0 hZ1 hZ2 hZ3
            by_cases hlt : k < 8
            · have hb1 := and_eq hm hlt
              have hb2 := and_eq hs hlt
              cases hm1 : bitN m.toNat k with
              | true =>
                have hsg : signN m.toNat s.toNat k = 1 := by unfold signN; rw [if_pos hm1]
                rw [hm1] at hb1
                clear hm1
                have hfs := firstsize_any (fun j => j < w.heap.size) A' c' (T k).2.1 wr hvl hvm hvr
                have hgo := HG.out k he (by rw [hsg]; omega)
                rw [hsg] at hgo
                have hfl := firstS_le (T k).2.1
                unfold FSPost at hfs
                obtain ⟨R, hR⟩ : ∃ R, R = firstS (T k).2.1 := ⟨_, rfl⟩
                rw [← hR] at hfs hgo hfl
                have hRl := hfl.2.1
                have Hfs := Lib.hid hfs
                rw [show (1 : Int) * (R.1 : Int) = (R.1 : Int) by omega] at hgo
                have Hgo := Lib.hid hgo
                have HbC := Lib.hid hbC
                have HbD := Lib.hid hbD
                have HR2 := Lib.hid hR
                have He := Lib.hid he
                clear hfs hgo hR hfl he
                by_cases hq : R.2.2 = 0
                · have hq0 := Lib.hid hq
                  have hq' : ((R.2.2 : Int) != 0) = false := by rw [hq]; rfl
                  have hcell := hbD.cell k
                  rw [ai_get _ hlt] at hcell
                  have hfrz := hbD.frozen k
                  clear hbC hbD hq
                  go_wp2_with (go_at_call 24; refine Hfs.out.mono ?_; rintro e w1 ⟨⟨y, rfl, hy⟩, nd, rfl⟩)
                  go_roundw
                  case rel =>
                    have hset := HbD.out.set_ k (.int .i64 (R.1 : Int))
                    rw [ai_set _ k _ hlt] at hset
                    refine ⟨k + 1, by omega, by go_num, ?_, ?_, ?_, ?_, ?_⟩
                    · rw [Hgo.out]; exact hq0.out
                    · rw [Hgo.out]
                      obtain ⟨A2, c2, rfl, h1, h2, h3⟩ := hy
                      exact ⟨A2, c2, rfl, h1, h2, h3.frame (fun j hj _ => Below.heap_setCell _ _ _ j (by show j ≠ W.heap.size; omega))⟩
                    · exact Blk.far (w := wr.drewN nd) HbC.out (by show w.heap.size ≠ W.heap.size; omega) _
                    · rw [Hgo.out]; exact hset
                    · exact (below_drewN hbw nd).setCell (by show w.heap.size ≤ W.heap.size; omega) _
                  case measure => simp [intOf]; omega
                · have hq' : ((R.2.2 : Int) != 0) = true := by rw [bne_iff_ne]; omega
                  have hT8 : (T 8).2.2 = R.2.2 := by
                    have := HE.out (k + 1) (by rw [Hgo.out]; exact hq) (8 - (k + 1))
                    rw [show k + 1 + (8 - (k + 1)) = 8 by omega] at this
                    rw [this, Hgo.out]
                  have hfin := HV.out
                  rw [hT8, if_pos hq] at hfin
                  have Hfin := Lib.hid hfin
                  clear hbC hbD hq hT8 hfin
                  go_wp2_with (first | (go_at_call 24; refine Hfs.out.mono ?_; rintro e w1 ⟨⟨y, rfl, hy⟩, nd, rfl⟩) | (refine wpList_store_row rfl 47 (.tmp 2) (.tmp 55) rfl w.heap.size (ai zeroD) rfl rfl 47 _ (by exact HbC.out) diff_info rfl (ai_one _) ?_))
                  try rw [Exit.noGoto_ret]
                  have hend := HbC.out.setRow_ (ai zeroD)
                  exact bodyPost_ret (v := .tuple #[.agg (ai zeroD), .int .i64 (R.2.2 : Int)]) (results_cell_tmp Try.results18 _ _ w.heap.size 47 (ai zeroD) (0, 0) _ _ rfl rfl hend Try.underlying47 rfl diff_info) rfl (RDPost.of Hfin.out (below_setRow (below_drewN hbw _) (by omega) _))
              | false =>
                cases hs1 : bitN s.toNat k with
                | true =>
                  have hsg : signN m.toNat s.toNat k = -1 := by unfold signN; rw [hm1, hs1]; rfl
                  rw [hm1] at hb1
                  rw [hs1] at hb2
                  clear hm1 hs1
                  have hfs := firstsize_any (fun j => j < w.heap.size) A' c' (T k).2.1 wr hvl hvm hvr
                  have hgo := HG.out k he (by rw [hsg]; omega)
                  rw [hsg] at hgo
                  have hfl := firstS_le (T k).2.1
                  unfold FSPost at hfs
                  obtain ⟨R, hR⟩ : ∃ R, R = firstS (T k).2.1 := ⟨_, rfl⟩
                  rw [← hR] at hfs hgo hfl
                  have hRl := hfl.2.1
                  have Hfs := Lib.hid hfs
                  rw [show (-1 : Int) * (R.1 : Int) = -(R.1 : Int) by omega] at hgo
                  have Hgo := Lib.hid hgo
                  have HbC := Lib.hid hbC
                  have HbD := Lib.hid hbD
                  have HR2 := Lib.hid hR
                  have He := Lib.hid he
                  clear hfs hgo hR hfl he
                  by_cases hq : R.2.2 = 0
                  · have hq0 := Lib.hid hq
                    have hq' : ((R.2.2 : Int) != 0) = false := by rw [hq]; rfl
                    have hcell := hbD.cell k
                    rw [ai_get _ hlt] at hcell
                    have hfrz := hbD.frozen k
                    clear hbC hbD hq
                    go_wp2_with (go_at_call 24; refine Hfs.out.mono ?_; rintro e w1 ⟨⟨y, rfl, hy⟩, nd, rfl⟩)
                    go_roundw
                    case rel =>
                      have hset := HbD.out.set_ k (.int .i64 (-(R.1 : Int)))
                      rw [ai_set _ k _ hlt] at hset
                      refine ⟨k + 1, by omega, by go_num, ?_, ?_, ?_, ?_, ?_⟩
                      · rw [Hgo.out]; exact hq0.out
                      · rw [Hgo.out]
                        obtain ⟨A2, c2, rfl, h1, h2, h3⟩ := hy
                        exact ⟨A2, c2, rfl, h1, h2, h3.frame (fun j hj _ => Below.heap_setCell _ _ _ j (by show j ≠ W.heap.size; omega))⟩
                      · exact Blk.far (w := wr.drewN nd) HbC.out (by show w.heap.size ≠ W.heap.size; omega) _
                      · rw [Hgo.out]; exact hset
                      · exact (below_drewN hbw nd).setCell (by show w.heap.size ≤ W.heap.size; omega) _
                    case measure => simp [intOf]; omega
                  · have hq' : ((R.2.2 : Int) != 0) = true := by rw [bne_iff_ne]; omega
                    have hT8 : (T 8).2.2 = R.2.2 := by
                      have := HE.out (k + 1) (by rw [Hgo.out]; exact hq) (8 - (k + 1))
                      rw [show k + 1 + (8 - (k + 1)) = 8 by omega] at this
                      rw [this, Hgo.out]
                    have hfin := HV.out
                    rw [hT8, if_pos hq] at hfin
                    have Hfin := Lib.hid hfin
                    clear hbC hbD hq hT8 hfin
                    go_wp2_with (first | (go_at_call 24; refine Hfs.out.mono ?_; rintro e w1 ⟨⟨y, rfl, hy⟩, nd, rfl⟩) | (refine wpList_store_row rfl 47 (.tmp 2) (.tmp 55) rfl w.heap.size (ai zeroD) rfl rfl 47 _ (by exact HbC.out) diff_info rfl (ai_one _) ?_))
                    try rw [Exit.noGoto_ret]
                    have hend := HbC.out.setRow_ (ai zeroD)
                    exact bodyPost_ret (v := .tuple #[.agg (ai zeroD), .int .i64 (R.2.2 : Int)]) (results_cell_tmp Try.results18 _ _ w.heap.size 47 (ai zeroD) (0, 0) _ _ rfl rfl hend Try.underlying47 rfl diff_info) rfl (RDPost.of Hfin.out (below_setRow (below_drewN hbw _) (by omega) _))
                | false =>
                  have hsg : signN m.toNat s.toNat k = 0 := by unfold signN; rw [hm1, hs1]; rfl
                  have hsk := HK.out k hsg
                  rw [hm1] at hb1
                  rw [hs1] at hb2
                  clear hm1 hs1
                  have Hsk := Lib.hid hsk
                  clear hsk
                  go_wp2_with fail
                  go_roundw
                  case rel => exact ⟨k + 1, by omega, by go_num, by rw [Hsk.out]; exact he, by rw [Hsk.out]; exact ⟨A', c', rfl, hvl, hvm, hvr⟩, hbC, by rw [Hsk.out]; exact hbD, hbw⟩
                  case measure => simp [intOf]; omega
            · obtain rfl : k = 8 := by omega
              have hfin := HV.out
              rw [if_neg (by rw [he]; simp)] at hfin
              have HbC := Lib.hid hbC
              have HbD := Lib.hid hbD
              clear hbC hbD he
              by_cases hnil : (T 8).2.1 = []
              · rw [if_neg (by rw [hnil]; simp)] at hfin
                have Hfin := Lib.hid hfin
                have hl0 : (T 8).2.1.length = 0 := by rw [hnil]; rfl
                clear hfin hnil
                go_wp2_with (first | (refine wpList_load_row rfl 47 (.tmp 7) rfl W.heap.size rfl 47 (ai (T 8).1) (0, 0) _ (by exact HbD.out) Try.underlying47 rfl diff_info ?_) | (refine wpList_store_row rfl 47 (.tmp 2) (.tmp 68) rfl w.heap.size (ai (T 8).1) rfl rfl 47 (ai zeroD) (by exact HbC.out) diff_info rfl (ai_one _) ?_))
                try rw [Exit.noGoto_ret]
                have hend := HbC.out.setRow_ (ai (T 8).1)
                exact bodyPost_ret (v := .tuple #[.agg (ai (T 8).1), .int .i64 0]) (results_cell_tmp Try.results18 _ _ w.heap.size 47 (ai (T 8).1) (0, 0) _ _ rfl rfl hend Try.underlying47 rfl diff_info) rfl (RDPost.of Hfin.out (below_setRow hbw (by omega) _))
              · rw [if_pos hnil] at hfin
                have Hfin := Lib.hid hfin
                have hl0 : 0 < (T 8).2.1.length := List.length_pos_iff.2 hnil
                clear hfin hnil
                go_wp2_with (refine wpList_store_row rfl 47 (.tmp 2) (.tmp 67) rfl w.heap.size (ai zeroD) rfl rfl 47 _ (by exact HbC.out) diff_info rfl (ai_one _) ?_)
                try rw [Exit.noGoto_ret]
                have hend := HbC.out.setRow_ (ai zeroD)
                exact bodyPost_ret (v := .tuple #[.agg (ai zeroD), .int .i64 4]) (results_cell_tmp Try.results18 _ _ w.heap.size 47 (ai zeroD) (0, 0) _ _ rfl rfl hend Try.underlying47 rfl diff_info) rfl (RDPost.of Hfin.out (below_setRow hbw (by omega) _))
        · rw [if_neg (by assumption)] at hZ0
          have hws : w.heap.size < W.heap.size := HC.out.lt
          go_loopw [6, 31] (fun v i wr => ∃ k : Nat, k ≤ 8 ∧ i = .int .i64 (k : Int) ∧ (T k).2.2 = 0 ∧ IsB wr (fun j => j < w.heap.size) v (T k).2.1 ∧ Blk wr w.heap.size 47 (ai zeroD) ∧ Blk wr W.heap.size 47 (ai (T k).1) ∧ Below w.heap.size w wr) (fun _ i _ => 8 - (intOf i).toNat)
          case atStart => exact ⟨0, by omega, rfl, by rw [HT0.out], by rw [HT0.out]; exact hZ0, hZ1, by rw [HT0.out]; exact hZ2, hZ3⟩
          case round =>
            obtain ⟨k, hk, rfl, he, hv, hbC, hbD, hbw⟩ := hrel
            obtain ⟨A', c', rfl, hvl, hvm, hvr⟩ := hv
            clear hZ0 hZ1 hZ2 hZ3
            by_cases hlt : k < 8
            · have hb1 := and_eq hm hlt
              have hb2 := and_eq hs hlt
              cases hm1 : bitN m.toNat k with
              | true =>
                have hsg : signN m.toNat s.toNat k = 1 := by unfold signN; rw [if_pos hm1]
                rw [hm1] at hb1
                clear hm1
                have hfs := firstsize_any (fun j => j < w.heap.size) A' c' (T k).2.1 wr hvl hvm hvr
                have hgo := HG.out k he (by rw [hsg]; omega)
                rw [hsg] at hgo
                have hfl := firstS_le (T k).2.1
                unfold FSPost at hfs
                obtain ⟨R, hR⟩ : ∃ R, R = firstS (T k).2.1 := ⟨_, rfl⟩
                rw [← hR] at hfs hgo hfl
                have hRl := hfl.2.1
                have Hfs := Lib.hid hfs
                rw [show (1 : Int) * (R.1 : Int) = (R.1 : Int) by omega] at hgo
                have Hgo := Lib.hid hgo
                have HbC := Lib.hid hbC
                have HbD := Lib.hid hbD
                have HR2 := Lib.hid hR
                have He := Lib.hid he
                clear hfs hgo hR hfl he
                by_cases hq : R.2.2 = 0
                · have hq0 := Lib.hid hq
                  have hq' : ((R.2.2 : Int) != 0) = false := by rw [hq]; rfl
                  have hcell := hbD.cell k
                  rw [ai_get _ hlt] at hcell
                  have hfrz := hbD.frozen k
                  clear hbC hbD hq
                  go_wp2_with (go_at_call 24; refine Hfs.out.mono ?_; rintro e w1 ⟨⟨y, rfl, hy⟩, nd, rfl⟩)
                  go_roundw
                  case rel =>
                    have hset := HbD.out.set_ k (.int .i64 (R.1 : Int))
                    rw [ai_set _ k _ hlt] at hset
                    refine ⟨k + 1, by omega, by go_num, ?_, ?_, ?_, ?_, ?_⟩
                    · rw [Hgo.out]; exact hq0.out
                    · rw [Hgo.out]
                      obtain ⟨A2, c2, rfl, h1, h2, h3⟩ := hy
                      exact ⟨A2, c2, rfl, h1, h2, h3.frame (fun j hj _ => Below.heap_setCell _ _ _ j (by show j ≠ W.heap.size; omega))⟩
                    · exact Blk.far (w := wr.drewN nd) HbC.out (by show w.heap.size ≠ W.heap.size; omega) _
                    · rw [Hgo.out]; exact hset
                    · exact (below_drewN hbw nd).setCell (by show w.heap.size ≤ W.heap.size; omega) _
                  case measure => simp [intOf]; omega
                · have hq' : ((R.2.2 : Int) != 0) = true := by rw [bne_iff_ne]; omega
                  have hT8 : (T 8).2.2 = R.2.2 := by
                    have := HE.out (k + 1) (by rw [Hgo.out]; exact hq) (8 - (k + 1))
                    rw [show k + 1 + (8 - (k + 1)) = 8 by omega] at this
                    rw [this, Hgo.out]
                  have hfin := HV.out
                  rw [hT8, if_pos hq] at hfin
                  have Hfin := Lib.hid hfin
                  clear hbC hbD hq hT8 hfin
                  go_wp2_with (first | (go_at_call 24; refine Hfs.out.mono ?_; rintro e w1 ⟨⟨y, rfl, hy⟩, nd, rfl⟩) | (refine wpList_store_row rfl 47 (.tmp 2) (.tmp 55) rfl w.heap.size (ai zeroD) rfl rfl 47 _ (by exact HbC.out) diff_info rfl (ai_one _) ?_))
                  try rw [Exit.noGoto_ret]
                  have hend := HbC.out.setRow_ (ai zeroD)
                  exact bodyPost_ret (v := .tuple #[.agg (ai zeroD), .int .i64 (R.2.2 : Int)]) (results_cell_tmp Try.results18 _ _ w.heap.size 47 (ai zeroD) (0, 0) _ _ rfl rfl hend Try.underlying47 rfl diff_info) rfl (RDPost.of Hfin.out (below_setRow (below_drewN hbw _) (by omega) _))
              | false =>
                cases hs1 : bitN s.toNat k with
                | true =>
                  have hsg : signN m.toNat s.toNat k = -1 := by unfold signN; rw [hm1, hs1]; rfl
                  rw [hm1] at hb1
                  rw [hs1] at hb2
                  clear hm1 hs1
                  have hfs := firstsize_any (fun j => j < w.heap.size) A' c' (T k).2.1 wr hvl hvm hvr
                  have hgo := HG.out k he (by rw [hsg]; omega)
                  rw [hsg] at hgo
                  have hfl := firstS_le (T k).2.1
                  unfold FSPost at hfs
                  obtain ⟨R, hR⟩ : ∃ R, R = firstS (T k).2.1 := ⟨_, rfl⟩
                  rw [← hR] at hfs hgo hfl
                  have hRl := hfl.2.1
                  have Hfs := Lib.hid hfs
                  rw [show (-1 : Int) * (R.1 : Int) = -(R.1 : Int) by omega] at hgo
                  have Hgo := Lib.hid hgo
                  have HbC := Lib.hid hbC
                  have HbD := Lib.hid hbD
                  have HR2 := Lib.hid hR
                  have He := Lib.hid he
                  clear hfs hgo hR hfl he
                  by_cases hq : R.2.2 = 0
                  · have hq0 := Lib.hid hq
                    have hq' : ((R.2.2 : Int) != 0) = false := by rw [hq]; rfl
                    have hcell := hbD.cell k
                    rw [ai_get _ hlt] at hcell
                    have hfrz := hbD.frozen k
                    clear hbC hbD hq
                    go_wp2_with (go_at_call 24; refine Hfs.out.mono ?_; rintro e w1 ⟨⟨y, rfl, hy⟩, nd, rfl⟩)
                    go_roundw
                    case rel =>
                      have hset := HbD.out.set_ k (.int .i64 (-(R.1 : Int)))
                      rw [ai_set _ k _ hlt] at hset
                      refine ⟨k + 1, by omega, by go_num, ?_, ?_, ?_, ?_, ?_⟩
                      · rw [Hgo.out]; exact hq0.out
                      · rw [Hgo.out]
                        obtain ⟨A2, c2, rfl, h1, h2, h3⟩ := hy
                        exact ⟨A2, c2, rfl, h1, h2, h3.frame (fun j hj _ => Below.heap_setCell _ _ _ j (by show j ≠ W.heap.size; omega))⟩
                      · exact Blk.far (w := wr.drewN nd) HbC.out (by show w.heap.size ≠ W.heap.size; omega) _
                      · rw [Hgo.out]; exact hset
                      · exact (below_drewN hbw nd).setCell (by show w.heap.size ≤ W.heap.size; omega) _
                    case measure => simp [intOf]; omega
                  · have hq' : ((R.2.2 : Int) != 0) = true := by rw [bne_iff_ne]; omega
                    have hT8 : (T 8).2.2 = R.2.2 := by
                      have := HE.out (k + 1) (by rw [Hgo.out]; exact hq) (8 - (k + 1))
                      rw [show k + 1 + (8 - (k + 1)) = 8 by omega] at this
                      rw [this, Hgo.out]
                    have hfin := HV.out
                    rw [hT8, if_pos hq] at hfin
                    have Hfin := Lib.hid hfin
                    clear hbC hbD hq hT8 hfin
                    go_wp2_with (first | (go_at_call 24; refine Hfs.out.mono ?_; rintro e w1 ⟨⟨y, rfl, hy⟩, nd, rfl⟩) | (refine wpList_store_row rfl 47 (.tmp 2) (.tmp 55) rfl w.heap.size (ai zeroD) rfl rfl 47 _ (by exact HbC.out) diff_info rfl (ai_one _) ?_))
                    try rw [Exit.noGoto_ret]
                    have hend := HbC.out.setRow_ (ai zeroD)
                    exact bodyPost_ret (v := .tuple #[.agg (ai zeroD), .int .i64 (R.2.2 : Int)]) (results_cell_tmp Try.results18 _ _ w.heap.size 47 (ai zeroD) (0, 0) _ _ rfl rfl hend Try.underlying47 rfl diff_info) rfl (RDPost.of Hfin.out (below_setRow (below_drewN hbw _) (by omega) _))
                | false =>
                  have hsg : signN m.toNat s.toNat k = 0 := by unfold signN; rw [hm1, hs1]; rfl
                  have hsk := HK.out k hsg
                  rw [hm1] at hb1
                  rw [hs1] at hb2
                  clear hm1 hs1
                  have Hsk := Lib.hid hsk
                  clear hsk
                  go_wp2_with fail
                  go_roundw
                  case rel => exact ⟨k + 1, by omega, by go_num, by rw [Hsk.out]; exact he, by rw [Hsk.out]; exact ⟨A', c', rfl, hvl, hvm, hvr⟩, hbC, by rw [Hsk.out]; exact hbD, hbw⟩
                  case measure => simp [intOf]; omega
            · obtain rfl : k = 8 := by omega
              have hfin := HV.out
              rw [if_neg (by rw [he]; simp)] at hfin
              have HbC := Lib.hid hbC
              have HbD := Lib.hid hbD
              clear hbC hbD he
              by_cases hnil : (T 8).2.1 = []
              · rw [if_neg (by rw [hnil]; simp)] at hfin
                have Hfin := Lib.hid hfin
                have hl0 : (T 8).2.1.length = 0 := by rw [hnil]; rfl
                clear hfin hnil
                go_wp2_with (first | (refine wpList_load_row rfl 47 (.tmp 7) rfl W.heap.size rfl 47 (ai (T 8).1) (0, 0) _ (by exact HbD.out) Try.underlying47 rfl diff_info ?_) | (refine wpList_store_row rfl 47 (.tmp 2) (.tmp 68) rfl w.heap.size (ai (T 8).1) rfl rfl 47 (ai zeroD) (by exact HbC.out) diff_info rfl (ai_one _) ?_))
                try rw [Exit.noGoto_ret]
                have hend := HbC.out.setRow_ (ai (T 8).1)
                exact bodyPost_ret (v := .tuple #[.agg (ai (T 8).1), .int .i64 0]) (results_cell_tmp Try.results18 _ _ w.heap.size 47 (ai (T 8).1) (0, 0) _ _ rfl rfl hend Try.underlying47 rfl diff_info) rfl (RDPost.of Hfin.out (below_setRow hbw (by omega) _))
              · rw [if_pos hnil] at hfin
                have Hfin := Lib.hid hfin
                have hl0 : 0 < (T 8).2.1.length := List.length_pos_iff.2 hnil
                clear hfin hnil
                go_wp2_with (refine wpList_store_row rfl 47 (.tmp 2) (.tmp 67) rfl w.heap.size (ai zeroD) rfl rfl 47 _ (by exact HbC.out) diff_info rfl (ai_one _) ?_)
                try rw [Exit.noGoto_ret]
                have hend := HbC.out.setRow_ (ai zeroD)
                exact bodyPost_ret (v := .tuple #[.agg (ai zeroD), .int .i64 4]) (results_cell_tmp Try.results18 _ _ w.heap.size 47 (ai zeroD) (0, 0) _ _ rfl rfl hend Try.underlying47 rfl diff_info) rfl (RDPost.of Hfin.out (below_setRow hbw (by omega) _))
end Go.Proofs.Ytpfhhkdmgkkidaa
