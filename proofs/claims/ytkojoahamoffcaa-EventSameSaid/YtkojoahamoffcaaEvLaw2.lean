/-
  EventSame: the law's walk.
-/
import Derived.Test.YtkojoahamoffcaaEvLives
namespace Go.Proofs.Ytkojoahamoffcaa
open Go.RowKit
set_option maxRecDepth 100000

set_option maxHeartbeats 8000000 in
theorem eventsame_walk (a : Ev) (va va' : Value) (b : Ev) (vb vb' : Value) (w : World) (hA : EvIn w (fun _ => True) a va va') (hB : EvIn w (fun _ => True) b vb vb') :
    Calls Try.prog 5 #[.agg (evC a va va'), .agg (evC b vb vb')] w fun x w' => x = .returned (.bool true) ∧ Below w.heap.size w w' := by
  obtain ⟨h1, h2, hbel⟩ := boxesE (evC a va va') (evC b vb vb') 29 w
  obtain ⟨W, hW⟩ : ∃ W, W = ((w.alloc (.cells (evC a va va') 29)).alloc (.cells (evC b vb vb') 29)) := ⟨_, rfl⟩
  rw [← hW] at h1 h2 hbel
  have RA := Lib.hid (range_exts (ev_all h1))
  have RB := Lib.hid (range_exts (ev_all h2))
  have K0 := Lib.hid (fun y : Ext W => lives08_any y.now)
  have k5 := fun y : Ext W => short08_any _ a va va' y.now (hA.grow (hbel.trans (y.out.mono hbel.size)))
  have k6 := fun y : Ext W => short08_any _ b vb vb' y.now (hB.grow (hbel.trans (y.out.mono hbel.size)))
  obtain ⟨b1, hb1⟩ : ∃ b, b = shortB a := ⟨_, rfl⟩
  obtain ⟨b2, hb2⟩ : ∃ x, x = shortB b := ⟨_, rfl⟩
  simp only [← hb1] at k5
  simp only [← hb2] at k6
  have K5 := Lib.hid k5
  have K6 := Lib.hid k6
  obtain ⟨m, hm⟩ : ∃ m, m = sameE a b := ⟨_, rfl⟩
  obtain ⟨ca, hca⟩ : ∃ x, x = checkB a := ⟨_, rfl⟩
  obtain ⟨cb, hcb⟩ : ∃ x, x = checkB b := ⟨_, rfl⟩
  have hinj : ca = true → cb = true → (evB a == evB b) = m := fun h h' => by rw [hm]; exact evB_inj (hca ▸ h) (hcb ▸ h')
  have Hm := Lib.hid hm
  have Hca := Lib.hid hca
  have Hcb := Lib.hid hcb
  have Hinj := Lib.hid hinj
  have HW := Lib.hid hW
  have HA := Lib.hid hA
  have HB := Lib.hid hB
  have H1 := Lib.hid h1
  have H2 := Lib.hid h2
  have Hbel := Lib.hid hbel
  clear hW k5 k6 hb1 hb2 hA hB h1 h2 hbel hm hca hcb hinj
  cases b1 <;> cases b2
  all_goals go_enter Try.func5, Try.ntmps5
  all_goals go_upto_region 1 with fail
  all_goals rw [← HW.out]
  all_goals refine wp_plain_grow ?_
  all_goals repeat (first | (go_big_quiet_want; refine quiet_mid 29 (.tmp 2) rfl w.heap.size 0 rfl (evC a va va') _ RA.out Try.underlying29 rfl ev_info ?_; go_simp; go_big_quiet_on) | (go_big_quiet_want; refine quiet_mid 29 (.tmp 3) rfl (w.heap.size + 1) 0 rfl (evC b vb vb') _ RB.out Try.underlying29 rfl ev_info ?_; go_simp; go_big_quiet_on) | go_big_quiet_step (first | (go_at_call 7; with_reducible exact calls_grow (K0.out _)) | (go_at_call 8; first | with_reducible exact calls_grow (K5.out _) | with_reducible exact calls_grow (K6.out _))) | quiet_step (first | (go_at_call 7; with_reducible exact calls_grow (K0.out _)) | (go_at_call 8; first | with_reducible exact calls_grow (K5.out _) | with_reducible exact calls_grow (K6.out _))))
  all_goals refine wpQuiet_nil ?_
  all_goals rintro w6 ⟨⟨_, hb6⟩, rfl⟩
  all_goals have hb06 := below_call Hbel.out hb6
  · go_upto_region 2 with fail
    refine wp_region_lit ?_
    go_wp2_with (go_at_call 7; (with_reducible refine (lives08_any _).mono ?_); rintro x w7 ⟨rfl, hb7⟩)
    go_ret
    exact ⟨rfl, below_call hb06 hb7⟩
  · go_upto_region 2 with fail
    refine wp_region_lit ?_
    go_wp2_with (go_at_call 7; (with_reducible refine (lives08_any _).mono ?_); rintro x w7 ⟨rfl, hb7⟩)
    go_ret
    exact ⟨rfl, below_call hb06 hb7⟩
  · go_upto_region 2 with fail
    refine wp_region_lit ?_
    go_wp2_with (go_at_call 7; (with_reducible refine (lives08_any _).mono ?_); rintro x w7 ⟨rfl, hb7⟩)
    go_ret
    exact ⟨rfl, below_call hb06 hb7⟩
  · have H16 := Lib.hid (H1.out.grow hb6)
    have H26 := Lib.hid (H2.out.grow hb6)
    have HA6 := Lib.hid (HA.out.grow hb06)
    have HB6 := Lib.hid (HB.out.grow hb06)
    clear RA RB K0 K5 K6
    go_upto_region 3 with fail
    have RA := Lib.hid (range_exts (ev_all H16.out))
    have RB := Lib.hid (range_exts (ev_all H26.out))
    have c1 := fun y : Ext w6 => refsame_any _ _ a b va va' vb vb' y.now (HA6.out.grow y.out) (HB6.out.grow y.out)
    simp only [← Hm.out] at c1
    have C1 := Lib.hid c1
    clear c1
    refine wp_plain_grow ?_
    repeat (first | (go_big_quiet_want; refine quiet_mid 29 (.tmp 2) rfl w.heap.size 0 rfl (evC a va va') _ RA.out Try.underlying29 rfl ev_info ?_; go_simp; go_big_quiet_on) | (go_big_quiet_want; refine quiet_mid 29 (.tmp 3) rfl (w.heap.size + 1) 0 rfl (evC b vb vb') _ RB.out Try.underlying29 rfl ev_info ?_; go_simp; go_big_quiet_on) | go_big_quiet_step ((go_at_call 16; with_reducible exact calls_grow (C1.out _))) | quiet_step ((go_at_call 16; with_reducible exact calls_grow (C1.out _))))
    refine wpQuiet_nil ?_
    rintro w7 ⟨⟨_, hb7⟩, rfl⟩
    have hb07 := below_call hb06 hb7
    have H17 := Lib.hid (H16.out.grow hb7)
    have H27 := Lib.hid (H26.out.grow hb7)
    have HA7 := Lib.hid (HA6.out.grow hb7)
    have HB7 := Lib.hid (HB6.out.grow hb7)
    clear RA RB C1
    go_upto_region 4 with fail
    have RA := Lib.hid (range_exts (ev_all H17.out))
    have RB := Lib.hid (range_exts (ev_all H27.out))
    have c1 := fun y : Ext w7 => same_any _ _ a b va va' vb vb' y.now (HA7.out.grow y.out) (HB7.out.grow y.out)
    have c2 := fun y : Ext w7 => same_any _ _ a a va va' va va' y.now (HA7.out.grow y.out) (HA7.out.grow y.out)
    simp only [← Hm.out] at c1
    simp only [sameE_self] at c2
    have C1 := Lib.hid c1
    have C2 := Lib.hid c2
    clear c1 c2
    have hmm : (m != m) = false := bne_self_eq_false m
    refine wp_plain_grow ?_
    repeat (first | (go_big_quiet_want; refine quiet_mid 29 (.tmp 2) rfl w.heap.size 0 rfl (evC a va va') _ RA.out Try.underlying29 rfl ev_info ?_; go_simp; go_big_quiet_on) | (go_big_quiet_want; refine quiet_mid 29 (.tmp 3) rfl (w.heap.size + 1) 0 rfl (evC b vb vb') _ RB.out Try.underlying29 rfl ev_info ?_; go_simp; go_big_quiet_on) | go_big_quiet_step ((go_at_call 17; first | with_reducible exact calls_grow (C1.out _) | with_reducible exact calls_grow (C2.out _))) | quiet_step ((go_at_call 17; first | with_reducible exact calls_grow (C1.out _) | with_reducible exact calls_grow (C2.out _))))
    refine wpQuiet_nil ?_
    rintro w8 ⟨⟨_, hb8⟩, rfl⟩
    have hb08 := below_call hb07 hb8
    have H18 := Lib.hid (H17.out.grow hb8)
    have H28 := Lib.hid (H27.out.grow hb8)
    have HA8 := Lib.hid (HA7.out.grow hb8)
    have HB8 := Lib.hid (HB7.out.grow hb8)
    clear RA RB C1 C2
    go_upto_region 6 with fail
    clear hmm
    cases ca <;> cases cb
    · refine wp_region_lit ?_
      refine wpList_load_row rfl 29 (.tmp 2) rfl w.heap.size rfl 29 (evC a va va') (0, 0) _ H18.out Try.underlying29 rfl ev_info ?_
      go_upto_region 7 with (go_at_call 13; (with_reducible refine (write_no _ a va va' _ HA8.out Hca.out.symm).mono ?_); rintro x w9 ⟨rfl, hb9⟩)
      have H29 := Lib.hid (H28.out.grow hb9)
      have HB9 := Lib.hid (HB8.out.grow hb9)
      have hb09 := below_call hb08 hb9
      refine wp_region_lit ?_
      refine wpList_load_row rfl 29 (.tmp 3) rfl (w.heap.size + 1) rfl 29 (evC b vb vb') (0, 0) _ H29.out Try.underlying29 rfl ev_info ?_
      go_upto_region 8 with (go_at_call 13; (with_reducible refine (write_no _ b vb vb' _ HB9.out Hcb.out.symm).mono ?_); rintro x w10 ⟨rfl, hb10⟩)
      have hb010 := below_call hb09 hb10
      go_wp2_with fail
      go_ret
      exact ⟨rfl, hb010⟩
    · refine wp_region_lit ?_
      refine wpList_load_row rfl 29 (.tmp 2) rfl w.heap.size rfl 29 (evC a va va') (0, 0) _ H18.out Try.underlying29 rfl ev_info ?_
      go_upto_region 7 with (go_at_call 13; (with_reducible refine (write_no _ a va va' _ HA8.out Hca.out.symm).mono ?_); rintro x w9 ⟨rfl, hb9⟩)
      have H29 := Lib.hid (H28.out.grow hb9)
      have HB9 := Lib.hid (HB8.out.grow hb9)
      have hb09 := below_call hb08 hb9
      refine wp_region_lit ?_
      refine wpList_load_row rfl 29 (.tmp 3) rfl (w.heap.size + 1) rfl 29 (evC b vb vb') (0, 0) _ H29.out Try.underlying29 rfl ev_info ?_
      go_upto_region 8 with (go_at_call 13; (with_reducible refine (write_ok _ b vb vb' _ HB9.out Hcb.out.symm).mono ?_); rintro x w10 ⟨⟨u10, rfl, hu10⟩, hb10⟩; have HU10 := Lib.hid hu10.isB; clear hu10)
      have hb010 := below_call hb09 hb10
      go_wp2_with fail
      go_ret
      exact ⟨rfl, hb010⟩
    · refine wp_region_lit ?_
      refine wpList_load_row rfl 29 (.tmp 2) rfl w.heap.size rfl 29 (evC a va va') (0, 0) _ H18.out Try.underlying29 rfl ev_info ?_
      go_upto_region 7 with (go_at_call 13; (with_reducible refine (write_ok _ a va va' _ HA8.out Hca.out.symm).mono ?_); rintro x w9 ⟨⟨u9, rfl, hu9⟩, hb9⟩; have HU9 := Lib.hid hu9.isB; clear hu9)
      have H29 := Lib.hid (H28.out.grow hb9)
      have HB9 := Lib.hid (HB8.out.grow hb9)
      have hb09 := below_call hb08 hb9
      refine wp_region_lit ?_
      refine wpList_load_row rfl 29 (.tmp 3) rfl (w.heap.size + 1) rfl 29 (evC b vb vb') (0, 0) _ H29.out Try.underlying29 rfl ev_info ?_
      go_upto_region 8 with (go_at_call 13; (with_reducible refine (write_no _ b vb vb' _ HB9.out Hcb.out.symm).mono ?_); rintro x w10 ⟨rfl, hb10⟩)
      have hb010 := below_call hb09 hb10
      go_wp2_with fail
      go_ret
      exact ⟨rfl, hb010⟩
    · refine wp_region_lit ?_
      refine wpList_load_row rfl 29 (.tmp 2) rfl w.heap.size rfl 29 (evC a va va') (0, 0) _ H18.out Try.underlying29 rfl ev_info ?_
      go_upto_region 7 with (go_at_call 13; (with_reducible refine (write_ok _ a va va' _ HA8.out Hca.out.symm).mono ?_); rintro x w9 ⟨⟨u9, rfl, hu9⟩, hb9⟩; have HU9 := Lib.hid hu9.isB; clear hu9)
      have H29 := Lib.hid (H28.out.grow hb9)
      have HB9 := Lib.hid (HB8.out.grow hb9)
      have hb09 := below_call hb08 hb9
      refine wp_region_lit ?_
      refine wpList_load_row rfl 29 (.tmp 3) rfl (w.heap.size + 1) rfl 29 (evC b vb vb') (0, 0) _ H29.out Try.underlying29 rfl ev_info ?_
      go_upto_region 8 with (go_at_call 13; (with_reducible refine (write_ok _ b vb vb' _ HB9.out Hcb.out.symm).mono ?_); rintro x w10 ⟨⟨u10, rfl, hu10⟩, hb10⟩; have HU10 := Lib.hid hu10.isB; clear hu10)
      have hb010 := below_call hb09 hb10
      have g1 := conv_strE (HU9.out.grow hb10)
      have g2 := conv_strE HU10.out
      have g3 := Hinj.out (by trivial) (by trivial)
      obtain ⟨T1, hT1⟩ : ∃ T, T = evB a := ⟨_, rfl⟩
      obtain ⟨T2, hT2⟩ : ∃ T, T = evB b := ⟨_, rfl⟩
      rw [← hT1] at g1 g3
      rw [← hT2] at g2 g3
      have q1 := beq_self_eq_true m
      clear hT1 hT2
      go_wp2_with fail
      go_ret
      exact ⟨rfl, hb010⟩
end Go.Proofs.Ytkojoahamoffcaa
