/-
  EventWrites: the law's walk.
-/
import Derived.Test.YtkojoahamoffcaaEvLives
import Derived.Test.YtkojoahamoffcaaEvRefChk
import Derived.Test.YtkojoahamoffcaaEvRefWr
namespace Go.Proofs.Ytkojoahamoffcaa
open Go.RowKit
set_option maxRecDepth 100000

set_option maxHeartbeats 8000000 in
theorem eventwrites_walk (e : Ev) (vg vb : Value) (w : World) (hin : EvIn w (fun _ => True) e vg vb) :
    Calls Try.prog 4 #[.agg (evC e vg vb)] w fun x w' => x = .returned (.bool true) ∧ Below w.heap.size w w' := by
  obtain ⟨h1, hbel⟩ := ev_box (evC e vg vb) 29 w
  obtain ⟨W, hW⟩ : ∃ W, W = (w.alloc (.cells (evC e vg vb) 29)) := ⟨_, rfl⟩
  rw [← hW] at h1 hbel
  have RA := Lib.hid (range_exts (ev_all h1))
  have K0 := Lib.hid (fun y : Ext W => lives08_any y.now)
  have k5 := fun y : Ext W => short08_any _ e vg vb y.now (hin.grow (hbel.trans (y.out.mono hbel.size)))
  obtain ⟨b1, hb1⟩ : ∃ b, b = shortB e := ⟨_, rfl⟩
  simp only [← hb1] at k5
  have K5 := Lib.hid k5
  obtain ⟨c, hc⟩ : ∃ x, x = checkB e := ⟨_, rfl⟩
  have Hc := Lib.hid hc
  have HW := Lib.hid hW
  have Hin := Lib.hid hin
  have H1 := Lib.hid h1
  have Hbel := Lib.hid hbel
  clear hW k5 hb1 hin h1 hbel hc
  cases b1
  all_goals go_enter Try.func4, Try.ntmps4
  all_goals go_upto_region 1 with fail
  all_goals rw [← HW.out]
  all_goals refine wp_plain_grow ?_
  all_goals repeat (first | (go_big_quiet_want; refine quiet_mid 29 (.tmp 1) rfl w.heap.size 0 rfl (evC e vg vb) _ RA.out Try.underlying29 rfl ev_info ?_; go_simp; go_big_quiet_on) | go_big_quiet_step (first | (go_at_call 7; with_reducible exact calls_grow (K0.out _)) | (go_at_call 8; with_reducible exact calls_grow (K5.out _))) | quiet_step (first | (go_at_call 7; with_reducible exact calls_grow (K0.out _)) | (go_at_call 8; with_reducible exact calls_grow (K5.out _))))
  all_goals refine wpQuiet_nil ?_
  all_goals rintro w6 ⟨⟨_, hb6⟩, rfl⟩
  all_goals have hb06 := below_call Hbel.out hb6
  · go_upto_region 2 with fail
    refine wp_region_lit ?_
    go_wp2_with (go_at_call 7; (with_reducible refine (lives08_any _).mono ?_); rintro x w7 ⟨rfl, hb7⟩)
    go_ret
    exact ⟨rfl, below_call hb06 hb7⟩
  · have H16 := Lib.hid (H1.out.grow hb6)
    have Hin6 := Lib.hid (Hin.out.grow hb06)
    clear RA K0 K5
    go_upto_region 3 with fail
    cases c
    · refine wp_region_lit ?_
      refine wpList_load_row rfl 29 (.tmp 1) rfl w.heap.size rfl 29 (evC e vg vb) (0, 0) _ H16.out Try.underlying29 rfl ev_info ?_
      go_upto_region 4 with (go_at_call 13; (with_reducible refine (write_no _ e vg vb _ Hin6.out Hc.out.symm).mono ?_); rintro x w7 ⟨rfl, hb7⟩)
      have H17 := Lib.hid (H16.out.grow hb7)
      have Hin7 := Lib.hid (Hin6.out.grow hb7)
      have hb07 := below_call hb06 hb7
      have RA := Lib.hid (range_exts (ev_all H17.out))
      have c1 := fun y : Ext w7 => refcheck_any _ e vg vb y.now (Hin7.out.grow y.out)
      simp only [← Hc.out] at c1
      have C1 := Lib.hid c1
      clear c1
      refine wp_plain_grow ?_
      repeat (first | (go_big_quiet_want; refine quiet_mid 29 (.tmp 1) rfl w.heap.size 0 rfl (evC e vg vb) _ RA.out Try.underlying29 rfl ev_info ?_; go_simp; go_big_quiet_on) | go_big_quiet_step ((go_at_call 10; with_reducible exact calls_grow (C1.out _))) | quiet_step ((go_at_call 10; with_reducible exact calls_grow (C1.out _))))
      refine wpQuiet_nil ?_
      rintro w8 ⟨⟨_, hb8⟩, rfl⟩
      have hb08 := below_call hb07 hb8
      clear RA C1
      go_wp2_with fail
      go_ret
      exact ⟨rfl, hb08⟩
    · refine wp_region_lit ?_
      refine wpList_load_row rfl 29 (.tmp 1) rfl w.heap.size rfl 29 (evC e vg vb) (0, 0) _ H16.out Try.underlying29 rfl ev_info ?_
      go_upto_region 4 with (go_at_call 13; (with_reducible refine (write_ok _ e vg vb _ Hin6.out Hc.out.symm).mono ?_); rintro x w7 ⟨⟨u, rfl, hu⟩, hb7⟩; have HU := Lib.hid hu.isB; clear hu)
      have H17 := Lib.hid (H16.out.grow hb7)
      have Hin7 := Lib.hid (Hin6.out.grow hb7)
      have hb07 := below_call hb06 hb7
      have RA := Lib.hid (range_exts (ev_all H17.out))
      have c1 := fun y : Ext w7 => refcheck_any _ e vg vb y.now (Hin7.out.grow y.out)
      simp only [← Hc.out] at c1
      have C1 := Lib.hid c1
      clear c1
      refine wp_plain_grow ?_
      repeat (first | (go_big_quiet_want; refine quiet_mid 29 (.tmp 1) rfl w.heap.size 0 rfl (evC e vg vb) _ RA.out Try.underlying29 rfl ev_info ?_; go_simp; go_big_quiet_on) | go_big_quiet_step ((go_at_call 10; with_reducible exact calls_grow (C1.out _))) | quiet_step ((go_at_call 10; with_reducible exact calls_grow (C1.out _))))
      refine wpQuiet_nil ?_
      rintro w8 ⟨⟨_, hb8⟩, rfl⟩
      have hb08 := below_call hb07 hb8
      clear RA C1
      have H18 := Lib.hid (H17.out.grow hb8)
      have Hin8 := Lib.hid (Hin7.out.grow hb8)
      have HU8 := Lib.hid (HU.out.grow hb8)
      have hrd := read_any _ u (evB e) w8 HU8.out (by have := evB_len (fine_of Hc.out.symm); omega)
      obtain ⟨hq, hs⟩ := read_write Hc.out.symm
      obtain ⟨T, hT⟩ : ∃ T, T = evB e := ⟨_, rfl⟩
      have hwr := fun ok u h => refwrite_any ok e vg vb u h Hc.out.symm
      rw [← hT] at hrd hq hs
      simp only [← hT] at hwr
      generalize readE T = R at hrd hq hs
      obtain ⟨F, q⟩ := R
      simp only [] at hq hs
      subst hq
      have Hrd := Lib.hid hrd
      have Hs := Lib.hid hs
      have HT := Lib.hid hT
      have Hwr := Lib.hid hwr
      clear hrd hs hT hwr
      go_upto_region 6 with fail
      refine wp_region_lit ?_
      go_upto_region 7 with (first | (go_at_call 14; (with_reducible refine Hrd.out.mono ?_); rintro x w9 ⟨vg', vb', rfl, hin9, hb9⟩; have Hin9 := Lib.hid hin9; have HB2 := Lib.hid (Blk.new w9 29 (evC zeroE (.slice none 0 0) (.slice none 0 0))); rw [zeroE_lit] at HB2; clear hin9) | (refine wpList_store_row ?_ 29 (.tmp 5) (.tmp 33) ?_ w9.heap.size (evC F vg' vb') ?_ ?_ 29 _ HB2.out ev_info rfl (evC_one Hin9.out) ?_; exact rfl; exact rfl; exact rfl; exact rfl))
      have hbZ : Below w9.heap.size w9 ((w9.alloc (.cells (evC zeroE (.slice none 0 0) (.slice none 0 0)) 29)).setRow w9.heap.size (evC F vg' vb')) := below_setRow ((Below.refl _ _).alloc (Nat.le_refl _) _) (Nat.le_refl _) _
      rw [zeroE_lit] at hbZ
      have HBZ := Lib.hid (HB2.out.setRow_ (evC F vg' vb'))
      obtain ⟨Z, hZ⟩ : ∃ Z, Z = (w9.alloc (.cells #[.int .i64 0, .int .u32 0, .int .u32 0, .int .u32 0, .int .u32 0, .int .u32 0, .int .u32 0, .int .u32 0, .int .u32 0, .int .u32 0, .int .i64 0, .int .i64 0, .int .u32 0, .int .i64 0, .int .u32 0, .string { data := #[] }, .slice none 0 0, .slice none 0 0, .int .i64 0, .string { data := #[] }, .int .i64 0] 29)).setRow w9.heap.size (evC F vg' vb') := ⟨_, rfl⟩
      rw [← hZ] at hbZ HBZ ⊢
      clear hZ HB2
      have hb09 := below_call hb08 hb9
      have hb0Z := below_call hb09 hbZ
      have HinZ := Lib.hid ((Hin8.out.grow hb9).grow hbZ)
      have HFZ := Lib.hid (Hin9.out.grow hbZ)
      have H1Z := Lib.hid ((H18.out.grow hb9).grow hbZ)
      have RA := Lib.hid (range_exts (ev_all H1Z.out))
      have RB := Lib.hid (range_exts (ev_all HBZ.out))
      have C1 := Lib.hid (fun y : Ext Z => Hwr.out _ y.now (HinZ.out.grow y.out))
      have c2 := fun y : Ext Z => refsame_any _ _ F e vg' vb' vg vb y.now (HFZ.out.grow y.out) (HinZ.out.grow y.out)
      simp only [Hs.out] at c2
      have C2 := Lib.hid c2
      have hu8 := HU8.out
      rw [← HT.out] at hu8
      have hcv := fun y : Ext Z => conv_strE (((hu8.grow hb9).grow hbZ).grow y.out)
      have hTT := beq_self_eq_true T
      clear c2 hu8
      refine wp_region_grow (by kernel_rfl) (by kernel_rfl) ?_
      repeat (first | (go_big_quiet_want; refine quiet_mid 29 (.tmp 1) rfl w.heap.size 0 rfl (evC e vg vb) _ RA.out Try.underlying29 rfl ev_info ?_; go_simp; go_big_quiet_on) | (go_big_quiet_want; refine quiet_mid 29 (.tmp 5) rfl w9.heap.size 0 rfl (evC F vg' vb') _ RB.out Try.underlying29 rfl ev_info ?_; go_simp; go_big_quiet_on) | go_big_quiet_step (first | (go_at_call 15; with_reducible exact calls_grow (C1.out _)) | (go_at_call 16; with_reducible exact calls_grow (C2.out _))) | quiet_step (first | (go_at_call 15; with_reducible exact calls_grow (C1.out _)) | (go_at_call 16; with_reducible exact calls_grow (C2.out _))))
      refine wpQuiet_nil ?_
      rintro w10 ⟨⟨_, hb10⟩, rfl⟩
      go_wp2_with fail
      go_ret
      exact ⟨rfl, below_call hb0Z hb10⟩
end Go.Proofs.Ytkojoahamoffcaa
