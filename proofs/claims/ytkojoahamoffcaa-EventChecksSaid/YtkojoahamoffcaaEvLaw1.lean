/-
  EventChecks: the law's walk.
-/
import Derived.Test.YtkojoahamoffcaaEvLives
import Derived.Test.YtkojoahamoffcaaEvRefChk
import Derived.Test.YtkojoahamoffcaaEvName3
namespace Go.Proofs.Ytkojoahamoffcaa
open Go.RowKit
set_option maxRecDepth 100000

theorem gt_both (n k : Nat) (b : Bool) (h : b = decide (k < n)) : decide ((k : Int) < (n : Int)) = b ∧ decide (k < n) = b := by
  refine ⟨?_, h.symm⟩
  rw [h, Bool.eq_iff_iff, decide_eq_true_iff, decide_eq_true_iff]
  omega
theorem ev_one_more (w : World) (e : Ev) (vg vb : Value) : ∃ W, W = w.alloc (.cells (evC e vg vb) 29) ∧ Blk W w.heap.size 29 (evC e vg vb) ∧ Below w.heap.size w W := by
  obtain ⟨h1, h2⟩ := ev_box (evC e vg vb) 29 w
  exact ⟨_, rfl, h1, h2⟩

set_option maxHeartbeats 8000000 in
theorem eventchecks_walk (e : Ev) (vg vb : Value) (s : List UInt8) (w : World) (hin : EvIn w (fun _ => True) e vg vb) (_ : s.length ≤ maxLen) :
    Calls Try.prog 3 #[.agg (evC e vg vb), str s] w fun x w' => x = .returned (.bool true) ∧ Below w.heap.size w w' := by
  obtain ⟨W, hW, h1, hbel⟩ := ev_one_more w e vg vb
  have RA := Lib.hid (range_exts (ev_all h1))
  have K0 := Lib.hid (fun y : Ext W => lives08_any y.now)
  have k5 := fun y : Ext W => short08_any _ e vg vb y.now (hin.grow (hbel.trans (y.out.mono hbel.size)))
  obtain ⟨b1, hb1⟩ : ∃ b, b = shortB e := ⟨_, rfl⟩
  simp only [← hb1] at k5
  have K5 := Lib.hid k5
  obtain ⟨b2, hb2⟩ : ∃ b, b = decide (100 < s.length) := ⟨_, rfl⟩
  have j1 : decide ((100 : Int) < (s.length : Int)) = b2 := (gt_both _ _ _ hb2).1
  have j2 := (gt_both _ _ _ hb2).2
  have HW := Lib.hid hW
  have Hin := Lib.hid hin
  have H1 := Lib.hid h1
  have Hbel := Lib.hid hbel
  clear hW k5 hb1 hb2 hin h1 hbel
  cases b1 <;> cases b2
  all_goals go_enter Try.func3, Try.ntmps3
  all_goals go_upto_region 1 with fail
  all_goals rw [← HW.out]
  all_goals refine wp_plain_grow ?_
  all_goals repeat (first | (go_big_quiet_want; refine quiet_mid 29 (.tmp 2) rfl w.heap.size 0 rfl (evC e vg vb) _ RA.out Try.underlying29 rfl ev_info ?_; go_simp; go_big_quiet_on) | go_big_quiet_step (first | (go_at_call 7; with_reducible exact calls_grow (K0.out _)) | (go_at_call 8; with_reducible exact calls_grow (K5.out _))) | quiet_step (first | (go_at_call 7; with_reducible exact calls_grow (K0.out _)) | (go_at_call 8; with_reducible exact calls_grow (K5.out _))))
  all_goals refine wpQuiet_nil ?_
  all_goals rintro w6 ⟨⟨_, hb6⟩, rfl⟩
  all_goals have hb06 := below_call Hbel.out hb6
  all_goals clear j1 j2
  · go_upto_region 2 with fail
    refine wp_region_lit ?_
    go_wp2_with (go_at_call 7; (with_reducible refine (lives08_any _).mono ?_); rintro x w7 ⟨rfl, hb7⟩)
    go_ret
    exact ⟨rfl, below_call hb06 hb7⟩
  · go_upto_region 2 with fail
    refine wp_region_lit ?_
    go_wp2_with (go_at_call 7; (with_reducible refine (lives08_any _).mono ?_); rintro x w7 ⟨rfl, hb7⟩)
    go_ret
    exact ⟨rfl, below_call hb06 hb7⟩
  · have H6 := Lib.hid (H1.out.grow hb6)
    have Hin6 := Lib.hid (Hin.out.grow hb06)
    go_upto_region 3 with fail
    have RB := Lib.hid (range_exts (ev_all H6.out))
    have C1 := Lib.hid (fun y : Ext w6 => check_any _ e vg vb y.now (Hin6.out.grow y.out))
    have C2 := Lib.hid (fun y : Ext w6 => refcheck_any _ e vg vb y.now (Hin6.out.grow y.out))
    have C3 := Lib.hid (fun y : Ext w6 => fun l => name_any l y.now)
    have C4 := Lib.hid (fun y : Ext w6 => fun l => refname_any l y.now)
    have cn := fun y : Ext w6 => (EvCells.ext H6.out y).name
    have q1 := beq_self_eq_true (checkB e)
    have q2 := beq_self_eq_true (nameB s)
    have q3 := beq_self_eq_true (nameB e.name)
    refine wp_region_grow (by kernel_rfl) (by kernel_rfl) ?_
    repeat (first | (go_big_quiet_want; refine quiet_mid 29 (.tmp 2) rfl w.heap.size 0 rfl (evC e vg vb) _ RB.out Try.underlying29 rfl ev_info ?_; go_simp; go_big_quiet_on) | go_big_quiet_step (first | (go_at_call 9; with_reducible exact calls_grow (C1.out _)) | (go_at_call 10; with_reducible exact calls_grow (C2.out _)) | (go_at_call 11; with_reducible exact calls_grow (C3.out _ _)) | (go_at_call 12; with_reducible exact calls_grow (C4.out _ _))) | quiet_step (first | (go_at_call 9; with_reducible exact calls_grow (C1.out _)) | (go_at_call 10; with_reducible exact calls_grow (C2.out _)) | (go_at_call 11; with_reducible exact calls_grow (C3.out _ _)) | (go_at_call 12; with_reducible exact calls_grow (C4.out _ _))))
    refine wpQuiet_nil ?_
    rintro w7 ⟨⟨_, hb7⟩, rfl⟩
    go_wp2_with fail
    go_ret
    exact ⟨rfl, below_call hb06 hb7⟩
  · go_upto_region 2 with fail
    refine wp_region_lit ?_
    go_wp2_with (go_at_call 7; (with_reducible refine (lives08_any _).mono ?_); rintro x w7 ⟨rfl, hb7⟩)
    go_ret
    exact ⟨rfl, below_call hb06 hb7⟩
end Go.Proofs.Ytkojoahamoffcaa
