/-
  Check.
-/
import Derived.Test.YtkojoahamoffcaaEvHolds
import Derived.Test.YtkojoahamoffcaaEvSame
import Derived.Test.YtkojoahamoffcaaEvOwn
namespace Go.Proofs.Ytkojoahamoffcaa
open Go.RowKit
set_option maxRecDepth 100000

set_option maxHeartbeats 4000000 in
theorem check_any (ok : Nat → Prop) (e : Ev) (vg vb : Value) (w : World) (hin : EvIn w ok e vg vb) :
    Calls Try.prog 9 #[.agg (evC e vg vb)] w fun x w' => x = .returned (.bool (checkB e)) ∧ Below w.heap.size w w' := by
  obtain ⟨h1, hbel⟩ := ev_box (evC e vg vb) 29 w
  obtain ⟨W, hW⟩ : ∃ W, W = (w.alloc (.cells (evC e vg vb) 29)) := ⟨_, rfl⟩
  rw [← hW] at h1 hbel
  have RA := Lib.hid (range_exts (ev_all h1))
  have k1 := fun y : Ext W => isnext_any e vg vb y.now hin.fits
  have k2 := fun y : Ext W => evfields_any ok e vg vb y.now (hin.grow (hbel.trans (y.out.mono hbel.size)))
  have k3 := fun y : Ext W => own_any ok e vg vb y.now (hin.grow (hbel.trans (y.out.mono hbel.size)))
  have k4 := fun y : Ext W => same_any ok ok e (ownE e) vg vb (ownG e vg) (ownB e vb) y.now (hin.grow (hbel.trans (y.out.mono hbel.size))) (own_in (hin.grow (hbel.trans (y.out.mono hbel.size))))
  unfold checkB
  obtain ⟨a, ha⟩ : ∃ a, a = headB e := ⟨_, rfl⟩
  obtain ⟨b, hb⟩ : ∃ b, b = fieldsB e := ⟨_, rfl⟩
  obtain ⟨c, hc⟩ : ∃ c, c = sameE e (ownE e) := ⟨_, rfl⟩
  simp only [← ha] at k1 ⊢
  simp only [← hb] at k2 ⊢
  simp only [← hc] at k4 ⊢
  have K1 := Lib.hid k1
  have K2 := Lib.hid k2
  have K3 := Lib.hid k3
  have K4 := Lib.hid k4
  have HW := Lib.hid hW
  clear ha hb hc k1 k2 k3 k4 h1 hW hin
  cases a <;> cases b
  all_goals go_enter Try.func9, Try.ntmps9
  all_goals go_upto_region 1 with fail
  all_goals rw [← HW.out]
  all_goals refine wp_region_grow (by kernel_rfl) (by kernel_rfl) ?_
  all_goals repeat (first | (go_big_quiet_want; refine quiet_mid 29 (.tmp 1) rfl w.heap.size 0 rfl (evC e vg vb) _ RA.out Try.underlying29 rfl ev_info ?_; go_simp; go_big_quiet_on) | go_big_quiet_step ((first | (go_at_call 18; with_reducible exact calls_grow (K1.out _)) | (go_at_call 19; with_reducible exact calls_grow (K2.out _)) | (go_at_call 20; with_reducible exact calls_grow (K3.out _)) | (go_at_call 17; with_reducible exact calls_grow (K4.out _)))) | quiet_step ((first | (go_at_call 18; with_reducible exact calls_grow (K1.out _)) | (go_at_call 19; with_reducible exact calls_grow (K2.out _)) | (go_at_call 20; with_reducible exact calls_grow (K3.out _)) | (go_at_call 17; with_reducible exact calls_grow (K4.out _)))))
  all_goals refine wpQuiet_nil ?_
  all_goals rintro w6 ⟨⟨_, hb6⟩, rfl⟩
  all_goals go_wp2_with fail
  all_goals go_ret
  all_goals exact ⟨rfl, below_call hbel hb6⟩
end Go.Proofs.Ytkojoahamoffcaa
