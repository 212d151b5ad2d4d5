/-
  The document's made.
  What the document tells of an event's head. Mathematics.
-/
import Derived.Test.YtkojoahamoffcaaEvHolds
import Derived.Test.YtkojoahamoffcaaEvName3
namespace Go.Proofs.Ytkojoahamoffcaa
open Go.RowKit
set_option maxRecDepth 100000

set_option maxHeartbeats 4000000 in
theorem made1 (ok : Nat → Prop) (e : Ev) (vg vb : Value) (w : World) (hin : EvIn w ok e vg vb) :
    Calls Try.prog 25 #[.agg (evC e vg vb), .bool false, .bool true, .bool false, .bool false, .bool false, .bool false, .bool false] w fun x w' => x = .returned (.bool (madeB e false true false false false false false)) ∧ Below w.heap.size w w' := by
  obtain ⟨Ag, cg, _, rfl, _⟩ := hin.gone
  obtain ⟨Ab, cb, _, rfl, _⟩ := hin.base
  obtain ⟨h1, hbel⟩ := ev_box (evC e (.slice Ag e.gone.length cg) (.slice Ab e.base.length cb)) 29 w
  obtain ⟨W, hW⟩ : ∃ W, W = (w.alloc (.cells (evC e (.slice Ag e.gone.length cg) (.slice Ab e.base.length cb)) 29)) := ⟨_, rfl⟩
  rw [← hW] at h1 hbel
  have Iob := Lib.hid (range_exts (ev_obj h1))
  have ko := fun y : Ext W => refzero_any e.orep e.oseq y.now
  have c_xg := fun y : Ext W => (EvCells.ext h1 y).gone
  have c_xb := fun y : Ext W => (EvCells.ext h1 y).base
  have c_xf := fun y : Ext W => (EvCells.ext h1 y).off
  have c_xt := fun y : Ext W => (EvCells.ext h1 y).data
  have c_xw := fun y : Ext W => (EvCells.ext h1 y).ward
  unfold madeB
  obtain ⟨xo, h_xo⟩ : ∃ x, zeroI e.orep e.oseq = x := ⟨_, rfl⟩
  obtain ⟨xg, h_xg⟩ : ∃ x, e.gone.isEmpty = x := ⟨_, rfl⟩
  obtain ⟨xb, h_xb⟩ : ∃ x, e.base.isEmpty = x := ⟨_, rfl⟩
  obtain ⟨xf, h_xf⟩ : ∃ x, decide (e.off = 0) = x := ⟨_, rfl⟩
  obtain ⟨xt, h_xt⟩ : ∃ x, e.data.isEmpty = x := ⟨_, rfl⟩
  obtain ⟨xw, h_xw⟩ : ∃ x, decide (e.ward = 0) = x := ⟨_, rfl⟩
  rw [h_xo, h_xg, h_xb, h_xf, h_xt, h_xw]
  simp only [h_xo] at ko
  have l1_xg : ((e.gone.length : Int) == 0) = xg := by rw [← h_xg, Bool.eq_iff_iff, beq_iff_eq, List.isEmpty_iff, ← List.length_eq_zero_iff]; omega
  have l2_xg : (e.gone.length == 0) = xg := by rw [← h_xg, Bool.eq_iff_iff, beq_iff_eq, List.isEmpty_iff, List.length_eq_zero_iff]
  have l1_xb : ((e.base.length : Int) == 0) = xb := by rw [← h_xb, Bool.eq_iff_iff, beq_iff_eq, List.isEmpty_iff, ← List.length_eq_zero_iff]; omega
  have l2_xb : (e.base.length == 0) = xb := by rw [← h_xb, Bool.eq_iff_iff, beq_iff_eq, List.isEmpty_iff, List.length_eq_zero_iff]
  have l1_xf : (e.off == 0) = xf := by rw [← h_xf]; rfl
  have l1_xw : (e.ward == 0) = xw := by rw [← h_xw]; rfl
  have KO := Lib.hid ko
  clear ko h_xo
  clear h_xf
  clear h_xw
  have HW := Lib.hid hW
  clear hW h1 hin
  rcases (show (xo = false) ∨ (xo = true ∧ xg = false) ∨ (xo = true ∧ xg = true ∧ xb = false) ∨ (xo = true ∧ xg = true ∧ xb = true ∧ xf = false) ∨ (xo = true ∧ xg = true ∧ xb = true ∧ xf = true ∧ xt = false) ∨ (xo = true ∧ xg = true ∧ xb = true ∧ xf = true ∧ xt = true) from by
      cases xo
      · exact .inl rfl
      cases xg
      · exact .inr (.inl ⟨rfl, rfl⟩)
      cases xb
      · exact .inr (.inr (.inl ⟨rfl, rfl, rfl⟩))
      cases xf
      · exact .inr (.inr (.inr (.inl ⟨rfl, rfl, rfl, rfl⟩)))
      cases xt
      · exact .inr (.inr (.inr (.inr (.inl ⟨rfl, rfl, rfl, rfl, rfl⟩))))
      exact .inr (.inr (.inr (.inr (.inr (⟨rfl, rfl, rfl, rfl, rfl⟩)))))) with rfl | ⟨rfl, rfl⟩ | ⟨rfl, rfl, rfl⟩ | ⟨rfl, rfl, rfl, rfl⟩ | ⟨rfl, rfl, rfl, rfl, rfl⟩ | ⟨rfl, rfl, rfl, rfl, rfl⟩
  all_goals go_enter Try.func25, Try.ntmps25
  all_goals go_upto_region 1 with fail
  all_goals rw [← HW.out]
  all_goals refine wp_plain_grow ?_
  all_goals (try simp only [List.append_eq, List.cons_append, List.nil_append])
  all_goals repeat (first | (go_big_quiet_want; refine quiet_mid 24 (.tmp 19) rfl w.heap.size 11 rfl _ _ Iob.out Try.underlying24 rfl id_info ?_; go_simp; go_big_quiet_on) | go_big_quiet_step ((go_at_call 23; with_reducible exact calls_grow (KO.out _))) | quiet_step ((go_at_call 23; with_reducible exact calls_grow (KO.out _))))
  all_goals refine wpQuiet_nil ?_
  all_goals rintro w6 ⟨⟨_, hb6⟩, rfl⟩
  all_goals go_wp2_with fail
  all_goals go_ret
  all_goals exact ⟨by simp, below_call hbel hb6⟩
set_option maxHeartbeats 4000000 in
theorem made3 (ok : Nat → Prop) (e : Ev) (vg vb : Value) (w : World) (hin : EvIn w ok e vg vb) :
    Calls Try.prog 25 #[.agg (evC e vg vb), .bool true, .bool false, .bool false, .bool true, .bool true, .bool true, .bool false] w fun x w' => x = .returned (.bool (madeB e true false false true true true false)) ∧ Below w.heap.size w w' := by
  obtain ⟨Ag, cg, _, rfl, _⟩ := hin.gone
  obtain ⟨Ab, cb, _, rfl, _⟩ := hin.base
  obtain ⟨h1, hbel⟩ := ev_box (evC e (.slice Ag e.gone.length cg) (.slice Ab e.base.length cb)) 29 w
  obtain ⟨W, hW⟩ : ∃ W, W = (w.alloc (.cells (evC e (.slice Ag e.gone.length cg) (.slice Ab e.base.length cb)) 29)) := ⟨_, rfl⟩
  rw [← hW] at h1 hbel
  have ID := Lib.hid (range_exts (ev_dir h1))
  have kd := fun y : Ext W => refzero_any e.drep e.dseq y.now
  have c_xn := fun y : Ext W => (EvCells.ext h1 y).name
  have c_xg := fun y : Ext W => (EvCells.ext h1 y).gone
  have c_xw := fun y : Ext W => (EvCells.ext h1 y).ward
  unfold madeB
  obtain ⟨xd, h_xd⟩ : ∃ x, zeroI e.drep e.dseq = x := ⟨_, rfl⟩
  obtain ⟨xn, h_xn⟩ : ∃ x, e.name.isEmpty = x := ⟨_, rfl⟩
  obtain ⟨xg, h_xg⟩ : ∃ x, e.gone.isEmpty = x := ⟨_, rfl⟩
  obtain ⟨xw, h_xw⟩ : ∃ x, decide (e.ward = 0) = x := ⟨_, rfl⟩
  rw [h_xd, h_xn, h_xg, h_xw]
  simp only [h_xd] at kd
  have l1_xg : ((e.gone.length : Int) == 0) = xg := by rw [← h_xg, Bool.eq_iff_iff, beq_iff_eq, List.isEmpty_iff, ← List.length_eq_zero_iff]; omega
  have l2_xg : (e.gone.length == 0) = xg := by rw [← h_xg, Bool.eq_iff_iff, beq_iff_eq, List.isEmpty_iff, List.length_eq_zero_iff]
  have l1_xw : (e.ward == 0) = xw := by rw [← h_xw]; rfl
  have KD := Lib.hid kd
  clear kd h_xd
  clear h_xw
  have HW := Lib.hid hW
  clear hW h1 hin
  rcases (show (xd = false) ∨ (xd = true ∧ xn = false) ∨ (xd = true ∧ xn = true ∧ xg = false) ∨ (xd = true ∧ xn = true ∧ xg = true) from by
      cases xd
      · exact .inl rfl
      cases xn
      · exact .inr (.inl ⟨rfl, rfl⟩)
      cases xg
      · exact .inr (.inr (.inl ⟨rfl, rfl, rfl⟩))
      exact .inr (.inr (.inr (⟨rfl, rfl, rfl⟩)))) with rfl | ⟨rfl, rfl⟩ | ⟨rfl, rfl, rfl⟩ | ⟨rfl, rfl, rfl⟩
  all_goals go_enter Try.func25, Try.ntmps25
  all_goals go_upto_region 1 with fail
  all_goals rw [← HW.out]
  all_goals refine wp_plain_grow ?_
  all_goals (try simp only [List.append_eq, List.cons_append, List.nil_append])
  all_goals repeat (first | (go_big_quiet_want; refine quiet_mid 24 (.tmp 26) rfl w.heap.size 13 rfl _ _ ID.out Try.underlying24 rfl id_info ?_; go_simp; go_big_quiet_on) | go_big_quiet_step ((go_at_call 23; with_reducible exact calls_grow (KD.out _))) | quiet_step ((go_at_call 23; with_reducible exact calls_grow (KD.out _))))
  all_goals refine wpQuiet_nil ?_
  all_goals rintro w6 ⟨⟨_, hb6⟩, rfl⟩
  all_goals go_wp2_with fail
  all_goals go_ret
  all_goals exact ⟨by simp, below_call hbel hb6⟩
set_option maxHeartbeats 4000000 in
theorem made4 (ok : Nat → Prop) (e : Ev) (vg vb : Value) (w : World) (hin : EvIn w ok e vg vb) :
    Calls Try.prog 25 #[.agg (evC e vg vb), .bool true, .bool false, .bool false, .bool true, .bool true, .bool false, .bool false] w fun x w' => x = .returned (.bool (madeB e true false false true true false false)) ∧ Below w.heap.size w w' := by
  obtain ⟨Ag, cg, _, rfl, _⟩ := hin.gone
  obtain ⟨Ab, cb, _, rfl, _⟩ := hin.base
  obtain ⟨h1, hbel⟩ := ev_box (evC e (.slice Ag e.gone.length cg) (.slice Ab e.base.length cb)) 29 w
  obtain ⟨W, hW⟩ : ∃ W, W = (w.alloc (.cells (evC e (.slice Ag e.gone.length cg) (.slice Ab e.base.length cb)) 29)) := ⟨_, rfl⟩
  rw [← hW] at h1 hbel
  have ID := Lib.hid (range_exts (ev_dir h1))
  have kd := fun y : Ext W => refzero_any e.drep e.dseq y.now
  have c_xn := fun y : Ext W => (EvCells.ext h1 y).name
  have c_xg := fun y : Ext W => (EvCells.ext h1 y).gone
  have c_xt := fun y : Ext W => (EvCells.ext h1 y).data
  have c_xw := fun y : Ext W => (EvCells.ext h1 y).ward
  unfold madeB
  obtain ⟨xd, h_xd⟩ : ∃ x, zeroI e.drep e.dseq = x := ⟨_, rfl⟩
  obtain ⟨xn, h_xn⟩ : ∃ x, e.name.isEmpty = x := ⟨_, rfl⟩
  obtain ⟨xg, h_xg⟩ : ∃ x, e.gone.isEmpty = x := ⟨_, rfl⟩
  obtain ⟨xt, h_xt⟩ : ∃ x, e.data.isEmpty = x := ⟨_, rfl⟩
  obtain ⟨xw, h_xw⟩ : ∃ x, decide (e.ward = 0) = x := ⟨_, rfl⟩
  rw [h_xd, h_xn, h_xg, h_xt, h_xw]
  simp only [h_xd] at kd
  have l1_xg : ((e.gone.length : Int) == 0) = xg := by rw [← h_xg, Bool.eq_iff_iff, beq_iff_eq, List.isEmpty_iff, ← List.length_eq_zero_iff]; omega
  have l2_xg : (e.gone.length == 0) = xg := by rw [← h_xg, Bool.eq_iff_iff, beq_iff_eq, List.isEmpty_iff, List.length_eq_zero_iff]
  have l1_xw : (e.ward == 0) = xw := by rw [← h_xw]; rfl
  have KD := Lib.hid kd
  clear kd h_xd
  clear h_xw
  have HW := Lib.hid hW
  clear hW h1 hin
  rcases (show (xd = false) ∨ (xd = true ∧ xn = false) ∨ (xd = true ∧ xn = true ∧ xg = false) ∨ (xd = true ∧ xn = true ∧ xg = true ∧ xt = false) ∨ (xd = true ∧ xn = true ∧ xg = true ∧ xt = true) from by
      cases xd
      · exact .inl rfl
      cases xn
      · exact .inr (.inl ⟨rfl, rfl⟩)
      cases xg
      · exact .inr (.inr (.inl ⟨rfl, rfl, rfl⟩))
      cases xt
      · exact .inr (.inr (.inr (.inl ⟨rfl, rfl, rfl, rfl⟩)))
      exact .inr (.inr (.inr (.inr (⟨rfl, rfl, rfl, rfl⟩))))) with rfl | ⟨rfl, rfl⟩ | ⟨rfl, rfl, rfl⟩ | ⟨rfl, rfl, rfl, rfl⟩ | ⟨rfl, rfl, rfl, rfl⟩
  all_goals go_enter Try.func25, Try.ntmps25
  all_goals go_upto_region 1 with fail
  all_goals rw [← HW.out]
  all_goals refine wp_plain_grow ?_
  all_goals (try simp only [List.append_eq, List.cons_append, List.nil_append])
  all_goals repeat (first | (go_big_quiet_want; refine quiet_mid 24 (.tmp 26) rfl w.heap.size 13 rfl _ _ ID.out Try.underlying24 rfl id_info ?_; go_simp; go_big_quiet_on) | go_big_quiet_step ((go_at_call 23; with_reducible exact calls_grow (KD.out _))) | quiet_step ((go_at_call 23; with_reducible exact calls_grow (KD.out _))))
  all_goals refine wpQuiet_nil ?_
  all_goals rintro w6 ⟨⟨_, hb6⟩, rfl⟩
  all_goals go_wp2_with fail
  all_goals go_ret
  all_goals exact ⟨by simp, below_call hbel hb6⟩
set_option maxHeartbeats 4000000 in
theorem made5 (ok : Nat → Prop) (e : Ev) (vg vb : Value) (w : World) (hin : EvIn w ok e vg vb) :
    Calls Try.prog 25 #[.agg (evC e vg vb), .bool true, .bool false, .bool false, .bool true, .bool false, .bool true, .bool false] w fun x w' => x = .returned (.bool (madeB e true false false true false true false)) ∧ Below w.heap.size w w' := by
  obtain ⟨Ag, cg, _, rfl, _⟩ := hin.gone
  obtain ⟨Ab, cb, _, rfl, _⟩ := hin.base
  obtain ⟨h1, hbel⟩ := ev_box (evC e (.slice Ag e.gone.length cg) (.slice Ab e.base.length cb)) 29 w
  obtain ⟨W, hW⟩ : ∃ W, W = (w.alloc (.cells (evC e (.slice Ag e.gone.length cg) (.slice Ab e.base.length cb)) 29)) := ⟨_, rfl⟩
  rw [← hW] at h1 hbel
  have ID := Lib.hid (range_exts (ev_dir h1))
  have kd := fun y : Ext W => refzero_any e.drep e.dseq y.now
  have c_xn := fun y : Ext W => (EvCells.ext h1 y).name
  have c_xg := fun y : Ext W => (EvCells.ext h1 y).gone
  have c_xf := fun y : Ext W => (EvCells.ext h1 y).off
  have c_xw := fun y : Ext W => (EvCells.ext h1 y).ward
  unfold madeB
  obtain ⟨xd, h_xd⟩ : ∃ x, zeroI e.drep e.dseq = x := ⟨_, rfl⟩
  obtain ⟨xn, h_xn⟩ : ∃ x, e.name.isEmpty = x := ⟨_, rfl⟩
  obtain ⟨xg, h_xg⟩ : ∃ x, e.gone.isEmpty = x := ⟨_, rfl⟩
  obtain ⟨xf, h_xf⟩ : ∃ x, decide (e.off = 0) = x := ⟨_, rfl⟩
  obtain ⟨xw, h_xw⟩ : ∃ x, decide (e.ward = 0) = x := ⟨_, rfl⟩
  rw [h_xd, h_xn, h_xg, h_xf, h_xw]
  simp only [h_xd] at kd
  have l1_xg : ((e.gone.length : Int) == 0) = xg := by rw [← h_xg, Bool.eq_iff_iff, beq_iff_eq, List.isEmpty_iff, ← List.length_eq_zero_iff]; omega
  have l2_xg : (e.gone.length == 0) = xg := by rw [← h_xg, Bool.eq_iff_iff, beq_iff_eq, List.isEmpty_iff, List.length_eq_zero_iff]
  have l1_xf : (e.off == 0) = xf := by rw [← h_xf]; rfl
  have l1_xw : (e.ward == 0) = xw := by rw [← h_xw]; rfl
  have KD := Lib.hid kd
  clear kd h_xd
  clear h_xf
  clear h_xw
  have HW := Lib.hid hW
  clear hW h1 hin
  rcases (show (xd = false) ∨ (xd = true ∧ xn = false) ∨ (xd = true ∧ xn = true ∧ xg = false) ∨ (xd = true ∧ xn = true ∧ xg = true ∧ xf = false) ∨ (xd = true ∧ xn = true ∧ xg = true ∧ xf = true) from by
      cases xd
      · exact .inl rfl
      cases xn
      · exact .inr (.inl ⟨rfl, rfl⟩)
      cases xg
      · exact .inr (.inr (.inl ⟨rfl, rfl, rfl⟩))
      cases xf
      · exact .inr (.inr (.inr (.inl ⟨rfl, rfl, rfl, rfl⟩)))
      exact .inr (.inr (.inr (.inr (⟨rfl, rfl, rfl, rfl⟩))))) with rfl | ⟨rfl, rfl⟩ | ⟨rfl, rfl, rfl⟩ | ⟨rfl, rfl, rfl, rfl⟩ | ⟨rfl, rfl, rfl, rfl⟩
  all_goals go_enter Try.func25, Try.ntmps25
  all_goals go_upto_region 1 with fail
  all_goals rw [← HW.out]
  all_goals refine wp_plain_grow ?_
  all_goals (try simp only [List.append_eq, List.cons_append, List.nil_append])
  all_goals repeat (first | (go_big_quiet_want; refine quiet_mid 24 (.tmp 26) rfl w.heap.size 13 rfl _ _ ID.out Try.underlying24 rfl id_info ?_; go_simp; go_big_quiet_on) | go_big_quiet_step ((go_at_call 23; with_reducible exact calls_grow (KD.out _))) | quiet_step ((go_at_call 23; with_reducible exact calls_grow (KD.out _))))
  all_goals refine wpQuiet_nil ?_
  all_goals rintro w6 ⟨⟨_, hb6⟩, rfl⟩
  all_goals go_wp2_with fail
  all_goals go_ret
  all_goals exact ⟨by simp, below_call hbel hb6⟩
set_option maxHeartbeats 4000000 in
theorem made6 (ok : Nat → Prop) (e : Ev) (vg vb : Value) (w : World) (hin : EvIn w ok e vg vb) :
    Calls Try.prog 25 #[.agg (evC e vg vb), .bool true, .bool false, .bool true, .bool false, .bool false, .bool false, .bool false] w fun x w' => x = .returned (.bool (madeB e true false true false false false false)) ∧ Below w.heap.size w w' := by
  obtain ⟨Ag, cg, _, rfl, _⟩ := hin.gone
  obtain ⟨Ab, cb, _, rfl, _⟩ := hin.base
  obtain ⟨h1, hbel⟩ := ev_box (evC e (.slice Ag e.gone.length cg) (.slice Ab e.base.length cb)) 29 w
  obtain ⟨W, hW⟩ : ∃ W, W = (w.alloc (.cells (evC e (.slice Ag e.gone.length cg) (.slice Ab e.base.length cb)) 29)) := ⟨_, rfl⟩
  rw [← hW] at h1 hbel
  have ID := Lib.hid (range_exts (ev_dir h1))
  have kd := fun y : Ext W => refzero_any e.drep e.dseq y.now
  have c_xn := fun y : Ext W => (EvCells.ext h1 y).name
  have c_xb := fun y : Ext W => (EvCells.ext h1 y).base
  have c_xf := fun y : Ext W => (EvCells.ext h1 y).off
  have c_xt := fun y : Ext W => (EvCells.ext h1 y).data
  have c_xw := fun y : Ext W => (EvCells.ext h1 y).ward
  unfold madeB
  obtain ⟨xd, h_xd⟩ : ∃ x, zeroI e.drep e.dseq = x := ⟨_, rfl⟩
  obtain ⟨xn, h_xn⟩ : ∃ x, e.name.isEmpty = x := ⟨_, rfl⟩
  obtain ⟨xb, h_xb⟩ : ∃ x, e.base.isEmpty = x := ⟨_, rfl⟩
  obtain ⟨xf, h_xf⟩ : ∃ x, decide (e.off = 0) = x := ⟨_, rfl⟩
  obtain ⟨xt, h_xt⟩ : ∃ x, e.data.isEmpty = x := ⟨_, rfl⟩
  obtain ⟨xw, h_xw⟩ : ∃ x, decide (e.ward = 0) = x := ⟨_, rfl⟩
  rw [h_xd, h_xn, h_xb, h_xf, h_xt, h_xw]
  simp only [h_xd] at kd
  have l1_xb : ((e.base.length : Int) == 0) = xb := by rw [← h_xb, Bool.eq_iff_iff, beq_iff_eq, List.isEmpty_iff, ← List.length_eq_zero_iff]; omega
  have l2_xb : (e.base.length == 0) = xb := by rw [← h_xb, Bool.eq_iff_iff, beq_iff_eq, List.isEmpty_iff, List.length_eq_zero_iff]
  have l1_xf : (e.off == 0) = xf := by rw [← h_xf]; rfl
  have l1_xw : (e.ward == 0) = xw := by rw [← h_xw]; rfl
  have KD := Lib.hid kd
  clear kd h_xd
  clear h_xf
  clear h_xw
  have HW := Lib.hid hW
  clear hW h1 hin
  rcases (show (xd = false) ∨ (xd = true ∧ xn = false) ∨ (xd = true ∧ xn = true ∧ xb = false) ∨ (xd = true ∧ xn = true ∧ xb = true ∧ xf = false) ∨ (xd = true ∧ xn = true ∧ xb = true ∧ xf = true ∧ xt = false) ∨ (xd = true ∧ xn = true ∧ xb = true ∧ xf = true ∧ xt = true) from by
      cases xd
      · exact .inl rfl
      cases xn
      · exact .inr (.inl ⟨rfl, rfl⟩)
      cases xb
      · exact .inr (.inr (.inl ⟨rfl, rfl, rfl⟩))
      cases xf
      · exact .inr (.inr (.inr (.inl ⟨rfl, rfl, rfl, rfl⟩)))
      cases xt
      · exact .inr (.inr (.inr (.inr (.inl ⟨rfl, rfl, rfl, rfl, rfl⟩))))
      exact .inr (.inr (.inr (.inr (.inr (⟨rfl, rfl, rfl, rfl, rfl⟩)))))) with rfl | ⟨rfl, rfl⟩ | ⟨rfl, rfl, rfl⟩ | ⟨rfl, rfl, rfl, rfl⟩ | ⟨rfl, rfl, rfl, rfl, rfl⟩ | ⟨rfl, rfl, rfl, rfl, rfl⟩
  all_goals go_enter Try.func25, Try.ntmps25
  all_goals go_upto_region 1 with fail
  all_goals rw [← HW.out]
  all_goals refine wp_plain_grow ?_
  all_goals (try simp only [List.append_eq, List.cons_append, List.nil_append])
  all_goals repeat (first | (go_big_quiet_want; refine quiet_mid 24 (.tmp 26) rfl w.heap.size 13 rfl _ _ ID.out Try.underlying24 rfl id_info ?_; go_simp; go_big_quiet_on) | go_big_quiet_step ((go_at_call 23; with_reducible exact calls_grow (KD.out _))) | quiet_step ((go_at_call 23; with_reducible exact calls_grow (KD.out _))))
  all_goals refine wpQuiet_nil ?_
  all_goals rintro w6 ⟨⟨_, hb6⟩, rfl⟩
  all_goals go_wp2_with fail
  all_goals go_ret
  all_goals exact ⟨by simp, below_call hbel hb6⟩
set_option maxHeartbeats 4000000 in
theorem made7 (ok : Nat → Prop) (e : Ev) (vg vb : Value) (w : World) (hin : EvIn w ok e vg vb) :
    Calls Try.prog 25 #[.agg (evC e vg vb), .bool true, .bool true, .bool true, .bool false, .bool false, .bool false, .bool false] w fun x w' => x = .returned (.bool (madeB e true true true false false false false)) ∧ Below w.heap.size w w' := by
  obtain ⟨Ag, cg, _, rfl, _⟩ := hin.gone
  obtain ⟨Ab, cb, _, rfl, _⟩ := hin.base
  obtain ⟨h1, hbel⟩ := ev_box (evC e (.slice Ag e.gone.length cg) (.slice Ab e.base.length cb)) 29 w
  obtain ⟨W, hW⟩ : ∃ W, W = (w.alloc (.cells (evC e (.slice Ag e.gone.length cg) (.slice Ab e.base.length cb)) 29)) := ⟨_, rfl⟩
  rw [← hW] at h1 hbel
  have c_xb := fun y : Ext W => (EvCells.ext h1 y).base
  have c_xf := fun y : Ext W => (EvCells.ext h1 y).off
  have c_xt := fun y : Ext W => (EvCells.ext h1 y).data
  have c_xw := fun y : Ext W => (EvCells.ext h1 y).ward
  unfold madeB
  obtain ⟨xb, h_xb⟩ : ∃ x, e.base.isEmpty = x := ⟨_, rfl⟩
  obtain ⟨xf, h_xf⟩ : ∃ x, decide (e.off = 0) = x := ⟨_, rfl⟩
  obtain ⟨xt, h_xt⟩ : ∃ x, e.data.isEmpty = x := ⟨_, rfl⟩
  obtain ⟨xw, h_xw⟩ : ∃ x, decide (e.ward = 0) = x := ⟨_, rfl⟩
  rw [h_xb, h_xf, h_xt, h_xw]
  have l1_xb : ((e.base.length : Int) == 0) = xb := by rw [← h_xb, Bool.eq_iff_iff, beq_iff_eq, List.isEmpty_iff, ← List.length_eq_zero_iff]; omega
  have l2_xb : (e.base.length == 0) = xb := by rw [← h_xb, Bool.eq_iff_iff, beq_iff_eq, List.isEmpty_iff, List.length_eq_zero_iff]
  have l1_xf : (e.off == 0) = xf := by rw [← h_xf]; rfl
  have l1_xw : (e.ward == 0) = xw := by rw [← h_xw]; rfl
  clear h_xf
  clear h_xw
  have HW := Lib.hid hW
  clear hW h1 hin
  rcases (show (xb = false) ∨ (xb = true ∧ xf = false) ∨ (xb = true ∧ xf = true ∧ xt = false) ∨ (xb = true ∧ xf = true ∧ xt = true) from by
      cases xb
      · exact .inl rfl
      cases xf
      · exact .inr (.inl ⟨rfl, rfl⟩)
      cases xt
      · exact .inr (.inr (.inl ⟨rfl, rfl, rfl⟩))
      exact .inr (.inr (.inr (⟨rfl, rfl, rfl⟩)))) with rfl | ⟨rfl, rfl⟩ | ⟨rfl, rfl, rfl⟩ | ⟨rfl, rfl, rfl⟩
  all_goals go_enter Try.func25, Try.ntmps25
  all_goals go_upto_region 1 with fail
  all_goals rw [← HW.out]
  all_goals refine wp_plain_grow ?_
  all_goals (try simp only [List.append_eq, List.cons_append, List.nil_append])
  all_goals repeat (first | go_big_quiet_step (fail) | quiet_step (fail))
  all_goals refine wpQuiet_nil ?_
  all_goals rintro w6 ⟨⟨_, hb6⟩, rfl⟩
  all_goals go_wp2_with fail
  all_goals go_ret
  all_goals exact ⟨by simp, below_call hbel hb6⟩
set_option maxHeartbeats 4000000 in
theorem made8 (ok : Nat → Prop) (e : Ev) (vg vb : Value) (w : World) (hin : EvIn w ok e vg vb) :
    Calls Try.prog 25 #[.agg (evC e vg vb), .bool false, .bool false, .bool false, .bool false, .bool false, .bool false, .bool true] w fun x w' => x = .returned (.bool (madeB e false false false false false false true)) ∧ Below w.heap.size w w' := by
  obtain ⟨Ag, cg, _, rfl, _⟩ := hin.gone
  obtain ⟨Ab, cb, _, rfl, _⟩ := hin.base
  obtain ⟨h1, hbel⟩ := ev_box (evC e (.slice Ag e.gone.length cg) (.slice Ab e.base.length cb)) 29 w
  obtain ⟨W, hW⟩ : ∃ W, W = (w.alloc (.cells (evC e (.slice Ag e.gone.length cg) (.slice Ab e.base.length cb)) 29)) := ⟨_, rfl⟩
  rw [← hW] at h1 hbel
  have Iob := Lib.hid (range_exts (ev_obj h1))
  have ko := fun y : Ext W => refzero_any e.orep e.oseq y.now
  have ID := Lib.hid (range_exts (ev_dir h1))
  have kd := fun y : Ext W => refzero_any e.drep e.dseq y.now
  have c_xn := fun y : Ext W => (EvCells.ext h1 y).name
  have c_xg := fun y : Ext W => (EvCells.ext h1 y).gone
  have c_xb := fun y : Ext W => (EvCells.ext h1 y).base
  have c_xf := fun y : Ext W => (EvCells.ext h1 y).off
  have c_xt := fun y : Ext W => (EvCells.ext h1 y).data
  unfold madeB
  obtain ⟨xo, h_xo⟩ : ∃ x, zeroI e.orep e.oseq = x := ⟨_, rfl⟩
  obtain ⟨xd, h_xd⟩ : ∃ x, zeroI e.drep e.dseq = x := ⟨_, rfl⟩
  obtain ⟨xn, h_xn⟩ : ∃ x, e.name.isEmpty = x := ⟨_, rfl⟩
  obtain ⟨xg, h_xg⟩ : ∃ x, e.gone.isEmpty = x := ⟨_, rfl⟩
  obtain ⟨xb, h_xb⟩ : ∃ x, e.base.isEmpty = x := ⟨_, rfl⟩
  obtain ⟨xf, h_xf⟩ : ∃ x, decide (e.off = 0) = x := ⟨_, rfl⟩
  obtain ⟨xt, h_xt⟩ : ∃ x, e.data.isEmpty = x := ⟨_, rfl⟩
  rw [h_xo, h_xd, h_xn, h_xg, h_xb, h_xf, h_xt]
  simp only [h_xo] at ko
  simp only [h_xd] at kd
  have l1_xg : ((e.gone.length : Int) == 0) = xg := by rw [← h_xg, Bool.eq_iff_iff, beq_iff_eq, List.isEmpty_iff, ← List.length_eq_zero_iff]; omega
  have l2_xg : (e.gone.length == 0) = xg := by rw [← h_xg, Bool.eq_iff_iff, beq_iff_eq, List.isEmpty_iff, List.length_eq_zero_iff]
  have l1_xb : ((e.base.length : Int) == 0) = xb := by rw [← h_xb, Bool.eq_iff_iff, beq_iff_eq, List.isEmpty_iff, ← List.length_eq_zero_iff]; omega
  have l2_xb : (e.base.length == 0) = xb := by rw [← h_xb, Bool.eq_iff_iff, beq_iff_eq, List.isEmpty_iff, List.length_eq_zero_iff]
  have l1_xf : (e.off == 0) = xf := by rw [← h_xf]; rfl
  have KO := Lib.hid ko
  clear ko h_xo
  have KD := Lib.hid kd
  clear kd h_xd
  clear h_xf
  have HW := Lib.hid hW
  clear hW h1 hin
  rcases (show (xo = false) ∨ (xo = true ∧ xd = false) ∨ (xo = true ∧ xd = true ∧ xn = false) ∨ (xo = true ∧ xd = true ∧ xn = true ∧ xg = false) ∨ (xo = true ∧ xd = true ∧ xn = true ∧ xg = true ∧ xb = false) ∨ (xo = true ∧ xd = true ∧ xn = true ∧ xg = true ∧ xb = true ∧ xf = false) ∨ (xo = true ∧ xd = true ∧ xn = true ∧ xg = true ∧ xb = true ∧ xf = true ∧ xt = false) ∨ (xo = true ∧ xd = true ∧ xn = true ∧ xg = true ∧ xb = true ∧ xf = true ∧ xt = true) from by
      cases xo
      · exact .inl rfl
      cases xd
      · exact .inr (.inl ⟨rfl, rfl⟩)
      cases xn
      · exact .inr (.inr (.inl ⟨rfl, rfl, rfl⟩))
      cases xg
      · exact .inr (.inr (.inr (.inl ⟨rfl, rfl, rfl, rfl⟩)))
      cases xb
      · exact .inr (.inr (.inr (.inr (.inl ⟨rfl, rfl, rfl, rfl, rfl⟩))))
      cases xf
      · exact .inr (.inr (.inr (.inr (.inr (.inl ⟨rfl, rfl, rfl, rfl, rfl, rfl⟩)))))
      cases xt
      · exact .inr (.inr (.inr (.inr (.inr (.inr (.inl ⟨rfl, rfl, rfl, rfl, rfl, rfl, rfl⟩))))))
      exact .inr (.inr (.inr (.inr (.inr (.inr (.inr (⟨rfl, rfl, rfl, rfl, rfl, rfl, rfl⟩)))))))) with rfl | ⟨rfl, rfl⟩ | ⟨rfl, rfl, rfl⟩ | ⟨rfl, rfl, rfl, rfl⟩ | ⟨rfl, rfl, rfl, rfl, rfl⟩ | ⟨rfl, rfl, rfl, rfl, rfl, rfl⟩ | ⟨rfl, rfl, rfl, rfl, rfl, rfl, rfl⟩ | ⟨rfl, rfl, rfl, rfl, rfl, rfl, rfl⟩
  all_goals go_enter Try.func25, Try.ntmps25
  all_goals go_upto_region 1 with fail
  all_goals rw [← HW.out]
  all_goals refine wp_plain_grow ?_
  all_goals (try simp only [List.append_eq, List.cons_append, List.nil_append])
  all_goals repeat (first | (go_big_quiet_want; refine quiet_mid 24 (.tmp 19) rfl w.heap.size 11 rfl _ _ Iob.out Try.underlying24 rfl id_info ?_; go_simp; go_big_quiet_on) | (go_big_quiet_want; refine quiet_mid 24 (.tmp 26) rfl w.heap.size 13 rfl _ _ ID.out Try.underlying24 rfl id_info ?_; go_simp; go_big_quiet_on) | go_big_quiet_step ((first | (go_at_call 23; with_reducible exact calls_grow (KO.out _)) | (go_at_call 23; with_reducible exact calls_grow (KD.out _)))) | quiet_step ((first | (go_at_call 23; with_reducible exact calls_grow (KO.out _)) | (go_at_call 23; with_reducible exact calls_grow (KD.out _)))))
  all_goals refine wpQuiet_nil ?_
  all_goals rintro w6 ⟨⟨_, hb6⟩, rfl⟩
  all_goals go_wp2_with fail
  all_goals go_ret
  all_goals exact ⟨by simp, below_call hbel hb6⟩
set_option maxHeartbeats 4000000 in
theorem made9 (ok : Nat → Prop) (e : Ev) (vg vb : Value) (w : World) (hin : EvIn w ok e vg vb) :
    Calls Try.prog 25 #[.agg (evC e vg vb), .bool false, .bool false, .bool false, .bool false, .bool false, .bool false, .bool false] w fun x w' => x = .returned (.bool (madeB e false false false false false false false)) ∧ Below w.heap.size w w' := by
  obtain ⟨Ag, cg, _, rfl, _⟩ := hin.gone
  obtain ⟨Ab, cb, _, rfl, _⟩ := hin.base
  obtain ⟨h1, hbel⟩ := ev_box (evC e (.slice Ag e.gone.length cg) (.slice Ab e.base.length cb)) 29 w
  obtain ⟨W, hW⟩ : ∃ W, W = (w.alloc (.cells (evC e (.slice Ag e.gone.length cg) (.slice Ab e.base.length cb)) 29)) := ⟨_, rfl⟩
  rw [← hW] at h1 hbel
  have Iob := Lib.hid (range_exts (ev_obj h1))
  have ko := fun y : Ext W => refzero_any e.orep e.oseq y.now
  have ID := Lib.hid (range_exts (ev_dir h1))
  have kd := fun y : Ext W => refzero_any e.drep e.dseq y.now
  have c_xn := fun y : Ext W => (EvCells.ext h1 y).name
  have c_xg := fun y : Ext W => (EvCells.ext h1 y).gone
  have c_xb := fun y : Ext W => (EvCells.ext h1 y).base
  have c_xf := fun y : Ext W => (EvCells.ext h1 y).off
  have c_xt := fun y : Ext W => (EvCells.ext h1 y).data
  have c_xw := fun y : Ext W => (EvCells.ext h1 y).ward
  unfold madeB
  obtain ⟨xo, h_xo⟩ : ∃ x, zeroI e.orep e.oseq = x := ⟨_, rfl⟩
  obtain ⟨xd, h_xd⟩ : ∃ x, zeroI e.drep e.dseq = x := ⟨_, rfl⟩
  obtain ⟨xn, h_xn⟩ : ∃ x, e.name.isEmpty = x := ⟨_, rfl⟩
  obtain ⟨xg, h_xg⟩ : ∃ x, e.gone.isEmpty = x := ⟨_, rfl⟩
  obtain ⟨xb, h_xb⟩ : ∃ x, e.base.isEmpty = x := ⟨_, rfl⟩
  obtain ⟨xf, h_xf⟩ : ∃ x, decide (e.off = 0) = x := ⟨_, rfl⟩
  obtain ⟨xt, h_xt⟩ : ∃ x, e.data.isEmpty = x := ⟨_, rfl⟩
  obtain ⟨xw, h_xw⟩ : ∃ x, decide (e.ward = 0) = x := ⟨_, rfl⟩
  rw [h_xo, h_xd, h_xn, h_xg, h_xb, h_xf, h_xt, h_xw]
  simp only [h_xo] at ko
  simp only [h_xd] at kd
  have l1_xg : ((e.gone.length : Int) == 0) = xg := by rw [← h_xg, Bool.eq_iff_iff, beq_iff_eq, List.isEmpty_iff, ← List.length_eq_zero_iff]; omega
  have l2_xg : (e.gone.length == 0) = xg := by rw [← h_xg, Bool.eq_iff_iff, beq_iff_eq, List.isEmpty_iff, List.length_eq_zero_iff]
  have l1_xb : ((e.base.length : Int) == 0) = xb := by rw [← h_xb, Bool.eq_iff_iff, beq_iff_eq, List.isEmpty_iff, ← List.length_eq_zero_iff]; omega
  have l2_xb : (e.base.length == 0) = xb := by rw [← h_xb, Bool.eq_iff_iff, beq_iff_eq, List.isEmpty_iff, List.length_eq_zero_iff]
  have l1_xf : (e.off == 0) = xf := by rw [← h_xf]; rfl
  have l1_xw : (e.ward == 0) = xw := by rw [← h_xw]; rfl
  have KO := Lib.hid ko
  clear ko h_xo
  have KD := Lib.hid kd
  clear kd h_xd
  clear h_xf
  clear h_xw
  have HW := Lib.hid hW
  clear hW h1 hin
  rcases (show (xo = false) ∨ (xo = true ∧ xd = false) ∨ (xo = true ∧ xd = true ∧ xn = false) ∨ (xo = true ∧ xd = true ∧ xn = true ∧ xg = false) ∨ (xo = true ∧ xd = true ∧ xn = true ∧ xg = true ∧ xb = false) ∨ (xo = true ∧ xd = true ∧ xn = true ∧ xg = true ∧ xb = true ∧ xf = false) ∨ (xo = true ∧ xd = true ∧ xn = true ∧ xg = true ∧ xb = true ∧ xf = true ∧ xt = false) ∨ (xo = true ∧ xd = true ∧ xn = true ∧ xg = true ∧ xb = true ∧ xf = true ∧ xt = true) from by
      cases xo
      · exact .inl rfl
      cases xd
      · exact .inr (.inl ⟨rfl, rfl⟩)
      cases xn
      · exact .inr (.inr (.inl ⟨rfl, rfl, rfl⟩))
      cases xg
      · exact .inr (.inr (.inr (.inl ⟨rfl, rfl, rfl, rfl⟩)))
      cases xb
      · exact .inr (.inr (.inr (.inr (.inl ⟨rfl, rfl, rfl, rfl, rfl⟩))))
      cases xf
      · exact .inr (.inr (.inr (.inr (.inr (.inl ⟨rfl, rfl, rfl, rfl, rfl, rfl⟩)))))
      cases xt
      · exact .inr (.inr (.inr (.inr (.inr (.inr (.inl ⟨rfl, rfl, rfl, rfl, rfl, rfl, rfl⟩))))))
      exact .inr (.inr (.inr (.inr (.inr (.inr (.inr (⟨rfl, rfl, rfl, rfl, rfl, rfl, rfl⟩)))))))) with rfl | ⟨rfl, rfl⟩ | ⟨rfl, rfl, rfl⟩ | ⟨rfl, rfl, rfl, rfl⟩ | ⟨rfl, rfl, rfl, rfl, rfl⟩ | ⟨rfl, rfl, rfl, rfl, rfl, rfl⟩ | ⟨rfl, rfl, rfl, rfl, rfl, rfl, rfl⟩ | ⟨rfl, rfl, rfl, rfl, rfl, rfl, rfl⟩
  all_goals go_enter Try.func25, Try.ntmps25
  all_goals go_upto_region 1 with fail
  all_goals rw [← HW.out]
  all_goals refine wp_plain_grow ?_
  all_goals (try simp only [List.append_eq, List.cons_append, List.nil_append])
  all_goals repeat (first | (go_big_quiet_want; refine quiet_mid 24 (.tmp 19) rfl w.heap.size 11 rfl _ _ Iob.out Try.underlying24 rfl id_info ?_; go_simp; go_big_quiet_on) | (go_big_quiet_want; refine quiet_mid 24 (.tmp 26) rfl w.heap.size 13 rfl _ _ ID.out Try.underlying24 rfl id_info ?_; go_simp; go_big_quiet_on) | go_big_quiet_step ((first | (go_at_call 23; with_reducible exact calls_grow (KO.out _)) | (go_at_call 23; with_reducible exact calls_grow (KD.out _)))) | quiet_step ((first | (go_at_call 23; with_reducible exact calls_grow (KO.out _)) | (go_at_call 23; with_reducible exact calls_grow (KD.out _)))))
  all_goals refine wpQuiet_nil ?_
  all_goals rintro w6 ⟨⟨_, hb6⟩, rfl⟩
  all_goals go_wp2_with fail
  all_goals go_ret
  all_goals exact ⟨by simp, below_call hbel hb6⟩
end Go.Proofs.Ytkojoahamoffcaa

namespace Go.Proofs.Ytkojoahamoffcaa
set_option maxRecDepth 100000

theorem head_no {e : Ev} (n m : Nat) (hn : n = getV e.dep e.rep) (hlt : n < 4294967296) (hm : m = (n + 1) % 4294967296) (h : decide (e.rep < 1) = true ∨ decide (8 < e.rep) = true ∨ decide (e.seq < 1) = true ∨ decide (1048576 < e.seq) = true ∨ (m != e.seq) = true) : headB e = false := by
  unfold headB
  rw [← hn]
  by_cases hr : repV e.rep = true
  · have h8 := repV_iff.1 hr
    have hd : decide (n + 1 = e.seq ∧ e.seq ≤ 1048576) = false := by
      rw [decide_eq_false_iff_not]
      intro ⟨h1, h2⟩
      rcases h with h | h | h | h | h
      · rw [decide_eq_true_iff] at h; omega
      · rw [decide_eq_true_iff] at h; omega
      · rw [decide_eq_true_iff] at h; omega
      · rw [decide_eq_true_iff] at h; omega
      · rw [bne_iff_ne] at h; omega
    rw [hd, Bool.and_false, Bool.false_and]
  · have hr' : repV e.rep = false := by simpa using hr
    rw [hr', Bool.false_and, Bool.false_and]
theorem head_yes {e : Ev} (n m : Nat) (hn : n = getV e.dep e.rep) (hlt : n < 4294967296) (hm : m = (n + 1) % 4294967296) (h1 : decide (e.rep < 1) = false) (h2 : decide (8 < e.rep) = false) (h3 : decide (e.seq < 1) = false) (h4 : decide (1048576 < e.seq) = false) (h5 : (m != e.seq) = false) : headB e = depB e.dep := by
  unfold headB
  rw [← hn]
  rw [decide_eq_false_iff_not] at h1 h2 h3 h4
  have h5' : m = e.seq := by simpa using h5
  have hr : repV e.rep = true := repV_iff.2 (by omega)
  rw [hr, decide_eq_true (by omega)]
  rfl
theorem and_empty {a : Bool} (h : a = false) (b : Bool) : (a && b) = false := by rw [h]; rfl
end Go.Proofs.Ytkojoahamoffcaa
