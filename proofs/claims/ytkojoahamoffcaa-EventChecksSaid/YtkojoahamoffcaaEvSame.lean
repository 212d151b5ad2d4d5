/-
  Same, and the document's Same.
-/
import Derived.Test.YtkojoahamoffcaaEvBase
namespace Go.Proofs.Ytkojoahamoffcaa
open Go.RowKit
set_option maxRecDepth 100000

theorem ways11 (x0 x1 x2 x3 x4 x5 x6 x7 x8 x9 x10 : Bool) : (x0 = false) ∨ (x0 = true ∧ x1 = false) ∨ (x0 = true ∧ x1 = true ∧ x2 = false) ∨ (x0 = true ∧ x1 = true ∧ x2 = true ∧ x3 = false) ∨ (x0 = true ∧ x1 = true ∧ x2 = true ∧ x3 = true ∧ x4 = false) ∨ (x0 = true ∧ x1 = true ∧ x2 = true ∧ x3 = true ∧ x4 = true ∧ x5 = false) ∨ (x0 = true ∧ x1 = true ∧ x2 = true ∧ x3 = true ∧ x4 = true ∧ x5 = true ∧ x6 = false) ∨ (x0 = true ∧ x1 = true ∧ x2 = true ∧ x3 = true ∧ x4 = true ∧ x5 = true ∧ x6 = true ∧ x7 = false) ∨ (x0 = true ∧ x1 = true ∧ x2 = true ∧ x3 = true ∧ x4 = true ∧ x5 = true ∧ x6 = true ∧ x7 = true ∧ x8 = false) ∨ (x0 = true ∧ x1 = true ∧ x2 = true ∧ x3 = true ∧ x4 = true ∧ x5 = true ∧ x6 = true ∧ x7 = true ∧ x8 = true ∧ x9 = false) ∨ (x0 = true ∧ x1 = true ∧ x2 = true ∧ x3 = true ∧ x4 = true ∧ x5 = true ∧ x6 = true ∧ x7 = true ∧ x8 = true ∧ x9 = true ∧ x10 = false) ∨ (x0 = true ∧ x1 = true ∧ x2 = true ∧ x3 = true ∧ x4 = true ∧ x5 = true ∧ x6 = true ∧ x7 = true ∧ x8 = true ∧ x9 = true ∧ x10 = true) := by
  cases x0
  · exact .inl rfl
  cases x1
  · exact .inr (.inl ⟨rfl, rfl⟩)
  cases x2
  · exact .inr (.inr (.inl ⟨rfl, rfl, rfl⟩))
  cases x3
  · exact .inr (.inr (.inr (.inl ⟨rfl, rfl, rfl, rfl⟩)))
  cases x4
  · exact .inr (.inr (.inr (.inr (.inl ⟨rfl, rfl, rfl, rfl, rfl⟩))))
  cases x5
  · exact .inr (.inr (.inr (.inr (.inr (.inl ⟨rfl, rfl, rfl, rfl, rfl, rfl⟩)))))
  cases x6
  · exact .inr (.inr (.inr (.inr (.inr (.inr (.inl ⟨rfl, rfl, rfl, rfl, rfl, rfl, rfl⟩))))))
  cases x7
  · exact .inr (.inr (.inr (.inr (.inr (.inr (.inr (.inl ⟨rfl, rfl, rfl, rfl, rfl, rfl, rfl, rfl⟩)))))))
  cases x8
  · exact .inr (.inr (.inr (.inr (.inr (.inr (.inr (.inr (.inl ⟨rfl, rfl, rfl, rfl, rfl, rfl, rfl, rfl, rfl⟩))))))))
  cases x9
  · exact .inr (.inr (.inr (.inr (.inr (.inr (.inr (.inr (.inr (.inl ⟨rfl, rfl, rfl, rfl, rfl, rfl, rfl, rfl, rfl, rfl⟩)))))))))
  cases x10
  · exact .inr (.inr (.inr (.inr (.inr (.inr (.inr (.inr (.inr (.inr (.inl ⟨rfl, rfl, rfl, rfl, rfl, rfl, rfl, rfl, rfl, rfl, rfl⟩))))))))))
  exact .inr (.inr (.inr (.inr (.inr (.inr (.inr (.inr (.inr (.inr (.inr (⟨rfl, rfl, rfl, rfl, rfl, rfl, rfl, rfl, rfl, rfl, rfl⟩)))))))))))
theorem boxesE (A B : Array Value) (t : TypeId) (w : World) : Blk ((w.alloc (.cells A t)).alloc (.cells B t)) w.heap.size t A ∧ Blk ((w.alloc (.cells A t)).alloc (.cells B t)) (w.heap.size + 1) t B ∧ Below w.heap.size w ((w.alloc (.cells A t)).alloc (.cells B t)) := by
  refine ⟨(Blk.new w _ _).alloc _, ?_, ((Below.refl _ _).alloc (Nat.le_refl _) _).alloc (by simp) _⟩
  have := Blk.new (w.alloc (.cells A t)) t B
  rw [World.size_alloc] at this
  exact this

set_option maxHeartbeats 4000000 in
theorem same_any (ok ok' : Nat → Prop) (a b : Ev) (va va' vb vb' : Value) (w : World) (hA : EvIn w ok a va va') (hB : EvIn w ok' b vb vb') :
    Calls Try.prog 17 #[.agg (evC a va va'), .agg (evC b vb vb')] w fun e w' => e = .returned (.bool (sameE a b)) ∧ Below w.heap.size w w' := by
  obtain ⟨h1, h2, hbel⟩ := boxesE (evC a va va') (evC b vb vb') 29 w
  obtain ⟨W, hW⟩ : ∃ W, W = ((w.alloc (.cells (evC a va va') 29)).alloc (.cells (evC b vb vb') 29)) := ⟨_, rfl⟩
  rw [← hW] at h1 h2 hbel
  have I0 := Lib.hid (range_exts (ev_id h1))
  have J0 := Lib.hid (range_exts (ev_id h2))
  have I1 := Lib.hid (range_exts (ev_dep h1))
  have J1 := Lib.hid (range_exts (ev_dep h2))
  have I3 := Lib.hid (range_exts (ev_obj h1))
  have J3 := Lib.hid (range_exts (ev_obj h2))
  have I4 := Lib.hid (range_exts (ev_dir h1))
  have J4 := Lib.hid (range_exts (ev_dir h2))
  have i2 := fun y : Ext W => (EvCells.ext h1 y).kind
  have i5 := fun y : Ext W => (EvCells.ext h1 y).name
  have i6 := fun y : Ext W => (EvCells.ext h1 y).gone
  have i7 := fun y : Ext W => (EvCells.ext h1 y).base
  have i8 := fun y : Ext W => (EvCells.ext h1 y).off
  have i9 := fun y : Ext W => (EvCells.ext h1 y).data
  have i10 := fun y : Ext W => (EvCells.ext h1 y).ward
  have j2 := fun y : Ext W => (EvCells.ext h2 y).kind
  have j5 := fun y : Ext W => (EvCells.ext h2 y).name
  have j6 := fun y : Ext W => (EvCells.ext h2 y).gone
  have j7 := fun y : Ext W => (EvCells.ext h2 y).base
  have j8 := fun y : Ext W => (EvCells.ext h2 y).off
  have j9 := fun y : Ext W => (EvCells.ext h2 y).data
  have j10 := fun y : Ext W => (EvCells.ext h2 y).ward
  have HW := Lib.hid hW
  have q0 := fun w => ideq_run a.rep a.seq b.rep b.seq w
  have q1 := fun w => eql_run a.dep b.dep w
  have q2 : (a.kind == b.kind) = decide (a.kind = b.kind) := rfl
  have q3 := fun w => ideq_run a.orep a.oseq b.orep b.oseq w
  have q4 := fun w => ideq_run a.drep a.dseq b.drep b.dseq w
  have q8 : (a.off == b.off) = decide (a.off = b.off) := rfl
  have q10 : (a.ward == b.ward) = decide (a.ward = b.ward) := rfl
  unfold vv at q1
  have k6 := fun y : Ext W => sleq_any ok ok' va vb a.gone b.gone y.now (hA.gone.grow (hbel.trans (y.out.mono hbel.size))) (hB.gone.grow (hbel.trans (y.out.mono hbel.size)))
  have k7 := fun y : Ext W => sleq_any ok ok' va' vb' a.base b.base y.now (hA.base.grow (hbel.trans (y.out.mono hbel.size))) (hB.base.grow (hbel.trans (y.out.mono hbel.size)))
  unfold sameE
  obtain ⟨x0, e0⟩ : ∃ x, x = sameI a.rep a.seq b.rep b.seq := ⟨_, rfl⟩
  obtain ⟨x1, e1⟩ : ∃ x, x = eqV a.dep b.dep := ⟨_, rfl⟩
  obtain ⟨x2, e2⟩ : ∃ x, x = decide (a.kind = b.kind) := ⟨_, rfl⟩
  obtain ⟨x3, e3⟩ : ∃ x, x = sameI a.orep a.oseq b.orep b.oseq := ⟨_, rfl⟩
  obtain ⟨x4, e4⟩ : ∃ x, x = sameI a.drep a.dseq b.drep b.dseq := ⟨_, rfl⟩
  obtain ⟨x5, q5⟩ : ∃ x, (a.name == b.name) = x := ⟨_, rfl⟩
  obtain ⟨x6, e6⟩ : ∃ x, x = sameL a.gone b.gone := ⟨_, rfl⟩
  obtain ⟨x7, e7⟩ : ∃ x, x = sameL a.base b.base := ⟨_, rfl⟩
  obtain ⟨x8, e8⟩ : ∃ x, x = decide (a.off = b.off) := ⟨_, rfl⟩
  obtain ⟨x9, q9⟩ : ∃ x, (a.data == b.data) = x := ⟨_, rfl⟩
  obtain ⟨x10, e10⟩ : ∃ x, x = decide (a.ward = b.ward) := ⟨_, rfl⟩
  rw [← e0, ← e1, ← e2, ← e3, ← e4, q5, ← e6, ← e7, ← e8, q9, ← e10]
  rw [← e2] at q2
  rw [← e8] at q8
  rw [← e10] at q10
  simp only [← e0] at q0
  simp only [← e1] at q1
  simp only [← e3] at q3
  simp only [← e4] at q4
  simp only [← e6] at k6
  simp only [← e7] at k7
  have K6 := Lib.hid k6
  have K7 := Lib.hid k7
  clear e0 e1 e2 e3 e4 e6 e7 e8 e10 k6 k7 h1 h2 hA hB hW
  rcases ways11 x0 x1 x2 x3 x4 x5 x6 x7 x8 x9 x10 with rfl | ⟨rfl, rfl⟩ | ⟨rfl, rfl, rfl⟩ | ⟨rfl, rfl, rfl, rfl⟩ | ⟨rfl, rfl, rfl, rfl, rfl⟩ | ⟨rfl, rfl, rfl, rfl, rfl, rfl⟩ | ⟨rfl, rfl, rfl, rfl, rfl, rfl, rfl⟩ | ⟨rfl, rfl, rfl, rfl, rfl, rfl, rfl, rfl⟩ | ⟨rfl, rfl, rfl, rfl, rfl, rfl, rfl, rfl, rfl⟩ | ⟨rfl, rfl, rfl, rfl, rfl, rfl, rfl, rfl, rfl, rfl⟩ | ⟨rfl, rfl, rfl, rfl, rfl, rfl, rfl, rfl, rfl, rfl, rfl⟩ | ⟨rfl, rfl, rfl, rfl, rfl, rfl, rfl, rfl, rfl, rfl, rfl⟩
  all_goals go_enter Try.func17, Try.ntmps17
  all_goals go_upto_region 1 with fail
  all_goals rw [← HW.out]
  all_goals refine wp_plain_grow ?_
  all_goals simp only [List.append_eq, List.cons_append, List.nil_append]
  all_goals repeat (first | (go_big_quiet_want; refine quiet_mid 24 (.tmp 5) rfl w.heap.size 0 rfl _ _ I0.out Try.underlying24 rfl id_info ?_; go_simp; go_big_quiet_on) | (go_big_quiet_want; refine quiet_mid 24 (.tmp 7) rfl (w.heap.size + 1) 0 rfl _ _ J0.out Try.underlying24 rfl id_info ?_; go_simp; go_big_quiet_on) | (go_big_quiet_want; refine quiet_mid 26 (.tmp 11) rfl w.heap.size 2 rfl _ _ I1.out Try.underlying26 rfl vec_info ?_; go_simp; go_big_quiet_on) | (go_big_quiet_want; refine quiet_mid 26 (.tmp 13) rfl (w.heap.size + 1) 2 rfl _ _ J1.out Try.underlying26 rfl vec_info ?_; go_simp; go_big_quiet_on) | (go_big_quiet_want; refine quiet_mid 24 (.tmp 25) rfl w.heap.size 11 rfl _ _ I3.out Try.underlying24 rfl id_info ?_; go_simp; go_big_quiet_on) | (go_big_quiet_want; refine quiet_mid 24 (.tmp 27) rfl (w.heap.size + 1) 11 rfl _ _ J3.out Try.underlying24 rfl id_info ?_; go_simp; go_big_quiet_on) | (go_big_quiet_want; refine quiet_mid 24 (.tmp 32) rfl w.heap.size 13 rfl _ _ I4.out Try.underlying24 rfl id_info ?_; go_simp; go_big_quiet_on) | (go_big_quiet_want; refine quiet_mid 24 (.tmp 34) rfl (w.heap.size + 1) 13 rfl _ _ J4.out Try.underlying24 rfl id_info ?_; go_simp; go_big_quiet_on) | go_big_quiet_step ((first | (go_at_call 40; with_reducible exact calls_grow (K6.out _)) | (go_at_call 40; with_reducible exact calls_grow (K7.out _)))) | quiet_step ((first | (go_at_call 40; exact calls_grow (K6.out _)) | (go_at_call 40; exact calls_grow (K7.out _)))))
  all_goals refine wpQuiet_nil ?_
  all_goals rintro w6 ⟨⟨_, hb6⟩, rfl⟩
  all_goals go_wp2_with fail
  all_goals go_ret
  all_goals exact ⟨rfl, below_call hbel hb6⟩

set_option maxHeartbeats 4000000 in
theorem refsame_any (ok ok' : Nat → Prop) (a b : Ev) (va va' vb vb' : Value) (w : World) (hA : EvIn w ok a va va') (hB : EvIn w ok' b vb vb') :
    Calls Try.prog 16 #[.agg (evC a va va'), .agg (evC b vb vb')] w fun e w' => e = .returned (.bool (sameE a b)) ∧ Below w.heap.size w w' := by
  obtain ⟨h1, h2, hbel⟩ := boxesE (evC a va va') (evC b vb vb') 29 w
  obtain ⟨W, hW⟩ : ∃ W, W = ((w.alloc (.cells (evC a va va') 29)).alloc (.cells (evC b vb vb') 29)) := ⟨_, rfl⟩
  rw [← hW] at h1 h2 hbel
  have I0 := Lib.hid (range_exts (ev_id h1))
  have J0 := Lib.hid (range_exts (ev_id h2))
  have I1 := Lib.hid (range_exts (ev_dep h1))
  have J1 := Lib.hid (range_exts (ev_dep h2))
  have I3 := Lib.hid (range_exts (ev_obj h1))
  have J3 := Lib.hid (range_exts (ev_obj h2))
  have I4 := Lib.hid (range_exts (ev_dir h1))
  have J4 := Lib.hid (range_exts (ev_dir h2))
  have i2 := fun y : Ext W => (EvCells.ext h1 y).kind
  have i5 := fun y : Ext W => (EvCells.ext h1 y).name
  have i6 := fun y : Ext W => (EvCells.ext h1 y).gone
  have i7 := fun y : Ext W => (EvCells.ext h1 y).base
  have i8 := fun y : Ext W => (EvCells.ext h1 y).off
  have i9 := fun y : Ext W => (EvCells.ext h1 y).data
  have i10 := fun y : Ext W => (EvCells.ext h1 y).ward
  have j2 := fun y : Ext W => (EvCells.ext h2 y).kind
  have j5 := fun y : Ext W => (EvCells.ext h2 y).name
  have j6 := fun y : Ext W => (EvCells.ext h2 y).gone
  have j7 := fun y : Ext W => (EvCells.ext h2 y).base
  have j8 := fun y : Ext W => (EvCells.ext h2 y).off
  have j9 := fun y : Ext W => (EvCells.ext h2 y).data
  have j10 := fun y : Ext W => (EvCells.ext h2 y).ward
  have HW := Lib.hid hW
  have q0 := fun w => ideq_run a.rep a.seq b.rep b.seq w
  have q1 := fun w => eql_run a.dep b.dep w
  have q2 : (a.kind == b.kind) = decide (a.kind = b.kind) := rfl
  have q3 := fun w => ideq_run a.orep a.oseq b.orep b.oseq w
  have q4 := fun w => ideq_run a.drep a.dseq b.drep b.dseq w
  have q8 : (a.off == b.off) = decide (a.off = b.off) := rfl
  have q10 : (a.ward == b.ward) = decide (a.ward = b.ward) := rfl
  unfold vv at q1
  have k6 := fun y : Ext W => refids_any ok ok' va vb a.gone b.gone y.now (hA.gone.grow (hbel.trans (y.out.mono hbel.size))) (hB.gone.grow (hbel.trans (y.out.mono hbel.size)))
  have k7 := fun y : Ext W => refids_any ok ok' va' vb' a.base b.base y.now (hA.base.grow (hbel.trans (y.out.mono hbel.size))) (hB.base.grow (hbel.trans (y.out.mono hbel.size)))
  unfold sameE
  obtain ⟨x0, e0⟩ : ∃ x, x = sameI a.rep a.seq b.rep b.seq := ⟨_, rfl⟩
  obtain ⟨x1, e1⟩ : ∃ x, x = eqV a.dep b.dep := ⟨_, rfl⟩
  obtain ⟨x2, e2⟩ : ∃ x, x = decide (a.kind = b.kind) := ⟨_, rfl⟩
  obtain ⟨x3, e3⟩ : ∃ x, x = sameI a.orep a.oseq b.orep b.oseq := ⟨_, rfl⟩
  obtain ⟨x4, e4⟩ : ∃ x, x = sameI a.drep a.dseq b.drep b.dseq := ⟨_, rfl⟩
  obtain ⟨x5, q5⟩ : ∃ x, (a.name == b.name) = x := ⟨_, rfl⟩
  obtain ⟨x6, e6⟩ : ∃ x, x = sameL a.gone b.gone := ⟨_, rfl⟩
  obtain ⟨x7, e7⟩ : ∃ x, x = sameL a.base b.base := ⟨_, rfl⟩
  obtain ⟨x8, e8⟩ : ∃ x, x = decide (a.off = b.off) := ⟨_, rfl⟩
  obtain ⟨x9, q9⟩ : ∃ x, (a.data == b.data) = x := ⟨_, rfl⟩
  obtain ⟨x10, e10⟩ : ∃ x, x = decide (a.ward = b.ward) := ⟨_, rfl⟩
  rw [← e0, ← e1, ← e2, ← e3, ← e4, q5, ← e6, ← e7, ← e8, q9, ← e10]
  rw [← e2] at q2
  rw [← e8] at q8
  rw [← e10] at q10
  simp only [← e0] at q0
  simp only [← e1] at q1
  simp only [← e3] at q3
  simp only [← e4] at q4
  simp only [← e6] at k6
  simp only [← e7] at k7
  have K6 := Lib.hid k6
  have K7 := Lib.hid k7
  clear e0 e1 e2 e3 e4 e6 e7 e8 e10 k6 k7 h1 h2 hA hB hW
  rcases ways11 x0 x1 x2 x3 x4 x5 x6 x7 x8 x9 x10 with rfl | ⟨rfl, rfl⟩ | ⟨rfl, rfl, rfl⟩ | ⟨rfl, rfl, rfl, rfl⟩ | ⟨rfl, rfl, rfl, rfl, rfl⟩ | ⟨rfl, rfl, rfl, rfl, rfl, rfl⟩ | ⟨rfl, rfl, rfl, rfl, rfl, rfl, rfl⟩ | ⟨rfl, rfl, rfl, rfl, rfl, rfl, rfl, rfl⟩ | ⟨rfl, rfl, rfl, rfl, rfl, rfl, rfl, rfl, rfl⟩ | ⟨rfl, rfl, rfl, rfl, rfl, rfl, rfl, rfl, rfl, rfl⟩ | ⟨rfl, rfl, rfl, rfl, rfl, rfl, rfl, rfl, rfl, rfl, rfl⟩ | ⟨rfl, rfl, rfl, rfl, rfl, rfl, rfl, rfl, rfl, rfl, rfl⟩
  all_goals go_enter Try.func16, Try.ntmps16
  all_goals go_upto_region 1 with fail
  all_goals rw [← HW.out]
  all_goals refine wp_plain_grow ?_
  all_goals simp only [List.append_eq, List.cons_append, List.nil_append]
  all_goals repeat (first | (go_big_quiet_want; refine quiet_mid 24 (.tmp 5) rfl w.heap.size 0 rfl _ _ I0.out Try.underlying24 rfl id_info ?_; go_simp; go_big_quiet_on) | (go_big_quiet_want; refine quiet_mid 24 (.tmp 7) rfl (w.heap.size + 1) 0 rfl _ _ J0.out Try.underlying24 rfl id_info ?_; go_simp; go_big_quiet_on) | (go_big_quiet_want; refine quiet_mid 26 (.tmp 11) rfl w.heap.size 2 rfl _ _ I1.out Try.underlying26 rfl vec_info ?_; go_simp; go_big_quiet_on) | (go_big_quiet_want; refine quiet_mid 26 (.tmp 13) rfl (w.heap.size + 1) 2 rfl _ _ J1.out Try.underlying26 rfl vec_info ?_; go_simp; go_big_quiet_on) | (go_big_quiet_want; refine quiet_mid 24 (.tmp 25) rfl w.heap.size 11 rfl _ _ I3.out Try.underlying24 rfl id_info ?_; go_simp; go_big_quiet_on) | (go_big_quiet_want; refine quiet_mid 24 (.tmp 27) rfl (w.heap.size + 1) 11 rfl _ _ J3.out Try.underlying24 rfl id_info ?_; go_simp; go_big_quiet_on) | (go_big_quiet_want; refine quiet_mid 24 (.tmp 32) rfl w.heap.size 13 rfl _ _ I4.out Try.underlying24 rfl id_info ?_; go_simp; go_big_quiet_on) | (go_big_quiet_want; refine quiet_mid 24 (.tmp 34) rfl (w.heap.size + 1) 13 rfl _ _ J4.out Try.underlying24 rfl id_info ?_; go_simp; go_big_quiet_on) | go_big_quiet_step ((first | (go_at_call 39; with_reducible exact calls_grow (K6.out _)) | (go_at_call 39; with_reducible exact calls_grow (K7.out _)))) | quiet_step ((first | (go_at_call 39; exact calls_grow (K6.out _)) | (go_at_call 39; exact calls_grow (K7.out _)))))
  all_goals refine wpQuiet_nil ?_
  all_goals rintro w6 ⟨⟨_, hb6⟩, rfl⟩
  all_goals go_wp2_with fail
  all_goals go_ret
  all_goals exact ⟨rfl, below_call hbel hb6⟩
end Go.Proofs.Ytkojoahamoffcaa
