/-
  The document's vectors: Next, Has, One, With, Less.
-/
import Derived.Test.YtjakgmidhpddoaaDoorVec8
namespace Go.Proofs.YtjakgmidhpddoaaDoor
open Go.RowKit
set_option maxRecDepth 100000

set_option maxHeartbeats 400000 in
theorem refhas_any (V : Nat → Nat) (r : Int) (s : Nat) (w : World) :
    Calls Tryd.prog 23 #[vv V, idv r s] w fun e w' => e = .returned (.bool (hasV V r s)) ∧ Below w.heap.size w w' := by
  obtain ⟨b, hb⟩ : ∃ b, b = hasV V r s := ⟨_, rfl⟩
  rw [← hb]
  have hA0 : Blk ((w.alloc (.cells (av V) 24)).alloc (.cells #[.int .i64 r, .int .u32 (s : Int)] 30)) w.heap.size 24 (av V) := (Blk.new w _ _).alloc _
  have hB0 : Blk ((w.alloc (.cells (av V) 24)).alloc (.cells #[.int .i64 r, .int .u32 (s : Int)] 30)) (w.heap.size + 1) 30 #[.int .i64 r, .int .u32 (s : Int)] := by
    have := Blk.new (w.alloc (.cells (av V) 24)) 30 #[.int .i64 r, .int .u32 (s : Int)]
    simpa using this
  have hbel : Below w.heap.size w ((w.alloc (.cells (av V) 24)).alloc (.cells #[.int .i64 r, .int .u32 (s : Int)] 30)) := ((Below.refl _ _).alloc (Nat.le_refl _) _).alloc (by simp) _
  have hget := fun w => refget_any V r w
  obtain ⟨n, hn⟩ : ∃ n, n = getV V r := ⟨_, rfl⟩
  rw [← hn] at hget
  have hb2 : b = decide (0 < s ∧ s ≤ n) := by rw [hb, hn]; rfl
  have HA := Lib.hid hA0
  have HB := Lib.hid hB0
  have Hb := Lib.hid hb2
  have Hget := Lib.hid hget
  clear hA0 hB0 hb hn hb2 hget
  unfold vv idv
  obtain ⟨W, hW⟩ : ∃ W, W = ((w.alloc (.cells (av V) 24)).alloc (.cells #[.int .i64 r, .int .u32 (s : Int)] 30)) := ⟨_, rfl⟩
  rw [← hW] at HA HB hbel
  have HW := Lib.hid hW
  clear hW
  by_cases h0 : 0 < s
  · have hg : decide ((0 : Int) < (s : Int)) = true := by simpa using h0
    have hv : ∀ (y : Ext W) (i : Nat), i < 8 → y.now.cell? ⟨w.heap.size, i, none⟩ = some (.int .u32 (V i : Int)) := fun y i hi => by rw [(HA.out.grow y.out).cell, av_get V hi]
    have h1 : ∀ (y : Ext W), y.now.cell? ⟨w.heap.size + 1, 0, none⟩ = some (.int .i64 r) := fun y => by rw [(HB.out.grow y.out).cell]; rfl
    have h2 : ∀ (y : Ext W), y.now.cell? ⟨w.heap.size + 1, 1, none⟩ = some (.int .u32 (s : Int)) := fun y => by rw [(HB.out.grow y.out).cell]; rfl
    go_enter Tryd.func23, Tryd.ntmps23
    go_wp2_with fail
    rw [← HW.out]
    refine wp_region_grow (by kernel_rfl) (by kernel_rfl) ?_
    repeat (first | go_big_quiet_step ((go_at_call 21; exact calls_grow (Hget.out _))) | quiet_step ((go_at_call 21; exact calls_grow (Hget.out _))))
    refine wpQuiet_nil ?_
    rintro _ ⟨⟨w6, hb6⟩, rfl⟩
    go_wp2
    go_ret
    refine ⟨?_, hbel.trans (hb6.mono hbel.size)⟩
    rw [Hb.out]
    have e : decide (0 < s ∧ s ≤ n) = decide (s ≤ n) := by simp [h0]
    rw [e]
    rfl
  · have hg : decide ((0 : Int) < (s : Int)) = false := by simpa using h0
    have h2 : ∀ (y : Ext W), y.now.cell? ⟨w.heap.size + 1, 1, none⟩ = some (.int .u32 (s : Int)) := fun y => by rw [(HB.out.grow y.out).cell]; rfl
    go_enter Tryd.func23, Tryd.ntmps23
    go_wp2_with fail
    rw [← HW.out]
    refine wp_region_grow (by kernel_rfl) (by kernel_rfl) ?_
    repeat (first | go_big_quiet_step (fail) | quiet_step (fail))
    refine wpQuiet_nil ?_
    rintro _ ⟨⟨w6, hb6⟩, rfl⟩
    go_wp2
    go_ret
    refine ⟨?_, hbel.trans (hb6.mono hbel.size)⟩
    rw [Hb.out]
    have e : decide (0 < s ∧ s ≤ n) = false := by simp [h0]
    rw [e]
    rfl

set_option maxHeartbeats 400000 in
theorem refnext_any (V : Nat → Nat) (hV : okV V) (r : Int) (w : World) :
    Calls Tryd.prog 19 #[vv V, .int .i64 r] w fun e w' => e = .returned (.tuple #[vv (nextV V r).1, .int .i64 (nextV V r).2]) ∧ Below w.heap.size w w' := by
  obtain ⟨R, hR⟩ : ∃ R, R = nextV V r := ⟨_, rfl⟩
  rw [← hR]
  have hA0 : Blk ((w.alloc (.cells (av V) 24)).alloc (.cells #[.int .u32 0, .int .u32 0, .int .u32 0, .int .u32 0, .int .u32 0, .int .u32 0, .int .u32 0, .int .u32 0] 24)) w.heap.size 24 (av V) := (Blk.new w _ _).alloc _
  have hC0 : Blk ((w.alloc (.cells (av V) 24)).alloc (.cells #[.int .u32 0, .int .u32 0, .int .u32 0, .int .u32 0, .int .u32 0, .int .u32 0, .int .u32 0, .int .u32 0] 24)) (w.heap.size + 1) 24 (av zeroV) := by
    have := Blk.new (w.alloc (.cells (av V) 24)) 24 (av zeroV)
    rw [World.size_alloc] at this
    exact this
  have hbel : Below w.heap.size w ((w.alloc (.cells (av V) 24)).alloc (.cells #[.int .u32 0, .int .u32 0, .int .u32 0, .int .u32 0, .int .u32 0, .int .u32 0, .int .u32 0, .int .u32 0] 24)) := ((Below.refl _ _).alloc (Nat.le_refl _) _).alloc (by simp) _
  have HA := Lib.hid hA0
  have HC := Lib.hid hC0
  clear hC0
  cases hr : repV r with
  | false =>
    have hR2 : R = (zeroV, 1) := by rw [hR]; unfold nextV; rw [hr]; rfl
    subst hR2
    have hno : ¬ (1 ≤ r ∧ r ≤ 8) := fun h => by rw [repV_iff.2 h] at hr; cases hr
    clear hR hr hA0
    unfold vv
    by_cases hlo : r < 1
    · have hd : decide (r < 1) = true := by simpa using hlo
      go_enter Tryd.func19, Tryd.ntmps19
      go_wp2_with (refine wpList_store_row rfl 24 (.tmp 4) (.tmp 12) rfl (w.heap.size + 1) (av zeroV) rfl rfl 24 _ HC.out vec_info rfl (av_one _) ?_)
      have hend := HC.out.setRow_ (av zeroV)
      exact bodyPost_ret (v := .tuple #[vv zeroV, .int .i64 1]) (results_cell_tmp Tryd.results19 _ _ (w.heap.size + 1) 24 (av zeroV) (0, 0) _ _ rfl rfl hend Tryd.underlying24 rfl vec_info) rfl ⟨rfl, below_setRow hbel (by omega) _⟩
    · have hd : decide (r < 1) = false := by simpa using hlo
      have hd2 : decide (8 < r) = true := by rw [decide_eq_true_iff]; omega
      go_enter Tryd.func19, Tryd.ntmps19
      go_wp2_with (refine wpList_store_row rfl 24 (.tmp 4) (.tmp 12) rfl (w.heap.size + 1) (av zeroV) rfl rfl 24 _ HC.out vec_info rfl (av_one _) ?_)
      have hend := HC.out.setRow_ (av zeroV)
      exact bodyPost_ret (v := .tuple #[vv zeroV, .int .i64 1]) (results_cell_tmp Tryd.results19 _ _ (w.heap.size + 1) 24 (av zeroV) (0, 0) _ _ rfl rfl hend Tryd.underlying24 rfl vec_info) rfl ⟨rfl, below_setRow hbel (by omega) _⟩
  | true =>
    obtain ⟨h1, h2⟩ := repV_iff.1 hr
    obtain ⟨k, hk⟩ : ∃ k : Nat, r = (k : Int) + 1 := ⟨(r - 1).toNat, by omega⟩
    subst hk
    have hk8 : k < 8 := by omega
    have hkt : ((k : Int) + 1 - 1).toNat = k := by omega
    have hd1 : decide ((k : Int) + 1 < 1) = false := by rw [decide_eq_false_iff_not]; omega
    have hd2 : decide (8 < (k : Int) + 1) = false := by rw [decide_eq_false_iff_not]; omega
    have hcell : ((w.alloc (.cells (av V) 24)).alloc (.cells #[.int .u32 0, .int .u32 0, .int .u32 0, .int .u32 0, .int .u32 0, .int .u32 0, .int .u32 0, .int .u32 0] 24)).cell? ⟨w.heap.size, k, none⟩ = some (.int .u32 (V k : Int)) := by
      rw [hA0.cell, av_get V (by omega)]
    have hfrz : ((w.alloc (.cells (av V) 24)).alloc (.cells #[.int .u32 0, .int .u32 0, .int .u32 0, .int .u32 0, .int .u32 0, .int .u32 0, .int .u32 0, .int .u32 0] 24)).frozen? ⟨w.heap.size, k, none⟩ = false := hA0.frozen k
    have hVk := hV k hk8
    by_cases hmax : 1048576 ≤ V k
    · have hR2 : R = (zeroV, 12) := by rw [hR]; unfold nextV; rw [if_pos hr, hkt, if_pos hmax]
      subst hR2
      have hge : decide ((1048576 : Int) ≤ (V k : Int)) = true := by rw [decide_eq_true_iff]; omega
      clear hR hr hA0 hkt hmax hVk hV
      unfold vv
      go_enter Tryd.func19, Tryd.ntmps19
      go_wp2_with (first | (refine wpList_store_row rfl 24 (.tmp 4) (.tmp 18) rfl (w.heap.size + 1) (av zeroV) rfl rfl 24 _ HC.out vec_info rfl (av_one _) ?_))
      have hend := HC.out.setRow_ (av zeroV)
      exact bodyPost_ret (v := .tuple #[vv zeroV, .int .i64 12]) (results_cell_tmp Tryd.results19 _ _ (w.heap.size + 1) 24 (av zeroV) (0, 0) _ _ rfl rfl hend Tryd.underlying24 rfl vec_info) rfl ⟨rfl, below_setRow hbel (by omega) _⟩
    · have hR2 : R = (updV V k (V k + 1), 0) := by rw [hR]; unfold nextV; rw [if_pos hr, hkt, if_neg hmax]
      subst hR2
      have hset := av_set V k (V k + 1) hk8
      have hx : ((V k + 1 : Nat) : Int) = (V k : Int) + 1 := by omega
      rw [hx] at hset
      have hs : Blk ((w.alloc (.cells ((av V).setIfInBounds k (.int .u32 ((V k : Int) + 1))) 24)).alloc (.cells #[.int .u32 0, .int .u32 0, .int .u32 0, .int .u32 0, .int .u32 0, .int .u32 0, .int .u32 0, .int .u32 0] 24)) w.heap.size 24 (av (updV V k (V k + 1))) := by
        rw [← hset]; exact (Blk.new w _ _).alloc _
      have hs2 : Blk ((w.alloc (.cells ((av V).setIfInBounds k (.int .u32 ((V k : Int) + 1))) 24)).alloc (.cells #[.int .u32 0, .int .u32 0, .int .u32 0, .int .u32 0, .int .u32 0, .int .u32 0, .int .u32 0, .int .u32 0] 24)) (w.heap.size + 1) 24 (av zeroV) := by
        have := Blk.new (w.alloc (.cells ((av V).setIfInBounds k (.int .u32 ((V k : Int) + 1))) 24)) 24 (av zeroV)
        rw [World.size_alloc] at this
        exact this
      have Hs := Lib.hid hs
      have Hs2 := Lib.hid hs2
      have hge : decide ((1048576 : Int) ≤ (V k : Int)) = false := by rw [decide_eq_false_iff_not]; omega
      have hsum : IntKind.u32.wrap ((V k : Int) + 1) = (V k : Int) + 1 := by rw [IntKind.wrap_u32]; omega
      clear hR hr hA0 hkt hs hs2 hx hset hmax hVk hV
      have hbel2 : Below w.heap.size w ((w.alloc (.cells ((av V).setIfInBounds k (.int .u32 ((V k : Int) + 1))) 24)).alloc (.cells #[.int .u32 0, .int .u32 0, .int .u32 0, .int .u32 0, .int .u32 0, .int .u32 0, .int .u32 0, .int .u32 0] 24)) := ((Below.refl _ _).alloc (Nat.le_refl _) _).alloc (by simp) _
      unfold vv
      go_enter Tryd.func19, Tryd.ntmps19
      go_wp2_with (first | (refine wpList_load_row rfl 24 (.tmp 2) rfl w.heap.size rfl 24 (av (updV V k (V k + 1))) (0, 0) _ Hs.out Tryd.underlying24 rfl vec_info ?_) | (refine wpList_store_row rfl 24 (.tmp 4) (.tmp 27) rfl (w.heap.size + 1) (av (updV V k (V k + 1))) rfl rfl 24 _ Hs2.out vec_info rfl (av_one _) ?_))
      have hend := Hs2.out.setRow_ (av (updV V k (V k + 1)))
      exact bodyPost_ret (v := .tuple #[vv (updV V k (V k + 1)), .int .i64 0]) (results_cell_tmp Tryd.results19 _ _ (w.heap.size + 1) 24 (av (updV V k (V k + 1))) (0, 0) _ _ rfl rfl hend Tryd.underlying24 rfl vec_info) rfl ⟨rfl, below_setRow hbel2 (by omega) _⟩

theorem refless_any (r : Int) (s : Nat) (r' : Int) (s' : Nat) (w : World) :
    Calls Tryd.prog 27 #[idv r s, idv r' s'] w fun e w' => e = .returned (.bool (lessV r s r' s')) ∧ Below w.heap.size w w' := by
  obtain ⟨b, hb⟩ : ∃ b, b = lessV r s r' s' := ⟨_, rfl⟩
  rw [← hb]
  have hbel : Below w.heap.size w ((w.alloc (.cells #[.int .i64 r, .int .u32 (s : Int)] 30)).alloc (.cells #[.int .i64 r', .int .u32 (s' : Int)] 30)) := ((Below.refl _ _).alloc (Nat.le_refl _) _).alloc (by simp) _
  unfold idv
  by_cases he : s < s'
  · have hb2 : b = true := by rw [hb]; unfold lessV; simp [he]
    have hd : decide ((s : Int) < (s' : Int)) = true := by simpa using he
    have Hb := Lib.hid hb2
    clear hb hb2
    go_enter Tryd.func27, Tryd.ntmps27
    go_wp2
    go_ret
    exact ⟨by rw [Hb.out]; rfl, hbel⟩
  · have hd : decide ((s : Int) < (s' : Int)) = false := by simpa using he
    by_cases he2 : s = s'
    · subst he2
      have hb2 : b = decide (r < r') := by rw [hb]; unfold lessV; simp
      have Hb := Lib.hid hb2
      clear hb hb2
      go_enter Tryd.func27, Tryd.ntmps27
      go_wp2
      go_ret
      exact ⟨by rw [Hb.out]; rfl, hbel⟩
    · have hb2 : b = false := by rw [hb]; unfold lessV; simp [he, he2]
      have hne : ((s : Int) == (s' : Int)) = false := by rw [beq_eq_false_iff_ne]; omega
      have Hb := Lib.hid hb2
      clear hb hb2
      go_enter Tryd.func27, Tryd.ntmps27
      go_wp2
      go_ret
      exact ⟨by rw [Hb.out]; rfl, hbel⟩
end Go.Proofs.YtjakgmidhpddoaaDoor
