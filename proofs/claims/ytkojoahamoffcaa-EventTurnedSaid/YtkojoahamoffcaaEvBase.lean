/-
  Has, Less, Next of vectors, and the document's Get, Has, Less.
  Events as values: twenty-one cells; numbers in lists; equality of numbers; arguments opened.
  slices.Equal over numbers, and the document's SameIDs.
  The rest of a plain region, walked as a quiet one: reads, and calls that answer one plain value each and let memory grow.
-/
import Derived.Test.YtkojoahamoffcaaVec1
import Derived.Test.YtkojoahamoffcaaVecBase
import Derived.Test.YtkojoahamoffcaaEvAlg
import Derived.Test.YtkojoahamoffcaaKinds2
import Derived.Test.YtkojoahamoffcaaSpOpen
import Derived.Deep.MidRow
import Derived.Laws.StructEq
import Derived.BigQuiet
import Derived.Lib.Hide
import Derived.Deep.Cut
import Derived.Deep.DeepCutAuto
namespace Go.Proofs.Ytkojoahamoffcaa
open Go.RowKit
set_option maxRecDepth 100000

/-- An event's number as a value. -/
def idv (r : Int) (s : Nat) : Value := .agg #[.int .i64 r, .int .u32 (s : Int)]

set_option maxHeartbeats 400000 in
theorem has_any (V : Nat → Nat) (r : Int) (s : Nat) (w : World) :
    Calls Try.prog 43 #[vv V, idv r s] w fun e w' => e = .returned (.bool (hasV V r s)) ∧ Below w.heap.size w w' := by
  obtain ⟨b, hb⟩ : ∃ b, b = hasV V r s := ⟨_, rfl⟩
  rw [← hb]
  have hA0 : Blk ((w.alloc (.cells (av V) 26)).alloc (.cells #[.int .i64 r, .int .u32 (s : Int)] 24)) w.heap.size 26 (av V) := (Blk.new w _ _).alloc _
  have hB0 : Blk ((w.alloc (.cells (av V) 26)).alloc (.cells #[.int .i64 r, .int .u32 (s : Int)] 24)) (w.heap.size + 1) 24 #[.int .i64 r, .int .u32 (s : Int)] := by
    have := Blk.new (w.alloc (.cells (av V) 26)) 24 #[.int .i64 r, .int .u32 (s : Int)]
    simpa using this
  have hbel : Below w.heap.size w ((w.alloc (.cells (av V) 26)).alloc (.cells #[.int .i64 r, .int .u32 (s : Int)] 24)) := ((Below.refl _ _).alloc (Nat.le_refl _) _).alloc (by simp) _
  have hget := fun w => get_any V r w
  obtain ⟨n, hn⟩ : ∃ n, n = getV V r := ⟨_, rfl⟩
  rw [← hn] at hget
  have hb2 : b = decide (0 < s ∧ s ≤ n) := by rw [hb, hn]; rfl
  have HA := Lib.hid hA0
  have HB := Lib.hid hB0
  have Hb := Lib.hid hb2
  have Hget := Lib.hid hget
  clear hA0 hB0 hb hn hb2 hget
  unfold vv idv
  obtain ⟨W, hW⟩ : ∃ W, W = ((w.alloc (.cells (av V) 26)).alloc (.cells #[.int .i64 r, .int .u32 (s : Int)] 24)) := ⟨_, rfl⟩
  rw [← hW] at HA HB hbel
  have HW := Lib.hid hW
  clear hW
  by_cases h0 : 0 < s
  · have hg : decide ((0 : Int) < (s : Int)) = true := by simpa using h0
    have hv : ∀ (y : Ext W) (i : Nat), i < 8 → y.now.cell? ⟨w.heap.size, i, none⟩ = some (.int .u32 (V i : Int)) := fun y i hi => by rw [(HA.out.grow y.out).cell, av_get V hi]
    have h1 : ∀ (y : Ext W), y.now.cell? ⟨w.heap.size + 1, 0, none⟩ = some (.int .i64 r) := fun y => by rw [(HB.out.grow y.out).cell]; rfl
    have h2 : ∀ (y : Ext W), y.now.cell? ⟨w.heap.size + 1, 1, none⟩ = some (.int .u32 (s : Int)) := fun y => by rw [(HB.out.grow y.out).cell]; rfl
    go_enter Try.func43, Try.ntmps43
    go_wp2_with fail
    rw [← HW.out]
    refine wp_region_grow (by kernel_rfl) (by kernel_rfl) ?_
    repeat (first | go_big_quiet_step ((go_at_call 42; exact calls_grow (Hget.out _))) | quiet_step ((go_at_call 42; exact calls_grow (Hget.out _))))
    refine wpQuiet_nil ?_
    rintro _ ⟨⟨w6, hb6⟩, rfl⟩
    go_wp2
    go_ret
    refine ⟨?_, hbel.trans (hb6.mono hbel.size)⟩
    rw [Hb.out]
    have e : decide (0 < s ∧ s ≤ n) = decide (s ≤ n) := by simp [h0]
    rw [e]
    rfl
  · have hg : decide ((0 : Int) < (s : Int)) = false := by simpa using h0
    have h2 : ∀ (y : Ext W), y.now.cell? ⟨w.heap.size + 1, 1, none⟩ = some (.int .u32 (s : Int)) := fun y => by rw [(HB.out.grow y.out).cell]; rfl
    go_enter Try.func43, Try.ntmps43
    go_wp2_with fail
    rw [← HW.out]
    refine wp_region_grow (by kernel_rfl) (by kernel_rfl) ?_
    repeat (first | go_big_quiet_step (fail) | quiet_step (fail))
    refine wpQuiet_nil ?_
    rintro _ ⟨⟨w6, hb6⟩, rfl⟩
    go_wp2
    go_ret
    refine ⟨?_, hbel.trans (hb6.mono hbel.size)⟩
    rw [Hb.out]
    have e : decide (0 < s ∧ s ≤ n) = false := by simp [h0]
    rw [e]
    rfl


theorem less_any (r : Int) (s : Nat) (r' : Int) (s' : Nat) (w : World) :
    Calls Try.prog 59 #[idv r s, idv r' s'] w fun e w' => e = .returned (.bool (lessV r s r' s')) ∧ Below w.heap.size w w' := by
  obtain ⟨b, hb⟩ : ∃ b, b = lessV r s r' s' := ⟨_, rfl⟩
  rw [← hb]
  have hbel : Below w.heap.size w ((w.alloc (.cells #[.int .i64 r, .int .u32 (s : Int)] 24)).alloc (.cells #[.int .i64 r', .int .u32 (s' : Int)] 24)) := ((Below.refl _ _).alloc (Nat.le_refl _) _).alloc (by simp) _
  unfold idv
  by_cases he : s = s'
  · subst he
    have hb2 : b = decide (r < r') := by rw [hb]; unfold lessV; simp
    have Hb := Lib.hid hb2
    clear hb hb2
    go_enter Try.func59, Try.ntmps59
    go_wp2
    go_ret
    exact ⟨by rw [Hb.out]; rfl, hbel⟩
  · have hb2 : b = decide (s < s') := by rw [hb]; unfold lessV; simp [he]
    have hne : ((s : Int) == (s' : Int)) = false := by rw [beq_eq_false_iff_ne]; omega
    have Hb := Lib.hid hb2
    clear hb hb2
    go_enter Try.func59, Try.ntmps59
    go_wp2
    all_goals go_ret
    all_goals exact ⟨by rw [Hb.out]; rfl, hbel⟩

set_option maxHeartbeats 400000 in
theorem next_any (V : Nat → Nat) (hV : okV V) (r : Int) (w : World) :
    Calls Try.prog 41 #[vv V, .int .i64 r] w fun e w' => e = .returned (.tuple #[vv (nextV V r).1, .int .i64 (nextV V r).2]) ∧ Below w.heap.size w w' := by
  obtain ⟨R, hR⟩ : ∃ R, R = nextV V r := ⟨_, rfl⟩
  rw [← hR]
  have hA0 : Blk ((w.alloc (.cells (av V) 26)).alloc (.cells #[.int .u32 0, .int .u32 0, .int .u32 0, .int .u32 0, .int .u32 0, .int .u32 0, .int .u32 0, .int .u32 0] 26)) w.heap.size 26 (av V) := (Blk.new w _ _).alloc _
  have hC0 : Blk ((w.alloc (.cells (av V) 26)).alloc (.cells #[.int .u32 0, .int .u32 0, .int .u32 0, .int .u32 0, .int .u32 0, .int .u32 0, .int .u32 0, .int .u32 0] 26)) (w.heap.size + 1) 26 (av zeroV) := by
    have := Blk.new (w.alloc (.cells (av V) 26)) 26 (av zeroV)
    rw [World.size_alloc] at this
    exact this
  have hbel : Below w.heap.size w ((w.alloc (.cells (av V) 26)).alloc (.cells #[.int .u32 0, .int .u32 0, .int .u32 0, .int .u32 0, .int .u32 0, .int .u32 0, .int .u32 0, .int .u32 0] 26)) := ((Below.refl _ _).alloc (Nat.le_refl _) _).alloc (by simp) _
  have HA := Lib.hid hA0
  have HC := Lib.hid hC0
  clear hC0
  cases hr : repV r with
  | false =>
    have hR2 : R = (zeroV, 1) := by rw [hR]; unfold nextV; rw [hr]; rfl
    subst hR2
    have Hr := Lib.hid hr
    clear hR hr hA0
    unfold vv
    go_enter Try.func41, Try.ntmps41
    go_wp2_with (first | (go_at_call 58; refine (isrep_any _ _).mono ?_; rintro e w1 ⟨rfl, rfl⟩; rw [Hr.out]) | (refine wpList_store_row rfl 26 (.tmp 4) (.tmp 9) rfl (w.heap.size + 1) (av zeroV) rfl rfl 26 _ HC.out vec_info rfl (av_one _) ?_))
    have hend := HC.out.setRow_ (av zeroV)
    exact bodyPost_ret (v := .tuple #[vv zeroV, .int .i64 1]) (results_cell_tmp Try.results41 _ _ (w.heap.size + 1) 26 (av zeroV) (0, 0) _ _ rfl rfl hend Try.underlying26 rfl vec_info) rfl ⟨rfl, below_setRow hbel (by omega) _⟩
  | true =>
    obtain ⟨h1, h2⟩ := repV_iff.1 hr
    obtain ⟨k, hk⟩ : ∃ k : Nat, r = (k : Int) + 1 := ⟨(r - 1).toNat, by omega⟩
    subst hk
    have hk8 : k < 8 := by omega
    have hkt : ((k : Int) + 1 - 1).toNat = k := by omega
    have hcell : ((w.alloc (.cells (av V) 26)).alloc (.cells #[.int .u32 0, .int .u32 0, .int .u32 0, .int .u32 0, .int .u32 0, .int .u32 0, .int .u32 0, .int .u32 0] 26)).cell? ⟨w.heap.size, k, none⟩ = some (.int .u32 (V k : Int)) := by
      rw [hA0.cell, av_get V (by omega)]
    have hfrz : ((w.alloc (.cells (av V) 26)).alloc (.cells #[.int .u32 0, .int .u32 0, .int .u32 0, .int .u32 0, .int .u32 0, .int .u32 0, .int .u32 0, .int .u32 0] 26)).frozen? ⟨w.heap.size, k, none⟩ = false := hA0.frozen k
    have hVk := hV k hk8
    by_cases hmax : 1048576 ≤ V k
    · have hR2 : R = (zeroV, 12) := by rw [hR]; unfold nextV; rw [if_pos hr, hkt, if_pos hmax]
      subst hR2
      have Hr := Lib.hid hr
      have hge : decide ((1048576 : Int) ≤ (V k : Int)) = true := by rw [decide_eq_true_iff]; omega
      clear hR hr hA0 hkt hmax hVk hV
      unfold vv
      go_enter Try.func41, Try.ntmps41
      go_wp2_with (first | (go_at_call 58; refine (isrep_any _ _).mono ?_; rintro e w1 ⟨rfl, rfl⟩; rw [Hr.out]) | (refine wpList_store_row rfl 26 (.tmp 4) (.tmp 15) rfl (w.heap.size + 1) (av zeroV) rfl rfl 26 _ HC.out vec_info rfl (av_one _) ?_))
      have hend := HC.out.setRow_ (av zeroV)
      exact bodyPost_ret (v := .tuple #[vv zeroV, .int .i64 12]) (results_cell_tmp Try.results41 _ _ (w.heap.size + 1) 26 (av zeroV) (0, 0) _ _ rfl rfl hend Try.underlying26 rfl vec_info) rfl ⟨rfl, below_setRow hbel (by omega) _⟩
    · have hR2 : R = (updV V k (V k + 1), 0) := by rw [hR]; unfold nextV; rw [if_pos hr, hkt, if_neg hmax]
      subst hR2
      have hset := av_set V k (V k + 1) hk8
      have hx : ((V k + 1 : Nat) : Int) = (V k : Int) + 1 := by omega
      rw [hx] at hset
      have hs : Blk ((w.alloc (.cells ((av V).setIfInBounds k (.int .u32 ((V k : Int) + 1))) 26)).alloc (.cells #[.int .u32 0, .int .u32 0, .int .u32 0, .int .u32 0, .int .u32 0, .int .u32 0, .int .u32 0, .int .u32 0] 26)) w.heap.size 26 (av (updV V k (V k + 1))) := by
        rw [← hset]; exact (Blk.new w _ _).alloc _
      have hs2 : Blk ((w.alloc (.cells ((av V).setIfInBounds k (.int .u32 ((V k : Int) + 1))) 26)).alloc (.cells #[.int .u32 0, .int .u32 0, .int .u32 0, .int .u32 0, .int .u32 0, .int .u32 0, .int .u32 0, .int .u32 0] 26)) (w.heap.size + 1) 26 (av zeroV) := by
        have := Blk.new (w.alloc (.cells ((av V).setIfInBounds k (.int .u32 ((V k : Int) + 1))) 26)) 26 (av zeroV)
        rw [World.size_alloc] at this
        exact this
      have Hs := Lib.hid hs
      have Hs2 := Lib.hid hs2
      have Hr := Lib.hid hr
      have hge : decide ((1048576 : Int) ≤ (V k : Int)) = false := by rw [decide_eq_false_iff_not]; omega
      have hsum : IntKind.u32.wrap ((V k : Int) + 1) = (V k : Int) + 1 := by rw [IntKind.wrap_u32]; omega
      clear hR hr hA0 hkt hs hs2 hx hset hmax hVk hV
      have hbel2 : Below w.heap.size w ((w.alloc (.cells ((av V).setIfInBounds k (.int .u32 ((V k : Int) + 1))) 26)).alloc (.cells #[.int .u32 0, .int .u32 0, .int .u32 0, .int .u32 0, .int .u32 0, .int .u32 0, .int .u32 0, .int .u32 0] 26)) := ((Below.refl _ _).alloc (Nat.le_refl _) _).alloc (by simp) _
      unfold vv
      go_enter Try.func41, Try.ntmps41
      go_wp2_with (first | (go_at_call 58; refine (isrep_any _ _).mono ?_; rintro e w1 ⟨rfl, rfl⟩; rw [Hr.out]) | (refine wpList_load_row rfl 26 (.tmp 2) rfl w.heap.size rfl 26 (av (updV V k (V k + 1))) (0, 0) _ Hs.out Try.underlying26 rfl vec_info ?_) | (refine wpList_store_row rfl 26 (.tmp 4) (.tmp 22) rfl (w.heap.size + 1) (av (updV V k (V k + 1))) rfl rfl 26 _ Hs2.out vec_info rfl (av_one _) ?_))
      have hend := Hs2.out.setRow_ (av (updV V k (V k + 1)))
      exact bodyPost_ret (v := .tuple #[vv (updV V k (V k + 1)), .int .i64 0]) (results_cell_tmp Try.results41 _ _ (w.heap.size + 1) 26 (av (updV V k (V k + 1))) (0, 0) _ _ rfl rfl hend Try.underlying26 rfl vec_info) rfl ⟨rfl, below_setRow hbel2 (by omega) _⟩

theorem refget_any (V : Nat → Nat) (r : Int) (w : World) :
    Calls Try.prog 21 #[vv V, .int .i64 r] w fun e w' => e = .returned (.int .u32 (getV V r : Int)) ∧ Below w.heap.size w w' := by
  obtain ⟨n, hn⟩ : ∃ n, n = getV V r := ⟨_, rfl⟩
  rw [← hn]
  have Hn := Lib.hid hn
  clear hn
  have hA0 : Blk (w.alloc (.cells (av V) 26)) w.heap.size 26 (av V) := Blk.new w _ _
  have hbel : Below w.heap.size w (w.alloc (.cells (av V) 26)) := (Below.refl _ _).alloc (Nat.le_refl _) _
  have HA := Lib.hid hA0
  clear hA0
  unfold vv
  go_enter Try.func21, Try.ntmps21
  go_wp2
  go_loop [5] (fun i => ∃ k : Nat, k ≤ 8 ∧ i = .int .i64 (k : Int) ∧ ∀ j, j < k → ((j : Nat) : Int) + 1 ≠ r) (fun i => 8 - (intOf i).toNat)
  case atStart => exact ⟨0, by omega, rfl, fun j hj => by omega⟩
  case round =>
    obtain ⟨k, hk, rfl, hall⟩ := hrel
    have Hall := Lib.hid hall
    clear hall
    by_cases hlt : k < 8
    · have hc : (w.alloc (.cells (av V) 26)).cell? ⟨w.heap.size, k, none⟩ = some (.int .u32 (V k : Int)) := by rw [HA.out.cell, av_get V hlt]
      by_cases he : (k : Int) + 1 = r
      · have he1 : ((k : Int) + 1 == r) = true := by simpa using he
        have hn2 : n = V k := by
          rw [Hn.out]; unfold getV; rw [if_pos (repV_iff.2 (by omega))]; congr 1; omega
        have Hn2 := Lib.hid hn2
        clear he hn2
        go_wp2
        go_ret
        exact ⟨by rw [Hn2.out]; rfl, hbel⟩
      · have he1 : ((k : Int) + 1 == r) = false := by simpa using he
        have He := Lib.hid he
        clear he
        go_wp2
        go_round
        case rel => exact ⟨k + 1, by omega, by go_num, fun j hj => by
          by_cases e : j = k
          · subst e; exact He.out
          · exact Hall.out j (by omega)⟩
        case measure => simp [intOf]; omega
    · obtain rfl : k = 8 := by omega
      have hn2 : n = 0 := by
        rw [Hn.out]; unfold getV
        rw [if_neg]
        rw [repV_iff]
        intro h
        exact Hall.out (r - 1).toNat (by omega) (by omega)
      have Hn2 := Lib.hid hn2
      clear hn2
      go_wp2
      go_ret
      exact ⟨by rw [Hn2.out]; rfl, hbel⟩

set_option maxHeartbeats 400000 in
theorem refhas_any (V : Nat → Nat) (r : Int) (s : Nat) (w : World) :
    Calls Try.prog 22 #[vv V, idv r s] w fun e w' => e = .returned (.bool (hasV V r s)) ∧ Below w.heap.size w w' := by
  obtain ⟨b, hb⟩ : ∃ b, b = hasV V r s := ⟨_, rfl⟩
  rw [← hb]
  have hA0 : Blk ((w.alloc (.cells (av V) 26)).alloc (.cells #[.int .i64 r, .int .u32 (s : Int)] 24)) w.heap.size 26 (av V) := (Blk.new w _ _).alloc _
  have hB0 : Blk ((w.alloc (.cells (av V) 26)).alloc (.cells #[.int .i64 r, .int .u32 (s : Int)] 24)) (w.heap.size + 1) 24 #[.int .i64 r, .int .u32 (s : Int)] := by
    have := Blk.new (w.alloc (.cells (av V) 26)) 24 #[.int .i64 r, .int .u32 (s : Int)]
    simpa using this
  have hbel : Below w.heap.size w ((w.alloc (.cells (av V) 26)).alloc (.cells #[.int .i64 r, .int .u32 (s : Int)] 24)) := ((Below.refl _ _).alloc (Nat.le_refl _) _).alloc (by simp) _
  have hget := fun w => refget_any V r w
  obtain ⟨n, hn⟩ : ∃ n, n = getV V r := ⟨_, rfl⟩
  rw [← hn] at hget
  have hb2 : b = decide (0 < s ∧ s ≤ n) := by rw [hb, hn]; rfl
  have HA := Lib.hid hA0
  have HB := Lib.hid hB0
  have Hb := Lib.hid hb2
  have Hget := Lib.hid hget
  clear hA0 hB0 hb hn hb2 hget
  unfold vv idv
  obtain ⟨W, hW⟩ : ∃ W, W = ((w.alloc (.cells (av V) 26)).alloc (.cells #[.int .i64 r, .int .u32 (s : Int)] 24)) := ⟨_, rfl⟩
  rw [← hW] at HA HB hbel
  have HW := Lib.hid hW
  clear hW
  by_cases h0 : 0 < s
  · have hg : decide ((0 : Int) < (s : Int)) = true := by simpa using h0
    have hv : ∀ (y : Ext W) (i : Nat), i < 8 → y.now.cell? ⟨w.heap.size, i, none⟩ = some (.int .u32 (V i : Int)) := fun y i hi => by rw [(HA.out.grow y.out).cell, av_get V hi]
    have h1 : ∀ (y : Ext W), y.now.cell? ⟨w.heap.size + 1, 0, none⟩ = some (.int .i64 r) := fun y => by rw [(HB.out.grow y.out).cell]; rfl
    have h2 : ∀ (y : Ext W), y.now.cell? ⟨w.heap.size + 1, 1, none⟩ = some (.int .u32 (s : Int)) := fun y => by rw [(HB.out.grow y.out).cell]; rfl
    go_enter Try.func22, Try.ntmps22
    go_wp2_with fail
    rw [← HW.out]
    refine wp_region_grow (by kernel_rfl) (by kernel_rfl) ?_
    repeat (first | go_big_quiet_step ((go_at_call 21; exact calls_grow (Hget.out _))) | quiet_step ((go_at_call 21; exact calls_grow (Hget.out _))))
    refine wpQuiet_nil ?_
    rintro _ ⟨⟨w6, hb6⟩, rfl⟩
    go_wp2
    go_ret
    refine ⟨?_, hbel.trans (hb6.mono hbel.size)⟩
    rw [Hb.out]
    have e : decide (0 < s ∧ s ≤ n) = decide (s ≤ n) := by simp [h0]
    rw [e]
    rfl
  · have hg : decide ((0 : Int) < (s : Int)) = false := by simpa using h0
    have h2 : ∀ (y : Ext W), y.now.cell? ⟨w.heap.size + 1, 1, none⟩ = some (.int .u32 (s : Int)) := fun y => by rw [(HB.out.grow y.out).cell]; rfl
    go_enter Try.func22, Try.ntmps22
    go_wp2_with fail
    rw [← HW.out]
    refine wp_region_grow (by kernel_rfl) (by kernel_rfl) ?_
    repeat (first | go_big_quiet_step (fail) | quiet_step (fail))
    refine wpQuiet_nil ?_
    rintro _ ⟨⟨w6, hb6⟩, rfl⟩
    go_wp2
    go_ret
    refine ⟨?_, hbel.trans (hb6.mono hbel.size)⟩
    rw [Hb.out]
    have e : decide (0 < s ∧ s ≤ n) = false := by simp [h0]
    rw [e]
    rfl

theorem refless_any (r : Int) (s : Nat) (r' : Int) (s' : Nat) (w : World) :
    Calls Try.prog 47 #[idv r s, idv r' s'] w fun e w' => e = .returned (.bool (lessV r s r' s')) ∧ Below w.heap.size w w' := by
  obtain ⟨b, hb⟩ : ∃ b, b = lessV r s r' s' := ⟨_, rfl⟩
  rw [← hb]
  have hbel : Below w.heap.size w ((w.alloc (.cells #[.int .i64 r, .int .u32 (s : Int)] 24)).alloc (.cells #[.int .i64 r', .int .u32 (s' : Int)] 24)) := ((Below.refl _ _).alloc (Nat.le_refl _) _).alloc (by simp) _
  unfold idv
  by_cases he : s < s'
  · have hb2 : b = true := by rw [hb]; unfold lessV; simp [he]
    have hd : decide ((s : Int) < (s' : Int)) = true := by simpa using he
    have Hb := Lib.hid hb2
    clear hb hb2
    go_enter Try.func47, Try.ntmps47
    go_wp2
    go_ret
    exact ⟨by rw [Hb.out]; rfl, hbel⟩
  · have hd : decide ((s : Int) < (s' : Int)) = false := by simpa using he
    by_cases he2 : s = s'
    · subst he2
      have hb2 : b = decide (r < r') := by rw [hb]; unfold lessV; simp
      have Hb := Lib.hid hb2
      clear hb hb2
      go_enter Try.func47, Try.ntmps47
      go_wp2
      go_ret
      exact ⟨by rw [Hb.out]; rfl, hbel⟩
    · have hb2 : b = false := by rw [hb]; unfold lessV; simp [he, he2]
      have hne : ((s : Int) == (s' : Int)) = false := by rw [beq_eq_false_iff_ne]; omega
      have Hb := Lib.hid hb2
      clear hb hb2
      go_enter Try.func47, Try.ntmps47
      go_wp2
      go_ret
      exact ⟨by rw [Hb.out]; rfl, hbel⟩
end Go.Proofs.Ytkojoahamoffcaa

namespace Go.Proofs.Ytkojoahamoffcaa
open Go.RowKit Go.WideShapes
set_option maxRecDepth 100000

/-! ### Numbers -/
def idC (r : Int) (s : Nat) : Array Value := #[.int .i64 r, .int .u32 (s : Int)]
theorem idv_idC (r : Int) (s : Nat) : idv r s = .agg (idC r s) := rfl
def kU32 : Kind Nat where
  size := 1
  R _ _ cs n := cs = [.int .u32 (n : Int)] ∧ n < 4294967296
  len h := by rw [h.1]; rfl
  move h _ := h
def kId : Kind (Int × Nat) := kPair (kInt .i64) kU32
theorem kU32_flat : kU32.Flat := fun h => h
theorem kId_flat : kId.Flat := kPair_flat (kInt_flat _) kU32_flat
/-- An int. -/
def I64 (n : Int) : Prop := -9223372036854775808 ≤ n ∧ n ≤ 9223372036854775807
def okP (p : Int × Nat) : Prop := I64 p.1 ∧ p.2 < 4294967296
theorem kId_cells {w : World} {ok : Nat → Prop} {cs : List Value} {p : Int × Nat} : kId.R w ok cs p ↔ cs = (idC p.1 p.2).toList ∧ okP p := by
  constructor
  · rintro ⟨c, d, rfl, ⟨h1, h2⟩, ⟨h3, h4⟩⟩
    subst h1 h3
    exact ⟨rfl, by simpa [Lit.wf, IntKind.min, IntKind.max, IntKind.signed, IntKind.bits, I64] using h2, h4⟩
  · rintro ⟨rfl, h2, h4⟩
    exact ⟨[.int .i64 p.1], [.int .u32 (p.2 : Int)], rfl, ⟨rfl, by simpa [Lit.wf, IntKind.min, IntKind.max, IntKind.signed, IntKind.bits, I64] using h2⟩, ⟨rfl, h4⟩⟩
theorem Blk.range {W : World} {g : Nat} {t : TypeId} {cs : Array Value} (h : Blk W g t cs) (o : Nat) (xs : List Value) (hx : ∀ (j : Nat) v, xs[j]? = some v → cs[o + j]? = some v) : W.rangeAt g o xs := fun j v hv => by rw [h.cell]; exact hx j v hv
theorem range_ext {W : World} {g o : Nat} {xs : List Value} (h : W.rangeAt g o xs) {W' : World} (hb : Below W.heap.size W W') : W'.rangeAt g o xs := fun j v hv => (hb.cell (World.block_lt_of_cell? W _ (h j v hv))).trans (h j v hv)
/-- The elements of a list of numbers. -/
theorem id_at {w : World} {ok : Nat → Prop} {v : Value} {L : List (Int × Nat)} (h : IsL kId w ok v L) :
    ∃ A c, v = .slice A L.length c ∧ L.length ≤ c ∧ c ≤ maxLen ∧ (L ≠ [] → ∃ b off, A = some ⟨b, off, none⟩ ∧ ok b ∧ b < w.heap.size ∧
      ∀ (i : Nat) (hi : i < L.length), w.rangeAt b (off + i * 2) (idC L[i].1 L[i].2).toList ∧ okP L[i]) := by
  obtain ⟨A, c, e, h1, h2, h3⟩ := h.elem (by show 0 < 1 + 1; omega)
  refine ⟨A, c, e, h1, h2, fun hn => ?_⟩
  obtain ⟨b, off, hA, ho, hlt, hc⟩ := h3 hn
  refine ⟨b, off, hA, ho, hlt, fun i hi => ?_⟩
  obtain ⟨cs, hr, hcs⟩ := hc i hi
  obtain ⟨rfl, hok⟩ := kId_cells.1 hr
  refine ⟨fun j u hu => ?_, hok⟩
  obtain ⟨hj, e⟩ := List.getElem?_eq_some_iff.1 hu
  have := hcs j hj
  rw [e] at this
  rw [← this]
  congr 2
  show off + i * 2 + j = off + (i * (1 + 1) + j)
  omega
theorem IsL.le {α : Type} {K : Kind α} {w : World} {ok : Nat → Prop} {v : Value} {L : List α} (h : IsL K w ok v L) : L.length ≤ maxLen := by
  obtain ⟨_, _, _, _, h1, h2, _⟩ := h
  omega
theorem id_info : (Try.prog.info? 24).map (·.size) = some 2 := by kernel_rfl
theorem ev_info : (Try.prog.info? 29).map (·.size) = some 21 := by kernel_rfl
theorem idC_one (r : Int) (s : Nat) : (idC r s).all (·.oneCell') = true := by simp [idC, Value.oneCell']
/-- '==' of numbers. -/
theorem ideq_run (r : Int) (s : Nat) (r' : Int) (s' : Nat) (w : World) : (binOp .eql 24 (.agg (idC r s)) (.agg (idC r' s'))).run Try.prog w = .ok (.bool (sameI r s r' s')) w := by
  have u3 := Try.underlying3
  have a3 := Try.isAgg3
  have z3 := Try.sizeOf3
  have u4 := Try.underlying22
  have a4 := Try.isAgg22
  have z4 := Try.sizeOf22
  have hS : Try.prog.underlying 24 = some (.struct (Try.prog.fieldsOf 24)) := by kernel_rfl
  have hp : Try.prog.stoodInHeld 24 = false := by kernel_rfl
  unfold idC
  rw [run_eql_struct, show (10000 : Nat) = 9999 + 1 from rfl, run_equalIn_agg w 9999 24 _ _ hS hp]
  simp only [Program.fieldsOf, Try.underlying24]
  go_simp
  unfold sameI
  by_cases h1 : r = r' <;> by_cases h2 : s = s' <;> simp [h1, h2]
  all_goals omega

/-! ### Events -/
def evC (e : Ev) (vg vb : Value) : Array Value := #[.int .i64 e.rep, .int .u32 (e.seq : Int), .int .u32 (e.dep 0 : Int), .int .u32 (e.dep 1 : Int), .int .u32 (e.dep 2 : Int), .int .u32 (e.dep 3 : Int), .int .u32 (e.dep 4 : Int), .int .u32 (e.dep 5 : Int), .int .u32 (e.dep 6 : Int), .int .u32 (e.dep 7 : Int),
  .int .i64 e.kind, .int .i64 e.orep, .int .u32 (e.oseq : Int), .int .i64 e.drep, .int .u32 (e.dseq : Int), str e.name, vg, vb, .int .i64 e.off, str e.data, .int .i64 e.ward]
/-- How far the parts of any event go. -/
structure EvOk (e : Ev) : Prop where
  rep : I64 e.rep
  seq : e.seq < 4294967296
  dep : okV e.dep
  kind : I64 e.kind
  obj : I64 e.orep ∧ e.oseq < 4294967296
  dir : I64 e.drep ∧ e.dseq < 4294967296
  name : e.name.length ≤ maxLen
  off : I64 e.off
  data : e.data.length ≤ maxLen
  ward : I64 e.ward
/-- An event whose lists lie there. -/
structure EvIn (w : World) (ok : Nat → Prop) (e : Ev) (vg vb : Value) : Prop where
  fits : EvOk e
  gone : IsL kId w ok vg e.gone
  base : IsL kId w ok vb e.base
theorem EvIn.grow {w w' : World} {ok : Nat → Prop} {e : Ev} {vg vb : Value} (h : EvIn w ok e vg vb) (hb : Below w.heap.size w w') : EvIn w' ok e vg vb := ⟨h.fits, h.gone.grow hb, h.base.grow hb⟩
theorem EvIn.any {w : World} {ok : Nat → Prop} {e : Ev} {vg vb : Value} (h : EvIn w ok e vg vb) : EvIn w (fun _ => True) e vg vb := ⟨h.fits, h.gone.weaken fun _ _ => trivial, h.base.weaken fun _ _ => trivial⟩
theorem evC_size (e : Ev) (vg vb : Value) : (evC e vg vb).size = 21 := rfl
theorem evC_one {w : World} {ok : Nat → Prop} {e : Ev} {vg vb : Value} (h : EvIn w ok e vg vb) : (evC e vg vb).all (·.oneCell') = true := by
  obtain ⟨_, _, _, rfl, _⟩ := h.gone
  obtain ⟨_, _, _, rfl, _⟩ := h.base
  simp [evC, Value.oneCell']
theorem i64_zero : I64 0 := by unfold I64; omega
theorem zeroE_in (w : World) (ok : Nat → Prop) : EvIn w ok zeroE (.slice none 0 0) (.slice none 0 0) := ⟨⟨i64_zero, by decide, okV_zero, i64_zero, ⟨i64_zero, by decide⟩, ⟨i64_zero, by decide⟩, Nat.zero_le _, i64_zero, Nat.zero_le _, i64_zero⟩, IsL.nil, IsL.nil⟩
section
variable {W : World} {g : Nat} {t : TypeId} {e : Ev} {vg vb : Value}
theorem ev_id (h : Blk W g t (evC e vg vb)) : W.rangeAt g 0 (idC e.rep e.seq).toList := h.range _ _ fun j v hv => by
  match j, hv with
  | 0, hv => exact hv
  | 1, hv => exact hv
theorem ev_dep (h : Blk W g t (evC e vg vb)) : W.rangeAt g 2 (av e.dep).toList := h.range _ _ fun j v hv => by
  match j, hv with
  | 0, hv => exact hv
  | 1, hv => exact hv
  | 2, hv => exact hv
  | 3, hv => exact hv
  | 4, hv => exact hv
  | 5, hv => exact hv
  | 6, hv => exact hv
  | 7, hv => exact hv
theorem ev_obj (h : Blk W g t (evC e vg vb)) : W.rangeAt g 11 (idC e.orep e.oseq).toList := h.range _ _ fun j v hv => by
  match j, hv with
  | 0, hv => exact hv
  | 1, hv => exact hv
theorem ev_dir (h : Blk W g t (evC e vg vb)) : W.rangeAt g 13 (idC e.drep e.dseq).toList := h.range _ _ fun j v hv => by
  match j, hv with
  | 0, hv => exact hv
  | 1, hv => exact hv
theorem ev_all (h : Blk W g t (evC e vg vb)) : W.rangeAt g 0 (evC e vg vb).toList := h.range _ _ fun j v hv => by rw [Nat.zero_add, ← Array.getElem?_toList]; exact hv
end
/-- The cells of an event behind a pointer that are read alone. -/
structure EvCells (W : World) (g : Nat) (e : Ev) (vg vb : Value) : Prop where
  rep : W.cell? ⟨g, 0, none⟩ = some (.int .i64 e.rep)
  seq : W.cell? ⟨g, 1, none⟩ = some (.int .u32 (e.seq : Int))
  kind : W.cell? ⟨g, 10, none⟩ = some (.int .i64 e.kind)
  name : W.cell? ⟨g, 15, none⟩ = some (str e.name)
  gone : W.cell? ⟨g, 16, none⟩ = some vg
  base : W.cell? ⟨g, 17, none⟩ = some vb
  off : W.cell? ⟨g, 18, none⟩ = some (.int .i64 e.off)
  data : W.cell? ⟨g, 19, none⟩ = some (str e.data)
  ward : W.cell? ⟨g, 20, none⟩ = some (.int .i64 e.ward)
theorem Blk.ev {W : World} {g : Nat} {t : TypeId} {e : Ev} {vg vb : Value} (h : Blk W g t (evC e vg vb)) : EvCells W g e vg vb :=
  ⟨by rw [h.cell]; rfl, by rw [h.cell]; rfl, by rw [h.cell]; rfl, by rw [h.cell]; rfl, by rw [h.cell]; rfl, by rw [h.cell]; rfl, by rw [h.cell]; rfl, by rw [h.cell]; rfl, by rw [h.cell]; rfl⟩

/-! ### Opening -/
theorem opens_u32 {P : Program} {t : TypeId} (ht : P.underlying t = some (.int .u32)) : Opens P t kU32 := fun h => by
  obtain ⟨n, h1, h2⟩ := Opens.int ht h
  have hw : 0 ≤ n ∧ n < 4294967296 := by
    simp [Lit.wf, IntKind.min, IntKind.max, IntKind.signed, IntKind.bits] at h2
    omega
  exact ⟨n.toNat, by rw [h1, Int.toNat_of_nonneg hw.1], by omega⟩
def kVec : Kind (Nat → Nat) where
  size := 8
  R _ _ cs V := cs = (av V).toList ∧ okV V
  len h := by rw [h.1]; rfl
  move h _ := h
theorem opens_vec : Opens Try.prog 26 kVec := fun h => by
  obtain ⟨L, hl, hm⟩ := Opens.array (K := kInt .u32) Try.underlying26 (by kernel_rfl) (by kernel_rfl) (Opens.int Try.underlying22) h
  exact cells8 hl hm
theorem opens_id : Opens Try.prog 24 kId :=
  Opens.struct Try.underlying24 (by kernel_rfl) (OpenFs.cons rfl (by kernel_rfl) (Opens.int Try.underlying3) (OpenFs.one rfl (by kernel_rfl) (opens_u32 Try.underlying22)))
theorem opens_ids : Opens Try.prog 27 (kSlice kId) := Opens.slice Try.underlying27 opens_id (by kernel_rfl)
def kEvT := kPair kId (kPair kVec (kPair (kInt .i64) (kPair kId (kPair kId (kPair kStr (kPair (kSlice kId) (kPair (kSlice kId) (kPair (kInt .i64) (kPair kStr (kInt .i64))))))))))
theorem opens_ev : Opens Try.prog 29 kEvT :=
  Opens.struct Try.underlying29 (by kernel_rfl) (OpenFs.cons rfl (by kernel_rfl) opens_id (OpenFs.cons rfl (by kernel_rfl) opens_vec (OpenFs.cons rfl (by kernel_rfl) (Opens.int Try.underlying3) (OpenFs.cons rfl (by kernel_rfl) opens_id (OpenFs.cons rfl (by kernel_rfl) opens_id
    (OpenFs.cons rfl (by kernel_rfl) (Opens.str Try.underlying9) (OpenFs.cons rfl (by kernel_rfl) opens_ids (OpenFs.cons rfl (by kernel_rfl) opens_ids (OpenFs.cons rfl (by kernel_rfl) (Opens.int Try.underlying3) (OpenFs.cons rfl (by kernel_rfl) (Opens.str Try.underlying9) (OpenFs.one rfl (by kernel_rfl) (Opens.int Try.underlying3))))))))))))
theorem wf_i64 {n : Int} (h : (Lit.int .i64 n).wf = true) : I64 n := by simpa [Lit.wf, IntKind.min, IntKind.max, IntKind.signed, IntKind.bits, I64] using h
theorem ev_cells {w : World} {ok : Nat → Prop} {cs : List Value} {x} (h : kEvT.R w ok cs x) : ∃ e vg vb, cs = (evC e vg vb).toList ∧ EvIn w ok e vg vb := by
  obtain ⟨c0, d0, rfl, h0, c1, d1, rfl, ⟨h1, o1⟩, c2, d2, rfl, ⟨h2, o2⟩, c3, d3, rfl, h3, c4, d4, rfl, h4, c5, d5, rfl, ⟨h5, o5⟩, c6, d6, rfl, h6, c7, d7, rfl, h7, c8, d8, rfl, ⟨h8, o8⟩, c9, d9, rfl, ⟨h9, o9⟩, ⟨h10, o10⟩⟩ := h
  obtain ⟨h0, o0⟩ := kId_cells.1 h0
  obtain ⟨h3, o3⟩ := kId_cells.1 h3
  obtain ⟨h4, o4⟩ := kId_cells.1 h4
  have l6 : c6.length = 1 := (kSlice kId).len h6
  have l7 : c7.length = 1 := (kSlice kId).len h7
  match c6, l6, c7, l7 with
  | [vg], _, [vb], _ =>
    subst h0 h1 h2 h3 h4 h5 h8 h9 h10
    exact ⟨⟨x.1.1, x.1.2, x.2.1, x.2.2.1, x.2.2.2.1.1, x.2.2.2.1.2, x.2.2.2.2.1.1, x.2.2.2.2.1.2, x.2.2.2.2.2.1, x.2.2.2.2.2.2.1, x.2.2.2.2.2.2.2.1, x.2.2.2.2.2.2.2.2.1, x.2.2.2.2.2.2.2.2.2.1, x.2.2.2.2.2.2.2.2.2.2⟩, vg, vb, rfl,
      ⟨o0.1, o0.2, o1, wf_i64 o2, o3, o4, o5, wf_i64 o8, o9, wf_i64 o10⟩, kSlice_iff.1 h6, kSlice_iff.1 h7⟩
section
variable {H : Type} {enc : TypeId × Value → H} {w : World} {r : Reach} {b0 base : Nat} {sp : Nat → Bool} {held : Bool} {v : Value} {d : DataW H} {ps : List MemPlace}
theorem okWide_struct {P : Program} {t : TypeId} {fs : Array Field} (ht : P.underlying t = some (.struct fs)) (h : Value.okWide P w r base t v) : ∃ cs, v = .agg cs := by
  simp only [Value.okWide, ht] at h
  obtain ⟨cs, h1, _⟩ := h
  exact ⟨cs, h1⟩
/-- An event among the arguments. -/
theorem open_event (hval : Value.okWide Try.prog w r b0 29 v) (hd : DataW.Trod enc Try.prog w base sp held 29 v d ps) : ∃ e vg vb, v = .agg (evC e vg vb) ∧ EvIn w (fun _ => True) e vg vb := by
  obtain ⟨fuel, hf⟩ := hd
  obtain ⟨cs, rfl⟩ := okWide_struct Try.underlying29 hval
  obtain ⟨x, hx⟩ := opens_ev hf
  obtain ⟨e, vg, vb, hc, hin⟩ := ev_cells hx
  have hc' : cs.toList = (evC e vg vb).toList := hc
  exact ⟨e, vg, vb, by rw [show cs = cs.toList.toArray by simp, hc'], hin⟩
end
end Go.Proofs.Ytkojoahamoffcaa

namespace Go.Proofs.Ytkojoahamoffcaa
open Go.RowKit
set_option maxRecDepth 100000

theorem quiet_mid {P : Program} {C : World → Prop} {K : Act → Prop} {a : Act} {o : Oper} (ty : TypeId) (x : Operand) (ho : o.op = .load ty x) (b off : Nat) (hx : a.eval x = .pointer (some ⟨b, off, none⟩)) (cs : Array Value) (d : TypeDesc) (hC : ∀ w, C w → w.rangeAt b off cs.toList)
    (hu : P.underlying ty = some d) (hd : d.isRow = true) (hi : (P.info? ty).map (·.size) = some cs.toList.length) (hk : K (a.put o.dst (.agg cs))) : o.quiet P a C K :=
  ⟨_, fun w hw => by
    unfold Oper.quietAt execOp
    simp only [ho, hx, Instr.loadAt, Instr.sureAddr, Sem.run_bind, Sem.run_pure, Result.andThen_ok, run_loadVar_mid w b off ty cs.toList d (hC w hw) hu hd hi]
    exact ⟨rfl, by simp⟩, hk⟩
theorem range_exts {W : World} {g o : Nat} {xs : List Value} (h : W.rangeAt g o xs) : ∀ w', (∃ x : Ext W, w' = x.now) → w'.rangeAt g o xs := fun w' ⟨y, hy⟩ => by rw [hy]; exact range_ext h y.out
theorem idneq_run (r : Int) (s : Nat) (r' : Int) (s' : Nat) (w : World) : (binOp .neq 24 (.agg (idC r s)) (.agg (idC r' s'))).run Try.prog w = .ok (.bool (!sameI r s r' s')) w := by
  have u3 := Try.underlying3
  have a3 := Try.isAgg3
  have z3 := Try.sizeOf3
  have u4 := Try.underlying22
  have a4 := Try.isAgg22
  have z4 := Try.sizeOf22
  have hS : Try.prog.underlying 24 = some (.struct (Try.prog.fieldsOf 24)) := by kernel_rfl
  have hp : Try.prog.stoodInHeld 24 = false := by kernel_rfl
  unfold idC
  rw [run_neq_struct, show (10000 : Nat) = 9999 + 1 from rfl, run_equalIn_agg w 9999 24 _ _ hS hp]
  simp only [Program.fieldsOf, Try.underlying24]
  go_simp
  unfold sameI
  by_cases h1 : r = r' <;> by_cases h2 : s = s' <;> simp [h1, h2]
  all_goals omega
theorem sameL_iff {L M : List (Int × Nat)} : sameL L M = true ↔ L = M := by unfold sameL; exact beq_iff_eq
theorem sameL_len {L M : List (Int × Nat)} (h : L.length ≠ M.length) : sameL L M = false := by
  cases e : sameL L M
  · rfl
  · rw [sameL_iff] at e; subst e; exact absurd rfl h
theorem sameL_at {L M : List (Int × Nat)} {k : Nat} (hk : k < L.length) (hm : k < M.length) (h : sameI L[k].1 L[k].2 M[k].1 M[k].2 = false) : sameL L M = false := by
  cases e : sameL L M
  · rfl
  · rw [sameL_iff] at e; subst e; rw [sameI_self] at h; cases h
theorem sameL_all {L M : List (Int × Nat)} (hl : L.length = M.length) (h : ∀ k (hk : k < L.length) (hm : k < M.length), sameI L[k].1 L[k].2 M[k].1 M[k].2 = true) : sameL L M = true := by
  rw [sameL_iff]
  refine List.ext_getElem hl fun k hk hm => ?_
  have := h k hk hm
  unfold sameI at this
  simp only [Bool.and_eq_true, decide_eq_true_iff] at this
  exact Prod.ext this.1 this.2

set_option maxHeartbeats 1000000 in
theorem sleq_any (ok ok' : Nat → Prop) (v v' : Value) (L M : List (Int × Nat)) (w : World) (hL : IsL kId w ok v L) (hM : IsL kId w ok' v' M) :
    Calls Try.prog 40 #[v, v'] w fun e w' => e = .returned (.bool (sameL L M)) ∧ Below w.heap.size w w' := by
  obtain ⟨A, c, rfl, hc1, hc2, hL⟩ := id_at hL
  obtain ⟨A', c', rfl, hc1', hc2', hM⟩ := id_at hM
  obtain ⟨b, hb⟩ : ∃ b, b = sameL L M := ⟨_, rfl⟩
  rw [← hb]
  have hm : maxLen ≤ 9223372036854775807 := by decide
  by_cases hl : L.length = M.length
  · have hno := fun k (hk : k < L.length) (hkm : k < M.length) => sameL_at (L := L) (M := M) hk hkm
    have hyes := sameL_all (L := L) (M := M) hl
    rw [← hb] at hno hyes
    have Hno := Lib.hid hno
    have Hyes := Lib.hid hyes
    have Hl := Lib.hid hl
    obtain ⟨n, hn⟩ : ∃ n, n = L.length := ⟨_, rfl⟩
    rw [← hl, ← hn]
    rw [← hn] at hc1
    have Hn := Lib.hid hn
    clear hb hno hyes hl hn
    go_enter Try.func40, Try.ntmps40
    go_wp2_with fail
    go_loopw [13] (fun i wr => ∃ k : Nat, k ≤ n ∧ i = .int .i64 (k : Int) ∧ (∀ j (hj : j < L.length) (hm : j < M.length), j < k → sameI L[j].1 L[j].2 M[j].1 M[j].2 = true) ∧ Below w.heap.size w wr) (fun i _ => n - (intOf i).toNat)
    case atStart => exact ⟨0, by omega, rfl, fun j _ _ hj => by omega, Below.refl _ _⟩
    case round =>
      obtain ⟨k, hk, rfl, hall, hbw⟩ := hrel
      have Hall := Lib.hid hall
      clear hall
      by_cases hlt : k < n
      · have hkl : k < L.length := by rw [← Hn.out]; exact hlt
        have hkm : k < M.length := by rw [← Hl.out]; exact hkl
        obtain ⟨g, off, rfl, _, hg, hel⟩ := hL (by intro e; subst e; simp at hkl)
        obtain ⟨g', off', rfl, _, hg', hel'⟩ := hM (by intro e; subst e; simp at hkm)
        have r1 := range_exts (range_ext (hel k hkl).1 hbw)
        have r2 := range_exts (range_ext (hel' k hkm).1 hbw)
        have hne := fun w => idneq_run L[k].1 L[k].2 M[k].1 M[k].2 w
        have hno := Hno.out k hkl hkm
        have hnx : sameI L[k].1 L[k].2 M[k].1 M[k].2 = true → ∀ j (hj : j < L.length) (hm : j < M.length), j < k + 1 → sameI L[j].1 L[j].2 M[j].1 M[j].2 = true := fun h j hj hm hlt => by
          by_cases e : j = k
          · subst e; exact h
          · exact Hall.out j hj hm (by omega)
        have R1 := Lib.hid r1
        have R2 := Lib.hid r2
        obtain ⟨q, hq⟩ : ∃ q, q = sameI L[k].1 L[k].2 M[k].1 M[k].2 := ⟨_, rfl⟩
        rw [← hq] at hne hno hnx
        have Hnx := Lib.hid hnx
        have Hno2 := Lib.hid hno
        clear hel hel' r1 r2 hno hnx hq hL hM
        cases q with
        | true =>
          go_wp2_with fail
          refine wp_region_grow (by kernel_rfl) (by kernel_rfl) ?_
          repeat (first | (go_big_quiet_want; refine quiet_mid 24 (.tmp 18) rfl g (off + k * 2) rfl _ _ R1.out Try.underlying24 rfl id_info ?_; go_simp; go_big_quiet_on) | (go_big_quiet_want; refine quiet_mid 24 (.tmp 22) rfl g' (off' + k * 2) rfl _ _ R2.out Try.underlying24 rfl id_info ?_; go_simp; go_big_quiet_on) | go_big_quiet_step (fail) | quiet_step (fail))
          refine wpQuiet_nil ?_
          rintro w6 ⟨⟨_, hb6⟩, rfl⟩
          go_wp2_with fail
          go_roundw
          case rel => exact ⟨k + 1, by omega, by go_num, Hnx.out trivial, hbw.trans (hb6.mono hbw.size)⟩
          case measure => simp [intOf]; omega
        | false =>
          go_wp2_with fail
          refine wp_region_grow (by kernel_rfl) (by kernel_rfl) ?_
          repeat (first | (go_big_quiet_want; refine quiet_mid 24 (.tmp 18) rfl g (off + k * 2) rfl _ _ R1.out Try.underlying24 rfl id_info ?_; go_simp; go_big_quiet_on) | (go_big_quiet_want; refine quiet_mid 24 (.tmp 22) rfl g' (off' + k * 2) rfl _ _ R2.out Try.underlying24 rfl id_info ?_; go_simp; go_big_quiet_on) | go_big_quiet_step (fail) | quiet_step (fail))
          refine wpQuiet_nil ?_
          rintro w6 ⟨⟨_, hb6⟩, rfl⟩
          go_wp2_with fail
          go_ret
          exact ⟨by rw [Hno2.out trivial]; rfl, hbw.trans (hb6.mono hbw.size)⟩
      · obtain rfl : k = n := by omega
        go_wp2_with fail
        go_ret
        exact ⟨by rw [Hyes.out fun j hj hm => Hall.out j hj hm (by rw [Hn.out]; exact hj)]; rfl, hbw⟩
  · have hbf : b = false := hb.trans (sameL_len hl)
    have hne : ((L.length : Int) != (M.length : Int)) = true := by rw [bne_iff_ne]; omega
    have Hb := Lib.hid hbf
    clear hb hbf hL hM
    go_enter Try.func40, Try.ntmps40
    go_wp2_with fail
    go_ret
    exact ⟨by rw [Hb.out]; rfl, Below.refl _ _⟩

set_option maxHeartbeats 1000000 in
theorem refids_any (ok ok' : Nat → Prop) (v v' : Value) (L M : List (Int × Nat)) (w : World) (hL : IsL kId w ok v L) (hM : IsL kId w ok' v' M) :
    Calls Try.prog 39 #[v, v'] w fun e w' => e = .returned (.bool (sameL L M)) ∧ Below w.heap.size w w' := by
  obtain ⟨A, c, rfl, hc1, hc2, hL⟩ := id_at hL
  obtain ⟨A', c', rfl, hc1', hc2', hM⟩ := id_at hM
  obtain ⟨b, hb⟩ : ∃ b, b = sameL L M := ⟨_, rfl⟩
  rw [← hb]
  have hm : maxLen ≤ 9223372036854775807 := by decide
  by_cases hl : L.length = M.length
  · have hno := fun k (hk : k < L.length) (hkm : k < M.length) => sameL_at (L := L) (M := M) hk hkm
    have hyes := sameL_all (L := L) (M := M) hl
    rw [← hb] at hno hyes
    have Hno := Lib.hid hno
    have Hyes := Lib.hid hyes
    have Hl := Lib.hid hl
    obtain ⟨n, hn⟩ : ∃ n, n = L.length := ⟨_, rfl⟩
    rw [← hl, ← hn]
    rw [← hn] at hc1
    have Hn := Lib.hid hn
    clear hb hno hyes hl hn
    go_enter Try.func39, Try.ntmps39
    go_wp2_with fail
    go_loopw [5] (fun i wr => ∃ k : Nat, k ≤ n ∧ i = .int .i64 (k : Int) ∧ (∀ j (hj : j < L.length) (hm : j < M.length), j < k → sameI L[j].1 L[j].2 M[j].1 M[j].2 = true) ∧ Below w.heap.size w wr) (fun i _ => n - (intOf i).toNat)
    case atStart => exact ⟨0, by omega, rfl, fun j _ _ hj => by omega, Below.refl _ _⟩
    case round =>
      obtain ⟨k, hk, rfl, hall, hbw⟩ := hrel
      have Hall := Lib.hid hall
      clear hall
      by_cases hlt : k < n
      · have hkl : k < L.length := by rw [← Hn.out]; exact hlt
        have hkm : k < M.length := by rw [← Hl.out]; exact hkl
        obtain ⟨g, off, rfl, _, hg, hel⟩ := hL (by intro e; subst e; simp at hkl)
        obtain ⟨g', off', rfl, _, hg', hel'⟩ := hM (by intro e; subst e; simp at hkm)
        have r1 := range_exts (range_ext (hel k hkl).1 hbw)
        have r2 := range_exts (range_ext (hel' k hkm).1 hbw)
        have hne := fun w => idneq_run L[k].1 L[k].2 M[k].1 M[k].2 w
        have hno := Hno.out k hkl hkm
        have hnx : sameI L[k].1 L[k].2 M[k].1 M[k].2 = true → ∀ j (hj : j < L.length) (hm : j < M.length), j < k + 1 → sameI L[j].1 L[j].2 M[j].1 M[j].2 = true := fun h j hj hm hlt => by
          by_cases e : j = k
          · subst e; exact h
          · exact Hall.out j hj hm (by omega)
        have R1 := Lib.hid r1
        have R2 := Lib.hid r2
        obtain ⟨q, hq⟩ : ∃ q, q = sameI L[k].1 L[k].2 M[k].1 M[k].2 := ⟨_, rfl⟩
        rw [← hq] at hne hno hnx
        have Hnx := Lib.hid hnx
        have Hno2 := Lib.hid hno
        clear hel hel' r1 r2 hno hnx hq hL hM
        cases q with
        | true =>
          go_wp2_with fail
          refine wp_region_grow (by kernel_rfl) (by kernel_rfl) ?_
          repeat (first | (go_big_quiet_want; refine quiet_mid 24 (.tmp 19) rfl g (off + k * 2) rfl _ _ R1.out Try.underlying24 rfl id_info ?_; go_simp; go_big_quiet_on) | (go_big_quiet_want; refine quiet_mid 24 (.tmp 23) rfl g' (off' + k * 2) rfl _ _ R2.out Try.underlying24 rfl id_info ?_; go_simp; go_big_quiet_on) | go_big_quiet_step (fail) | quiet_step (fail))
          refine wpQuiet_nil ?_
          rintro w6 ⟨⟨_, hb6⟩, rfl⟩
          go_wp2_with fail
          go_roundw
          case rel => exact ⟨k + 1, by omega, by go_num, Hnx.out trivial, hbw.trans (hb6.mono hbw.size)⟩
          case measure => simp [intOf]; omega
        | false =>
          go_wp2_with fail
          refine wp_region_grow (by kernel_rfl) (by kernel_rfl) ?_
          repeat (first | (go_big_quiet_want; refine quiet_mid 24 (.tmp 19) rfl g (off + k * 2) rfl _ _ R1.out Try.underlying24 rfl id_info ?_; go_simp; go_big_quiet_on) | (go_big_quiet_want; refine quiet_mid 24 (.tmp 23) rfl g' (off' + k * 2) rfl _ _ R2.out Try.underlying24 rfl id_info ?_; go_simp; go_big_quiet_on) | go_big_quiet_step (fail) | quiet_step (fail))
          refine wpQuiet_nil ?_
          rintro w6 ⟨⟨_, hb6⟩, rfl⟩
          go_wp2_with fail
          go_ret
          exact ⟨by rw [Hno2.out trivial]; rfl, hbw.trans (hb6.mono hbw.size)⟩
      · obtain rfl : k = n := by omega
        go_wp2_with fail
        go_ret
        exact ⟨by rw [Hyes.out fun j hj hm => Hall.out j hj hm (by rw [Hn.out]; exact hj)]; rfl, hbw⟩
  · have hbf : b = false := hb.trans (sameL_len hl)
    have hne : ((L.length : Int) != (M.length : Int)) = true := by rw [bne_iff_ne]; omega
    have Hb := Lib.hid hbf
    clear hb hbf hL hM
    go_enter Try.func39, Try.ntmps39
    go_wp2_with fail
    go_ret
    exact ⟨by rw [Hb.out]; rfl, Below.refl _ _⟩
end Go.Proofs.Ytkojoahamoffcaa

namespace Go.Proofs.Ytkojoahamoffcaa
open Go.RowKit

theorem wpList_of_quiet {P : Program} {ops : Array Oper} {C : World → Prop} {K : Act → Prop} {Q : Exit → Act → World → Prop} (hQ : ∀ a w, C w → K a → Q .normal a w) :
    ∀ (l : List Oper) (a : Act) (w : World), C w → wpQuiet P ops C K l a → wpList P ops Q l a w
  | [], a, w, hw, h => hQ a w hw h
  | o :: rest, a, w, hw, h => by
    unfold wpQuiet at h
    unfold wpList
    split
    · rename_i hg
      rw [if_pos hg] at h
      exact .inl (Oper.wp_of_quiet hw (fun a' w' hw' hk => wpList_of_quiet hQ rest a' w' hw' hk) h)
    · rename_i hg
      rw [if_neg hg] at h
      exact wpList_of_quiet hQ rest _ w hw h
theorem wp_plain_grow {P : Program} {id : Nat} {l : List Oper} {Q : Exit → Act → World → Prop} {a : Act} {w : World}
    (h : wpQuiet P l.toArray (fun w' => ∃ x : Ext w, w' = x.now) (fun a' => ∀ w', (∃ x : Ext w, w' = x.now) → Q .normal a' w') l a) : (Code.region id l.toArray false).wp P Q a w :=
  wp_region_lit (wpList_of_quiet (fun _ w' hw hk => hk w' hw) l a w ⟨⟨w, Below.refl _ _⟩, rfl⟩ h)
theorem EvCells.ext {W : World} {g : Nat} {t : TypeId} {e : Ev} {vg vb : Value} (h : Blk W g t (evC e vg vb)) (y : Ext W) : EvCells y.now g e vg vb := (h.grow y.out).ev
end Go.Proofs.Ytkojoahamoffcaa
