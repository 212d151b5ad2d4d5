/-
  vec.Less, vec.Total, vec.Next.
-/
import Derived.Test.YtjakgmidhpddoaaDoorVec4
namespace Go.Proofs.YtjakgmidhpddoaaDoor
open Go.RowKit
set_option maxRecDepth 100000

theorem less_any (r : Int) (s : Nat) (r' : Int) (s' : Nat) (w : World) :
    Calls Tryd.prog 26 #[idv r s, idv r' s'] w fun e w' => e = .returned (.bool (lessV r s r' s')) ∧ Below w.heap.size w w' := by
  obtain ⟨b, hb⟩ : ∃ b, b = lessV r s r' s' := ⟨_, rfl⟩
  rw [← hb]
  have hbel : Below w.heap.size w ((w.alloc (.cells #[.int .i64 r, .int .u32 (s : Int)] 30)).alloc (.cells #[.int .i64 r', .int .u32 (s' : Int)] 30)) := ((Below.refl _ _).alloc (Nat.le_refl _) _).alloc (by simp) _
  unfold idv
  by_cases he : s = s'
  · subst he
    have hb2 : b = decide (r < r') := by rw [hb]; unfold lessV; simp
    have Hb := Lib.hid hb2
    clear hb hb2
    go_enter Tryd.func26, Tryd.ntmps26
    go_wp2
    go_ret
    exact ⟨by rw [Hb.out]; rfl, hbel⟩
  · have hb2 : b = decide (s < s') := by rw [hb]; unfold lessV; simp [he]
    have hne : ((s : Int) == (s' : Int)) = false := by rw [beq_eq_false_iff_ne]; omega
    have Hb := Lib.hid hb2
    clear hb hb2
    go_enter Tryd.func26, Tryd.ntmps26
    go_wp2
    all_goals go_ret
    all_goals exact ⟨by rw [Hb.out]; rfl, hbel⟩

theorem total_any (V : Nat → Nat) (hV : okV V) (w : World) :
    Calls Tryd.prog 32 #[vv V] w fun e w' => e = .returned (.int .u64 (totalV V : Int)) ∧ Below w.heap.size w w' := by
  have hA0 : Blk (w.alloc (.cells (av V) 24)) w.heap.size 24 (av V) := Blk.new w _ _
  have hbel : Below w.heap.size w (w.alloc (.cells (av V) 24)) := (Below.refl _ _).alloc (Nat.le_refl _) _
  have HA := Lib.hid hA0
  clear hA0
  unfold vv
  go_enter Tryd.func32, Tryd.ntmps32
  go_wp2_with (refine wpList_load_row rfl 24 (.tmp 1) rfl w.heap.size rfl 24 (av V) (0, 0) _ HA.out Tryd.underlying24 rfl vec_info ?_)
  go_loop [3, 7] (fun n i => ∃ k : Nat, k ≤ 8 ∧ i = .int .i64 (k : Int) ∧ n = .int .u64 (sumV V k : Int)) (fun _ i => 8 - (intOf i).toNat)
  case atStart => exact ⟨0, by omega, rfl, rfl⟩
  case round =>
    obtain ⟨k, hk, rfl, rfl⟩ := hrel
    by_cases hlt : k < 8
    · have hi := fun w => index_run V k hlt w
      unfold vv at hi
      have h1 := sumV_lt hV k hk
      have h2 := hV k hlt
      obtain ⟨m, hm⟩ : ∃ m, m = sumV V k := ⟨_, rfl⟩
      rw [← hm] at h1 ⊢
      have h3 : m ≤ 34359738360 := by omega
      have hs : sumV V (k + 1) = m + V k := by rw [hm]; rfl
      have Hs := Lib.hid hs
      clear hm hs h1
      go_wp2
      go_round
      case rel => exact ⟨k + 1, by omega, by go_num, by rw [Hs.out]; go_num⟩
      case measure => simp [intOf]; omega
    · obtain rfl : k = 8 := by omega
      go_wp2
      go_ret
      exact ⟨rfl, hbel⟩

theorem results_cell_tmp {P : Program} {fn : Func} {p q : Tmp} {ty : TypeId} (h : fn.results = #[.cell p ty, .tmp q]) (tmps : Array Value) (w : World) (g : Nat) (t : TypeId) (cs : Array Value) (fr : Nat × Nat) (d : TypeDesc) (v : Value)
    (hp : tmps.getD p undef = .pointer (some ⟨g, 0, none⟩)) (hq : tmps.getD q undef = v) (hg : w.heap[g]? = some (.cells cs t fr))
    (hu : P.underlying ty = some d) (hd : (match d with | .struct _ | .array _ _ => true | _ => false) = true) (hi : (P.info? ty).map (·.size) = some cs.size) :
    (results fn tmps).run P w = .ok (.tuple #[.agg cs, v]) w := by
  have hp' : tmps[p]?.getD undef = .pointer (some ⟨g, 0, none⟩) := by simpa using hp
  have hq' : tmps[q]?.getD undef = v := by simpa using hq
  simp [results, h, hp', hq', asAddr, run_loadVar_row w g t ty cs fr d hg hu hd hi]

set_option maxHeartbeats 400000 in
theorem next_any (V : Nat → Nat) (hV : okV V) (r : Int) (w : World) :
    Calls Tryd.prog 18 #[vv V, .int .i64 r] w fun e w' => e = .returned (.tuple #[vv (nextV V r).1, .int .i64 (nextV V r).2]) ∧ Below w.heap.size w w' := by
  obtain ⟨R, hR⟩ : ∃ R, R = nextV V r := ⟨_, rfl⟩
  rw [← hR]
  have hA0 : Blk ((w.alloc (.cells (av V) 24)).alloc (.cells #[.int .u32 0, .int .u32 0, .int .u32 0, .int .u32 0, .int .u32 0, .int .u32 0, .int .u32 0, .int .u32 0] 24)) w.heap.size 24 (av V) := (Blk.new w _ _).alloc _
  have hC0 : Blk ((w.alloc (.cells (av V) 24)).alloc (.cells #[.int .u32 0, .int .u32 0, .int .u32 0, .int .u32 0, .int .u32 0, .int .u32 0, .int .u32 0, .int .u32 0] 24)) (w.heap.size + 1) 24 (av zeroV) := by
    have := Blk.new (w.alloc (.cells (av V) 24)) 24 (av zeroV)
    rw [World.size_alloc] at this
    exact this
  have hbel : Below w.heap.size w ((w.alloc (.cells (av V) 24)).alloc (.cells #[.int .u32 0, .int .u32 0, .int .u32 0, .int .u32 0, .int .u32 0, .int .u32 0, .int .u32 0, .int .u32 0] 24)) := ((Below.refl _ _).alloc (Nat.le_refl _) _).alloc (by simp) _
  have HA := Lib.hid hA0
  have HC := Lib.hid hC0
  clear hC0
  cases hr : repV r with
  | false =>
    have hR2 : R = (zeroV, 1) := by rw [hR]; unfold nextV; rw [hr]; rfl
    subst hR2
    have Hr := Lib.hid hr
    clear hR hr hA0
    unfold vv
    go_enter Tryd.func18, Tryd.ntmps18
    go_wp2_with (first | (go_at_call 33; refine (isrep_any _ _).mono ?_; rintro e w1 ⟨rfl, rfl⟩; rw [Hr.out]) | (refine wpList_store_row rfl 24 (.tmp 4) (.tmp 9) rfl (w.heap.size + 1) (av zeroV) rfl rfl 24 _ HC.out vec_info rfl (av_one _) ?_))
    have hend := HC.out.setRow_ (av zeroV)
    exact bodyPost_ret (v := .tuple #[vv zeroV, .int .i64 1]) (results_cell_tmp Tryd.results18 _ _ (w.heap.size + 1) 24 (av zeroV) (0, 0) _ _ rfl rfl hend Tryd.underlying24 rfl vec_info) rfl ⟨rfl, below_setRow hbel (by omega) _⟩
  | true =>
    obtain ⟨h1, h2⟩ := repV_iff.1 hr
    obtain ⟨k, hk⟩ : ∃ k : Nat, r = (k : Int) + 1 := ⟨(r - 1).toNat, by omega⟩
    subst hk
    have hk8 : k < 8 := by omega
    have hkt : ((k : Int) + 1 - 1).toNat = k := by omega
    have hcell : ((w.alloc (.cells (av V) 24)).alloc (.cells #[.int .u32 0, .int .u32 0, .int .u32 0, .int .u32 0, .int .u32 0, .int .u32 0, .int .u32 0, .int .u32 0] 24)).cell? ⟨w.heap.size, k, none⟩ = some (.int .u32 (V k : Int)) := by
      rw [hA0.cell, av_get V (by omega)]
    have hfrz : ((w.alloc (.cells (av V) 24)).alloc (.cells #[.int .u32 0, .int .u32 0, .int .u32 0, .int .u32 0, .int .u32 0, .int .u32 0, .int .u32 0, .int .u32 0] 24)).frozen? ⟨w.heap.size, k, none⟩ = false := hA0.frozen k
    have hVk := hV k hk8
    by_cases hmax : 1048576 ≤ V k
    · have hR2 : R = (zeroV, 12) := by rw [hR]; unfold nextV; rw [if_pos hr, hkt, if_pos hmax]
      subst hR2
      have Hr := Lib.hid hr
      have hge : decide ((1048576 : Int) ≤ (V k : Int)) = true := by rw [decide_eq_true_iff]; omega
      clear hR hr hA0 hkt hmax hVk hV
      unfold vv
      go_enter Tryd.func18, Tryd.ntmps18
      go_wp2_with (first | (go_at_call 33; refine (isrep_any _ _).mono ?_; rintro e w1 ⟨rfl, rfl⟩; rw [Hr.out]) | (refine wpList_store_row rfl 24 (.tmp 4) (.tmp 15) rfl (w.heap.size + 1) (av zeroV) rfl rfl 24 _ HC.out vec_info rfl (av_one _) ?_))
      have hend := HC.out.setRow_ (av zeroV)
      exact bodyPost_ret (v := .tuple #[vv zeroV, .int .i64 12]) (results_cell_tmp Tryd.results18 _ _ (w.heap.size + 1) 24 (av zeroV) (0, 0) _ _ rfl rfl hend Tryd.underlying24 rfl vec_info) rfl ⟨rfl, below_setRow hbel (by omega) _⟩
    · have hR2 : R = (updV V k (V k + 1), 0) := by rw [hR]; unfold nextV; rw [if_pos hr, hkt, if_neg hmax]
      subst hR2
      have hset := av_set V k (V k + 1) hk8
      have hx : ((V k + 1 : Nat) : Int) = (V k : Int) + 1 := by omega
      rw [hx] at hset
      have hs : Blk ((w.alloc (.cells ((av V).setIfInBounds k (.int .u32 ((V k : Int) + 1))) 24)).alloc (.cells #[.int .u32 0, .int .u32 0, .int .u32 0, .int .u32 0, .int .u32 0, .int .u32 0, .int .u32 0, .int .u32 0] 24)) w.heap.size 24 (av (updV V k (V k + 1))) := by
        rw [← hset]; exact (Blk.new w _ _).alloc _
      have hs2 : Blk ((w.alloc (.cells ((av V).setIfInBounds k (.int .u32 ((V k : Int) + 1))) 24)).alloc (.cells #[.int .u32 0, .int .u32 0, .int .u32 0, .int .u32 0, .int .u32 0, .int .u32 0, .int .u32 0, .int .u32 0] 24)) (w.heap.size + 1) 24 (av zeroV) := by
        have := Blk.new (w.alloc (.cells ((av V).setIfInBounds k (.int .u32 ((V k : Int) + 1))) 24)) 24 (av zeroV)
        rw [World.size_alloc] at this
        exact this
      have Hs := Lib.hid hs
      have Hs2 := Lib.hid hs2
      have Hr := Lib.hid hr
      have hge : decide ((1048576 : Int) ≤ (V k : Int)) = false := by rw [decide_eq_false_iff_not]; omega
      have hsum : IntKind.u32.wrap ((V k : Int) + 1) = (V k : Int) + 1 := by rw [IntKind.wrap_u32]; omega
      clear hR hr hA0 hkt hs hs2 hx hset hmax hVk hV
      have hbel2 : Below w.heap.size w ((w.alloc (.cells ((av V).setIfInBounds k (.int .u32 ((V k : Int) + 1))) 24)).alloc (.cells #[.int .u32 0, .int .u32 0, .int .u32 0, .int .u32 0, .int .u32 0, .int .u32 0, .int .u32 0, .int .u32 0] 24)) := ((Below.refl _ _).alloc (Nat.le_refl _) _).alloc (by simp) _
      unfold vv
      go_enter Tryd.func18, Tryd.ntmps18
      go_wp2_with (first | (go_at_call 33; refine (isrep_any _ _).mono ?_; rintro e w1 ⟨rfl, rfl⟩; rw [Hr.out]) | (refine wpList_load_row rfl 24 (.tmp 2) rfl w.heap.size rfl 24 (av (updV V k (V k + 1))) (0, 0) _ Hs.out Tryd.underlying24 rfl vec_info ?_) | (refine wpList_store_row rfl 24 (.tmp 4) (.tmp 22) rfl (w.heap.size + 1) (av (updV V k (V k + 1))) rfl rfl 24 _ Hs2.out vec_info rfl (av_one _) ?_))
      have hend := Hs2.out.setRow_ (av (updV V k (V k + 1)))
      exact bodyPost_ret (v := .tuple #[vv (updV V k (V k + 1)), .int .i64 0]) (results_cell_tmp Tryd.results18 _ _ (w.heap.size + 1) 24 (av (updV V k (V k + 1))) (0, 0) _ _ rfl rfl hend Tryd.underlying24 rfl vec_info) rfl ⟨rfl, below_setRow hbel2 (by omega) _⟩
end Go.Proofs.YtjakgmidhpddoaaDoor
