/-
  vec.isReplica, vec.Get, vec.Leq.
  vec.Leq, vec.Order.
  vec.Join, vec.Meet.
  vec.Has.
  vec.Less, vec.Total, vec.Next.
  vec.With.
  The document's vectors: Get, Order, Leq.
  The document's vectors: Join, Meet.
  The document's vectors: Next, Has, One, With, Less.
  The document's vectors: One, With.
-/
import Derived.Test.YtcpjgohclncbkaaDoorVecBase
import Derived.Laws.Rows
import Derived.Test.YtcpjgohclncbkaaDoorRegions
import Derived.BigRegion
import Derived.Deep.RegionWith
namespace Go.Proofs.YtcpjgohclncbkaaDoor
open Go.RowKit
set_option maxRecDepth 100000

theorem isrep_any (r : Int) (w : World) : Calls Tryd.prog 64 #[.int .i64 r] w fun e w' => e = .returned (.bool (repV r)) ∧ w = w' := by
  obtain ⟨b, hb⟩ : ∃ b, b = repV r := ⟨_, rfl⟩
  rw [← hb]
  by_cases h1 : 1 ≤ r
  · have hb2 : b = decide (r ≤ 8) := by rw [hb]; unfold repV; simp [h1]
    clear hb
    have Hb := Lib.hid hb2
    clear hb2
    go_enter Tryd.func64, Tryd.ntmps64
    go_wp2
    all_goals go_ret
    all_goals exact ⟨by rw [Hb.out]; rfl, rfl⟩
  · have hb2 : b = false := by rw [hb]; unfold repV; simp [h1]
    have hd : decide (1 ≤ r) = false := by simpa using h1
    clear hb
    have Hb := Lib.hid hb2
    clear hb2
    go_enter Tryd.func64, Tryd.ntmps64
    go_wp2
    all_goals go_ret
    all_goals exact ⟨by rw [Hb.out]; rfl, rfl⟩

end Go.Proofs.YtcpjgohclncbkaaDoor

namespace Go.Proofs.YtcpjgohclncbkaaDoor
open Go.RowKit
set_option maxRecDepth 100000

end Go.Proofs.YtcpjgohclncbkaaDoor

namespace Go.Proofs.YtcpjgohclncbkaaDoor
open Go.RowKit
set_option maxRecDepth 100000

/-- The first numbers are of one vector, the others of another one. -/
def mixV (F A : Nat → Nat) (k : Nat) : Nat → Nat := fun i => if i < k then F i else A i
theorem mixV_succ (F A : Nat → Nat) (k : Nat) : updV (mixV F A k) k (F k) = mixV F A (k + 1) := by
  funext i
  unfold updV mixV
  by_cases h : i = k
  · rw [if_pos h, if_pos (by omega), h]
  · rw [if_neg h]
    by_cases h2 : i < k
    · rw [if_pos h2, if_pos (by omega)]
    · rw [if_neg h2, if_neg (by omega)]
theorem mixV_at (F A : Nat → Nat) (k : Nat) : mixV F A k k = A k := by unfold mixV; rw [if_neg (by omega)]
theorem mixV_zero (F A : Nat → Nat) : mixV F A 0 = A := by funext i; unfold mixV; rw [if_neg (by omega)]
theorem mixV_all (F A : Nat → Nat) : av (mixV F A 8) = av F := av_congr fun i hi => by unfold mixV; rw [if_pos hi]

set_option maxHeartbeats 400000 in
theorem join_any (A B : Nat → Nat) (w : World) :
    Calls Tryd.prog 45 #[vv A, vv B] w fun e w' => e = .returned (vv (joinV A B)) ∧ Below w.heap.size w w' := by
  have hA0 : Blk (((w.alloc (.cells (av A) 27)).alloc (.cells (av B) 27)).alloc (.cells (av zeroV) 27)) w.heap.size 27 (av A) := ((Blk.new w _ _).alloc _).alloc _
  have hB0 : Blk (((w.alloc (.cells (av A) 27)).alloc (.cells (av B) 27)).alloc (.cells (av zeroV) 27)) (w.heap.size + 1) 27 (av B) := by
    have := (Blk.new (w.alloc (.cells (av A) 27)) 27 (av B)).alloc (.cells (av zeroV) 27)
    simpa using this
  have hC0 : Blk (((w.alloc (.cells (av A) 27)).alloc (.cells (av B) 27)).alloc (.cells (av zeroV) 27)) (w.heap.size + 1 + 1) 27 (av zeroV) := by
    have := Blk.new ((w.alloc (.cells (av A) 27)).alloc (.cells (av B) 27)) 27 (av zeroV)
    simpa using this
  have hbel : Below w.heap.size w (((w.alloc (.cells (av A) 27)).alloc (.cells (av B) 27)).alloc (.cells (av zeroV) 27)) := (((Below.refl _ _).alloc (Nat.le_refl _) _).alloc (by simp) _).alloc (by simp; omega) _
  have HA := Lib.hid hA0
  have HB := Lib.hid hB0
  have HC := Lib.hid hC0
  clear hA0 hB0 hC0
  unfold vv
  go_enter Tryd.func45, Tryd.ntmps45
  go_wp2_with (refine wpList_load_row rfl 27 (.tmp 3) rfl (w.heap.size + 1) rfl 27 (av B) (0, 0) _ HB.out Tryd.underlying27 rfl vec_info ?_)
  go_loopw [8] (fun i wr => ∃ k : Nat, k ≤ 8 ∧ i = .int .i64 (k : Int) ∧ Blk wr w.heap.size 27 (av (mixV (joinV A B) A k)) ∧ Blk wr (w.heap.size + 1 + 1) 27 (av zeroV) ∧ Below w.heap.size w wr) (fun i _ => 8 - (intOf i).toNat)
  case atStart => exact ⟨0, by omega, rfl, by rw [mixV_zero]; exact HA.out, HC.out, hbel⟩
  case round =>
    obtain ⟨k, hk, rfl, hb1, hb2, hbel⟩ := hrel
    by_cases hlt : k < 8
    · have hi := fun w => index_run B k hlt w
      unfold vv at hi
      have hc : wr.cell? ⟨w.heap.size, k, none⟩ = some (.int .u32 (A k : Int)) := by rw [hb1.cell, av_get _ hlt, mixV_at]
      have hf : wr.frozen? ⟨w.heap.size, k, none⟩ = false := hb1.frozen k
      have hs := hb1.set_ k (.int .u32 (joinV A B k : Nat))
      rw [av_set _ _ _ hlt, mixV_succ] at hs
      have Hb1 := Lib.hid hb1
      have Hb2 := Lib.hid hb2
      have Hs := Lib.hid hs
      clear hb1 hb2 hs
      have hx : (.int .u32 (joinV A B k : Nat) : Value) = .int .u32 (if A k < B k then (B k : Int) else (A k : Int)) := by
        unfold joinV; congr 1; split <;> omega
      have Hx := Lib.hid hx
      have Hxm := Lib.hid (show (.int .u32 (joinV A B k : Nat) : Value) = .int .u32 (max (A k : Int) (B k : Int)) by
        unfold joinV; congr 1; omega)
      clear hx
      go_wp2
      go_roundw
      case rel => exact ⟨k + 1, by omega, by go_num, (by first | (rw [← Hxm.out]; exact Hs.out) | (rw [← Hx.out]; exact Hs.out)), Hb2.out.far (by show w.heap.size + 1 + 1 ≠ w.heap.size; omega) _, hbel.setCell (Nat.le_refl _) _⟩
      case measure => simp [intOf]; omega
    · obtain rfl : k = 8 := by omega
      rw [mixV_all] at hb1
      have Hb1 := Lib.hid hb1
      have Hb2 := Lib.hid hb2
      clear hb1 hb2
      go_wp2_with (first | (refine wpList_load_row rfl 27 (.tmp 2) rfl w.heap.size rfl 27 (av (joinV A B)) (0, 0) _ Hb1.out Tryd.underlying27 rfl vec_info ?_) | (refine wpList_store_row rfl 27 (.tmp 4) (.tmp 20) rfl (w.heap.size + 1 + 1) (av (joinV A B)) rfl rfl 27 _ Hb2.out vec_info rfl (av_one _) ?_))
      have hend := Hb2.out.setRow_ (av (joinV A B))
      have Hend := Lib.hid hend
      clear hend
      exact bodyPost_ret (v := vv (joinV A B)) (results_cell_row Tryd.results45 _ _ (w.heap.size + 1 + 1) 27 (av (joinV A B)) (0, 0) _ rfl Hend.out Tryd.underlying27 rfl vec_info) rfl ⟨rfl, below_setRow hbel (by omega) _⟩

end Go.Proofs.YtcpjgohclncbkaaDoor

namespace Go.Proofs.YtcpjgohclncbkaaDoor
open Go.RowKit
set_option maxRecDepth 100000

/-- An event's number as a value. -/
def idv (r : Int) (s : Nat) : Value := .agg #[.int .i64 r, .int .u32 (s : Int)]

end Go.Proofs.YtcpjgohclncbkaaDoor

namespace Go.Proofs.YtcpjgohclncbkaaDoor
open Go.RowKit
set_option maxRecDepth 100000

theorem less_any (r : Int) (s : Nat) (r' : Int) (s' : Nat) (w : World) :
    Calls Tryd.prog 44 #[idv r s, idv r' s'] w fun e w' => e = .returned (.bool (lessV r s r' s')) ∧ Below w.heap.size w w' := by
  obtain ⟨b, hb⟩ : ∃ b, b = lessV r s r' s' := ⟨_, rfl⟩
  rw [← hb]
  have hbel : Below w.heap.size w ((w.alloc (.cells #[.int .i64 r, .int .u32 (s : Int)] 25)).alloc (.cells #[.int .i64 r', .int .u32 (s' : Int)] 25)) := ((Below.refl _ _).alloc (Nat.le_refl _) _).alloc (by simp) _
  unfold idv
  by_cases he : s = s'
  · subst he
    have hb2 : b = decide (r < r') := by rw [hb]; unfold lessV; simp
    have Hb := Lib.hid hb2
    clear hb hb2
    go_enter Tryd.func44, Tryd.ntmps44
    go_wp2
    go_ret
    exact ⟨by rw [Hb.out]; rfl, hbel⟩
  · have hb2 : b = decide (s < s') := by rw [hb]; unfold lessV; simp [he]
    have hne : ((s : Int) == (s' : Int)) = false := by rw [beq_eq_false_iff_ne]; omega
    have Hb := Lib.hid hb2
    clear hb hb2
    go_enter Tryd.func44, Tryd.ntmps44
    go_wp2
    all_goals go_ret
    all_goals exact ⟨by rw [Hb.out]; rfl, hbel⟩

end Go.Proofs.YtcpjgohclncbkaaDoor

namespace Go.Proofs.YtcpjgohclncbkaaDoor
open Go.RowKit
set_option maxRecDepth 100000

set_option maxHeartbeats 400000 in
theorem with_any (V : Nat → Nat) (hV : okV V) (r : Int) (s : Nat) (w : World) :
    Calls Tryd.prog 42 #[vv V, idv r s] w fun e w' => e = .returned (vv (withV V r s)) ∧ Below w.heap.size w w' := by
  obtain ⟨R, hR⟩ : ∃ R, R = withV V r s := ⟨_, rfl⟩
  rw [← hR]
  obtain ⟨W, hW⟩ : ∃ W, W = (((w.alloc (.cells (av V) 27)).alloc (.cells #[.int .i64 r, .int .u32 (s : Int)] 25)).alloc (.cells #[.int .u32 0, .int .u32 0, .int .u32 0, .int .u32 0, .int .u32 0, .int .u32 0, .int .u32 0, .int .u32 0] 27)) := ⟨_, rfl⟩
  have hA : Blk W w.heap.size 27 (av V) := by rw [hW]; exact ((Blk.new w _ _).alloc _).alloc _
  have hB : Blk W (w.heap.size + 1) 25 #[.int .i64 r, .int .u32 (s : Int)] := by
    have := (Blk.new (w.alloc (.cells (av V) 27)) 25 #[.int .i64 r, .int .u32 (s : Int)]).alloc (.cells #[.int .u32 0, .int .u32 0, .int .u32 0, .int .u32 0, .int .u32 0, .int .u32 0, .int .u32 0, .int .u32 0] 27)
    rw [World.size_alloc] at this
    rw [hW]; exact this
  have hC : Blk W (w.heap.size + 1 + 1) 27 (av zeroV) := by
    have := Blk.new ((w.alloc (.cells (av V) 27)).alloc (.cells #[.int .i64 r, .int .u32 (s : Int)] 25)) 27 (av zeroV)
    rw [World.size_alloc, World.size_alloc] at this
    rw [hW]; exact this
  have hbel : Below w.heap.size w W := by rw [hW]; exact (((Below.refl _ _).alloc (Nat.le_refl _) _).alloc (by simp) _).alloc (by simp; omega) _
  have HW := Lib.hid hW
  clear hW
  have z0 := hB.cell 0
  have z1 := hB.cell 1
  simp only [List.getElem?_toArray, List.getElem?_cons_zero, List.getElem?_cons_succ] at z0 z1
  have HC := Lib.hid hC
  unfold vv idv
  cases hr : repV r with
  | false =>
    have hR2 : R = V := by rw [hR]; unfold withV; rw [hr]; rfl
    subst hR2
    have Hr := Lib.hid hr
    have HA := Lib.hid hA
    clear hR hr hA hB hC
    go_enter Tryd.func42, Tryd.ntmps42
    go_wp2_with fail
    rw [← HW.out]
    go_wp2_with (first | (go_at_call 64; refine (isrep_any _ _).mono ?_; rintro e w1 ⟨rfl, rfl⟩; rw [Hr.out]) | (refine wpList_load_row rfl 27 (.tmp 2) rfl w.heap.size rfl 27 (av R) (0, 0) _ HA.out Tryd.underlying27 rfl vec_info ?_) | (refine wpList_store_row rfl 27 (.tmp 4) (.tmp 20) rfl (w.heap.size + 1 + 1) (av R) rfl rfl 27 _ HC.out vec_info rfl (av_one _) ?_))
    have hend := HC.out.setRow_ (av R)
    exact bodyPost_ret (v := vv R) (results_cell_row Tryd.results42 _ _ (w.heap.size + 1 + 1) 27 (av R) (0, 0) _ rfl hend Tryd.underlying27 rfl vec_info) rfl ⟨rfl, below_setRow hbel (by omega) _⟩
  | true =>
    obtain ⟨h1, h2⟩ := repV_iff.1 hr
    obtain ⟨k, hk⟩ : ∃ k : Nat, r = (k : Int) + 1 := ⟨(r - 1).toNat, by omega⟩
    subst hk
    have hk8 : k < 8 := by omega
    have hkt : ((k : Int) + 1 - 1).toNat = k := by omega
    have hcell := hA.cell k
    rw [av_get V hk8] at hcell
    have hfrz := hA.frozen k
    have hR2 : R = updV V k (max (V k) s) := by rw [hR]; unfold withV; rw [if_pos hr, hkt]
    have hVk := hV k hk8
    rcases Nat.lt_or_ge (V k) s with hlt | hlt
    · have hmx : max (V k) s = s := by omega
      have hmi : max (V k : Int) (s : Int) = (s : Int) := by omega
      rw [hmx] at hR2
      subst hR2
      have hset := av_set V k (s) hk8
      have hs1 := hA.set_ k (.int .u32 ((s : Nat) : Int))
      rw [hset] at hs1
      have hs2 := hC.far (p := ⟨w.heap.size, k, none⟩) (by show w.heap.size + 1 + 1 ≠ w.heap.size; omega) (.int .u32 ((s : Nat) : Int))
      have hbel2 := hbel.setCell (p := ⟨w.heap.size, k, none⟩) (Nat.le_refl _) (.int .u32 ((s : Nat) : Int))
      have Hr := Lib.hid hr
      have Hs1 := Lib.hid hs1
      have Hs2 := Lib.hid hs2
      have Hb2 := Lib.hid hbel2
      clear hR hr hkt hs1 hs2 hset hbel2 hA hB hC hV hmx
      go_enter Tryd.func42, Tryd.ntmps42
      go_wp2_with fail
      rw [← HW.out]
      go_wp2_with (go_at_call 64; refine (isrep_any _ _).mono ?_; rintro e w1 ⟨rfl, rfl⟩; rw [Hr.out])
      go_region
      go_wp2_with (first | (refine wpList_load_row rfl 27 (.tmp 2) rfl w.heap.size rfl 27 (av (updV V k (s))) (0, 0) _ Hs1.out Tryd.underlying27 rfl vec_info ?_) | (refine wpList_store_row rfl 27 (.tmp 4) (.tmp 20) rfl (w.heap.size + 1 + 1) (av (updV V k (s))) rfl rfl 27 _ Hs2.out vec_info rfl (av_one _) ?_))
      have hend := Hs2.out.setRow_ (av (updV V k (s)))
      refine bodyPost_ret (v := vv (updV V k (s))) (results_cell_row Tryd.results42 _ _ (w.heap.size + 1 + 1) 27 (av (updV V k (s))) (0, 0) _ rfl hend Tryd.underlying27 rfl vec_info) rfl ⟨rfl, ?_⟩
      exact below_setRow Hb2.out.drew (Nat.le_trans (Nat.le_succ _) (Nat.le_succ _)) _
    · have hmx : max (V k) s = V k := by omega
      have hmi : max (V k : Int) (s : Int) = (V k : Int) := by omega
      rw [hmx] at hR2
      subst hR2
      have hset := av_set V k (V k) hk8
      have hs1 := hA.set_ k (.int .u32 ((V k : Nat) : Int))
      rw [hset] at hs1
      have hs2 := hC.far (p := ⟨w.heap.size, k, none⟩) (by show w.heap.size + 1 + 1 ≠ w.heap.size; omega) (.int .u32 ((V k : Nat) : Int))
      have hbel2 := hbel.setCell (p := ⟨w.heap.size, k, none⟩) (Nat.le_refl _) (.int .u32 ((V k : Nat) : Int))
      have Hr := Lib.hid hr
      have Hs1 := Lib.hid hs1
      have Hs2 := Lib.hid hs2
      have Hb2 := Lib.hid hbel2
      clear hR hr hkt hs1 hs2 hset hbel2 hA hB hC hV hmx
      go_enter Tryd.func42, Tryd.ntmps42
      go_wp2_with fail
      rw [← HW.out]
      go_wp2_with (go_at_call 64; refine (isrep_any _ _).mono ?_; rintro e w1 ⟨rfl, rfl⟩; rw [Hr.out])
      go_region
      go_wp2_with (first | (refine wpList_load_row rfl 27 (.tmp 2) rfl w.heap.size rfl 27 (av (updV V k (V k))) (0, 0) _ Hs1.out Tryd.underlying27 rfl vec_info ?_) | (refine wpList_store_row rfl 27 (.tmp 4) (.tmp 20) rfl (w.heap.size + 1 + 1) (av (updV V k (V k))) rfl rfl 27 _ Hs2.out vec_info rfl (av_one _) ?_))
      have hend := Hs2.out.setRow_ (av (updV V k (V k)))
      refine bodyPost_ret (v := vv (updV V k (V k))) (results_cell_row Tryd.results42 _ _ (w.heap.size + 1 + 1) 27 (av (updV V k (V k))) (0, 0) _ rfl hend Tryd.underlying27 rfl vec_info) rfl ⟨rfl, ?_⟩
      exact below_setRow Hb2.out.drew (Nat.le_trans (Nat.le_succ _) (Nat.le_succ _)) _
end Go.Proofs.YtcpjgohclncbkaaDoor

namespace Go.Proofs.YtcpjgohclncbkaaDoor
open Go.RowKit
set_option maxRecDepth 100000

/-- Is one of the first numbers less? -/
def anyLess (A B : Nat → Nat) : Nat → Bool
  | 0 => false
  | k + 1 => anyLess A B k || decide (A k < B k)
theorem anyLess_iff (A B : Nat → Nat) (k : Nat) : anyLess A B k = false ↔ ∀ i, i < k → B i ≤ A i := by
  induction k with
  | zero => exact ⟨fun _ i hi => by omega, fun _ => rfl⟩
  | succ k ih =>
    show (anyLess A B k || decide (A k < B k)) = false ↔ _
    rw [Bool.or_eq_false_iff, ih, decide_eq_false_iff_not]
    exact ⟨fun h i hi => by
      by_cases e : i = k
      · subst e; omega
      · exact h.1 i (by omega), fun h => ⟨fun i hi => h i (by omega), by have := h k (by omega); omega⟩⟩
theorem anyLess_leq (A B : Nat → Nat) : anyLess A B 8 = !leqV B A := by
  cases h : leqV B A
  · cases h2 : anyLess A B 8
    · rw [anyLess_iff, ← leqV_iff, h] at h2
      cases h2
    · rfl
  · exact (anyLess_iff A B 8).2 (leqV_iff.1 h)
theorem orderV_any (A B : Nat → Nat) : orderV A B = if (anyLess A B 8 && anyLess B A 8) = true then 2 else if anyLess A B 8 = true then -1 else if anyLess B A 8 = true then 1 else 0 := by
  rw [anyLess_leq, anyLess_leq]
  unfold orderV
  have he := eqV_leq A B
  cases h1 : leqV A B <;> cases h2 : leqV B A <;> rw [h1, h2] at he <;> simp at he <;> simp [he]

end Go.Proofs.YtcpjgohclncbkaaDoor

namespace Go.Proofs.YtcpjgohclncbkaaDoor
open Go.RowKit
set_option maxRecDepth 100000

theorem updV_twice (V : Nat → Nat) (k a b : Nat) : updV (updV V k a) k b = updV V k b := by
  funext i
  unfold updV
  by_cases h : i = k
  · rw [if_pos h, if_pos h]
  · rw [if_neg h, if_neg h, if_neg h]
theorem joinV_lt {A B : Nat → Nat} {k : Nat} (h : A k < B k) : joinV A B k = B k := by unfold joinV; omega
theorem joinV_ge {A B : Nat → Nat} {k : Nat} (h : ¬ A k < B k) : joinV A B k = A k := by unfold joinV; omega
theorem meetV_lt {A B : Nat → Nat} {k : Nat} (h : B k < A k) : meetV A B k = B k := by unfold meetV; omega
theorem meetV_ge {A B : Nat → Nat} {k : Nat} (h : ¬ B k < A k) : meetV A B k = A k := by unfold meetV; omega

set_option maxHeartbeats 1000000 in
theorem refjoin_any (A B : Nat → Nat) (w : World) :
    Calls Tryd.prog 63 #[vv A, vv B] w fun e w' => e = .returned (vv (joinV A B)) ∧ Below w.heap.size w w' := by
  obtain ⟨W, hW⟩ : ∃ W, W = ((((w.alloc (.cells (av A) 27)).alloc (.cells (av B) 27)).alloc (.cells #[.int .u32 0, .int .u32 0, .int .u32 0, .int .u32 0, .int .u32 0, .int .u32 0, .int .u32 0, .int .u32 0] 27)).alloc (.cells #[.int .u32 0, .int .u32 0, .int .u32 0, .int .u32 0, .int .u32 0, .int .u32 0, .int .u32 0, .int .u32 0] 27)) := ⟨_, rfl⟩
  have hA : Blk W w.heap.size 27 (av A) := by rw [hW]; exact (((Blk.new w _ _).alloc _).alloc _).alloc _
  have hB : Blk W (w.heap.size + 1) 27 (av B) := by
    have := ((Blk.new (w.alloc (.cells (av A) 27)) 27 (av B)).alloc (.cells #[.int .u32 0, .int .u32 0, .int .u32 0, .int .u32 0, .int .u32 0, .int .u32 0, .int .u32 0, .int .u32 0] 27)).alloc (.cells #[.int .u32 0, .int .u32 0, .int .u32 0, .int .u32 0, .int .u32 0, .int .u32 0, .int .u32 0, .int .u32 0] 27)
    rw [World.size_alloc] at this
    rw [hW]; exact this
  have hC : Blk W (w.heap.size + 1 + 1) 27 (av zeroV) := by
    have := (Blk.new ((w.alloc (.cells (av A) 27)).alloc (.cells (av B) 27)) 27 (av zeroV)).alloc (.cells #[.int .u32 0, .int .u32 0, .int .u32 0, .int .u32 0, .int .u32 0, .int .u32 0, .int .u32 0, .int .u32 0] 27)
    rw [World.size_alloc, World.size_alloc] at this
    rw [hW]; exact this
  have hD : Blk W (w.heap.size + 1 + 1 + 1) 27 (av zeroV) := by
    have := Blk.new (((w.alloc (.cells (av A) 27)).alloc (.cells (av B) 27)).alloc (.cells (av zeroV) 27)) 27 (av zeroV)
    rw [World.size_alloc, World.size_alloc, World.size_alloc] at this
    rw [hW]; exact this
  have hbel : Below w.heap.size w W := by rw [hW]; exact ((((Below.refl _ _).alloc (Nat.le_refl _) _).alloc (by simp) _).alloc (by simp; omega) _).alloc (by simp; omega) _
  have HW := Lib.hid hW
  have HA := Lib.hid hA
  have HB := Lib.hid hB
  have HC := Lib.hid hC
  have HD := Lib.hid hD
  clear hW hA hB hC hD
  unfold vv
  go_enter Tryd.func63, Tryd.ntmps63
  go_wp2_with fail
  rw [← HW.out]
  go_loopw [6] (fun i wr => ∃ k : Nat, k ≤ 8 ∧ i = .int .i64 (k : Int) ∧ Blk wr w.heap.size 27 (av A) ∧ Blk wr (w.heap.size + 1) 27 (av B) ∧ Blk wr (w.heap.size + 1 + 1) 27 (av zeroV) ∧ Blk wr (w.heap.size + 1 + 1 + 1) 27 (av (mixV (joinV A B) zeroV k)) ∧ Below w.heap.size w wr) (fun i _ => 8 - (intOf i).toNat)
  case atStart => exact ⟨0, by omega, rfl, HA.out, HB.out, HC.out, by rw [mixV_zero]; exact HD.out, hbel⟩
  case round =>
    clear HW HA HB HC HD hbel W
    obtain ⟨k, hk, rfl, hA, hB, hC, hD, hbel⟩ := hrel
    by_cases hlt : k < 8
    · have hcA := hA.cell k
      rw [av_get _ hlt] at hcA
      have hcB := hB.cell k
      rw [av_get _ hlt] at hcB
      have hcD := hD.cell k
      rw [av_get _ hlt] at hcD
      have hfD := hD.frozen k
      have hsA := hD.set_ k (.int .u32 ((A k : Nat) : Int))
      rw [av_set _ _ _ hlt] at hsA
      have hA2 := hA.far (p := ⟨w.heap.size + 1 + 1 + 1, k, none⟩) (by show w.heap.size ≠ w.heap.size + 1 + 1 + 1; omega) (.int .u32 ((A k : Nat) : Int))
      have hB2 := hB.far (p := ⟨w.heap.size + 1 + 1 + 1, k, none⟩) (by show w.heap.size + 1 ≠ w.heap.size + 1 + 1 + 1; omega) (.int .u32 ((A k : Nat) : Int))
      have hC2 := hC.far (p := ⟨w.heap.size + 1 + 1 + 1, k, none⟩) (by show w.heap.size + 1 + 1 ≠ w.heap.size + 1 + 1 + 1; omega) (.int .u32 ((A k : Nat) : Int))
      have hbel2 := hbel.setCell (p := ⟨w.heap.size + 1 + 1 + 1, k, none⟩) (Nat.le_add_right w.heap.size 3) (.int .u32 ((A k : Nat) : Int))
      have HsA := Lib.hid hsA
      have HA2 := Lib.hid hA2
      have HB2 := Lib.hid hB2
      have HC2 := Lib.hid hC2
      have Hbel2 := Lib.hid hbel2
      clear hsA hA2 hB2 hC2 hbel2 hA hB hC hD hbel
      go_wp2_with fail
      generalize hW2 : wr.setCell ⟨w.heap.size + 1 + 1 + 1, k, none⟩ (.int .u32 ((A k : Nat) : Int)) = W2 at HsA HA2 HB2 HC2 Hbel2 ⊢
      have hcA2 := HA2.out.cell k
      rw [av_get _ hlt] at hcA2
      have hcB2 := HB2.out.cell k
      rw [av_get _ hlt] at hcB2
      have hcD2 := HsA.out.cell k
      rw [av_get _ hlt] at hcD2
      have hfD2 := HsA.out.frozen k
      clear hW2 hcA hcB hfD hcD
      by_cases hg : A k < B k
      · have hgt : decide ((A k : Int) < (B k : Int)) = true := by simpa using hg
        have hs := HsA.out.set_ k (.int .u32 ((B k : Nat) : Int))
        rw [av_set _ _ _ hlt, updV_twice, ← joinV_lt hg, mixV_succ] at hs
        have hA3 := HA2.out.far (p := ⟨w.heap.size + 1 + 1 + 1, k, none⟩) (by show w.heap.size ≠ w.heap.size + 1 + 1 + 1; omega) (.int .u32 ((B k : Nat) : Int))
        have hB3 := HB2.out.far (p := ⟨w.heap.size + 1 + 1 + 1, k, none⟩) (by show w.heap.size + 1 ≠ w.heap.size + 1 + 1 + 1; omega) (.int .u32 ((B k : Nat) : Int))
        have hC3 := HC2.out.far (p := ⟨w.heap.size + 1 + 1 + 1, k, none⟩) (by show w.heap.size + 1 + 1 ≠ w.heap.size + 1 + 1 + 1; omega) (.int .u32 ((B k : Nat) : Int))
        have hbel3 := Hbel2.out.setCell (p := ⟨w.heap.size + 1 + 1 + 1, k, none⟩) (Nat.le_add_right w.heap.size 3) (.int .u32 ((B k : Nat) : Int))
        rw [joinV_lt hg] at hs
        have Hs := Lib.hid hs
        have HA3 := Lib.hid hA3
        have HB3 := Lib.hid hB3
        have HC3 := Lib.hid hC3
        have Hbel3 := Lib.hid hbel3
        clear hs hA3 hB3 hC3 hbel3
        go_quiet (fail)
        go_wp2
        go_roundw
        case rel => exact ⟨k + 1, by omega, by go_num, HA3.out, HB3.out, HC3.out, Hs.out, below_drewN Hbel3.out _⟩
        case measure => simp [intOf]; omega
      · have hgt : decide ((A k : Int) < (B k : Int)) = false := by simpa using hg
        have hs := HsA.out
        rw [← joinV_ge hg, mixV_succ] at hs
        have Hs := Lib.hid hs
        clear hs
        go_quiet (fail)
        go_wp2
        go_roundw
        case rel => exact ⟨k + 1, by omega, by go_num, HA2.out, HB2.out, HC2.out, Hs.out, below_drewN Hbel2.out _⟩
        case measure => simp [intOf]; omega
    · obtain rfl : k = 8 := by omega
      rw [mixV_all] at hD
      have HD := Lib.hid hD
      have HC := Lib.hid hC
      clear hA hB hC hD
      go_wp2_with (first | (refine wpList_load_row rfl 27 (.tmp 5) rfl (w.heap.size + 1 + 1 + 1) rfl 27 (av (joinV A B)) (0, 0) _ HD.out Tryd.underlying27 rfl vec_info ?_) | (refine wpList_store_row rfl 27 (.tmp 4) (.tmp 29) rfl (w.heap.size + 1 + 1) (av (joinV A B)) rfl rfl 27 _ HC.out vec_info rfl (av_one _) ?_))
      have hend := HC.out.setRow_ (av (joinV A B))
      exact bodyPost_ret (v := vv (joinV A B)) (results_cell_row Tryd.results63 _ _ (w.heap.size + 1 + 1) 27 (av (joinV A B)) (0, 0) _ rfl hend Tryd.underlying27 rfl vec_info) rfl ⟨rfl, below_setRow hbel (by omega) _⟩

end Go.Proofs.YtcpjgohclncbkaaDoor

namespace Go.Proofs.YtcpjgohclncbkaaDoor
open Go.RowKit
set_option maxRecDepth 100000

theorem refless_any (r : Int) (s : Nat) (r' : Int) (s' : Nat) (w : World) :
    Calls Tryd.prog 57 #[idv r s, idv r' s'] w fun e w' => e = .returned (.bool (lessV r s r' s')) ∧ Below w.heap.size w w' := by
  obtain ⟨b, hb⟩ : ∃ b, b = lessV r s r' s' := ⟨_, rfl⟩
  rw [← hb]
  have hbel : Below w.heap.size w ((w.alloc (.cells #[.int .i64 r, .int .u32 (s : Int)] 25)).alloc (.cells #[.int .i64 r', .int .u32 (s' : Int)] 25)) := ((Below.refl _ _).alloc (Nat.le_refl _) _).alloc (by simp) _
  unfold idv
  by_cases he : s < s'
  · have hb2 : b = true := by rw [hb]; unfold lessV; simp [he]
    have hd : decide ((s : Int) < (s' : Int)) = true := by simpa using he
    have Hb := Lib.hid hb2
    clear hb hb2
    go_enter Tryd.func57, Tryd.ntmps57
    go_wp2
    go_ret
    exact ⟨by rw [Hb.out]; rfl, hbel⟩
  · have hd : decide ((s : Int) < (s' : Int)) = false := by simpa using he
    by_cases he2 : s = s'
    · subst he2
      have hb2 : b = decide (r < r') := by rw [hb]; unfold lessV; simp
      have Hb := Lib.hid hb2
      clear hb hb2
      go_enter Tryd.func57, Tryd.ntmps57
      go_wp2
      go_ret
      exact ⟨by rw [Hb.out]; rfl, hbel⟩
    · have hb2 : b = false := by rw [hb]; unfold lessV; simp [he, he2]
      have hne : ((s : Int) == (s' : Int)) = false := by rw [beq_eq_false_iff_ne]; omega
      have Hb := Lib.hid hb2
      clear hb hb2
      go_enter Tryd.func57, Tryd.ntmps57
      go_wp2
      go_ret
      exact ⟨by rw [Hb.out]; rfl, hbel⟩
end Go.Proofs.YtcpjgohclncbkaaDoor

namespace Go.Proofs.YtcpjgohclncbkaaDoor
open Go.RowKit
set_option maxRecDepth 100000

def oneV (r : Int) (s : Nat) : Nat → Nat := fun i => if (i : Int) + 1 = r then s else 0
theorem joinV_one (V : Nat → Nat) (r : Int) (s : Nat) : av (joinV V (oneV r s)) = av (withV V r s) := av_congr fun i hi => by
  unfold joinV oneV withV
  by_cases h : (i : Int) + 1 = r
  · have hr : repV r = true := repV_iff.2 (by omega)
    have hk : (r - 1).toNat = i := by omega
    rw [if_pos h, if_pos hr, hk]
    unfold updV
    rw [if_pos rfl]
  · rw [if_neg h, Nat.max_zero]
    split
    · rename_i hr
      rw [repV_iff] at hr
      unfold updV
      rw [if_neg (by omega)]
    · rfl
theorem mix_one_hit {r : Int} {s k : Nat} (h : (k : Int) + 1 = r) : updV (mixV (oneV r s) zeroV k) k s = mixV (oneV r s) zeroV (k + 1) := by
  have e : oneV r s k = s := by unfold oneV; rw [if_pos h]
  have := mixV_succ (oneV r s) zeroV k
  rwa [e] at this
theorem mix_one_miss {r : Int} {s k : Nat} (h : ¬ (k : Int) + 1 = r) : mixV (oneV r s) zeroV k = mixV (oneV r s) zeroV (k + 1) := by
  have e : oneV r s k = 0 := by unfold oneV; rw [if_neg h]
  rw [← mixV_succ, e]
  funext i
  unfold updV
  split
  · rename_i hi
    rw [hi, mixV_at]
    rfl
  · rfl

set_option maxHeartbeats 1000000 in
theorem refone_any (r : Int) (s : Nat) (w : World) :
    Calls Tryd.prog 65 #[idv r s] w fun e w' => e = .returned (vv (oneV r s)) ∧ Below w.heap.size w w' := by
  obtain ⟨W, hW⟩ : ∃ W, W = (((w.alloc (.cells #[.int .i64 r, .int .u32 (s : Int)] 25)).alloc (.cells #[.int .u32 0, .int .u32 0, .int .u32 0, .int .u32 0, .int .u32 0, .int .u32 0, .int .u32 0, .int .u32 0] 27)).alloc (.cells #[.int .u32 0, .int .u32 0, .int .u32 0, .int .u32 0, .int .u32 0, .int .u32 0, .int .u32 0, .int .u32 0] 27)) := ⟨_, rfl⟩
  have hA : Blk W w.heap.size 25 #[.int .i64 r, .int .u32 (s : Int)] := by rw [hW]; exact ((Blk.new w _ _).alloc _).alloc _
  have hC : Blk W (w.heap.size + 1) 27 (av zeroV) := by
    have := (Blk.new (w.alloc (.cells #[.int .i64 r, .int .u32 (s : Int)] 25)) 27 (av zeroV)).alloc (.cells #[.int .u32 0, .int .u32 0, .int .u32 0, .int .u32 0, .int .u32 0, .int .u32 0, .int .u32 0, .int .u32 0] 27)
    rw [World.size_alloc] at this
    rw [hW]; exact this
  have hD : Blk W (w.heap.size + 1 + 1) 27 (av zeroV) := by
    have := Blk.new ((w.alloc (.cells #[.int .i64 r, .int .u32 (s : Int)] 25)).alloc (.cells (av zeroV) 27)) 27 (av zeroV)
    rw [World.size_alloc, World.size_alloc] at this
    rw [hW]; exact this
  have hbel : Below w.heap.size w W := by rw [hW]; exact (((Below.refl _ _).alloc (Nat.le_refl _) _).alloc (by simp) _).alloc (by simp; omega) _
  have HW := Lib.hid hW
  have HA := Lib.hid hA
  have HC := Lib.hid hC
  have HD := Lib.hid hD
  clear hW hA hC hD
  unfold vv idv
  go_enter Tryd.func65, Tryd.ntmps65
  go_wp2_with fail
  rw [← HW.out]
  go_loopw [4] (fun i wr => ∃ k : Nat, k ≤ 8 ∧ i = .int .i64 (k : Int) ∧ Blk wr w.heap.size 25 #[.int .i64 r, .int .u32 (s : Int)] ∧ Blk wr (w.heap.size + 1) 27 (av zeroV) ∧ Blk wr (w.heap.size + 1 + 1) 27 (av (mixV (oneV r s) zeroV k)) ∧ Below w.heap.size w wr) (fun i _ => 8 - (intOf i).toNat)
  case atStart => exact ⟨0, by omega, rfl, HA.out, HC.out, by rw [mixV_zero]; exact HD.out, hbel⟩
  case round =>
    clear HW HA HC HD hbel W
    obtain ⟨k, hk, rfl, hA, hC, hD, hbel⟩ := hrel
    by_cases hlt : k < 8
    · have z0 := hA.cell 0
      have z1 := hA.cell 1
      simp only [List.getElem?_toArray, List.getElem?_cons_zero, List.getElem?_cons_succ] at z0 z1
      have hcD := hD.cell k
      rw [av_get _ hlt] at hcD
      have hfD := hD.frozen k
      by_cases he : (k : Int) + 1 = r
      · have he1 : ((k : Int) + 1 == r) = true := by simpa using he
        have hs := hD.set_ k (.int .u32 ((s : Nat) : Int))
        rw [av_set _ _ _ hlt, mix_one_hit he] at hs
        have hA2 := hA.far (p := ⟨w.heap.size + 1 + 1, k, none⟩) (by show w.heap.size ≠ w.heap.size + 1 + 1; omega) (.int .u32 ((s : Nat) : Int))
        have hC2 := hC.far (p := ⟨w.heap.size + 1 + 1, k, none⟩) (by show w.heap.size + 1 ≠ w.heap.size + 1 + 1; omega) (.int .u32 ((s : Nat) : Int))
        have hbel2 := hbel.setCell (p := ⟨w.heap.size + 1 + 1, k, none⟩) (Nat.le_add_right w.heap.size 2) (.int .u32 ((s : Nat) : Int))
        have Hs := Lib.hid hs
        have HA2 := Lib.hid hA2
        have HC2 := Lib.hid hC2
        clear hs hA2 hC2 hA hC hD he
        go_wp2
        go_roundw
        case rel => exact ⟨k + 1, by omega, by go_num, HA2.out, HC2.out, Hs.out, hbel2⟩
        case measure => simp [intOf]; omega
      · have he1 : ((k : Int) + 1 == r) = false := by simpa using he
        rw [mix_one_miss he] at hD
        have HA := Lib.hid hA
        have HC := Lib.hid hC
        have HD := Lib.hid hD
        clear hA hC hD he
        go_wp2
        go_roundw
        case rel => exact ⟨k + 1, by omega, by go_num, HA.out, HC.out, HD.out, hbel⟩
        case measure => simp [intOf]; omega
    · obtain rfl : k = 8 := by omega
      rw [mixV_all] at hD
      have HD := Lib.hid hD
      have HC := Lib.hid hC
      clear hA hC hD
      go_wp2_with (first | (refine wpList_load_row rfl 27 (.tmp 3) rfl (w.heap.size + 1 + 1) rfl 27 (av (oneV r s)) (0, 0) _ HD.out Tryd.underlying27 rfl vec_info ?_) | (refine wpList_store_row rfl 27 (.tmp 2) (.tmp 19) rfl (w.heap.size + 1) (av (oneV r s)) rfl rfl 27 _ HC.out vec_info rfl (av_one _) ?_))
      have hend := HC.out.setRow_ (av (oneV r s))
      exact bodyPost_ret (v := vv (oneV r s)) (results_cell_row Tryd.results65 _ _ (w.heap.size + 1) 27 (av (oneV r s)) (0, 0) _ rfl hend Tryd.underlying27 rfl vec_info) rfl ⟨rfl, below_setRow hbel (by omega) _⟩

theorem cell_then {w u : World} {a : Addr} {v : Value} (hb : Below w.heap.size w u) (h : w.cell? a = some v) : u.cell? a = some v := (hb.cell (World.block_lt_of_cell? w _ h)).trans h
theorem store_vec (X : Nat → Nat) {z : World} {g : Nat} {old : Nat → Nat} (h : Blk z g 27 (av old)) : (storeCells ⟨g, 0, none⟩ (av X).toList).run Tryd.prog z = .ok () (z.setRow g (av X)) := by
  have := run_storeCells_from (P := Tryd.prog) g 27 (av X).toList 0 (av old) z h rfl (fun v hv => (Array.all_eq_true_iff_forall_mem.1 (av_one X)) v (by simpa using hv))
  simpa using this
set_option maxHeartbeats 1000000 in
theorem refwith_any (V : Nat → Nat) (r : Int) (s : Nat) (w : World) :
    Calls Tryd.prog 43 #[vv V, idv r s] w fun e w' => e = .returned (vv (withV V r s)) ∧ Below w.heap.size w w' := by
  obtain ⟨W, hW⟩ : ∃ W, W = (((w.alloc (.cells (av V) 27)).alloc (.cells #[.int .i64 r, .int .u32 (s : Int)] 25)).alloc (.cells #[.int .u32 0, .int .u32 0, .int .u32 0, .int .u32 0, .int .u32 0, .int .u32 0, .int .u32 0, .int .u32 0] 27)) := ⟨_, rfl⟩
  have hA : Blk W w.heap.size 27 (av V) := by rw [hW]; exact ((Blk.new w _ _).alloc _).alloc _
  have hB : Blk W (w.heap.size + 1) 25 #[.int .i64 r, .int .u32 (s : Int)] := by
    have := (Blk.new (w.alloc (.cells (av V) 27)) 25 #[.int .i64 r, .int .u32 (s : Int)]).alloc (.cells #[.int .u32 0, .int .u32 0, .int .u32 0, .int .u32 0, .int .u32 0, .int .u32 0, .int .u32 0, .int .u32 0] 27)
    rw [World.size_alloc] at this
    rw [hW]; exact this
  have hC : Blk W (w.heap.size + 1 + 1) 27 (av zeroV) := by
    have := Blk.new ((w.alloc (.cells (av V) 27)).alloc (.cells #[.int .i64 r, .int .u32 (s : Int)] 25)) 27 (av zeroV)
    rw [World.size_alloc, World.size_alloc] at this
    rw [hW]; exact this
  have hbel : Below w.heap.size w W := by rw [hW]; exact (((Below.refl _ _).alloc (Nat.le_refl _) _).alloc (by simp) _).alloc (by simp; omega) _
  have HW := Lib.hid hW
  have z0 := hB.cell 0
  have z1 := hB.cell 1
  simp only [List.getElem?_toArray, List.getElem?_cons_zero, List.getElem?_cons_succ] at z0 z1
  have v0 := hA.cell 0
  have v1 := hA.cell 1
  have v2 := hA.cell 2
  have v3 := hA.cell 3
  have v4 := hA.cell 4
  have v5 := hA.cell 5
  have v6 := hA.cell 6
  have v7 := hA.cell 7
  rw [av_get V (by omega)] at v0 v1 v2 v3 v4 v5 v6 v7
  have HC := Lib.hid hC
  have HA := Lib.hid hA
  clear hW hA hB hC
  have hone := fun z => refone_any r s z
  have hjoin := fun z => refjoin_any V (oneV r s) z
  have hj := joinV_one V r s
  unfold vv idv at *
  rw [hj] at hjoin
  have Hone := Lib.hid hone
  have Hjoin := Lib.hid hjoin
  clear hone hjoin hj
  go_enter Tryd.func43, Tryd.ntmps43
  go_wp2_with fail
  rw [← HW.out]
  go_region_with (first | (go_at_call 65; refine (Hone.out _).mono ?_; rintro e w1 ⟨rfl, hb1⟩; have hb1' := below_drew_then hb1; have u0 := (cell_then hb1' v0); have u1 := (cell_then hb1' v1); have u2 := (cell_then hb1' v2); have u3 := (cell_then hb1' v3); have u4 := (cell_then hb1' v4); have u5 := (cell_then hb1' v5); have u6 := (cell_then hb1' v6); have u7 := (cell_then hb1' v7)) | (go_at_call 63; refine (Hjoin.out _).mono ?_; rintro e w2 ⟨rfl, hb2⟩; have hC2 := (HC.out.grow hb1').grow hb2; have hsc := store_vec (withV V r s) hC2; have hfr0 := hC2.frozen 0; have hcl0 := hC2.cell 0; have HC2 := Lib.hid hC2; clear hC2))
  all_goals go_wp2
  all_goals exact bodyPost_ret (v := .agg (av (withV V r s))) (results_cell_row Tryd.results43 _ _ (w.heap.size + 1 + 1) 27 (av (withV V r s)) (0, 0) _ rfl (HC2.out.setRow_ (av (withV V r s))) Tryd.underlying27 rfl vec_info) rfl ⟨rfl, below_setRow (below_call (below_call hbel hb1') hb2) (Nat.le_add_right w.heap.size 2) _⟩
end Go.Proofs.YtcpjgohclncbkaaDoor
