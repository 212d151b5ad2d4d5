/-
  vec.With.
-/
import Derived.Test.YtnehoabeameioaaVec5
import Derived.BigRegion
namespace Go.Proofs.Ytnehoabeameioaa
open Go.RowKit
set_option maxRecDepth 100000

set_option maxHeartbeats 400000 in
theorem with_any (V : Nat → Nat) (hV : okV V) (r : Int) (s : Nat) (w : World) :
    Calls Try.prog 33 #[vv V, idv r s] w fun e w' => e = .returned (vv (withV V r s)) ∧ Below w.heap.size w w' := by
  obtain ⟨R, hR⟩ : ∃ R, R = withV V r s := ⟨_, rfl⟩
  rw [← hR]
  obtain ⟨W, hW⟩ : ∃ W, W = (((w.alloc (.cells (av V) 37)).alloc (.cells #[.int .i64 r, .int .u32 (s : Int)] 35)).alloc (.cells #[.int .u32 0, .int .u32 0, .int .u32 0, .int .u32 0, .int .u32 0, .int .u32 0, .int .u32 0, .int .u32 0] 37)) := ⟨_, rfl⟩
  have hA : Blk W w.heap.size 37 (av V) := by rw [hW]; exact ((Blk.new w _ _).alloc _).alloc _
  have hB : Blk W (w.heap.size + 1) 35 #[.int .i64 r, .int .u32 (s : Int)] := by
    have := (Blk.new (w.alloc (.cells (av V) 37)) 35 #[.int .i64 r, .int .u32 (s : Int)]).alloc (.cells #[.int .u32 0, .int .u32 0, .int .u32 0, .int .u32 0, .int .u32 0, .int .u32 0, .int .u32 0, .int .u32 0] 37)
    rw [World.size_alloc] at this
    rw [hW]; exact this
  have hC : Blk W (w.heap.size + 1 + 1) 37 (av zeroV) := by
    have := Blk.new ((w.alloc (.cells (av V) 37)).alloc (.cells #[.int .i64 r, .int .u32 (s : Int)] 35)) 37 (av zeroV)
    rw [World.size_alloc, World.size_alloc] at this
    rw [hW]; exact this
  have hbel : Below w.heap.size w W := by rw [hW]; exact (((Below.refl _ _).alloc (Nat.le_refl _) _).alloc (by simp) _).alloc (by simp; omega) _
  have HW := Lib.hid hW
  clear hW
  have z0 := hB.cell 0
  have z1 := hB.cell 1
  simp only [List.getElem?_toArray, List.getElem?_cons_zero, List.getElem?_cons_succ] at z0 z1
  have HC := Lib.hid hC
  unfold vv idv
  cases hr : repV r with
  | false =>
    have hR2 : R = V := by rw [hR]; unfold withV; rw [hr]; rfl
    subst hR2
    have Hr := Lib.hid hr
    have HA := Lib.hid hA
    clear hR hr hA hB hC
    go_enter Try.func33, Try.ntmps33
    go_wp2_with fail
    rw [← HW.out]
    go_wp2_with (first | (go_at_call 53; refine (isrep_any _ _).mono ?_; rintro e w1 ⟨rfl, rfl⟩; rw [Hr.out]) | (refine wpList_load_row rfl 37 (.tmp 2) rfl w.heap.size rfl 37 (av R) (0, 0) _ HA.out Try.underlying37 rfl vec_info ?_) | (refine wpList_store_row rfl 37 (.tmp 4) (.tmp 20) rfl (w.heap.size + 1 + 1) (av R) rfl rfl 37 _ HC.out vec_info rfl (av_one _) ?_))
    have hend := HC.out.setRow_ (av R)
    exact bodyPost_ret (v := vv R) (results_cell_row Try.results33 _ _ (w.heap.size + 1 + 1) 37 (av R) (0, 0) _ rfl hend Try.underlying37 rfl vec_info) rfl ⟨rfl, below_setRow hbel (by omega) _⟩
  | true =>
    obtain ⟨h1, h2⟩ := repV_iff.1 hr
    obtain ⟨k, hk⟩ : ∃ k : Nat, r = (k : Int) + 1 := ⟨(r - 1).toNat, by omega⟩
    subst hk
    have hk8 : k < 8 := by omega
    have hkt : ((k : Int) + 1 - 1).toNat = k := by omega
    have hcell := hA.cell k
    rw [av_get V hk8] at hcell
    have hfrz := hA.frozen k
    have hR2 : R = updV V k (max (V k) s) := by rw [hR]; unfold withV; rw [if_pos hr, hkt]
    have hVk := hV k hk8
    rcases Nat.lt_or_ge (V k) s with hlt | hlt
    · have hmx : max (V k) s = s := by omega
      have hmi : max (V k : Int) (s : Int) = (s : Int) := by omega
      rw [hmx] at hR2
      subst hR2
      have hset := av_set V k (s) hk8
      have hs1 := hA.set_ k (.int .u32 ((s : Nat) : Int))
      rw [hset] at hs1
      have hs2 := hC.far (p := ⟨w.heap.size, k, none⟩) (by show w.heap.size + 1 + 1 ≠ w.heap.size; omega) (.int .u32 ((s : Nat) : Int))
      have hbel2 := hbel.setCell (p := ⟨w.heap.size, k, none⟩) (Nat.le_refl _) (.int .u32 ((s : Nat) : Int))
      have Hr := Lib.hid hr
      have Hs1 := Lib.hid hs1
      have Hs2 := Lib.hid hs2
      have Hb2 := Lib.hid hbel2
      clear hR hr hkt hs1 hs2 hset hbel2 hA hB hC hV hmx
      go_enter Try.func33, Try.ntmps33
      go_wp2_with fail
      rw [← HW.out]
      go_wp2_with (go_at_call 53; refine (isrep_any _ _).mono ?_; rintro e w1 ⟨rfl, rfl⟩; rw [Hr.out])
      go_region
      go_wp2_with (first | (refine wpList_load_row rfl 37 (.tmp 2) rfl w.heap.size rfl 37 (av (updV V k (s))) (0, 0) _ Hs1.out Try.underlying37 rfl vec_info ?_) | (refine wpList_store_row rfl 37 (.tmp 4) (.tmp 20) rfl (w.heap.size + 1 + 1) (av (updV V k (s))) rfl rfl 37 _ Hs2.out vec_info rfl (av_one _) ?_))
      have hend := Hs2.out.setRow_ (av (updV V k (s)))
      refine bodyPost_ret (v := vv (updV V k (s))) (results_cell_row Try.results33 _ _ (w.heap.size + 1 + 1) 37 (av (updV V k (s))) (0, 0) _ rfl hend Try.underlying37 rfl vec_info) rfl ⟨rfl, ?_⟩
      exact below_setRow Hb2.out.drew (Nat.le_trans (Nat.le_succ _) (Nat.le_succ _)) _
    · have hmx : max (V k) s = V k := by omega
      have hmi : max (V k : Int) (s : Int) = (V k : Int) := by omega
      rw [hmx] at hR2
      subst hR2
      have hset := av_set V k (V k) hk8
      have hs1 := hA.set_ k (.int .u32 ((V k : Nat) : Int))
      rw [hset] at hs1
      have hs2 := hC.far (p := ⟨w.heap.size, k, none⟩) (by show w.heap.size + 1 + 1 ≠ w.heap.size; omega) (.int .u32 ((V k : Nat) : Int))
      have hbel2 := hbel.setCell (p := ⟨w.heap.size, k, none⟩) (Nat.le_refl _) (.int .u32 ((V k : Nat) : Int))
      have Hr := Lib.hid hr
      have Hs1 := Lib.hid hs1
      have Hs2 := Lib.hid hs2
      have Hb2 := Lib.hid hbel2
      clear hR hr hkt hs1 hs2 hset hbel2 hA hB hC hV hmx
      go_enter Try.func33, Try.ntmps33
      go_wp2_with fail
      rw [← HW.out]
      go_wp2_with (go_at_call 53; refine (isrep_any _ _).mono ?_; rintro e w1 ⟨rfl, rfl⟩; rw [Hr.out])
      go_region
      go_wp2_with (first | (refine wpList_load_row rfl 37 (.tmp 2) rfl w.heap.size rfl 37 (av (updV V k (V k))) (0, 0) _ Hs1.out Try.underlying37 rfl vec_info ?_) | (refine wpList_store_row rfl 37 (.tmp 4) (.tmp 20) rfl (w.heap.size + 1 + 1) (av (updV V k (V k))) rfl rfl 37 _ Hs2.out vec_info rfl (av_one _) ?_))
      have hend := Hs2.out.setRow_ (av (updV V k (V k)))
      refine bodyPost_ret (v := vv (updV V k (V k))) (results_cell_row Try.results33 _ _ (w.heap.size + 1 + 1) 37 (av (updV V k (V k))) (0, 0) _ rfl hend Try.underlying37 rfl vec_info) rfl ⟨rfl, ?_⟩
      exact below_setRow Hb2.out.drew (Nat.le_trans (Nat.le_succ _) (Nat.le_succ _)) _
end Go.Proofs.Ytnehoabeameioaa
