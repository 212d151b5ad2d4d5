/-
  vec.Join, vec.Meet.
-/
import Derived.Test.YtnokdbblmgggaaaDoorVec2
namespace Go.Proofs.YtnokdbblmgggaaaDoor
open Go.RowKit
set_option maxRecDepth 100000

/-- The first numbers are of one vector, the others of another one. -/
def mixV (F A : Nat → Nat) (k : Nat) : Nat → Nat := fun i => if i < k then F i else A i
theorem mixV_succ (F A : Nat → Nat) (k : Nat) : updV (mixV F A k) k (F k) = mixV F A (k + 1) := by
  funext i
  unfold updV mixV
  by_cases h : i = k
  · rw [if_pos h, if_pos (by omega), h]
  · rw [if_neg h]
    by_cases h2 : i < k
    · rw [if_pos h2, if_pos (by omega)]
    · rw [if_neg h2, if_neg (by omega)]
theorem mixV_at (F A : Nat → Nat) (k : Nat) : mixV F A k k = A k := by unfold mixV; rw [if_neg (by omega)]
theorem mixV_zero (F A : Nat → Nat) : mixV F A 0 = A := by funext i; unfold mixV; rw [if_neg (by omega)]
theorem mixV_all (F A : Nat → Nat) : av (mixV F A 8) = av F := av_congr fun i hi => by unfold mixV; rw [if_pos hi]

set_option maxHeartbeats 400000 in
theorem join_any (A B : Nat → Nat) (w : World) :
    Calls Tryd.prog 10 #[vv A, vv B] w fun e w' => e = .returned (vv (joinV A B)) ∧ Below w.heap.size w w' := by
  have hA0 : Blk (((w.alloc (.cells (av A) 24)).alloc (.cells (av B) 24)).alloc (.cells (av zeroV) 24)) w.heap.size 24 (av A) := ((Blk.new w _ _).alloc _).alloc _
  have hB0 : Blk (((w.alloc (.cells (av A) 24)).alloc (.cells (av B) 24)).alloc (.cells (av zeroV) 24)) (w.heap.size + 1) 24 (av B) := by
    have := (Blk.new (w.alloc (.cells (av A) 24)) 24 (av B)).alloc (.cells (av zeroV) 24)
    simpa using this
  have hC0 : Blk (((w.alloc (.cells (av A) 24)).alloc (.cells (av B) 24)).alloc (.cells (av zeroV) 24)) (w.heap.size + 1 + 1) 24 (av zeroV) := by
    have := Blk.new ((w.alloc (.cells (av A) 24)).alloc (.cells (av B) 24)) 24 (av zeroV)
    simpa using this
  have hbel : Below w.heap.size w (((w.alloc (.cells (av A) 24)).alloc (.cells (av B) 24)).alloc (.cells (av zeroV) 24)) := (((Below.refl _ _).alloc (Nat.le_refl _) _).alloc (by simp) _).alloc (by simp; omega) _
  have HA := Lib.hid hA0
  have HB := Lib.hid hB0
  have HC := Lib.hid hC0
  clear hA0 hB0 hC0
  unfold vv
  go_enter Tryd.func10, Tryd.ntmps10
  go_wp2_with (refine wpList_load_row rfl 24 (.tmp 3) rfl (w.heap.size + 1) rfl 24 (av B) (0, 0) _ HB.out Tryd.underlying24 rfl vec_info ?_)
  go_loopw [8] (fun i wr => ∃ k : Nat, k ≤ 8 ∧ i = .int .i64 (k : Int) ∧ Blk wr w.heap.size 24 (av (mixV (joinV A B) A k)) ∧ Blk wr (w.heap.size + 1 + 1) 24 (av zeroV) ∧ Below w.heap.size w wr) (fun i _ => 8 - (intOf i).toNat)
  case atStart => exact ⟨0, by omega, rfl, by rw [mixV_zero]; exact HA.out, HC.out, hbel⟩
  case round =>
    obtain ⟨k, hk, rfl, hb1, hb2, hbel⟩ := hrel
    by_cases hlt : k < 8
    · have hi := fun w => index_run B k hlt w
      unfold vv at hi
      have hc : wr.cell? ⟨w.heap.size, k, none⟩ = some (.int .u32 (A k : Int)) := by rw [hb1.cell, av_get _ hlt, mixV_at]
      have hf : wr.frozen? ⟨w.heap.size, k, none⟩ = false := hb1.frozen k
      have hs := hb1.set_ k (.int .u32 (joinV A B k : Nat))
      rw [av_set _ _ _ hlt, mixV_succ] at hs
      have Hb1 := Lib.hid hb1
      have Hb2 := Lib.hid hb2
      have Hs := Lib.hid hs
      clear hb1 hb2 hs
      have hx : (.int .u32 (joinV A B k : Nat) : Value) = .int .u32 (if A k < B k then (B k : Int) else (A k : Int)) := by
        unfold joinV; congr 1; split <;> omega
      rw [hx] at Hs
      clear hx
      go_wp2
      go_roundw
      case rel => exact ⟨k + 1, by omega, by go_num, Hs.out, Hb2.out.far (by show w.heap.size + 1 + 1 ≠ w.heap.size; omega) _, hbel.setCell (Nat.le_refl _) _⟩
      case measure => simp [intOf]; omega
    · obtain rfl : k = 8 := by omega
      rw [mixV_all] at hb1
      have Hb1 := Lib.hid hb1
      have Hb2 := Lib.hid hb2
      clear hb1 hb2
      go_wp2_with (first | (refine wpList_load_row rfl 24 (.tmp 2) rfl w.heap.size rfl 24 (av (joinV A B)) (0, 0) _ Hb1.out Tryd.underlying24 rfl vec_info ?_) | (refine wpList_store_row rfl 24 (.tmp 4) (.tmp 20) rfl (w.heap.size + 1 + 1) (av (joinV A B)) rfl rfl 24 _ Hb2.out vec_info rfl (av_one _) ?_))
      have hend := Hb2.out.setRow_ (av (joinV A B))
      have Hend := Lib.hid hend
      clear hend
      exact bodyPost_ret (v := vv (joinV A B)) (results_cell_row Tryd.results10 _ _ (w.heap.size + 1 + 1) 24 (av (joinV A B)) (0, 0) _ rfl Hend.out Tryd.underlying24 rfl vec_info) rfl ⟨rfl, below_setRow hbel (by omega) _⟩

set_option maxHeartbeats 400000 in
theorem meet_any (A B : Nat → Nat) (w : World) :
    Calls Tryd.prog 11 #[vv A, vv B] w fun e w' => e = .returned (vv (meetV A B)) ∧ Below w.heap.size w w' := by
  have hA0 : Blk (((w.alloc (.cells (av A) 24)).alloc (.cells (av B) 24)).alloc (.cells (av zeroV) 24)) w.heap.size 24 (av A) := ((Blk.new w _ _).alloc _).alloc _
  have hB0 : Blk (((w.alloc (.cells (av A) 24)).alloc (.cells (av B) 24)).alloc (.cells (av zeroV) 24)) (w.heap.size + 1) 24 (av B) := by
    have := (Blk.new (w.alloc (.cells (av A) 24)) 24 (av B)).alloc (.cells (av zeroV) 24)
    simpa using this
  have hC0 : Blk (((w.alloc (.cells (av A) 24)).alloc (.cells (av B) 24)).alloc (.cells (av zeroV) 24)) (w.heap.size + 1 + 1) 24 (av zeroV) := by
    have := Blk.new ((w.alloc (.cells (av A) 24)).alloc (.cells (av B) 24)) 24 (av zeroV)
    simpa using this
  have hbel : Below w.heap.size w (((w.alloc (.cells (av A) 24)).alloc (.cells (av B) 24)).alloc (.cells (av zeroV) 24)) := (((Below.refl _ _).alloc (Nat.le_refl _) _).alloc (by simp) _).alloc (by simp; omega) _
  have HA := Lib.hid hA0
  have HB := Lib.hid hB0
  have HC := Lib.hid hC0
  clear hA0 hB0 hC0
  unfold vv
  go_enter Tryd.func11, Tryd.ntmps11
  go_wp2_with (refine wpList_load_row rfl 24 (.tmp 3) rfl (w.heap.size + 1) rfl 24 (av B) (0, 0) _ HB.out Tryd.underlying24 rfl vec_info ?_)
  go_loopw [8] (fun i wr => ∃ k : Nat, k ≤ 8 ∧ i = .int .i64 (k : Int) ∧ Blk wr w.heap.size 24 (av (mixV (meetV A B) A k)) ∧ Blk wr (w.heap.size + 1 + 1) 24 (av zeroV) ∧ Below w.heap.size w wr) (fun i _ => 8 - (intOf i).toNat)
  case atStart => exact ⟨0, by omega, rfl, by rw [mixV_zero]; exact HA.out, HC.out, hbel⟩
  case round =>
    obtain ⟨k, hk, rfl, hb1, hb2, hbel⟩ := hrel
    by_cases hlt : k < 8
    · have hi := fun w => index_run B k hlt w
      unfold vv at hi
      have hc : wr.cell? ⟨w.heap.size, k, none⟩ = some (.int .u32 (A k : Int)) := by rw [hb1.cell, av_get _ hlt, mixV_at]
      have hf : wr.frozen? ⟨w.heap.size, k, none⟩ = false := hb1.frozen k
      have hs := hb1.set_ k (.int .u32 (meetV A B k : Nat))
      rw [av_set _ _ _ hlt, mixV_succ] at hs
      have Hb1 := Lib.hid hb1
      have Hb2 := Lib.hid hb2
      have Hs := Lib.hid hs
      clear hb1 hb2 hs
      have hx : (.int .u32 (meetV A B k : Nat) : Value) = .int .u32 (if B k < A k then (B k : Int) else (A k : Int)) := by
        unfold meetV; congr 1; split <;> omega
      rw [hx] at Hs
      clear hx
      go_wp2
      go_roundw
      case rel => exact ⟨k + 1, by omega, by go_num, Hs.out, Hb2.out.far (by show w.heap.size + 1 + 1 ≠ w.heap.size; omega) _, hbel.setCell (Nat.le_refl _) _⟩
      case measure => simp [intOf]; omega
    · obtain rfl : k = 8 := by omega
      rw [mixV_all] at hb1
      have Hb1 := Lib.hid hb1
      have Hb2 := Lib.hid hb2
      clear hb1 hb2
      go_wp2_with (first | (refine wpList_load_row rfl 24 (.tmp 2) rfl w.heap.size rfl 24 (av (meetV A B)) (0, 0) _ Hb1.out Tryd.underlying24 rfl vec_info ?_) | (refine wpList_store_row rfl 24 (.tmp 4) (.tmp 20) rfl (w.heap.size + 1 + 1) (av (meetV A B)) rfl rfl 24 _ Hb2.out vec_info rfl (av_one _) ?_))
      have hend := Hb2.out.setRow_ (av (meetV A B))
      have Hend := Lib.hid hend
      clear hend
      exact bodyPost_ret (v := vv (meetV A B)) (results_cell_row Tryd.results11 _ _ (w.heap.size + 1 + 1) 24 (av (meetV A B)) (0, 0) _ rfl Hend.out Tryd.underlying24 rfl vec_info) rfl ⟨rfl, below_setRow hbel (by omega) _⟩
end Go.Proofs.YtnokdbblmgggaaaDoor
