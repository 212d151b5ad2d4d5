/-
  The document's vectors: Get, Order, Leq.
-/
import Derived.Test.YtjakgmidhpddoaaDoorVec6
namespace Go.Proofs.YtjakgmidhpddoaaDoor
open Go.RowKit
set_option maxRecDepth 100000

theorem refget_any (V : Nat → Nat) (r : Int) (w : World) :
    Calls Tryd.prog 21 #[vv V, .int .i64 r] w fun e w' => e = .returned (.int .u32 (getV V r : Int)) ∧ Below w.heap.size w w' := by
  obtain ⟨n, hn⟩ : ∃ n, n = getV V r := ⟨_, rfl⟩
  rw [← hn]
  have Hn := Lib.hid hn
  clear hn
  have hA0 : Blk (w.alloc (.cells (av V) 24)) w.heap.size 24 (av V) := Blk.new w _ _
  have hbel : Below w.heap.size w (w.alloc (.cells (av V) 24)) := (Below.refl _ _).alloc (Nat.le_refl _) _
  have HA := Lib.hid hA0
  clear hA0
  unfold vv
  go_enter Tryd.func21, Tryd.ntmps21
  go_wp2
  go_loop [5] (fun i => ∃ k : Nat, k ≤ 8 ∧ i = .int .i64 (k : Int) ∧ ∀ j, j < k → ((j : Nat) : Int) + 1 ≠ r) (fun i => 8 - (intOf i).toNat)
  case atStart => exact ⟨0, by omega, rfl, fun j hj => by omega⟩
  case round =>
    obtain ⟨k, hk, rfl, hall⟩ := hrel
    have Hall := Lib.hid hall
    clear hall
    by_cases hlt : k < 8
    · have hc : (w.alloc (.cells (av V) 24)).cell? ⟨w.heap.size, k, none⟩ = some (.int .u32 (V k : Int)) := by rw [HA.out.cell, av_get V hlt]
      by_cases he : (k : Int) + 1 = r
      · have he1 : ((k : Int) + 1 == r) = true := by simpa using he
        have hn2 : n = V k := by
          rw [Hn.out]; unfold getV; rw [if_pos (repV_iff.2 (by omega))]; congr 1; omega
        have Hn2 := Lib.hid hn2
        clear he hn2
        go_wp2
        go_ret
        exact ⟨by rw [Hn2.out]; rfl, hbel⟩
      · have he1 : ((k : Int) + 1 == r) = false := by simpa using he
        have He := Lib.hid he
        clear he
        go_wp2
        go_round
        case rel => exact ⟨k + 1, by omega, by go_num, fun j hj => by
          by_cases e : j = k
          · subst e; exact He.out
          · exact Hall.out j (by omega)⟩
        case measure => simp [intOf]; omega
    · obtain rfl : k = 8 := by omega
      have hn2 : n = 0 := by
        rw [Hn.out]; unfold getV
        rw [if_neg]
        rw [repV_iff]
        intro h
        exact Hall.out (r - 1).toNat (by omega) (by omega)
      have Hn2 := Lib.hid hn2
      clear hn2
      go_wp2
      go_ret
      exact ⟨by rw [Hn2.out]; rfl, hbel⟩

/-- Is one of the first numbers less? -/
def anyLess (A B : Nat → Nat) : Nat → Bool
  | 0 => false
  | k + 1 => anyLess A B k || decide (A k < B k)
theorem anyLess_iff (A B : Nat → Nat) (k : Nat) : anyLess A B k = false ↔ ∀ i, i < k → B i ≤ A i := by
  induction k with
  | zero => exact ⟨fun _ i hi => by omega, fun _ => rfl⟩
  | succ k ih =>
    show (anyLess A B k || decide (A k < B k)) = false ↔ _
    rw [Bool.or_eq_false_iff, ih, decide_eq_false_iff_not]
    exact ⟨fun h i hi => by
      by_cases e : i = k
      · subst e; omega
      · exact h.1 i (by omega), fun h => ⟨fun i hi => h i (by omega), by have := h k (by omega); omega⟩⟩
theorem anyLess_leq (A B : Nat → Nat) : anyLess A B 8 = !leqV B A := by
  cases h : leqV B A
  · cases h2 : anyLess A B 8
    · rw [anyLess_iff, ← leqV_iff, h] at h2
      cases h2
    · rfl
  · exact (anyLess_iff A B 8).2 (leqV_iff.1 h)
theorem orderV_any (A B : Nat → Nat) : orderV A B = if (anyLess A B 8 && anyLess B A 8) = true then 2 else if anyLess A B 8 = true then -1 else if anyLess B A 8 = true then 1 else 0 := by
  rw [anyLess_leq, anyLess_leq]
  unfold orderV
  have he := eqV_leq A B
  cases h1 : leqV A B <;> cases h2 : leqV B A <;> rw [h1, h2] at he <;> simp at he <;> simp [he]

set_option maxHeartbeats 1000000 in
theorem reforder_any (A B : Nat → Nat) (w : World) :
    Calls Tryd.prog 11 #[vv A, vv B] w fun e w' => e = .returned (.int .i64 (orderV A B)) ∧ Below w.heap.size w w' := by
  obtain ⟨n, hn⟩ : ∃ n, n = orderV A B := ⟨_, rfl⟩
  rw [← hn]
  rw [orderV_any] at hn
  have key : ∀ m : Int, (if (anyLess A B 8 && anyLess B A 8) = true then (2 : Int) else if anyLess A B 8 = true then -1 else if anyLess B A 8 = true then 1 else 0) = m → n = m := fun m h => hn.trans h
  have Hn := Lib.hid key
  clear hn key
  have hA0 : Blk ((w.alloc (.cells (av A) 24)).alloc (.cells (av B) 24)) w.heap.size 24 (av A) := (Blk.new w _ _).alloc _
  have hB0 : Blk ((w.alloc (.cells (av A) 24)).alloc (.cells (av B) 24)) (w.heap.size + 1) 24 (av B) := by
    have := Blk.new (w.alloc (.cells (av A) 24)) 24 (av B)
    rw [World.size_alloc] at this
    exact this
  have hbel : Below w.heap.size w ((w.alloc (.cells (av A) 24)).alloc (.cells (av B) 24)) := ((Below.refl _ _).alloc (Nat.le_refl _) _).alloc (by simp) _
  unfold vv
  go_enter Tryd.func11, Tryd.ntmps11
  go_wp2_with fail
  go_loopw [5, 6, 7] (fun l m i wr => ∃ k : Nat, k ≤ 8 ∧ i = .int .i64 (k : Int) ∧ l = .bool (anyLess A B k) ∧ m = .bool (anyLess B A k) ∧ Blk wr w.heap.size 24 (av A) ∧ Blk wr (w.heap.size + 1) 24 (av B) ∧ Below w.heap.size w wr) (fun _ _ i _ => 8 - (intOf i).toNat)
  case atStart => exact ⟨0, by omega, rfl, rfl, rfl, hA0, hB0, hbel⟩
  case round =>
    obtain ⟨k, hk, rfl, rfl, rfl, hbA, hbB, hbw⟩ := hrel
    by_cases hlt : k < 8
    · have hcA : wr.cell? ⟨w.heap.size, k, none⟩ = some (.int .u32 (A k : Int)) := by rw [hbA.cell, av_get _ hlt]
      have hcB : wr.cell? ⟨w.heap.size + 1, k, none⟩ = some (.int .u32 (B k : Int)) := by rw [hbB.cell, av_get _ hlt]
      have hl : anyLess A B (k + 1) = (anyLess A B k || decide (A k < B k)) := rfl
      have hm : anyLess B A (k + 1) = (anyLess B A k || decide (B k < A k)) := rfl
      generalize anyLess A B k = bl at hl ⊢
      generalize anyLess B A k = bm at hm ⊢
      have Hl := Lib.hid hl
      have Hm := Lib.hid hm
      have HA := Lib.hid hbA
      have HB := Lib.hid hbB
      clear hl hm hbA hbB hA0 hB0 hbel Hn
      cases bl <;> cases bm
      all_goals go_wp2_with fail
      all_goals go_quiet (fail)
      all_goals go_wp2_with fail
      all_goals go_quiet (fail)
      all_goals go_wp2
      all_goals go_roundw
      all_goals first | (exact ⟨k + 1, by omega, by go_num, by rw [Hl.out]; rfl, by rw [Hm.out]; rfl, HA.out, HB.out, below_drewN hbw _⟩) | (simp [intOf]; omega)
    · obtain rfl : k = 8 := by omega
      have Hk := Hn.out
      generalize anyLess A B 8 = bl at Hk ⊢
      generalize anyLess B A 8 = bm at Hk ⊢
      have HK := Lib.hid Hk
      clear Hk Hn hbA hbB hA0 hB0 hbel
      cases bl <;> cases bm
      all_goals go_wp2
      all_goals go_ret
      all_goals refine ⟨?_, hbw⟩
      all_goals first | (rw [HK.out 0 rfl]; rfl) | (rw [HK.out (-1) rfl]; rfl) | (rw [HK.out 1 rfl]; rfl) | (rw [HK.out 2 rfl]; rfl)

theorem refleq_any (A B : Nat → Nat) (w : World) :
    Calls Tryd.prog 13 #[vv A, vv B] w fun e w' => e = .returned (.bool (leqV A B)) ∧ Below w.heap.size w w' := by
  have h := orderV_leq A B
  obtain ⟨n, hn⟩ : ∃ n, n = orderV A B := ⟨_, rfl⟩
  have ho := fun w => reforder_any A B w
  rw [← hn] at h
  rw [← hn] at ho
  generalize leqV A B = b at h ⊢
  have H := Lib.hid h
  have Ho := Lib.hid ho
  have hA0 : Blk ((w.alloc (.cells (av A) 24)).alloc (.cells (av B) 24)) w.heap.size 24 (av A) := (Blk.new w _ _).alloc _
  have hB0 : Blk ((w.alloc (.cells (av A) 24)).alloc (.cells (av B) 24)) (w.heap.size + 1) 24 (av B) := by
    have := Blk.new (w.alloc (.cells (av A) 24)) 24 (av B)
    rw [World.size_alloc] at this
    exact this
  have hbel : Below w.heap.size w ((w.alloc (.cells (av A) 24)).alloc (.cells (av B) 24)) := ((Below.refl _ _).alloc (Nat.le_refl _) _).alloc (by simp) _
  have HA := Lib.hid hA0
  have HB := Lib.hid hB0
  clear h hn ho hA0 hB0
  unfold vv
  go_enter Tryd.func13, Tryd.ntmps13
  go_wp2_with (first | (refine wpList_load_row rfl 24 (.tmp 2) rfl w.heap.size rfl 24 (av A) (0, 0) _ HA.out Tryd.underlying24 rfl vec_info ?_) | (refine wpList_load_row rfl 24 (.tmp 3) rfl (w.heap.size + 1) rfl 24 (av B) (0, 0) _ HB.out Tryd.underlying24 rfl vec_info ?_) | (go_at_call 11; refine (Ho.out _).mono ?_; rintro e w1 ⟨rfl, hb1⟩))
  go_ret
  exact ⟨by rw [← H.out]; rfl, below_call hbel hb1⟩
end Go.Proofs.YtjakgmidhpddoaaDoor
