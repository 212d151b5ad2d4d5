/-
  vec.Leq, vec.Order.
-/
import Derived.Test.YtnokdbblmgggaaaDoorVec1
import Derived.Laws.Rows
namespace Go.Proofs.YtnokdbblmgggaaaDoor
open Go.RowKit
set_option maxRecDepth 100000

theorem leq_any (A B : Nat → Nat) (w : World) :
    Calls Tryd.prog 18 #[vv A, vv B] w fun e w' => e = .returned (.bool (leqV A B)) ∧ Below w.heap.size w w' := by
  obtain ⟨b, hb⟩ : ∃ b, b = leqV A B := ⟨_, rfl⟩
  rw [← hb]
  have Hb := Lib.hid hb
  clear hb
  have hA0 : Blk ((w.alloc (.cells (av A) 24)).alloc (.cells (av B) 24)) w.heap.size 24 (av A) := (Blk.new w _ _).alloc _
  have hB0 : Blk ((w.alloc (.cells (av A) 24)).alloc (.cells (av B) 24)) (w.heap.size + 1) 24 (av B) := by
    have := Blk.new (w.alloc (.cells (av A) 24)) 24 (av B)
    simpa using this
  have hbel : Below w.heap.size w ((w.alloc (.cells (av A) 24)).alloc (.cells (av B) 24)) := ((Below.refl _ _).alloc (Nat.le_refl _) _).alloc (by simp) _
  have HA := Lib.hid hA0
  have HB := Lib.hid hB0
  clear hA0 hB0
  unfold vv
  go_enter Tryd.func18, Tryd.ntmps18
  go_wp2_with (refine wpList_load_row rfl 24 _ rfl w.heap.size rfl 24 _ (0, 0) _ HA.out Tryd.underlying24 rfl vec_info ?_)
  go_loop [8] (fun i => ∃ k : Nat, k ≤ 8 ∧ i = .int .i64 (k : Int) ∧ ∀ j, j < k → A j ≤ B j) (fun i => 8 - (intOf i).toNat)
  case atStart => exact ⟨0, by omega, rfl, fun j hj => by omega⟩
  case round =>
    obtain ⟨k, hk, rfl, hall⟩ := hrel
    have Hall := Lib.hid hall
    clear hall
    by_cases hlt : k < 8
    · have hi := fun w => index_run A k hlt w
      unfold vv at hi
      have hc : ((w.alloc (.cells (av A) 24)).alloc (.cells (av B) 24)).cell? ⟨w.heap.size + 1, k, none⟩ = some (.int .u32 (B k : Int)) := by rw [HB.out.cell, av_get B hlt]
      by_cases hg : (B k : Int) < (A k : Int)
      · have hf : b = false := by
          rw [Hb.out, leqV_not]
          exact ⟨k, hlt, by omega⟩
        have Hf := Lib.hid hf
        clear hf
        go_wp2
        go_ret
        exact ⟨by rw [Hf.out]; rfl, hbel⟩
      · go_wp2
        go_round
        case rel => exact ⟨k + 1, by omega, by go_num, fun j hj => by
          by_cases e : j = k
          · subst e; omega
          · exact Hall.out j (by omega)⟩
        case measure => simp [intOf]; omega
    · obtain rfl : k = 8 := by omega
      have hf : b = true := by rw [Hb.out, leqV_iff]; exact Hall.out
      have Hf := Lib.hid hf
      clear hf
      go_wp2
      go_ret
      exact ⟨by rw [Hf.out]; rfl, hbel⟩

theorem order_any (A B : Nat → Nat) (w : World) :
    Calls Tryd.prog 9 #[vv A, vv B] w fun e w' => e = .returned (.int .i64 (orderV A B)) ∧ Below w.heap.size w w' := by
  obtain ⟨n, hn⟩ : ∃ n, n = orderV A B := ⟨_, rfl⟩
  rw [← hn]
  have hA0 : Blk ((w.alloc (.cells (av A) 24)).alloc (.cells (av B) 24)) w.heap.size 24 (av A) := (Blk.new w _ _).alloc _
  have hB0 : Blk ((w.alloc (.cells (av A) 24)).alloc (.cells (av B) 24)) (w.heap.size + 1) 24 (av B) := by
    have := Blk.new (w.alloc (.cells (av A) 24)) 24 (av B)
    simpa using this
  have hbel : Below w.heap.size w ((w.alloc (.cells (av A) 24)).alloc (.cells (av B) 24)) := ((Below.refl _ _).alloc (Nat.le_refl _) _).alloc (by simp) _
  have HA := Lib.hid hA0
  have HB := Lib.hid hB0
  have heq := eql_run A B
  clear hA0 hB0
  unfold orderV at hn
  have HL1 := Lib.hid (fun w => leq_any A B w)
  have HL2 := Lib.hid (fun w => leq_any B A w)
  unfold vv at heq ⊢
  generalize h0 : eqV A B = b0 at hn heq
  generalize h1 : leqV A B = b1 at hn HL1
  generalize h2 : leqV B A = b2 at hn HL2
  unfold vv at HL1 HL2
  clear h0 h1 h2
  have key : ∀ m : Int, (if b0 = true then (0 : Int) else if b1 = true then -1 else if b2 = true then 1 else 2) = m → n = m := fun m h => hn.trans h
  have Hn := Lib.hid key
  clear hn key
  cases b0 <;> cases b1 <;> cases b2
  all_goals go_enter Tryd.func9, Tryd.ntmps9
  all_goals go_wp2_with (first | (refine wpList_load_row rfl 24 (.tmp 2) rfl w.heap.size rfl 24 (av A) (0, 0) _ (by first | exact HA.out | exact HA.out.grow (by assumption)) Tryd.underlying24 rfl vec_info ?_) | (refine wpList_load_row rfl 24 (.tmp 3) rfl (w.heap.size + 1) rfl 24 (av B) (0, 0) _ (by first | exact HB.out | exact HB.out.grow (by assumption)) Tryd.underlying24 rfl vec_info ?_) | (go_at_call 18; (with_reducible refine (HL1.out _).mono ?_); rintro e w1 ⟨rfl, hb1⟩) | (go_at_call 18; (with_reducible refine (HL2.out _).mono ?_); rintro e w2 ⟨rfl, hb2⟩))
  all_goals go_ret
  all_goals refine ⟨?_, ?_⟩
  all_goals first | (exact hbel) | (exact below_call (below_call hbel hb1) hb2) | (exact below_call hbel hb1) | (exact below_call hbel hb2) | (rw [Hn.out 0 rfl]; rfl) | (rw [Hn.out (-1) rfl]; rfl) | (rw [Hn.out 1 rfl]; rfl) | (rw [Hn.out 2 rfl]; rfl)
end Go.Proofs.YtnokdbblmgggaaaDoor
