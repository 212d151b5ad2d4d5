/-
  entry.Gone, the document's Gone, Alive and Head.
-/
import Derived.Test.YtcpjgohclncbkaaDoorVeOne
namespace Go.Proofs.YtcpjgohclncbkaaDoor
open Go.RowKit
set_option maxRecDepth 100000

theorem gone_yes {A B : Nat → Nat} {k : Nat} (hk : k < 8) (h : 0 < A k) (h' : A k ≤ B k) : goneV A B = true := by
  unfold goneV
  rw [List.any_eq_true]
  exact ⟨k, List.mem_range.2 hk, by simp [h, h']⟩
theorem gone_no {A B : Nat → Nat} (h : ∀ k, k < 8 → ¬ (0 < A k ∧ A k ≤ B k)) : goneV A B = false := by
  unfold goneV
  rw [List.any_eq_false]
  intro k hk
  have := h k (List.mem_range.1 hk)
  simpa using this
theorem boxesAB (A B : Nat → Nat) (w : World) : Blk ((w.alloc (.cells (av A) 27)).alloc (.cells (av B) 27)) w.heap.size 27 (av A) ∧ Blk ((w.alloc (.cells (av A) 27)).alloc (.cells (av B) 27)) (w.heap.size + 1) 27 (av B) ∧ Below w.heap.size w ((w.alloc (.cells (av A) 27)).alloc (.cells (av B) 27)) := boxes2 A B w

theorem gone_any (A B : Nat → Nat) (w : World) :
    Calls Tryd.prog 28 #[vv A, vv B] w fun e w' => e = .returned (.bool (goneV A B)) ∧ Below w.heap.size w w' := by
  obtain ⟨b, hb⟩ : ∃ b, b = goneV A B := ⟨_, rfl⟩
  rw [← hb]
  have Hb := Lib.hid hb
  clear hb
  obtain ⟨hA0, hB0, hbel⟩ := boxes2 A B w
  have HA := Lib.hid hA0
  have HB := Lib.hid hB0
  clear hA0 hB0
  unfold vv
  go_enter Tryd.func28, Tryd.ntmps28
  go_wp2_with (refine wpList_load_row rfl 27 _ rfl w.heap.size rfl 27 _ (0, 0) _ HA.out Tryd.underlying27 rfl vec_info ?_)
  go_loop [8] (fun i => ∃ k : Nat, k ≤ 8 ∧ i = .int .i64 (k : Int) ∧ ∀ j, j < k → ¬ (0 < A j ∧ A j ≤ B j)) (fun i => 8 - (intOf i).toNat)
  case atStart => exact ⟨0, by omega, rfl, fun j hj => by omega⟩
  case round =>
    obtain ⟨k, hk, rfl, hall⟩ := hrel
    have Hall := Lib.hid hall
    clear hall
    by_cases hlt : k < 8
    · have hi := fun w => index_run A k hlt w
      unfold vv at hi
      have hc : ((w.alloc (.cells (av A) 27)).alloc (.cells (av B) 27)).cell? ⟨w.heap.size + 1, k, none⟩ = some (.int .u32 (B k : Int)) := by rw [HB.out.cell, av_get B hlt]
      by_cases h0 : 0 < A k
      · have h0' : (0 : Int) < (A k : Int) := by omega
        by_cases h1 : A k ≤ B k
        · have h1' : (A k : Int) ≤ (B k : Int) := by omega
          have Hf := Lib.hid (show b = true by rw [Hb.out]; exact gone_yes hlt h0 h1)
          go_wp2
          go_ret
          exact ⟨by rw [Hf.out]; rfl, hbel⟩
        · have h1' : ¬ (A k : Int) ≤ (B k : Int) := by omega
          go_wp2
          go_round
          case rel => exact ⟨k + 1, by omega, by go_num, fun j hj => by
            by_cases e : j = k
            · subst e; omega
            · exact Hall.out j (by omega)⟩
          case measure => simp [intOf]; omega
      · have h0' : ¬ (0 : Int) < (A k : Int) := by omega
        go_wp2
        go_round
        case rel => exact ⟨k + 1, by omega, by go_num, fun j hj => by
          by_cases e : j = k
          · subst e; omega
          · exact Hall.out j (by omega)⟩
        case measure => simp [intOf]; omega
    · obtain rfl : k = 8 := by omega
      have Hf := Lib.hid (show b = false by rw [Hb.out]; exact gone_no Hall.out)
      go_wp2
      go_ret
      exact ⟨by rw [Hf.out]; rfl, hbel⟩

theorem refgone_any (A B : Nat → Nat) (w : World) :
    Calls Tryd.prog 29 #[vv A, vv B] w fun e w' => e = .returned (.bool (goneV A B)) ∧ Below w.heap.size w w' := by
  obtain ⟨b, hb⟩ : ∃ b, b = goneV A B := ⟨_, rfl⟩
  rw [← hb]
  have Hb := Lib.hid hb
  clear hb
  obtain ⟨hA0, hB0, hbel⟩ := boxes2 A B w
  unfold vv
  go_enter Tryd.func29, Tryd.ntmps29
  go_wp2_with fail
  go_loopw [5] (fun i wr => ∃ k : Nat, k ≤ 8 ∧ i = .int .i64 (k : Int) ∧ (∀ j, j < k → ¬ (0 < A j ∧ A j ≤ B j)) ∧ Blk wr w.heap.size 27 (av A) ∧ Blk wr (w.heap.size + 1) 27 (av B) ∧ Below w.heap.size w wr) (fun i _ => 8 - (intOf i).toNat)
  case atStart => exact ⟨0, by omega, rfl, fun j hj => by omega, hA0, hB0, hbel⟩
  case round =>
    obtain ⟨k, hk, rfl, hall, hbA, hbB, hbw⟩ := hrel
    have Hall := Lib.hid hall
    clear hall
    by_cases hlt : k < 8
    · have hcA : wr.cell? ⟨w.heap.size, k, none⟩ = some (.int .u32 (A k : Int)) := by rw [hbA.cell, av_get _ hlt]
      have hcB : wr.cell? ⟨w.heap.size + 1, k, none⟩ = some (.int .u32 (B k : Int)) := by rw [hbB.cell, av_get _ hlt]
      have HA := Lib.hid hbA
      have HB := Lib.hid hbB
      clear hbA hbB hA0 hB0 hbel
      by_cases h0 : 0 < A k
      · have h0' : decide ((1 : Int) ≤ (A k : Int)) = true := decide_eq_true (by omega)
        by_cases h1 : A k ≤ B k
        · have h1' : (A k : Int) ≤ (B k : Int) := by omega
          have Hf := Lib.hid (show b = true by rw [Hb.out]; exact gone_yes hlt h0 h1)
          go_wp2_with fail
          go_quiet (fail)
          go_wp2
          go_ret
          exact ⟨by rw [Hf.out]; rfl, below_drewN hbw _⟩
        · have h1' : ¬ (A k : Int) ≤ (B k : Int) := by omega
          go_wp2_with fail
          go_quiet (fail)
          go_wp2
          go_roundw
          case rel => exact ⟨k + 1, by omega, by go_num, fun j hj => by
            by_cases e : j = k
            · subst e; omega
            · exact Hall.out j (by omega), HA.out, HB.out, below_drewN hbw _⟩
          case measure => simp [intOf]; omega
      · have h0' : decide ((1 : Int) ≤ (A k : Int)) = false := decide_eq_false (by omega)
        go_wp2_with fail
        go_quiet (fail)
        go_wp2
        go_roundw
        case rel => exact ⟨k + 1, by omega, by go_num, fun j hj => by
          by_cases e : j = k
          · subst e; omega
          · exact Hall.out j (by omega), HA.out, HB.out, below_drewN hbw _⟩
        case measure => simp [intOf]; omega
    · obtain rfl : k = 8 := by omega
      have Hf := Lib.hid (show b = false by rw [Hb.out]; exact gone_no Hall.out)
      go_wp2
      go_ret
      exact ⟨by rw [Hf.out]; rfl, hbw⟩

theorem refalive_any (C : Array Value) (V : Nat → Nat) (hC : ∀ k, k < 8 → C[7 + k]? = some (.int .u32 (V k : Int))) (w : World) :
    Calls Tryd.prog 20 #[.agg C] w fun e w' => e = .returned (.bool (eqV V zeroV)) ∧ Below w.heap.size w w' := by
  obtain ⟨b, hb⟩ : ∃ b, b = eqV V zeroV := ⟨_, rfl⟩
  rw [← hb]
  have Hb := Lib.hid hb
  clear hb
  have hA0 : Blk (w.alloc (.cells C 29)) w.heap.size 29 C := Blk.new w _ _
  have hbel : Below w.heap.size w (w.alloc (.cells C 29)) := (Below.refl _ _).alloc (Nat.le_refl _) _
  have HA := Lib.hid hA0
  have HC := Lib.hid hC
  clear hA0 hC
  go_enter Tryd.func20, Tryd.ntmps20
  go_wp2_with fail
  go_loop [3] (fun i => ∃ k : Nat, k ≤ 8 ∧ i = .int .i64 (k : Int) ∧ ∀ j, j < k → V j = 0) (fun i => 8 - (intOf i).toNat)
  case atStart => exact ⟨0, by omega, rfl, fun j hj => by omega⟩
  case round =>
    obtain ⟨k, hk, rfl, hall⟩ := hrel
    have Hall := Lib.hid hall
    clear hall
    by_cases hlt : k < 8
    · have hc : (w.alloc (.cells C 29)).cell? ⟨w.heap.size, 7 + k, none⟩ = some (.int .u32 (V k : Int)) := by rw [HA.out.cell, HC.out k hlt]
      by_cases h0 : V k = 0
      · have h0' : ((V k : Int) != 0) = false := by rw [h0]; rfl
        go_wp2
        go_round
        case rel => exact ⟨k + 1, by omega, by go_num, fun j hj => by
          by_cases e : j = k
          · subst e; exact h0
          · exact Hall.out j (by omega)⟩
        case measure => simp [intOf]; omega
      · have h0' : ((V k : Int) != 0) = true := by rw [bne_iff_ne]; omega
        have Hf := Lib.hid (show b = false by rw [Hb.out, eqV_not]; exact ⟨k, hlt, h0⟩)
        go_wp2
        go_ret
        exact ⟨by rw [Hf.out]; rfl, hbel⟩
    · obtain rfl : k = 8 := by omega
      have Hf := Lib.hid (show b = true by rw [Hb.out, eqV_iff]; exact Hall.out)
      go_wp2
      go_ret
      exact ⟨by rw [Hf.out]; rfl, hbel⟩

end Go.Proofs.YtcpjgohclncbkaaDoor
