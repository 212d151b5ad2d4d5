/-
  entry.Gone, the document's Gone, Alive and Head.
-/
import Derived.Test.YtcpjgohclncbkaaDoorVeOne
namespace Go.Proofs.YtcpjgohclncbkaaDoor
open Go.RowKit
set_option maxRecDepth 100000

theorem refalive_any (C : Array Value) (V : Nat → Nat) (hC : ∀ k, k < 8 → C[7 + k]? = some (.int .u32 (V k : Int))) (w : World) :
    Calls Tryd.prog 20 #[.agg C] w fun e w' => e = .returned (.bool (eqV V zeroV)) ∧ Below w.heap.size w w' := by
  obtain ⟨b, hb⟩ : ∃ b, b = eqV V zeroV := ⟨_, rfl⟩
  rw [← hb]
  have Hb := Lib.hid hb
  clear hb
  have hA0 : Blk (w.alloc (.cells C 29)) w.heap.size 29 C := Blk.new w _ _
  have hbel : Below w.heap.size w (w.alloc (.cells C 29)) := (Below.refl _ _).alloc (Nat.le_refl _) _
  have HA := Lib.hid hA0
  have HC := Lib.hid hC
  clear hA0 hC
  go_enter Tryd.func20, Tryd.ntmps20
  go_wp2_with fail
  go_loop [3] (fun i => ∃ k : Nat, k ≤ 8 ∧ i = .int .i64 (k : Int) ∧ ∀ j, j < k → V j = 0) (fun i => 8 - (intOf i).toNat)
  case atStart => exact ⟨0, by omega, rfl, fun j hj => by omega⟩
  case round =>
    obtain ⟨k, hk, rfl, hall⟩ := hrel
    have Hall := Lib.hid hall
    clear hall
    by_cases hlt : k < 8
    · have hc : (w.alloc (.cells C 29)).cell? ⟨w.heap.size, 7 + k, none⟩ = some (.int .u32 (V k : Int)) := by rw [HA.out.cell, HC.out k hlt]
      by_cases h0 : V k = 0
      · have h0' : ((V k : Int) != 0) = false := by rw [h0]; rfl
        go_wp2
        go_round
        case rel => exact ⟨k + 1, by omega, by go_num, fun j hj => by
          by_cases e : j = k
          · subst e; exact h0
          · exact Hall.out j (by omega)⟩
        case measure => simp [intOf]; omega
      · have h0' : ((V k : Int) != 0) = true := by rw [bne_iff_ne]; omega
        have Hf := Lib.hid (show b = false by rw [Hb.out, eqV_not]; exact ⟨k, hlt, h0⟩)
        go_wp2
        go_ret
        exact ⟨by rw [Hf.out]; rfl, hbel⟩
    · obtain rfl : k = 8 := by omega
      have Hf := Lib.hid (show b = true by rw [Hb.out, eqV_iff]; exact Hall.out)
      go_wp2
      go_ret
      exact ⟨by rw [Hf.out]; rfl, hbel⟩

end Go.Proofs.YtcpjgohclncbkaaDoor
