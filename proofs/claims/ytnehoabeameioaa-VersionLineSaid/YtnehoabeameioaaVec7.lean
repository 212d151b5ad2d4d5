/-
  The document's vectors: Get, Order, Leq.
-/
import Derived.Test.YtnehoabeameioaaVec6
namespace Go.Proofs.Ytnehoabeameioaa
open Go.RowKit
set_option maxRecDepth 100000

theorem refget_any (V : Nat → Nat) (r : Int) (w : World) :
    Calls Try.prog 61 #[vv V, .int .i64 r] w fun e w' => e = .returned (.int .u32 (getV V r : Int)) ∧ Below w.heap.size w w' := by
  obtain ⟨n, hn⟩ : ∃ n, n = getV V r := ⟨_, rfl⟩
  rw [← hn]
  have Hn := Lib.hid hn
  clear hn
  have hA0 : Blk (w.alloc (.cells (av V) 37)) w.heap.size 37 (av V) := Blk.new w _ _
  have hbel : Below w.heap.size w (w.alloc (.cells (av V) 37)) := (Below.refl _ _).alloc (Nat.le_refl _) _
  have HA := Lib.hid hA0
  clear hA0
  unfold vv
  go_enter Try.func61, Try.ntmps61
  go_wp2
  go_loop [5] (fun i => ∃ k : Nat, k ≤ 8 ∧ i = .int .i64 (k : Int) ∧ ∀ j, j < k → ((j : Nat) : Int) + 1 ≠ r) (fun i => 8 - (intOf i).toNat)
  case atStart => exact ⟨0, by omega, rfl, fun j hj => by omega⟩
  case round =>
    obtain ⟨k, hk, rfl, hall⟩ := hrel
    have Hall := Lib.hid hall
    clear hall
    by_cases hlt : k < 8
    · have hc : (w.alloc (.cells (av V) 37)).cell? ⟨w.heap.size, k, none⟩ = some (.int .u32 (V k : Int)) := by rw [HA.out.cell, av_get V hlt]
      by_cases he : (k : Int) + 1 = r
      · have he1 : ((k : Int) + 1 == r) = true := by simpa using he
        have hn2 : n = V k := by
          rw [Hn.out]; unfold getV; rw [if_pos (repV_iff.2 (by omega))]; congr 1; omega
        have Hn2 := Lib.hid hn2
        clear he hn2
        go_wp2
        go_ret
        exact ⟨by rw [Hn2.out]; rfl, hbel⟩
      · have he1 : ((k : Int) + 1 == r) = false := by simpa using he
        have He := Lib.hid he
        clear he
        go_wp2
        go_round
        case rel => exact ⟨k + 1, by omega, by go_num, fun j hj => by
          by_cases e : j = k
          · subst e; exact He.out
          · exact Hall.out j (by omega)⟩
        case measure => simp [intOf]; omega
    · obtain rfl : k = 8 := by omega
      have hn2 : n = 0 := by
        rw [Hn.out]; unfold getV
        rw [if_neg]
        rw [repV_iff]
        intro h
        exact Hall.out (r - 1).toNat (by omega) (by omega)
      have Hn2 := Lib.hid hn2
      clear hn2
      go_wp2
      go_ret
      exact ⟨by rw [Hn2.out]; rfl, hbel⟩

/-- Is one of the first numbers less? -/
def anyLess (A B : Nat → Nat) : Nat → Bool
  | 0 => false
  | k + 1 => anyLess A B k || decide (A k < B k)
theorem anyLess_iff (A B : Nat → Nat) (k : Nat) : anyLess A B k = false ↔ ∀ i, i < k → B i ≤ A i := by
  induction k with
  | zero => exact ⟨fun _ i hi => by omega, fun _ => rfl⟩
  | succ k ih =>
    show (anyLess A B k || decide (A k < B k)) = false ↔ _
    rw [Bool.or_eq_false_iff, ih, decide_eq_false_iff_not]
    exact ⟨fun h i hi => by
      by_cases e : i = k
      · subst e; omega
      · exact h.1 i (by omega), fun h => ⟨fun i hi => h i (by omega), by have := h k (by omega); omega⟩⟩
theorem anyLess_leq (A B : Nat → Nat) : anyLess A B 8 = !leqV B A := by
  cases h : leqV B A
  · cases h2 : anyLess A B 8
    · rw [anyLess_iff, ← leqV_iff, h] at h2
      cases h2
    · rfl
  · exact (anyLess_iff A B 8).2 (leqV_iff.1 h)
theorem orderV_any (A B : Nat → Nat) : orderV A B = if (anyLess A B 8 && anyLess B A 8) = true then 2 else if anyLess A B 8 = true then -1 else if anyLess B A 8 = true then 1 else 0 := by
  rw [anyLess_leq, anyLess_leq]
  unfold orderV
  have he := eqV_leq A B
  cases h1 : leqV A B <;> cases h2 : leqV B A <;> rw [h1, h2] at he <;> simp at he <;> simp [he]

end Go.Proofs.Ytnehoabeameioaa
