/-
  vec.isReplica, vec.Get, vec.Leq.
-/
import Derived.Test.YtnehoabeameioaaVecBase
namespace Go.Proofs.Ytnehoabeameioaa
open Go.RowKit
set_option maxRecDepth 100000

theorem isrep_any (r : Int) (w : World) : Calls Try.prog 53 #[.int .i64 r] w fun e w' => e = .returned (.bool (repV r)) ∧ w = w' := by
  obtain ⟨b, hb⟩ : ∃ b, b = repV r := ⟨_, rfl⟩
  rw [← hb]
  by_cases h1 : 1 ≤ r
  · have hb2 : b = decide (r ≤ 8) := by rw [hb]; unfold repV; simp [h1]
    clear hb
    have Hb := Lib.hid hb2
    clear hb2
    go_enter Try.func53, Try.ntmps53
    go_wp2
    all_goals go_ret
    all_goals exact ⟨by rw [Hb.out]; rfl, rfl⟩
  · have hb2 : b = false := by rw [hb]; unfold repV; simp [h1]
    have hd : decide (1 ≤ r) = false := by simpa using h1
    clear hb
    have Hb := Lib.hid hb2
    clear hb2
    go_enter Try.func53, Try.ntmps53
    go_wp2
    all_goals go_ret
    all_goals exact ⟨by rw [Hb.out]; rfl, rfl⟩

theorem get_any (V : Nat → Nat) (r : Int) (w : World) :
    Calls Try.prog 60 #[vv V, .int .i64 r] w fun e w' => e = .returned (.int .u32 (getV V r : Int)) ∧ Below w.heap.size w w' := by
  obtain ⟨n, hn⟩ : ∃ n, n = getV V r := ⟨_, rfl⟩
  rw [← hn]
  have hb0 : Blk (w.alloc (.cells (av V) 37)) w.heap.size 37 (av V) := Blk.new w _ _
  cases hr : repV r with
  | true =>
    obtain ⟨h1, h2⟩ := repV_iff.1 hr
    obtain ⟨k, hk⟩ : ∃ k : Nat, r = (k : Int) + 1 := ⟨(r - 1).toNat, by omega⟩
    subst hk
    have hsub : IntKind.i64.wrap ((k : Int) + 1 - 1) = (k : Int) := by rw [IntKind.wrap_i64]; omega
    have hcell : (w.alloc (.cells (av V) 37)).cell? ⟨w.heap.size, k, none⟩ = some (.int .u32 (V k : Int)) := by
      rw [hb0.cell, av_get V (by omega)]
    have hn2 : n = V k := by
      rw [hn]; unfold getV; rw [if_pos hr]; congr 1; omega
    have Hn := Lib.hid hn2
    have Hr := Lib.hid hr
    have hk8 : k < 8 := by omega
    clear hn hn2 hr
    unfold vv
    go_enter Try.func60, Try.ntmps60
    go_wp2_with (go_at_call 53; refine (isrep_any _ _).mono ?_; rintro e w1 ⟨rfl, rfl⟩; rw [Hr.out])
    go_ret
    exact ⟨by rw [Hn.out]; rfl, (Below.refl _ _).alloc (Nat.le_refl _) _⟩
  | false =>
    have hn2 : n = 0 := by rw [hn]; unfold getV; rw [hr]; rfl
    have Hn := Lib.hid hn2
    have Hr := Lib.hid hr
    clear hn hn2 hr
    unfold vv
    go_enter Try.func60, Try.ntmps60
    go_wp2_with (go_at_call 53; refine (isrep_any _ _).mono ?_; rintro e w1 ⟨rfl, rfl⟩; rw [Hr.out])
    go_ret
    exact ⟨by rw [Hn.out]; rfl, (Below.refl _ _).alloc (Nat.le_refl _) _⟩
end Go.Proofs.Ytnehoabeameioaa
