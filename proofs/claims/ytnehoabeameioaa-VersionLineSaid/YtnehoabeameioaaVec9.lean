/-
  The document's vectors: Next, Has, One, With, Less.
-/
import Derived.Test.YtnehoabeameioaaVec8
namespace Go.Proofs.Ytnehoabeameioaa
open Go.RowKit
set_option maxRecDepth 100000

set_option maxHeartbeats 400000 in
theorem refhas_any (V : Nat → Nat) (r : Int) (s : Nat) (w : World) :
    Calls Try.prog 48 #[vv V, idv r s] w fun e w' => e = .returned (.bool (hasV V r s)) ∧ Below w.heap.size w w' := by
  obtain ⟨b, hb⟩ : ∃ b, b = hasV V r s := ⟨_, rfl⟩
  rw [← hb]
  have hA0 : Blk ((w.alloc (.cells (av V) 37)).alloc (.cells #[.int .i64 r, .int .u32 (s : Int)] 35)) w.heap.size 37 (av V) := (Blk.new w _ _).alloc _
  have hB0 : Blk ((w.alloc (.cells (av V) 37)).alloc (.cells #[.int .i64 r, .int .u32 (s : Int)] 35)) (w.heap.size + 1) 35 #[.int .i64 r, .int .u32 (s : Int)] := by
    have := Blk.new (w.alloc (.cells (av V) 37)) 35 #[.int .i64 r, .int .u32 (s : Int)]
    simpa using this
  have hbel : Below w.heap.size w ((w.alloc (.cells (av V) 37)).alloc (.cells #[.int .i64 r, .int .u32 (s : Int)] 35)) := ((Below.refl _ _).alloc (Nat.le_refl _) _).alloc (by simp) _
  have hget := fun w => refget_any V r w
  obtain ⟨n, hn⟩ : ∃ n, n = getV V r := ⟨_, rfl⟩
  rw [← hn] at hget
  have hb2 : b = decide (0 < s ∧ s ≤ n) := by rw [hb, hn]; rfl
  have HA := Lib.hid hA0
  have HB := Lib.hid hB0
  have Hb := Lib.hid hb2
  have Hget := Lib.hid hget
  clear hA0 hB0 hb hn hb2 hget
  unfold vv idv
  obtain ⟨W, hW⟩ : ∃ W, W = ((w.alloc (.cells (av V) 37)).alloc (.cells #[.int .i64 r, .int .u32 (s : Int)] 35)) := ⟨_, rfl⟩
  rw [← hW] at HA HB hbel
  have HW := Lib.hid hW
  clear hW
  by_cases h0 : 0 < s
  · have hg : decide ((0 : Int) < (s : Int)) = true := by simpa using h0
    have hv : ∀ (y : Ext W) (i : Nat), i < 8 → y.now.cell? ⟨w.heap.size, i, none⟩ = some (.int .u32 (V i : Int)) := fun y i hi => by rw [(HA.out.grow y.out).cell, av_get V hi]
    have h1 : ∀ (y : Ext W), y.now.cell? ⟨w.heap.size + 1, 0, none⟩ = some (.int .i64 r) := fun y => by rw [(HB.out.grow y.out).cell]; rfl
    have h2 : ∀ (y : Ext W), y.now.cell? ⟨w.heap.size + 1, 1, none⟩ = some (.int .u32 (s : Int)) := fun y => by rw [(HB.out.grow y.out).cell]; rfl
    go_enter Try.func48, Try.ntmps48
    go_wp2_with fail
    rw [← HW.out]
    refine wp_region_grow (by kernel_rfl) (by kernel_rfl) ?_
    repeat (first | go_big_quiet_step ((go_at_call 61; exact calls_grow (Hget.out _))) | quiet_step ((go_at_call 61; exact calls_grow (Hget.out _))))
    refine wpQuiet_nil ?_
    rintro _ ⟨⟨w6, hb6⟩, rfl⟩
    go_wp2
    go_ret
    refine ⟨?_, hbel.trans (hb6.mono hbel.size)⟩
    rw [Hb.out]
    have e : decide (0 < s ∧ s ≤ n) = decide (s ≤ n) := by simp [h0]
    rw [e]
    rfl
  · have hg : decide ((0 : Int) < (s : Int)) = false := by simpa using h0
    have h2 : ∀ (y : Ext W), y.now.cell? ⟨w.heap.size + 1, 1, none⟩ = some (.int .u32 (s : Int)) := fun y => by rw [(HB.out.grow y.out).cell]; rfl
    go_enter Try.func48, Try.ntmps48
    go_wp2_with fail
    rw [← HW.out]
    refine wp_region_grow (by kernel_rfl) (by kernel_rfl) ?_
    repeat (first | go_big_quiet_step (fail) | quiet_step (fail))
    refine wpQuiet_nil ?_
    rintro _ ⟨⟨w6, hb6⟩, rfl⟩
    go_wp2
    go_ret
    refine ⟨?_, hbel.trans (hb6.mono hbel.size)⟩
    rw [Hb.out]
    have e : decide (0 < s ∧ s ≤ n) = false := by simp [h0]
    rw [e]
    rfl

theorem refless_any (r : Int) (s : Nat) (r' : Int) (s' : Nat) (w : World) :
    Calls Try.prog 37 #[idv r s, idv r' s'] w fun e w' => e = .returned (.bool (lessV r s r' s')) ∧ Below w.heap.size w w' := by
  obtain ⟨b, hb⟩ : ∃ b, b = lessV r s r' s' := ⟨_, rfl⟩
  rw [← hb]
  have hbel : Below w.heap.size w ((w.alloc (.cells #[.int .i64 r, .int .u32 (s : Int)] 35)).alloc (.cells #[.int .i64 r', .int .u32 (s' : Int)] 35)) := ((Below.refl _ _).alloc (Nat.le_refl _) _).alloc (by simp) _
  unfold idv
  by_cases he : s < s'
  · have hb2 : b = true := by rw [hb]; unfold lessV; simp [he]
    have hd : decide ((s : Int) < (s' : Int)) = true := by simpa using he
    have Hb := Lib.hid hb2
    clear hb hb2
    go_enter Try.func37, Try.ntmps37
    go_wp2
    go_ret
    exact ⟨by rw [Hb.out]; rfl, hbel⟩
  · have hd : decide ((s : Int) < (s' : Int)) = false := by simpa using he
    by_cases he2 : s = s'
    · subst he2
      have hb2 : b = decide (r < r') := by rw [hb]; unfold lessV; simp
      have Hb := Lib.hid hb2
      clear hb hb2
      go_enter Try.func37, Try.ntmps37
      go_wp2
      go_ret
      exact ⟨by rw [Hb.out]; rfl, hbel⟩
    · have hb2 : b = false := by rw [hb]; unfold lessV; simp [he, he2]
      have hne : ((s : Int) == (s' : Int)) = false := by rw [beq_eq_false_iff_ne]; omega
      have Hb := Lib.hid hb2
      clear hb hb2
      go_enter Try.func37, Try.ntmps37
      go_wp2
      go_ret
      exact ⟨by rw [Hb.out]; rfl, hbel⟩
end Go.Proofs.Ytnehoabeameioaa
