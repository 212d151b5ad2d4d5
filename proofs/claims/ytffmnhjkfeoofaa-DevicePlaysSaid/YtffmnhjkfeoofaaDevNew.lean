/-
  New.
-/
import Derived.Test.YtffmnhjkfeoofaaDevChange
namespace Go.Proofs.Ytffmnhjkfeoofaa
open Go.RowKit
set_option maxRecDepth 100000

theorem new_bad (k : Int) (w : World) (h : k < 1 ∨ 4096 < k) : Calls Try.prog 11 #[.int .i64 k] w fun e w' => e = .returned (.tuple #[.pointer none, .int .i64 1]) ∧ w = w' := by
  rcases h with h | h
  · go_enter Try.func11, Try.ntmps11
    go_wp2
    go_ret2
    exact ⟨rfl, rfl⟩
  · have h' : ¬ k < 1 := by omega
    go_enter Try.func11, Try.ntmps11
    go_wp2
    go_ret2
    exact ⟨rfl, rfl⟩

theorem blk_new_at (w : World) (t : TypeId) (cs : Array Value) (k : Nat) (hk : w.heap.size = k) : Blk (w.alloc (.cells cs t)) k t cs := hk ▸ Blk.new w t cs
theorem new_dev (w X : World) (g gs gl n : Nat) (h0 : 0 < n) (h1 : n ≤ 4096) (hs : Blk X gs 91 (Array.replicate (n * 256) (.int .u8 0))) (hl : Blk X gl 91 (Array.replicate (n * 256) (.int .u8 0)))
    (hb : Blk X g 81 #[.slice (some ⟨gs, 0, none⟩) n n, .slice (some ⟨gl, 0, none⟩) n n, .slice none 0 0, .pointer none, .bool false, .int .i64 0]) (hne : gs ≠ gl) (hg : w.heap.size ≤ g ∧ w.heap.size ≤ gs ∧ w.heap.size ≤ gl) :
    DevAt X w.heap.size (fun k => w.heap.size ≤ k ∧ k < X.heap.size) g (newD n) := by
  rw [zero_secs] at hs hl
  exact ⟨gs, gl, _, _, n, ⟨hb, hs, hl, hne, OwnK.nil _ _ _ _, .inl ⟨rfl, rfl⟩, ⟨hg.1, hb.lt⟩, ⟨hg.2.1, hs.lt⟩, ⟨hg.2.2, hl.lt⟩, fun k hk => (by cases hk), fun k hk => hk, List.length_replicate, newD_wf n⟩, h0, h1⟩

set_option maxHeartbeats 400000 in
theorem new_ok (n : Nat) (w : World) (h0 : 0 < n) (h1 : n ≤ 4096) : Calls Try.prog 11 #[.int .i64 (n : Int)] w fun e w' => ∃ g F, e = .returned (.tuple #[.pointer (some ⟨g, 0, none⟩), .int .i64 0]) ∧ DevAt w' w.heap.size F g (newD n) ∧ Below w.heap.size w w' := by
  have hmk := run_secs n (by omega)
  obtain ⟨Z, hZ⟩ : ∃ Z : Array Value, Z = Array.replicate (n * 256) (.int .u8 0) := ⟨_, rfl⟩
  rw [← hZ] at hmk
  have HZ := Lib.hid hZ
  have hd1 : ¬ (n : Int) < 1 := by omega
  have hd2 : ¬ (4096 : Int) < (n : Int) := by omega
  clear hZ
  go_enter Try.func11, Try.ntmps11
  go_wp2_with fail
  go_region
  · go_wp2_with fail
    go_ret2
    rw [HZ.out]
    refine ⟨_, _, rfl, new_dev w _ (w.heap.size + 1 + 1) w.heap.size (w.heap.size + 1) n h0 h1 ?_ ?_ ?_ (by omega) (by omega), ((((Below.refl _ _).alloc (Nat.le_refl _) _).alloc (by simp) _).alloc (by simp; omega) _).drew⟩
    · exact (((Blk.new _ _ _).alloc _).alloc _).drew
    · exact ((blk_new_at _ _ _ _ (by simp)).alloc _).drew
    · exact (blk_new_at _ _ _ _ (by simp)).drew
  · go_wp2_with fail
    go_ret2
    rw [HZ.out]
    refine ⟨_, _, rfl, new_dev w _ (w.heap.size + 1 + 1) (w.heap.size + 1) w.heap.size n h0 h1 ?_ ?_ ?_ (by omega) (by omega), ((((Below.refl _ _).alloc (Nat.le_refl _) _).alloc (by simp) _).alloc (by simp; omega) _).drew⟩
    · exact ((blk_new_at _ _ _ _ (by simp)).alloc _).drew
    · exact (((Blk.new _ _ _).alloc _).alloc _).drew
    · exact (blk_new_at _ _ _ _ (by simp)).drew
end Go.Proofs.Ytffmnhjkfeoofaa
