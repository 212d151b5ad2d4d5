/-
  isPlace, inFile.
-/
import Derived.Test.YtkojoahamoffcaaEvBase
import Derived.Test.YtkojoahamoffcaaEvNames
namespace Go.Proofs.Ytkojoahamoffcaa
open Go.RowKit
set_option maxRecDepth 100000

theorem idzero_run (r : Int) (s : Nat) (w : World) : (binOp .eql 24 (.agg (idC r s)) (.agg #[.int .i64 0, .int .u32 0])).run Try.prog w = .ok (.bool (zeroI r s)) w := ideq_run r s 0 0 w
theorem ev_box (A : Array Value) (t : TypeId) (w : World) : Blk (w.alloc (.cells A t)) w.heap.size t A ∧ Below w.heap.size w (w.alloc (.cells A t)) := ⟨Blk.new w _ _, (Below.refl _ _).alloc (Nat.le_refl _) _⟩

set_option maxHeartbeats 1000000 in
theorem place_any (e : Ev) (vg vb : Value) (w : World) :
    Calls Try.prog 44 #[.agg (evC e vg vb)] w fun x w' => x = .returned (.bool (placeB e)) ∧ Below w.heap.size w w' := by
  obtain ⟨h1, hbel⟩ := ev_box (evC e vg vb) 29 w
  obtain ⟨W, hW⟩ : ∃ W, W = (w.alloc (.cells (evC e vg vb) 29)) := ⟨_, rfl⟩
  rw [← hW] at h1 hbel
  have I1 := Lib.hid (range_exts (ev_dep h1))
  have I4 := Lib.hid (range_exts (ev_dir h1))
  have i5 := fun y : Ext W => (EvCells.ext h1 y).name
  have q0 := fun w => idzero_run e.drep e.dseq w
  have k1 := fun y : Ext W => has_any e.dep e.drep e.dseq y.now
  have k2 := fun y : Ext W => name_any e.name y.now
  unfold placeB dirB
  obtain ⟨z, hz⟩ : ∃ z, z = zeroI e.drep e.dseq := ⟨_, rfl⟩
  obtain ⟨h, hh⟩ : ∃ h, h = hasV e.dep e.drep e.dseq := ⟨_, rfl⟩
  obtain ⟨n, hn⟩ : ∃ n, n = nameB e.name := ⟨_, rfl⟩
  simp only [← hz] at q0 ⊢
  simp only [← hh] at k1 ⊢
  simp only [← hn] at k2 ⊢
  unfold vv at k1
  simp only [idv_idC] at k1
  have K1 := Lib.hid k1
  have K2 := Lib.hid k2
  have HW := Lib.hid hW
  clear hz hh hn k1 k2 h1 hW
  cases z <;> cases h
  all_goals go_enter Try.func44, Try.ntmps44
  all_goals go_upto_region 1 with fail
  all_goals rw [← HW.out]
  all_goals refine wp_plain_grow ?_
  all_goals repeat (first | (go_big_quiet_want; refine quiet_mid 24 (.tmp 3) rfl w.heap.size 13 rfl _ _ I4.out Try.underlying24 rfl id_info ?_; go_simp; go_big_quiet_on) | (go_big_quiet_want; refine quiet_mid 24 (.tmp 10) rfl w.heap.size 13 rfl _ _ I4.out Try.underlying24 rfl id_info ?_; go_simp; go_big_quiet_on) | (go_big_quiet_want; refine quiet_mid 26 (.tmp 8) rfl w.heap.size 2 rfl _ _ I1.out Try.underlying26 rfl vec_info ?_; go_simp; go_big_quiet_on) | go_big_quiet_step ((first | (go_at_call 43; with_reducible exact calls_grow (K1.out _)) | (go_at_call 11; with_reducible exact calls_grow (K2.out _)))) | quiet_step ((first | (go_at_call 43; with_reducible exact calls_grow (K1.out _)) | (go_at_call 11; with_reducible exact calls_grow (K2.out _)))))
  all_goals refine wpQuiet_nil ?_
  all_goals rintro w6 ⟨⟨_, hb6⟩, rfl⟩
  all_goals go_wp2_with fail
  all_goals go_ret
  all_goals exact ⟨rfl, below_call hbel hb6⟩

theorem infile_any (o n : Int) (w : World) :
    Calls Try.prog 46 #[.int .i64 o, .int .i64 n] w fun x w' => x = .returned (.bool (inFileB o n)) ∧ Below w.heap.size w w' := by
  unfold inFileB
  obtain ⟨a, ha⟩ : ∃ a, decide (0 ≤ o) = a := ⟨_, rfl⟩
  obtain ⟨b, hb⟩ : ∃ b, decide (o ≤ 200) = b := ⟨_, rfl⟩
  obtain ⟨c, hc⟩ : ∃ c, decide (n ≤ 200 - o) = c := ⟨_, rfl⟩
  rw [ha, hb, hc]
  cases a with
  | false =>
    go_enter Try.func46, Try.ntmps46
    go_wp2_with fail
    go_ret
    exact ⟨rfl, Below.refl _ _⟩
  | true =>
    cases b with
    | false =>
      go_enter Try.func46, Try.ntmps46
      go_wp2_with fail
      go_ret
      exact ⟨rfl, Below.refl _ _⟩
    | true =>
      have h1 : 0 ≤ o := by simpa using ha
      have h2 : o ≤ 200 := by simpa using hb
      have hw : IntKind.i64.wrap (200 - o) = 200 - o := by rw [IntKind.wrap_i64]; omega
      go_enter Try.func46, Try.ntmps46
      go_wp2_with fail
      go_ret
      exact ⟨rfl, Below.refl _ _⟩
end Go.Proofs.Ytkojoahamoffcaa
