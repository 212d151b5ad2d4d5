/-
  The walk of VecMeans.
-/
import Derived.Test.YtjakgmidhpddoabDoorVecLawKit
namespace Go.Proofs.YtjakgmidhpddoabDoor
open Go.RowKit
set_option maxRecDepth 100000

theorem Blk.id0 {W : World} {g : Nat} {r : Int} {s : Nat} (h : Blk W g 26 #[.int .i64 r, .int .u32 (s : Int)]) : ∀ y : Ext W, y.now.cell? ⟨g, 0, none⟩ = some (.int .i64 r) := fun y => by rw [(h.grow y.out).cell]; rfl
theorem Blk.id1 {W : World} {g : Nat} {r : Int} {s : Nat} (h : Blk W g 26 #[.int .i64 r, .int .u32 (s : Int)]) : ∀ y : Ext W, y.now.cell? ⟨g, 1, none⟩ = some (.int .u32 (s : Int)) := fun y => by rw [(h.grow y.out).cell]; rfl
theorem boxesM (A B : Nat → Nat) (r : Int) (s : Nat) (w : World) : ∃ W, W = ((w.alloc (.cells (av A) 24)).alloc (.cells (av B) 24)).alloc (.cells #[.int .i64 r, .int .u32 (s : Int)] 26) ∧
    Blk W w.heap.size 24 (av A) ∧ Blk W (w.heap.size + 1) 24 (av B) ∧ Blk W (w.heap.size + 1 + 1) 26 #[.int .i64 r, .int .u32 (s : Int)] ∧ Below w.heap.size w W := by
  obtain ⟨h1, h2, h3⟩ := boxes2 A B w
  refine ⟨_, rfl, h1.alloc _, h2.alloc _, ?_, h3.alloc (by simp; omega) _⟩
  have := Blk.new ((w.alloc (.cells (av A) 24)).alloc (.cells (av B) 24)) 26 #[.int .i64 r, .int .u32 (s : Int)]
  rw [World.size_alloc, World.size_alloc] at this
  exact this
theorem means_cases (A B : Nat → Nat) (r : Int) (s : Nat) :
    (hasV A r s = true ∧ hasV B r s = true ∧ hasV (joinV A B) r s = true ∧ hasV (meetV A B) r s = true ∧ (leqV A B = true ∨ leqV A B = false)) ∨
    (hasV A r s = true ∧ hasV B r s = false ∧ hasV (joinV A B) r s = true ∧ hasV (meetV A B) r s = false ∧ (leqV A B = false ∨ leqV A B = false)) ∨
    (hasV A r s = false ∧ hasV B r s = true ∧ hasV (joinV A B) r s = true ∧ hasV (meetV A B) r s = false ∧ (leqV A B = true ∨ leqV A B = false)) ∨
    (hasV A r s = false ∧ hasV B r s = false ∧ hasV (joinV A B) r s = false ∧ hasV (meetV A B) r s = false ∧ (leqV A B = true ∨ leqV A B = false)) := by
  rw [hasV_join, hasV_meet]
  cases h1 : hasV A r s <;> cases h2 : hasV B r s <;> cases h3 : leqV A B <;> simp
  have := hasV_leq h3 h1
  rw [h2] at this
  cases this

set_option maxHeartbeats 4000000 in
theorem vecmeans_walk (A B : Nat → Nat) (r : Int) (s : Nat) (w : World) (_ : okV A) (_ : okV B) (_ : -9223372036854775808 ≤ r ∧ r ≤ 9223372036854775807) (_ : s < 4294967296) :
    Calls Tryd.prog 3 #[vv A, vv B, idv r s] w fun e w' => e = .returned (.bool true) ∧ Below w.heap.size w w' := by
  obtain ⟨W, hW, hA, hB, hC, hbel⟩ := boxesM A B r s w
  have HW := Lib.hid hW
  have HA := Lib.hid hA
  have HB := Lib.hid hB
  have HC := Lib.hid hC
  clear hW hA hB hC
  have hm := means_cases A B r s
  have Hm := Lib.hid hm
  clear hm
  unfold vv idv
  go_enter Tryd.func3, Tryd.ntmps3
  go_wp2_with fail
  rw [← HW.out]
  refine (lives_any _).mono ?_
  rintro e w1 ⟨rfl, hb1⟩
  have hb01 := below_call hbel hb1
  have hA1 := HA.out.grow hb1
  have hB1 := HB.out.grow hb1
  have hC1 := HC.out.grow hb1
  have HA1 := Lib.hid hA1
  have HB1 := Lib.hid hB1
  have HC1 := Lib.hid hC1
  have ra := hA1.reads
  have rb := hB1.reads
  have rc := hC1.id0
  have rd := hC1.id1
  clear hA1 hB1 hC1 hb1 hbel HA HB HC HW
  go_wp2_with fail
  refine wp_region_grow (by kernel_rfl) (by kernel_rfl) ?_
  repeat (first | go_big_quiet_step ((go_at_call 5; exact calls_grow (has_any _ _ _ _))))
  refine wpQuiet_nil ?_
  rintro _ ⟨⟨w2, hb2⟩, rfl⟩
  have hb02 := below_call hb01 hb2
  have xa := (HA1.out.grow hb2).reads
  have xb := (HB1.out.grow hb2).reads
  have xc := (HC1.out.grow hb2).id0
  have xd := (HC1.out.grow hb2).id1
  clear ra rb rc rd hb01 hb2 HA1 HB1 HC1
  rcases Hm.out with ⟨h1, h2, h3, h4, h5⟩ | ⟨h1, h2, h3, h4, h5⟩ | ⟨h1, h2, h3, h4, h5⟩ | ⟨h1, h2, h3, h4, h5⟩
  all_goals rcases h5 with h5 | h5
  all_goals rw [h1, h2]
  all_goals go_wp2_with fail
  all_goals refine wp_region_grow (by kernel_rfl) (by kernel_rfl) ?_
  all_goals repeat (first | go_big_quiet_step ((first | (go_at_call 5; exact calls_grow (has_any _ _ _ _)) | (go_at_call 6; exact calls_grow (join_any _ _ _)) | (go_at_call 7; exact calls_grow (meet_any _ _ _)) | (go_at_call 8; exact calls_grow (leq_any _ _ _)))))
  all_goals refine wpQuiet_nil ?_
  all_goals rintro _ ⟨⟨w6, hb6⟩, rfl⟩
  all_goals go_wp2
  all_goals go_ret
  all_goals exact ⟨rfl, below_call hb02 hb6⟩
end Go.Proofs.YtjakgmidhpddoabDoor
