/-
  The walk of VecOrders.
-/
import Derived.Test.YtjakgmidhpddoaaDoorVecLawKit
import Derived.Test.YtjakgmidhpddoaaDoorVecA
namespace Go.Proofs.YtjakgmidhpddoaaDoor
open Go.RowKit
set_option maxRecDepth 100000

set_option maxHeartbeats 4000000 in
theorem vecorders_walk (A B : Nat → Nat) (w : World) (_ : okV A) (_ : okV B) :
    Calls Tryd.prog 3 #[vv A, vv B] w fun e w' => e = .returned (.bool true) ∧ Below w.heap.size w w' := by
  obtain ⟨hA0, hB0, hbel⟩ := boxes2 A B w
  have HA := Lib.hid hA0
  have HB := Lib.hid hB0
  clear hA0 hB0
  unfold vv
  go_enter Tryd.func3, Tryd.ntmps3
  go_wp2_with fail
  refine (lives_any _).mono ?_
  rintro e w1 ⟨rfl, hb1⟩
  have hrA := (HA.out.grow hb1).reads
  have hrB := (HB.out.grow hb1).reads
  have he1 := eql_same (joinV A B)
  have he2 := eql_same (meetV A B)
  have j1 := fun w => join_any A B w
  have j2 := fun w => refjoin_any A B w
  have m1 := fun w => meet_any A B w
  have m2 := fun w => refmeet_any A B w
  unfold vv at j1 j2 m1 m2
  have J1 := Lib.hid j1
  have J2 := Lib.hid j2
  have M1 := Lib.hid m1
  have M2 := Lib.hid m2
  clear j1 j2 m1 m2
  go_wp2_with fail
  refine wp_region_grow (by kernel_rfl) (by kernel_rfl) ?_
  repeat (first | go_big_quiet_step ((first | (go_at_call 10; exact calls_grow (order_any A B _)) | (go_at_call 11; exact calls_grow (reforder_any A B _)) | (go_at_call 12; exact calls_grow (leq_any A B _)) | (go_at_call 13; exact calls_grow (refleq_any A B _)) | (go_at_call 14; exact calls_grow (J1.out _)) | (go_at_call 15; exact calls_grow (J2.out _)) | (go_at_call 16; exact calls_grow (M1.out _)) | (go_at_call 17; exact calls_grow (M2.out _)))))
  refine wpQuiet_nil ?_
  rintro _ ⟨⟨w6, hb6⟩, rfl⟩
  go_wp2
  go_ret
  exact ⟨rfl, below_call (below_call hbel hb1) hb6⟩
end Go.Proofs.YtjakgmidhpddoaaDoor
