/-
  Numbers of one digit as texts; a vector of one event as a text; wardshiplaw06.lives.
-/
import Derived.Test.YtnokdbblmgggaaaDoorVec3
namespace Go.Proofs.YtnokdbblmgggaaaDoor
open Go.RowKit
set_option maxRecDepth 100000

theorem elemS : ElemT Tryd.prog 35 9 16 := ElemT.mk_ (z := .string ByteArray.empty) Tryd.underlying35 (by kernel_rfl) rfl
theorem small_one (w : World) : Calls Tryd.prog 29 #[.int .i64 1] w fun e w' => e = .returned (str [49]) ∧ w = w' := by
  go_enter Tryd.func29, Tryd.ntmps29
  go_wp2
  go_ret
  exact ⟨rfl, rfl⟩
theorem fmtint_one (w : World) : Calls Tryd.prog 28 #[.int .i64 1, .int .i64 10] w fun e w' => e = .returned (str [49]) ∧ w = w' := by
  go_enter Tryd.func28, Tryd.ntmps28
  go_wp2_with (go_at_call 29; refine (small_one _).mono ?_; rintro e w1 ⟨rfl, rfl⟩)
  go_ret
  exact ⟨rfl, rfl⟩
theorem itoa_one0 (w : World) : Calls Tryd.prog 19 #[.int .i64 1] w fun e w' => e = .returned (str [49]) ∧ w = w' := by
  go_enter Tryd.func19, Tryd.ntmps19
  go_wp2_with (go_at_call 28; refine (fmtint_one _).mono ?_; rintro e w1 ⟨rfl, rfl⟩)
  go_ret
  exact ⟨rfl, rfl⟩
theorem itoa_one (w : World) : Calls Tryd.prog 12 #[.int .i64 1] w fun e w' => e = .returned (str [49]) ∧ w = w' := by
  go_enter Tryd.func12, Tryd.ntmps12
  go_wp2_with (go_at_call 19; refine (itoa_one0 _).mono ?_; rintro e w1 ⟨rfl, rfl⟩)
  go_ret
  exact ⟨rfl, rfl⟩
theorem fmtuint_one0 (w : World) : Calls Tryd.prog 20 #[.int .u64 1, .int .i64 10] w fun e w' => e = .returned (str [49]) ∧ w = w' := by
  go_enter Tryd.func20, Tryd.ntmps20
  go_wp2_with (go_at_call 29; refine (small_one _).mono ?_; rintro e w1 ⟨rfl, rfl⟩)
  go_ret
  exact ⟨rfl, rfl⟩
theorem fmtuint_one (w : World) : Calls Tryd.prog 13 #[.int .u64 1, .int .i64 10] w fun e w' => e = .returned (str [49]) ∧ w = w' := by
  go_enter Tryd.func13, Tryd.ntmps13
  go_wp2_with (go_at_call 20; refine (fmtuint_one0 _).mono ?_; rintro e w1 ⟨rfl, rfl⟩)
  go_ret
  exact ⟨rfl, rfl⟩
theorem join_one (A : Option Addr) (c : Nat) (s sep : List UInt8) (ok : Nat → Prop) (w : World) (hr : Rd w ok A [str s]) :
    Calls Tryd.prog 14 #[.slice A 1 c, str sep] w fun e w' => e = .returned (str s) ∧ w = w' := by
  obtain ⟨b, off, rfl, _, _, hc⟩ := hr.at' (by simp)
  have h0 := hc 0 (by simp)
  simp only [Nat.add_zero, List.getElem_cons_zero] at h0
  clear hc hr
  go_enter Tryd.func14, Tryd.ntmps14
  go_wp2
  go_ret
  exact ⟨rfl, rfl⟩

set_option maxHeartbeats 1000000 in
theorem write_one (V : Nat → Nat) (h0 : V 0 = 1) (h1 : ∀ i, 0 < i → i < 8 → V i = 0) (w : World) :
    Calls Tryd.prog 5 #[vv V] w fun e w' => e = .returned (str [49, 58, 49]) ∧ Below w.heap.size w w' := by
  have hA0 : Blk (w.alloc (.cells (av V) 24)) w.heap.size 24 (av V) := Blk.new w _ _
  have hbel : Below w.heap.size w (w.alloc (.cells (av V) 24)) := (Below.refl _ _).alloc (Nat.le_refl _) _
  have HA := Lib.hid hA0
  have H0 := Lib.hid h0
  have H1 := Lib.hid h1
  clear hA0 h0 h1
  unfold vv
  go_enter Tryd.func5, Tryd.ntmps5
  go_wp2_with (refine wpList_load_row rfl 24 (.tmp 1) rfl w.heap.size rfl 24 (av V) (0, 0) _ HA.out Tryd.underlying24 rfl vec_info ?_)
  go_loopw [3, 7] (fun v i wr => ∃ k : Nat, k ≤ 8 ∧ i = .int .i64 (k : Int) ∧ Own1 wr w.heap.size 9 v (if k = 0 then [] else [str [49, 58, 49]]) ∧ Below w.heap.size w wr) (fun _ i _ => 8 - (intOf i).toNat)
  case atStart => exact ⟨0, by omega, rfl, Own1.nil _ _ _, hbel⟩
  case round =>
    obtain ⟨k, hk, rfl, hown, hbw⟩ := hrel
    by_cases hlt : k < 8
    · have hi := fun w => index_run V k hlt w
      unfold vv at hi
      by_cases hk0 : k = 0
      · subst hk0
        rw [H0.out] at hi
        have hi0 : ∀ w : World, (Instr.index 24 (.agg (av V)) (.int .i64 0)).run Tryd.prog w = .ok (.int .u32 1) w := hi
        have z0 : (((0 : Nat) : Int)) = 0 := rfl
        rw [z0]
        rw [if_pos rfl] at hown
        clear hi
        have Hown := Lib.hid hown
        clear hown
        go_wp2_with (first | (go_at_call 12; refine (itoa_one _).mono ?_; rintro e w2 ⟨rfl, rfl⟩) | (go_at_call 13; refine (fmtuint_one _).mono ?_; rintro e w3 ⟨rfl, rfl⟩) | (at_builtin; refine wpList_app1_one _ elemS rfl (.tmp 13) (.tmp 22) rfl w.heap.size _ _ rfl Hown.out (str [49, 58, 49]) _ rfl rfl (by simp) (by simp) hbw.size ?_; intro v2 w2 hown3 hg2 hat2))
        go_roundw
        case rel => exact ⟨1, by omega, rfl, by rw [if_neg (by omega)]; exact hown3, hbw.trans (Hown.out.below_of hg2 hbw.size (Nat.le_refl _))⟩
        case measure => simp [intOf]
      · rw [H1.out k (by omega) hlt] at hi
        rw [if_neg hk0] at hown
        have Hown := Lib.hid hown
        clear hown
        go_wp2
        go_roundw
        case rel => exact ⟨k + 1, by omega, by go_num, by rw [if_neg (by omega)]; exact Hown.out, hbw⟩
        case measure => simp [intOf]; omega
    · obtain rfl : k = 8 := by omega
      rw [if_neg (by omega)] at hown
      obtain ⟨A, c, hv, _, _, hr⟩ := hown.form
      subst hv
      have Hr := Lib.hid hr
      clear hown hr
      go_wp2_with (go_at_call 14; refine (join_one A c [49, 58, 49] [32] _ _ Hr.out).mono ?_; rintro e w5 ⟨rfl, rfl⟩)
      go_ret
      exact ⟨rfl, hbw⟩
def vA : Nat → Nat := fun i => if i = 0 then 2 else 0
def vB : Nat → Nat := fun i => if i < 2 then 1 else 0
def vC : Nat → Nat := fun i => if i = 0 then 2 else if i = 1 then 1 else 0
theorem order_lives : orderV vA vB = 2 := by decide
theorem join_lives : eqV (joinV vA vB) vC = true := by decide
set_option maxHeartbeats 1000000 in
theorem lives_any (w : World) : Calls Tryd.prog 4 #[] w fun e w' => e = .returned (.bool true) ∧ Below w.heap.size w w' := by
  have heql : ∀ w : World, (binOp .eql 24 (vv (joinV vA vB)) (.agg #[.int .u32 2, .int .u32 1, .int .u32 0, .int .u32 0, .int .u32 0, .int .u32 0, .int .u32 0, .int .u32 0])).run Tryd.prog w = .ok (.bool true) w := fun w => (eql_run (joinV vA vB) vC w).trans (by rw [join_lives])
  have hor := fun w => order_any vA vB w
  rw [order_lives] at hor
  have hjo := fun w => join_any vA vB w
  have hme := fun w => meet_any vA vB w
  have hwr := fun w => write_one (meetV vA vB) rfl (fun i h0 h8 => by rcases lt8 h8 with rfl | rfl | rfl | rfl | rfl | rfl | rfl | rfl <;> first | rfl | omega) w
  unfold vv at heql hjo hme hwr
  obtain ⟨VJ, hVJ⟩ : ∃ VJ, VJ = av (joinV vA vB) := ⟨_, rfl⟩
  obtain ⟨VM, hVM⟩ : ∃ VM, VM = av (meetV vA vB) := ⟨_, rfl⟩
  rw [← hVJ] at heql hjo
  rw [← hVM] at hme hwr
  have Hor := Lib.hid hor
  have Hjo := Lib.hid hjo
  have Hme := Lib.hid hme
  have Hwr := Lib.hid hwr
  clear hor hjo hme hwr hVJ hVM
  obtain ⟨W, hW⟩ : ∃ W, W = (w.alloc (.cells #[.int .u32 2, .int .u32 0, .int .u32 0, .int .u32 0, .int .u32 0, .int .u32 0, .int .u32 0, .int .u32 0] 24)).alloc (.cells #[.int .u32 1, .int .u32 1, .int .u32 0, .int .u32 0, .int .u32 0, .int .u32 0, .int .u32 0, .int .u32 0] 24) := ⟨_, rfl⟩
  have hA : Blk W w.heap.size 24 #[.int .u32 2, .int .u32 0, .int .u32 0, .int .u32 0, .int .u32 0, .int .u32 0, .int .u32 0, .int .u32 0] := by rw [hW]; exact (Blk.new w _ _).alloc _
  have hB : Blk W (w.heap.size + 1) 24 #[.int .u32 1, .int .u32 1, .int .u32 0, .int .u32 0, .int .u32 0, .int .u32 0, .int .u32 0, .int .u32 0] := by
    have := Blk.new (w.alloc (.cells (av vA) 24)) 24 (av vB)
    rw [World.size_alloc] at this
    rw [hW]; exact this
  have hbel : Below w.heap.size w W := by rw [hW]; exact ((Below.refl _ _).alloc (Nat.le_refl _) _).alloc (by simp) _
  have HW := Lib.hid hW
  have HA := Lib.hid hA
  have HB := Lib.hid hB
  clear hW hA hB
  go_enter Tryd.func4, Tryd.ntmps4
  go_wp2_with fail
  rw [← HW.out]
  refine (Hor.out _).mono ?_
  rintro e w1 ⟨rfl, hb1⟩
  have x10 := (HA.out.grow hb1).cell 0
  have y10 := (HB.out.grow hb1).cell 0
  have x11 := (HA.out.grow hb1).cell 1
  have y11 := (HB.out.grow hb1).cell 1
  have x12 := (HA.out.grow hb1).cell 2
  have y12 := (HB.out.grow hb1).cell 2
  have x13 := (HA.out.grow hb1).cell 3
  have y13 := (HB.out.grow hb1).cell 3
  have x14 := (HA.out.grow hb1).cell 4
  have y14 := (HB.out.grow hb1).cell 4
  have x15 := (HA.out.grow hb1).cell 5
  have y15 := (HB.out.grow hb1).cell 5
  have x16 := (HA.out.grow hb1).cell 6
  have y16 := (HB.out.grow hb1).cell 6
  have x17 := (HA.out.grow hb1).cell 7
  have y17 := (HB.out.grow hb1).cell 7
  simp only [List.getElem?_toArray, List.getElem?_cons_zero, List.getElem?_cons_succ] at x10 y10 x11 y11 x12 y12 x13 y13 x14 y14 x15 y15 x16 y16 x17 y17
  go_wp2_with fail
  refine (Hjo.out _).mono ?_
  rintro e w2 ⟨rfl, hb2⟩
  clear x10 y10 x11 y11 x12 y12 x13 y13 x14 y14 x15 y15 x16 y16 x17 y17
  have x20 := ((HA.out.grow hb1).grow hb2).cell 0
  have y20 := ((HB.out.grow hb1).grow hb2).cell 0
  have x21 := ((HA.out.grow hb1).grow hb2).cell 1
  have y21 := ((HB.out.grow hb1).grow hb2).cell 1
  have x22 := ((HA.out.grow hb1).grow hb2).cell 2
  have y22 := ((HB.out.grow hb1).grow hb2).cell 2
  have x23 := ((HA.out.grow hb1).grow hb2).cell 3
  have y23 := ((HB.out.grow hb1).grow hb2).cell 3
  have x24 := ((HA.out.grow hb1).grow hb2).cell 4
  have y24 := ((HB.out.grow hb1).grow hb2).cell 4
  have x25 := ((HA.out.grow hb1).grow hb2).cell 5
  have y25 := ((HB.out.grow hb1).grow hb2).cell 5
  have x26 := ((HA.out.grow hb1).grow hb2).cell 6
  have y26 := ((HB.out.grow hb1).grow hb2).cell 6
  have x27 := ((HA.out.grow hb1).grow hb2).cell 7
  have y27 := ((HB.out.grow hb1).grow hb2).cell 7
  simp only [List.getElem?_toArray, List.getElem?_cons_zero, List.getElem?_cons_succ] at x20 y20 x21 y21 x22 y22 x23 y23 x24 y24 x25 y25 x26 y26 x27 y27
  go_wp2_with fail
  refine (Hme.out _).mono ?_
  rintro e w3 ⟨rfl, hb3⟩
  clear x20 y20 x21 y21 x22 y22 x23 y23 x24 y24 x25 y25 x26 y26 x27 y27
  go_wp2_with fail
  refine (Hwr.out _).mono ?_
  rintro e w4 ⟨rfl, hb4⟩
  go_wp2_with fail
  go_ret
  exact ⟨rfl, below_call (below_call (below_call (below_call hbel hb1) hb2) hb3) hb4⟩
end Go.Proofs.YtnokdbblmgggaaaDoor
