/-
  The walk of VecLine.
-/
import Derived.Test.YtjakgmidhpddoaaDoorVecLawKit
namespace Go.Proofs.YtjakgmidhpddoaaDoor
open Go.RowKit
set_option maxRecDepth 100000

theorem Blk.vec {W : World} {g : Nat} {V : Nat → Nat} (h : Blk W g 24 (av V)) : ∀ i, i < 8 → W.cell? ⟨g, i, none⟩ = some (.int .u32 (V i : Int)) := fun i hi => by rw [h.cell, av_get V hi]

set_option maxHeartbeats 4000000 in
theorem vecline_walk (A B C : Nat → Nat) (w : World) (_ : okV A) (_ : okV B) (_ : okV C) :
    Calls Tryd.prog 6 #[vv A, vv B, vv C] w fun e w' => e = .returned (.bool true) ∧ Below w.heap.size w w' := by
  obtain ⟨hA, hB, hC, hbel⟩ := boxes3 A B C w
  have HA := Lib.hid hA
  have HB := Lib.hid hB
  have HC := Lib.hid hC
  have heq : ∀ w : World, (binOp .eql 24 (.agg #[.int .u32 (A 0 : Int), .int .u32 (A 1 : Int), .int .u32 (A 2 : Int), .int .u32 (A 3 : Int), .int .u32 (A 4 : Int), .int .u32 (A 5 : Int), .int .u32 (A 6 : Int), .int .u32 (A 7 : Int)]) (.agg #[.int .u32 (B 0 : Int), .int .u32 (B 1 : Int), .int .u32 (B 2 : Int), .int .u32 (B 3 : Int), .int .u32 (B 4 : Int), .int .u32 (B 5 : Int), .int .u32 (B 6 : Int), .int .u32 (B 7 : Int)])).run Tryd.prog w = .ok (.bool (eqV A B)) w := eql_run A B
  unfold vv
  clear hA hB hC
  go_enter Tryd.func6, Tryd.ntmps6
  go_wp2_with fail
  refine (lives_any _).mono ?_
  rintro e w1 ⟨rfl, hb1⟩
  have hb01 := below_call hbel hb1
  have hA1 := HA.out.grow hb1
  have hB1 := HB.out.grow hb1
  have hC1 := HC.out.grow hb1
  have HA1 := Lib.hid hA1
  have HB1 := Lib.hid hB1
  have HC1 := Lib.hid hC1
  have ra := hA1.reads
  have rb := hB1.reads
  clear hA1 hB1 hC1 hb1 hbel HA HB HC
  go_wp2_with fail
  refine wp_region_grow (by kernel_rfl) (by kernel_rfl) ?_
  repeat (first | go_big_quiet_step ((go_at_call 10; exact calls_grow (order_any _ _ _))))
  refine wpQuiet_nil ?_
  rintro _ ⟨⟨w2, hb2⟩, rfl⟩
  have hb02 := below_call hb01 hb2
  have hA2 := HA1.out.grow hb2
  have hB2 := HB1.out.grow hb2
  have hC2 := HC1.out.grow hb2
  have xa := hA2.vec
  have xb := hB2.vec
  have HA2 := Lib.hid hA2
  have HB2 := Lib.hid hB2
  have HC2 := Lib.hid hC2
  clear hA2 hB2 hC2 ra rb hb01 hb2
  have h4 := order_four A B
  generalize orderV A B = x at h4 ⊢
  generalize orderV B A = y at h4 ⊢
  rcases h4 with ⟨hx, hy, he⟩ | ⟨hx, hy, he⟩ | ⟨hx, hy, he⟩ | ⟨hx, hy, he⟩
  all_goals subst hx hy
  all_goals rw [he] at heq
  all_goals clear he
  all_goals rcases leq_three A B C with h1 | ⟨h1, h2⟩ | ⟨h1, h2, h3⟩
  all_goals have Q1 := Lib.hid h1
  all_goals clear h1
  all_goals go_wp2_with fail
  all_goals refine (leq_any A B _).mono ?_
  all_goals rintro e w3 ⟨rfl, hb3⟩
  all_goals rw [Q1.out]
  all_goals have hb03 := below_call hb02 hb3
  all_goals have hA3 := HA2.out.grow hb3
  all_goals have hB3 := HB2.out.grow hb3
  all_goals have hC3 := HC2.out.grow hb3
  all_goals have ya := hA3.vec
  all_goals have yb := hB3.vec
  all_goals have yc := hC3.vec
  all_goals have HA3 := Lib.hid hA3
  all_goals have HC3 := Lib.hid hC3
  all_goals clear hA3 hB3 hC3 xa xb heq
  iterate 4
    · go_wp2_with fail
      go_ret
      exact ⟨rfl, hb03⟩
    · have Q2 := Lib.hid h2
      clear h2
      go_wp2_with fail
      refine (leq_any B C _).mono ?_
      rintro e w4 ⟨rfl, hb4⟩
      rw [Q2.out]
      clear ya yb yc
      go_wp2_with fail
      go_ret
      exact ⟨rfl, below_call hb03 hb4⟩
    · have Q2 := Lib.hid h2
      have Q3 := Lib.hid h3
      clear h2 h3
      go_wp2_with fail
      refine (leq_any B C _).mono ?_
      rintro e w4 ⟨rfl, hb4⟩
      rw [Q2.out]
      clear ya yb yc
      have za := (HA3.out.grow hb4).vec
      have zc := (HC3.out.grow hb4).vec
      go_wp2_with fail
      refine (leq_any A C _).mono ?_
      rintro e w5 ⟨rfl, hb5⟩
      rw [Q3.out]
      clear za zc
      go_wp2_with fail
      go_ret
      exact ⟨rfl, below_call (below_call hb03 hb4) hb5⟩
end Go.Proofs.YtjakgmidhpddoaaDoor
