/-
  The walk of SpanSmall.
-/
import Derived.Test.YtpfhhkdmgkkidaaSpLaw3
namespace Go.Proofs.Ytpfhhkdmgkkidaa
open Go.RowKit
set_option maxRecDepth 100000

theorem eqv_lit (A B : Nat → Nat) : ∀ w : World, (binOp .eql 24 (.agg #[.int .u32 (A 0 : Int), .int .u32 (A 1 : Int), .int .u32 (A 2 : Int), .int .u32 (A 3 : Int), .int .u32 (A 4 : Int), .int .u32 (A 5 : Int), .int .u32 (A 6 : Int), .int .u32 (A 7 : Int)]) (.agg #[.int .u32 (B 0 : Int), .int .u32 (B 1 : Int), .int .u32 (B 2 : Int), .int .u32 (B 3 : Int), .int .u32 (B 4 : Int), .int .u32 (B 5 : Int), .int .u32 (B 6 : Int), .int .u32 (B 7 : Int)])).run Try.prog w = .ok (.bool (eqV A B)) w := eql_run A B
theorem span_self {A : Nat → Nat} (hA : okV A) : (spanB A A).length = 2 := by
  have h := spanB_len hA hA
  rw [apartN_self] at h
  omega

set_option maxHeartbeats 4000000 in
theorem spansmall_walk (A B C : Nat → Nat) (w : World) (hA : okV A) (hB : okV B) (hC : okV C) :
    Calls Try.prog 6 #[vv A, vv B, vv C] w fun e w' => e = .returned (.bool true) ∧ Below w.heap.size w w' := by
  obtain ⟨h1, h2, h3, hbel⟩ := boxes3 A B C w
  have hs1 := fun w => shrink_at A C hA hC w
  have hs2 := fun w => shrink_at A A hA hA w
  have hs3 := fun w => shrink_at B C hB hC w
  have hl1 := spanB_len hA hC
  have hl1' := spanB_le hA hC
  have hl2 := span_self hA
  have hin := span_inj hA hB hC
  have heq := eqv_lit A B
  rw [hl2] at hs2
  generalize spanB A C = S1 at hs1 hl1 hl1' hin
  generalize spanB A A = S2 at hs2 hl2
  generalize spanB B C = S3 at hs3 hin
  obtain ⟨W, hW⟩ : ∃ W, W = (((w.alloc (.cells (av A) 24)).alloc (.cells (av B) 24)).alloc (.cells (av C) 24)) := ⟨_, rfl⟩
  rw [← hW] at h1 h2 h3 hbel
  have HW := Lib.hid hW
  have H1 := Lib.hid h1
  have H2 := Lib.hid h2
  have H3 := Lib.hid h3
  have Hs1 := Lib.hid hs1
  have Hs2 := Lib.hid hs2
  have Hs3 := Lib.hid hs3
  have Hl1 := Lib.hid hl1
  have Hl1' := Lib.hid hl1'
  have Hin := Lib.hid hin
  have Heq := Lib.hid heq
  clear hW h1 h2 h3 hs1 hs2 hs3 hl1 hl1' hl2 hin heq
  unfold vv
  go_enter Try.func6, Try.ntmps6
  go_wp2_with fail
  rw [← HW.out]
  refine (lives_any _).mono ?_
  rintro e w1 ⟨rfl, hb1⟩
  have hb01 := below_call hbel hb1
  have HA1 := Lib.hid (H1.out.grow hb1)
  have HB1 := Lib.hid (H2.out.grow hb1)
  have HC1 := Lib.hid (H3.out.grow hb1)
  clear hb1 hbel
  go_wp2_with fail
  go_loopw [7, 12] (fun n i wr => ∃ k : Nat, k ≤ 8 ∧ i = .int .i64 (k : Int) ∧ n = .int .i64 (apartN A C k : Int) ∧ Below w1.heap.size w1 wr) (fun _ i _ => 8 - (intOf i).toNat)
  case atStart => exact ⟨0, by omega, rfl, rfl, Below.refl _ _⟩
  case round =>
    obtain ⟨k, hk, rfl, rfl, hbw⟩ := hrel
    have hap := apartN_le A C k
    by_cases hlt : k < 8
    · have ca := (HA1.out.grow hbw).cell k
      rw [av_get A hlt] at ca
      have cc := (HC1.out.grow hbw).cell k
      rw [av_get C hlt] at cc
      have hst : apartN A C (k + 1) = apartN A C k + (if A k = C k then 0 else 1) := rfl
      generalize apartN A C k = n at hap hst ⊢
      by_cases h : A k = C k
      · have hne : ((A k : Int) != (C k : Int)) = false := by rw [h]; simp
        rw [if_pos h] at hst
        have Hst := Lib.hid hst
        clear hst h
        go_wp2_with fail
        go_quiet (fail)
        go_wp2_with fail
        go_roundw
        case rel => exact ⟨k + 1, by omega, by go_num, by rw [Hst.out]; rfl, below_drewN hbw _⟩
        case measure => simp [intOf]; omega
      · have hne : ((A k : Int) != (C k : Int)) = true := by rw [bne_iff_ne]; omega
        rw [if_neg h] at hst
        have Hst := Lib.hid hst
        clear hst h
        go_wp2_with fail
        go_quiet (fail)
        go_wp2_with fail
        go_roundw
        case rel => exact ⟨k + 1, by omega, by go_num, by rw [Hst.out]; go_num, below_drewN hbw _⟩
        case measure => simp [intOf]; omega
    · obtain rfl : k = 8 := by omega
      have hl := Hl1.out
      have hl' := Hl1'.out
      generalize apartN A C 8 = n at hl hap ⊢
      have hbR := below_call hb01 hbw
      have HA0 := Lib.hid (HA1.out.grow hbw)
      have HB0 := Lib.hid (HB1.out.grow hbw)
      have HC0 := Lib.hid (HC1.out.grow hbw)
      go_wp2_with (first | (refine wpList_load_row rfl 24 (.tmp 3) rfl w.heap.size rfl 24 (av A) (0, 0) _ (by exact HA0.out) Try.underlying24 rfl vec_info ?_) | (refine wpList_load_row rfl 24 (.tmp 5) rfl (w.heap.size + 1 + 1) rfl 24 (av C) (0, 0) _ (by exact HC0.out) Try.underlying24 rfl vec_info ?_))
      refine (Hs1.out _).mono ?_
      rintro e w2 ⟨A2, c2, rfl, hl2, hm2, hr2, hb2⟩
      have hb02 := below_call hbR hb2
      have HA2 := Lib.hid (HA0.out.grow hb2)
      have HB2 := Lib.hid (HB0.out.grow hb2)
      have HC2 := Lib.hid (HC0.out.grow hb2)
      have k0 : ∀ u : World, Below w2.heap.size w2 u → (convert 26 9 (.slice A2 S1.length c2)).run Try.prog u = .ok (str S1) u := fun u hb => run_bytes_str _ _ _ Try.underlying26 Try.underlying5 Try.underlying9 (hr2.grow hb)
      have K0 := Lib.hid k0
      have xA0 := (HA2.out.cell 0)
      have xA1 := (HA2.out.cell 1)
      have xA2 := (HA2.out.cell 2)
      have xA3 := (HA2.out.cell 3)
      have xA4 := (HA2.out.cell 4)
      have xA5 := (HA2.out.cell 5)
      have xA6 := (HA2.out.cell 6)
      have xA7 := (HA2.out.cell 7)
      have xB0 := (HB2.out.cell 0)
      have xB1 := (HB2.out.cell 1)
      have xB2 := (HB2.out.cell 2)
      have xB3 := (HB2.out.cell 3)
      have xB4 := (HB2.out.cell 4)
      have xB5 := (HB2.out.cell 5)
      have xB6 := (HB2.out.cell 6)
      have xB7 := (HB2.out.cell 7)
      have xC0 := (HC2.out.cell 0)
      have xC1 := (HC2.out.cell 1)
      have xC2 := (HC2.out.cell 2)
      have xC3 := (HC2.out.cell 3)
      have xC4 := (HC2.out.cell 4)
      have xC5 := (HC2.out.cell 5)
      have xC6 := (HC2.out.cell 6)
      have xC7 := (HC2.out.cell 7)
      simp only [List.getElem?_toArray, List.getElem?_cons_zero, List.getElem?_cons_succ, av] at xA0 xA1 xA2 xA3 xA4 xA5 xA6 xA7 xB0 xB1 xB2 xB3 xB4 xB5 xB6 xB7 xC0 xC1 xC2 xC3 xC4 xC5 xC6 xC7
      have xA0d : w2.drew.cell? ⟨w.heap.size, 0, none⟩ = some (.int .u32 (A 0 : Int)) := xA0
      have xA1d : w2.drew.cell? ⟨w.heap.size, 1, none⟩ = some (.int .u32 (A 1 : Int)) := xA1
      have xA2d : w2.drew.cell? ⟨w.heap.size, 2, none⟩ = some (.int .u32 (A 2 : Int)) := xA2
      have xA3d : w2.drew.cell? ⟨w.heap.size, 3, none⟩ = some (.int .u32 (A 3 : Int)) := xA3
      have xA4d : w2.drew.cell? ⟨w.heap.size, 4, none⟩ = some (.int .u32 (A 4 : Int)) := xA4
      have xA5d : w2.drew.cell? ⟨w.heap.size, 5, none⟩ = some (.int .u32 (A 5 : Int)) := xA5
      have xA6d : w2.drew.cell? ⟨w.heap.size, 6, none⟩ = some (.int .u32 (A 6 : Int)) := xA6
      have xA7d : w2.drew.cell? ⟨w.heap.size, 7, none⟩ = some (.int .u32 (A 7 : Int)) := xA7
      have xB0d : w2.drew.cell? ⟨w.heap.size + 1, 0, none⟩ = some (.int .u32 (B 0 : Int)) := xB0
      have xB1d : w2.drew.cell? ⟨w.heap.size + 1, 1, none⟩ = some (.int .u32 (B 1 : Int)) := xB1
      have xB2d : w2.drew.cell? ⟨w.heap.size + 1, 2, none⟩ = some (.int .u32 (B 2 : Int)) := xB2
      have xB3d : w2.drew.cell? ⟨w.heap.size + 1, 3, none⟩ = some (.int .u32 (B 3 : Int)) := xB3
      have xB4d : w2.drew.cell? ⟨w.heap.size + 1, 4, none⟩ = some (.int .u32 (B 4 : Int)) := xB4
      have xB5d : w2.drew.cell? ⟨w.heap.size + 1, 5, none⟩ = some (.int .u32 (B 5 : Int)) := xB5
      have xB6d : w2.drew.cell? ⟨w.heap.size + 1, 6, none⟩ = some (.int .u32 (B 6 : Int)) := xB6
      have xB7d : w2.drew.cell? ⟨w.heap.size + 1, 7, none⟩ = some (.int .u32 (B 7 : Int)) := xB7
      have xC0d : w2.drew.cell? ⟨w.heap.size + 1 + 1, 0, none⟩ = some (.int .u32 (C 0 : Int)) := xC0
      have xC1d : w2.drew.cell? ⟨w.heap.size + 1 + 1, 1, none⟩ = some (.int .u32 (C 1 : Int)) := xC1
      have xC2d : w2.drew.cell? ⟨w.heap.size + 1 + 1, 2, none⟩ = some (.int .u32 (C 2 : Int)) := xC2
      have xC3d : w2.drew.cell? ⟨w.heap.size + 1 + 1, 3, none⟩ = some (.int .u32 (C 3 : Int)) := xC3
      have xC4d : w2.drew.cell? ⟨w.heap.size + 1 + 1, 4, none⟩ = some (.int .u32 (C 4 : Int)) := xC4
      have xC5d : w2.drew.cell? ⟨w.heap.size + 1 + 1, 5, none⟩ = some (.int .u32 (C 5 : Int)) := xC5
      have xC6d : w2.drew.cell? ⟨w.heap.size + 1 + 1, 6, none⟩ = some (.int .u32 (C 6 : Int)) := xC6
      have xC7d : w2.drew.cell? ⟨w.heap.size + 1 + 1, 7, none⟩ = some (.int .u32 (C 7 : Int)) := xC7
      clear hb2 hbR hbw hb01 k0 hr2
      have hss := Hin.out
      have heq := Heq.out
      generalize eqV A B = e at hss heq
      have q1 : decide (2 + 2 * (n : Int) ≤ (S1.length : Int)) = true := by rw [decide_eq_true_iff]; omega
      have q2 : decide ((S1.length : Int) ≤ 2 + 5 * (n : Int)) = true := by rw [decide_eq_true_iff]; omega
      have i1 : IntKind.i64.wrap (2 * (n : Int)) = 2 * (n : Int) := IntWalk.i64_in _ (by omega)
      have i2 : IntKind.i64.wrap (2 + 2 * (n : Int)) = 2 + 2 * (n : Int) := IntWalk.i64_in _ (by omega)
      have i3 : IntKind.i64.wrap (5 * (n : Int)) = 5 * (n : Int) := IntWalk.i64_in _ (by omega)
      have i4 : IntKind.i64.wrap (2 + 5 * (n : Int)) = 2 + 5 * (n : Int) := IntWalk.i64_in _ (by omega)
      cases e
      all_goals go_wp2_with fail
      all_goals go_region_held (fun u => Below w2.heap.size w2 u ∧ (convert 26 9 (.slice A2 S1.length c2)).run Try.prog u = .ok (str S1) u ∧ u.cell? ⟨w.heap.size, 0, none⟩ = some (.int .u32 (A 0 : Int)) ∧ u.cell? ⟨w.heap.size, 1, none⟩ = some (.int .u32 (A 1 : Int)) ∧ u.cell? ⟨w.heap.size, 2, none⟩ = some (.int .u32 (A 2 : Int)) ∧ u.cell? ⟨w.heap.size, 3, none⟩ = some (.int .u32 (A 3 : Int)) ∧ u.cell? ⟨w.heap.size, 4, none⟩ = some (.int .u32 (A 4 : Int)) ∧ u.cell? ⟨w.heap.size, 5, none⟩ = some (.int .u32 (A 5 : Int)) ∧ u.cell? ⟨w.heap.size, 6, none⟩ = some (.int .u32 (A 6 : Int)) ∧ u.cell? ⟨w.heap.size, 7, none⟩ = some (.int .u32 (A 7 : Int)) ∧ u.cell? ⟨w.heap.size + 1, 0, none⟩ = some (.int .u32 (B 0 : Int)) ∧ u.cell? ⟨w.heap.size + 1, 1, none⟩ = some (.int .u32 (B 1 : Int)) ∧ u.cell? ⟨w.heap.size + 1, 2, none⟩ = some (.int .u32 (B 2 : Int)) ∧ u.cell? ⟨w.heap.size + 1, 3, none⟩ = some (.int .u32 (B 3 : Int)) ∧ u.cell? ⟨w.heap.size + 1, 4, none⟩ = some (.int .u32 (B 4 : Int)) ∧ u.cell? ⟨w.heap.size + 1, 5, none⟩ = some (.int .u32 (B 5 : Int)) ∧ u.cell? ⟨w.heap.size + 1, 6, none⟩ = some (.int .u32 (B 6 : Int)) ∧ u.cell? ⟨w.heap.size + 1, 7, none⟩ = some (.int .u32 (B 7 : Int)) ∧ u.cell? ⟨w.heap.size + 1 + 1, 0, none⟩ = some (.int .u32 (C 0 : Int)) ∧ u.cell? ⟨w.heap.size + 1 + 1, 1, none⟩ = some (.int .u32 (C 1 : Int)) ∧ u.cell? ⟨w.heap.size + 1 + 1, 2, none⟩ = some (.int .u32 (C 2 : Int)) ∧ u.cell? ⟨w.heap.size + 1 + 1, 3, none⟩ = some (.int .u32 (C 3 : Int)) ∧ u.cell? ⟨w.heap.size + 1 + 1, 4, none⟩ = some (.int .u32 (C 4 : Int)) ∧ u.cell? ⟨w.heap.size + 1 + 1, 5, none⟩ = some (.int .u32 (C 5 : Int)) ∧ u.cell? ⟨w.heap.size + 1 + 1, 6, none⟩ = some (.int .u32 (C 6 : Int)) ∧ u.cell? ⟨w.heap.size + 1 + 1, 7, none⟩ = some (.int .u32 (C 7 : Int)))
        (first | (with_reducible exact ⟨(Below.refl _ _).drew, K0.out _ (Below.refl _ _).drew, xA0d, xA1d, xA2d, xA3d, xA4d, xA5d, xA6d, xA7d, xB0d, xB1d, xB2d, xB3d, xB4d, xB5d, xB6d, xB7d, xC0d, xC1d, xC2d, xC3d, xC4d, xC5d, xC6d, xC7d⟩) | (with_reducible assumption) | (go_split_ands; with_reducible exact ⟨below_on (by assumption) hb5, K0.out _ (below_on (by assumption) hb5), cell_then hb5 (by assumption), cell_then hb5 (by assumption), cell_then hb5 (by assumption), cell_then hb5 (by assumption), cell_then hb5 (by assumption), cell_then hb5 (by assumption), cell_then hb5 (by assumption), cell_then hb5 (by assumption), cell_then hb5 (by assumption), cell_then hb5 (by assumption), cell_then hb5 (by assumption), cell_then hb5 (by assumption), cell_then hb5 (by assumption), cell_then hb5 (by assumption), cell_then hb5 (by assumption), cell_then hb5 (by assumption), cell_then hb5 (by assumption), cell_then hb5 (by assumption), cell_then hb5 (by assumption), cell_then hb5 (by assumption), cell_then hb5 (by assumption), cell_then hb5 (by assumption), cell_then hb5 (by assumption), cell_then hb5 (by assumption)⟩) | (go_split_ands; with_reducible exact ⟨below_on (by assumption) hb4, K0.out _ (below_on (by assumption) hb4), cell_then hb4 (by assumption), cell_then hb4 (by assumption), cell_then hb4 (by assumption), cell_then hb4 (by assumption), cell_then hb4 (by assumption), cell_then hb4 (by assumption), cell_then hb4 (by assumption), cell_then hb4 (by assumption), cell_then hb4 (by assumption), cell_then hb4 (by assumption), cell_then hb4 (by assumption), cell_then hb4 (by assumption), cell_then hb4 (by assumption), cell_then hb4 (by assumption), cell_then hb4 (by assumption), cell_then hb4 (by assumption), cell_then hb4 (by assumption), cell_then hb4 (by assumption), cell_then hb4 (by assumption), cell_then hb4 (by assumption), cell_then hb4 (by assumption), cell_then hb4 (by assumption), cell_then hb4 (by assumption), cell_then hb4 (by assumption)⟩))
        (first | (go_at_call 10; (first | (with_reducible refine (Hs2.out _).mono ?_; rintro e w4 ⟨A4, c4, rfl, hl4, hm4, hr4, hb4⟩) | (with_reducible refine (Hs3.out _).mono ?_; rintro e w5 ⟨A5, c5, rfl, hl5, hm5, hr5, hb5⟩; have hcv5 := run_bytes_str (P := Try.prog) (c := c5) 26 9 _ Try.underlying26 Try.underlying5 Try.underlying9 hr5))))
      all_goals go_wp2_with fail
      all_goals go_ret
      all_goals exact ⟨rfl, below_call hb02 (And.left (by assumption))⟩
end Go.Proofs.Ytpfhhkdmgkkidaa
