/-
  The walk of SpanBack.
-/
import Derived.Test.YtpfhhkdmgkkidaaSpLaw2
namespace Go.Proofs.Ytpfhhkdmgkkidaa
open Go.RowKit
set_option maxRecDepth 100000

theorem reb_span {A B C : Nat → Nat} (hA : okV A) (hB : okV B) : (growV (spanB A B) B).2 = 0 ∧ rebS (spanB A B) B C = spanB A C := by
  obtain ⟨h1, h2⟩ := grow_span hA hB
  refine ⟨h1, ?_⟩
  unfold rebS
  rw [if_pos h1]
  exact spanB_congr h2 fun _ _ => rfl
/-- A vector's bytes against another base. -/
theorem rebase_at (A B C : Nat → Nat) (hA : okV A) (hB : okV B) (hC : okV C) (Ad : Option Addr) (c : Nat) (w : World) (hlc : (spanB A B).length ≤ c) (hcm : c ≤ maxLen) (hr : Rd w (fun _ => True) Ad ((spanB A B).map u8)) :
    Calls Try.prog 14 #[.slice Ad (spanB A B).length c, vv B, vv C] w fun e w' => ∃ A5 c5, e = .returned (.tuple #[.slice A5 (spanB A C).length c5, .int .i64 0]) ∧ (spanB A C).length ≤ c5 ∧ c5 ≤ maxLen ∧ Rd w' (fun _ => True) A5 ((spanB A C).map u8) ∧ Below w.heap.size w w' := by
  obtain ⟨h1, h2⟩ := reb_span (C := C) hA hB
  refine (rebase_any _ Ad c (spanB A B) B C hB hC w hlc hcm hr).mono fun e w' ⟨v, he, ho, hb⟩ => ?_
  rw [h2] at ho
  rw [h1] at he
  obtain ⟨A', c', rfl, h3, h4, h5⟩ := ho.isB
  exact ⟨A', c', he, h3, h4, h5.weaken fun _ _ => trivial, hb⟩

set_option maxHeartbeats 2000000 in
theorem spanback_walk (A B C : Nat → Nat) (w : World) (hA : okV A) (hB : okV B) (hC : okV C) :
    Calls Try.prog 7 #[vv A, vv B, vv C] w fun e w' => e = .returned (.bool true) ∧ Below w.heap.size w w' := by
  obtain ⟨h1, h2, h3, hbel⟩ := boxes3 A B C w
  have hs1 := fun w => shrink_at A B hA hB w
  have hs2 := fun w => shrink_at A C hA hC w
  have hr1 := fun Ad c w h1 h2 h3 => rebase_at A B C hA hB hC Ad c w h1 h2 h3
  have hr2 := fun Ad c w h1 h2 h3 => rebase_at A C B hA hC hB Ad c w h1 h2 h3
  unfold vv at hr1 hr2
  generalize spanB A B = S1 at hs1 hr1 hr2
  generalize spanB A C = S2 at hs2 hr1 hr2
  obtain ⟨W, hW⟩ : ∃ W, W = (((w.alloc (.cells (av A) 24)).alloc (.cells (av B) 24)).alloc (.cells (av C) 24)) := ⟨_, rfl⟩
  rw [← hW] at h1 h2 h3 hbel
  have HW := Lib.hid hW
  have H1 := Lib.hid h1
  have H2 := Lib.hid h2
  have H3 := Lib.hid h3
  have Hs1 := Lib.hid hs1
  have Hs2 := Lib.hid hs2
  have Hr1 := Lib.hid hr1
  have Hr2 := Lib.hid hr2
  clear hW h1 h2 h3 hs1 hs2 hr1 hr2
  unfold vv
  go_enter Try.func7, Try.ntmps7
  go_wp2_with fail
  rw [← HW.out]
  refine (lives_any _).mono ?_
  rintro e w1 ⟨rfl, hb1⟩
  have hb01 := below_call hbel hb1
  have HA1 := Lib.hid (H1.out.grow hb1)
  have HB1 := Lib.hid (H2.out.grow hb1)
  have HC1 := Lib.hid (H3.out.grow hb1)
  clear hb1 hbel
  go_wp2_with (first | (refine wpList_load_row rfl 24 (.tmp 3) rfl w.heap.size rfl 24 (av A) (0, 0) _ (by exact HA1.out) Try.underlying24 rfl vec_info ?_) | (refine wpList_load_row rfl 24 (.tmp 4) rfl (w.heap.size + 1) rfl 24 (av B) (0, 0) _ (by exact HB1.out) Try.underlying24 rfl vec_info ?_))
  refine (Hs1.out _).mono ?_
  rintro e w2 ⟨A2, c2, rfl, hl2, hm2, hr2, hb2⟩
  have hb02 := below_call hb01 hb2
  have HA2 := Lib.hid (HA1.out.grow hb2)
  have HB2 := Lib.hid (HB1.out.grow hb2)
  have HC2 := Lib.hid (HC1.out.grow hb2)
  clear hb2 hb01
  go_wp2_with (first | (refine wpList_load_row rfl 24 (.tmp 4) rfl (w.heap.size + 1) rfl 24 (av B) (0, 0) _ (by exact HB2.out) Try.underlying24 rfl vec_info ?_) | (refine wpList_load_row rfl 24 (.tmp 5) rfl (w.heap.size + 1 + 1) rfl 24 (av C) (0, 0) _ (by exact HC2.out) Try.underlying24 rfl vec_info ?_))
  refine (Hr1.out A2 c2 _ hl2 hm2 hr2).mono ?_
  rintro e w3 ⟨A3, c3, rfl, hl3, hm3, hr3, hb3⟩
  have hb03 := below_call hb02 hb3
  have hr23 := hr2.grow hb3
  have HA3 := Lib.hid (HA2.out.grow hb3)
  have HB3 := Lib.hid (HB2.out.grow hb3)
  have HC3 := Lib.hid (HC2.out.grow hb3)
  clear hb3 hb02 hr2
  go_wp2_with (first | (refine wpList_load_row rfl 24 (.tmp 4) rfl (w.heap.size + 1) rfl 24 (av B) (0, 0) _ (by exact HB3.out) Try.underlying24 rfl vec_info ?_) | (refine wpList_load_row rfl 24 (.tmp 5) rfl (w.heap.size + 1 + 1) rfl 24 (av C) (0, 0) _ (by exact HC3.out) Try.underlying24 rfl vec_info ?_))
  refine (Hr2.out A3 c3 _ hl3 hm3 hr3).mono ?_
  rintro e w4 ⟨A4, c4, rfl, hl4, hm4, hr4, hb4⟩
  have hb04 := below_call hb03 hb4
  have hr24 := hr23.grow hb4
  have hr34 := hr3.grow hb4
  have HA4 := Lib.hid (HA3.out.grow hb4)
  have HC4 := Lib.hid (HC3.out.grow hb4)
  have k0 : ∀ u : World, Below w4.heap.size w4 u → (convert 26 9 (.slice A2 S1.length c2)).run Try.prog u = .ok (str S1) u := fun u hb => run_bytes_str _ _ _ Try.underlying26 Try.underlying5 Try.underlying9 (hr24.grow hb)
  have k1 : ∀ u : World, Below w4.heap.size w4 u → (convert 26 9 (.slice A4 S1.length c4)).run Try.prog u = .ok (str S1) u := fun u hb => run_bytes_str _ _ _ Try.underlying26 Try.underlying5 Try.underlying9 (hr4.grow hb)
  have k2 : ∀ u : World, Below w4.heap.size w4 u → (convert 26 9 (.slice A3 S2.length c3)).run Try.prog u = .ok (str S2) u := fun u hb => run_bytes_str _ _ _ Try.underlying26 Try.underlying5 Try.underlying9 (hr34.grow hb)
  have K0 := Lib.hid k0
  have K1 := Lib.hid k1
  have K2 := Lib.hid k2
  have xA0 := (HA4.out.cell 0)
  have xA1 := (HA4.out.cell 1)
  have xA2 := (HA4.out.cell 2)
  have xA3 := (HA4.out.cell 3)
  have xA4 := (HA4.out.cell 4)
  have xA5 := (HA4.out.cell 5)
  have xA6 := (HA4.out.cell 6)
  have xA7 := (HA4.out.cell 7)
  have xC0 := (HC4.out.cell 0)
  have xC1 := (HC4.out.cell 1)
  have xC2 := (HC4.out.cell 2)
  have xC3 := (HC4.out.cell 3)
  have xC4 := (HC4.out.cell 4)
  have xC5 := (HC4.out.cell 5)
  have xC6 := (HC4.out.cell 6)
  have xC7 := (HC4.out.cell 7)
  simp only [List.getElem?_toArray, List.getElem?_cons_zero, List.getElem?_cons_succ, av] at xA0 xA1 xA2 xA3 xA4 xA5 xA6 xA7 xC0 xC1 xC2 xC3 xC4 xC5 xC6 xC7
  have xA0d : w4.drew.cell? ⟨w.heap.size, 0, none⟩ = some (.int .u32 (A 0 : Int)) := xA0
  have xA1d : w4.drew.cell? ⟨w.heap.size, 1, none⟩ = some (.int .u32 (A 1 : Int)) := xA1
  have xA2d : w4.drew.cell? ⟨w.heap.size, 2, none⟩ = some (.int .u32 (A 2 : Int)) := xA2
  have xA3d : w4.drew.cell? ⟨w.heap.size, 3, none⟩ = some (.int .u32 (A 3 : Int)) := xA3
  have xA4d : w4.drew.cell? ⟨w.heap.size, 4, none⟩ = some (.int .u32 (A 4 : Int)) := xA4
  have xA5d : w4.drew.cell? ⟨w.heap.size, 5, none⟩ = some (.int .u32 (A 5 : Int)) := xA5
  have xA6d : w4.drew.cell? ⟨w.heap.size, 6, none⟩ = some (.int .u32 (A 6 : Int)) := xA6
  have xA7d : w4.drew.cell? ⟨w.heap.size, 7, none⟩ = some (.int .u32 (A 7 : Int)) := xA7
  have xC0d : w4.drew.cell? ⟨w.heap.size + 1 + 1, 0, none⟩ = some (.int .u32 (C 0 : Int)) := xC0
  have xC1d : w4.drew.cell? ⟨w.heap.size + 1 + 1, 1, none⟩ = some (.int .u32 (C 1 : Int)) := xC1
  have xC2d : w4.drew.cell? ⟨w.heap.size + 1 + 1, 2, none⟩ = some (.int .u32 (C 2 : Int)) := xC2
  have xC3d : w4.drew.cell? ⟨w.heap.size + 1 + 1, 3, none⟩ = some (.int .u32 (C 3 : Int)) := xC3
  have xC4d : w4.drew.cell? ⟨w.heap.size + 1 + 1, 4, none⟩ = some (.int .u32 (C 4 : Int)) := xC4
  have xC5d : w4.drew.cell? ⟨w.heap.size + 1 + 1, 5, none⟩ = some (.int .u32 (C 5 : Int)) := xC5
  have xC6d : w4.drew.cell? ⟨w.heap.size + 1 + 1, 6, none⟩ = some (.int .u32 (C 6 : Int)) := xC6
  have xC7d : w4.drew.cell? ⟨w.heap.size + 1 + 1, 7, none⟩ = some (.int .u32 (C 7 : Int)) := xC7
  clear hb4 hb03 k0 k1 k2 hr3 hr23 hr24 hr34 hr4
  go_wp2_with fail
  go_region_held (fun u => Below w4.heap.size w4 u ∧ (convert 26 9 (.slice A2 S1.length c2)).run Try.prog u = .ok (str S1) u ∧ (convert 26 9 (.slice A4 S1.length c4)).run Try.prog u = .ok (str S1) u ∧ (convert 26 9 (.slice A3 S2.length c3)).run Try.prog u = .ok (str S2) u ∧ u.cell? ⟨w.heap.size, 0, none⟩ = some (.int .u32 (A 0 : Int)) ∧ u.cell? ⟨w.heap.size, 1, none⟩ = some (.int .u32 (A 1 : Int)) ∧ u.cell? ⟨w.heap.size, 2, none⟩ = some (.int .u32 (A 2 : Int)) ∧ u.cell? ⟨w.heap.size, 3, none⟩ = some (.int .u32 (A 3 : Int)) ∧ u.cell? ⟨w.heap.size, 4, none⟩ = some (.int .u32 (A 4 : Int)) ∧ u.cell? ⟨w.heap.size, 5, none⟩ = some (.int .u32 (A 5 : Int)) ∧ u.cell? ⟨w.heap.size, 6, none⟩ = some (.int .u32 (A 6 : Int)) ∧ u.cell? ⟨w.heap.size, 7, none⟩ = some (.int .u32 (A 7 : Int)) ∧ u.cell? ⟨w.heap.size + 1 + 1, 0, none⟩ = some (.int .u32 (C 0 : Int)) ∧ u.cell? ⟨w.heap.size + 1 + 1, 1, none⟩ = some (.int .u32 (C 1 : Int)) ∧ u.cell? ⟨w.heap.size + 1 + 1, 2, none⟩ = some (.int .u32 (C 2 : Int)) ∧ u.cell? ⟨w.heap.size + 1 + 1, 3, none⟩ = some (.int .u32 (C 3 : Int)) ∧ u.cell? ⟨w.heap.size + 1 + 1, 4, none⟩ = some (.int .u32 (C 4 : Int)) ∧ u.cell? ⟨w.heap.size + 1 + 1, 5, none⟩ = some (.int .u32 (C 5 : Int)) ∧ u.cell? ⟨w.heap.size + 1 + 1, 6, none⟩ = some (.int .u32 (C 6 : Int)) ∧ u.cell? ⟨w.heap.size + 1 + 1, 7, none⟩ = some (.int .u32 (C 7 : Int)))
    (first | (with_reducible exact ⟨(Below.refl _ _).drew, K0.out _ (Below.refl _ _).drew, K1.out _ (Below.refl _ _).drew, K2.out _ (Below.refl _ _).drew, xA0d, xA1d, xA2d, xA3d, xA4d, xA5d, xA6d, xA7d, xC0d, xC1d, xC2d, xC3d, xC4d, xC5d, xC6d, xC7d⟩) | (with_reducible assumption) | (go_split_ands; with_reducible exact ⟨below_on (by assumption) hb5, K0.out _ (below_on (by assumption) hb5), K1.out _ (below_on (by assumption) hb5), K2.out _ (below_on (by assumption) hb5), cell_then hb5 (by assumption), cell_then hb5 (by assumption), cell_then hb5 (by assumption), cell_then hb5 (by assumption), cell_then hb5 (by assumption), cell_then hb5 (by assumption), cell_then hb5 (by assumption), cell_then hb5 (by assumption), cell_then hb5 (by assumption), cell_then hb5 (by assumption), cell_then hb5 (by assumption), cell_then hb5 (by assumption), cell_then hb5 (by assumption), cell_then hb5 (by assumption), cell_then hb5 (by assumption), cell_then hb5 (by assumption)⟩))
    (first | (go_at_call 10; with_reducible refine (Hs2.out _).mono ?_; rintro e w5 ⟨A5, c5, rfl, hl5, hm5, hr5, hb5⟩; have hcv5 := run_bytes_str (P := Try.prog) (c := c5) 26 9 _ Try.underlying26 Try.underlying5 Try.underlying9 hr5))
  go_wp2_with fail
  go_ret
  exact ⟨rfl, below_call hb04 (And.left (by assumption))⟩
end Go.Proofs.Ytpfhhkdmgkkidaa
