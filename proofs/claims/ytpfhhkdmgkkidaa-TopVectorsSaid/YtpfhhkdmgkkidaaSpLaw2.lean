/-
  The walk of SpanOrders.
-/
import Derived.Test.YtpfhhkdmgkkidaaSpLaw1
import Derived.Deep.RegionHeld3
import Derived.Deep.Cut
import Derived.Deep.DeepCutAuto
namespace Go.Proofs.Ytpfhhkdmgkkidaa
open Go.RowKit
set_option maxRecDepth 100000

theorem below_on {W u w2 : World} (h : Below W.heap.size W u) (h2 : Below u.heap.size u w2) : Below W.heap.size W w2 := h.trans (h2.mono h.size)
theorem cell_then {u w2 : World} {a : Addr} {v : Value} (h2 : Below u.heap.size u w2) (h : u.cell? a = some v) : w2.cell? a = some v := (h2.cell (World.block_lt_of_cell? u a h)).trans h
/-- The bytes of a vector, wherever they lie. -/
theorem shrink_at (V B : Nat → Nat) (hV : okV V) (hB : okV B) (w : World) :
    Calls Try.prog 10 #[.agg #[.int .u32 (V 0 : Int), .int .u32 (V 1 : Int), .int .u32 (V 2 : Int), .int .u32 (V 3 : Int), .int .u32 (V 4 : Int), .int .u32 (V 5 : Int), .int .u32 (V 6 : Int), .int .u32 (V 7 : Int)], .agg #[.int .u32 (B 0 : Int), .int .u32 (B 1 : Int), .int .u32 (B 2 : Int), .int .u32 (B 3 : Int), .int .u32 (B 4 : Int), .int .u32 (B 5 : Int), .int .u32 (B 6 : Int), .int .u32 (B 7 : Int)]] w fun e w' => ∃ A c, e = .returned (.slice A (spanB V B).length c) ∧ (spanB V B).length ≤ c ∧ c ≤ maxLen ∧ Rd w' (fun _ => True) A ((spanB V B).map u8) ∧ Below w.heap.size w w' :=
  (shrink_any V B hV hB w).mono fun e w' ⟨v, he, ho, hb⟩ => by
    obtain ⟨A, c, rfl, h1, h2, h3⟩ := ho.isB
    exact ⟨A, c, he, h1, h2, h3.weaken fun _ _ => trivial, hb⟩

set_option maxHeartbeats 2000000 in
theorem spanorders_walk (A B C : Nat → Nat) (w : World) (hA : okV A) (hB : okV B) (hC : okV C) :
    Calls Try.prog 5 #[vv A, vv B, vv C] w fun e w' => e = .returned (.bool true) ∧ Below w.heap.size w w' := by
  obtain ⟨h1, h2, h3, hbel⟩ := boxes3 A B C w
  have hs1 := fun w => shrink_at A C hA hC w
  have hs2 := fun w => shrink_at B C hB hC w
  have ho := fun A1 c1 A2 c2 w h1 h2 h3 h4 h5 h6 => sporder_any (fun _ => True) A1 c1 (spanB A C) A2 c2 (spanB B C) w h1 h2 h3 h4 h5 h6
  unfold OrdPost at ho
  have hos : ordS (spanB A C) (spanB B C) = (orderV A B, 0) := by
    unfold ordS
    rw [if_neg (by rw [(read_span hA hC).1]; simp), if_neg (by rw [(read_span hB hC).1]; simp), order_span hA hB hC]
  rw [hos] at ho
  have hro := fun w => reforder_any A B w
  unfold vv av at hro
  generalize spanB A C = S1 at hs1 ho
  generalize spanB B C = S2 at hs2 ho
  generalize orderV A B = O at ho hro
  obtain ⟨W, hW⟩ : ∃ W, W = (((w.alloc (.cells (av A) 24)).alloc (.cells (av B) 24)).alloc (.cells (av C) 24)) := ⟨_, rfl⟩
  rw [← hW] at h1 h2 h3 hbel
  have HW := Lib.hid hW
  have H1 := Lib.hid h1
  have H2 := Lib.hid h2
  have H3 := Lib.hid h3
  have Hs1 := Lib.hid hs1
  have Hs2 := Lib.hid hs2
  have Ho := Lib.hid ho
  have Hro := Lib.hid hro
  clear hW h1 h2 h3 hs1 hs2 ho hro hos
  unfold vv
  go_enter Try.func5, Try.ntmps5
  go_wp2_with fail
  rw [← HW.out]
  refine (lives_any _).mono ?_
  rintro e w1 ⟨rfl, hb1⟩
  have hb01 := below_call hbel hb1
  have HA1 := Lib.hid (H1.out.grow hb1)
  have HB1 := Lib.hid (H2.out.grow hb1)
  have HC1 := Lib.hid (H3.out.grow hb1)
  have xA0 := (HA1.out.cell 0)
  have xA1 := (HA1.out.cell 1)
  have xA2 := (HA1.out.cell 2)
  have xA3 := (HA1.out.cell 3)
  have xA4 := (HA1.out.cell 4)
  have xA5 := (HA1.out.cell 5)
  have xA6 := (HA1.out.cell 6)
  have xA7 := (HA1.out.cell 7)
  have xB0 := (HB1.out.cell 0)
  have xB1 := (HB1.out.cell 1)
  have xB2 := (HB1.out.cell 2)
  have xB3 := (HB1.out.cell 3)
  have xB4 := (HB1.out.cell 4)
  have xB5 := (HB1.out.cell 5)
  have xB6 := (HB1.out.cell 6)
  have xB7 := (HB1.out.cell 7)
  have xC0 := (HC1.out.cell 0)
  have xC1 := (HC1.out.cell 1)
  have xC2 := (HC1.out.cell 2)
  have xC3 := (HC1.out.cell 3)
  have xC4 := (HC1.out.cell 4)
  have xC5 := (HC1.out.cell 5)
  have xC6 := (HC1.out.cell 6)
  have xC7 := (HC1.out.cell 7)
  simp only [List.getElem?_toArray, List.getElem?_cons_zero, List.getElem?_cons_succ, av] at xA0 xA1 xA2 xA3 xA4 xA5 xA6 xA7 xB0 xB1 xB2 xB3 xB4 xB5 xB6 xB7 xC0 xC1 xC2 xC3 xC4 xC5 xC6 xC7
  have xA0d : w1.drew.cell? ⟨w.heap.size, 0, none⟩ = some (.int .u32 (A 0 : Int)) := xA0
  have xA1d : w1.drew.cell? ⟨w.heap.size, 1, none⟩ = some (.int .u32 (A 1 : Int)) := xA1
  have xA2d : w1.drew.cell? ⟨w.heap.size, 2, none⟩ = some (.int .u32 (A 2 : Int)) := xA2
  have xA3d : w1.drew.cell? ⟨w.heap.size, 3, none⟩ = some (.int .u32 (A 3 : Int)) := xA3
  have xA4d : w1.drew.cell? ⟨w.heap.size, 4, none⟩ = some (.int .u32 (A 4 : Int)) := xA4
  have xA5d : w1.drew.cell? ⟨w.heap.size, 5, none⟩ = some (.int .u32 (A 5 : Int)) := xA5
  have xA6d : w1.drew.cell? ⟨w.heap.size, 6, none⟩ = some (.int .u32 (A 6 : Int)) := xA6
  have xA7d : w1.drew.cell? ⟨w.heap.size, 7, none⟩ = some (.int .u32 (A 7 : Int)) := xA7
  have xB0d : w1.drew.cell? ⟨w.heap.size + 1, 0, none⟩ = some (.int .u32 (B 0 : Int)) := xB0
  have xB1d : w1.drew.cell? ⟨w.heap.size + 1, 1, none⟩ = some (.int .u32 (B 1 : Int)) := xB1
  have xB2d : w1.drew.cell? ⟨w.heap.size + 1, 2, none⟩ = some (.int .u32 (B 2 : Int)) := xB2
  have xB3d : w1.drew.cell? ⟨w.heap.size + 1, 3, none⟩ = some (.int .u32 (B 3 : Int)) := xB3
  have xB4d : w1.drew.cell? ⟨w.heap.size + 1, 4, none⟩ = some (.int .u32 (B 4 : Int)) := xB4
  have xB5d : w1.drew.cell? ⟨w.heap.size + 1, 5, none⟩ = some (.int .u32 (B 5 : Int)) := xB5
  have xB6d : w1.drew.cell? ⟨w.heap.size + 1, 6, none⟩ = some (.int .u32 (B 6 : Int)) := xB6
  have xB7d : w1.drew.cell? ⟨w.heap.size + 1, 7, none⟩ = some (.int .u32 (B 7 : Int)) := xB7
  have xC0d : w1.drew.cell? ⟨w.heap.size + 1 + 1, 0, none⟩ = some (.int .u32 (C 0 : Int)) := xC0
  have xC1d : w1.drew.cell? ⟨w.heap.size + 1 + 1, 1, none⟩ = some (.int .u32 (C 1 : Int)) := xC1
  have xC2d : w1.drew.cell? ⟨w.heap.size + 1 + 1, 2, none⟩ = some (.int .u32 (C 2 : Int)) := xC2
  have xC3d : w1.drew.cell? ⟨w.heap.size + 1 + 1, 3, none⟩ = some (.int .u32 (C 3 : Int)) := xC3
  have xC4d : w1.drew.cell? ⟨w.heap.size + 1 + 1, 4, none⟩ = some (.int .u32 (C 4 : Int)) := xC4
  have xC5d : w1.drew.cell? ⟨w.heap.size + 1 + 1, 5, none⟩ = some (.int .u32 (C 5 : Int)) := xC5
  have xC6d : w1.drew.cell? ⟨w.heap.size + 1 + 1, 6, none⟩ = some (.int .u32 (C 6 : Int)) := xC6
  have xC7d : w1.drew.cell? ⟨w.heap.size + 1 + 1, 7, none⟩ = some (.int .u32 (C 7 : Int)) := xC7
  clear hb1 hbel
  go_wp2_with fail
  go_region_held3 (fun u => Below w1.heap.size w1 u ∧ u.cell? ⟨w.heap.size, 0, none⟩ = some (.int .u32 (A 0 : Int)) ∧ u.cell? ⟨w.heap.size, 1, none⟩ = some (.int .u32 (A 1 : Int)) ∧ u.cell? ⟨w.heap.size, 2, none⟩ = some (.int .u32 (A 2 : Int)) ∧ u.cell? ⟨w.heap.size, 3, none⟩ = some (.int .u32 (A 3 : Int)) ∧ u.cell? ⟨w.heap.size, 4, none⟩ = some (.int .u32 (A 4 : Int)) ∧ u.cell? ⟨w.heap.size, 5, none⟩ = some (.int .u32 (A 5 : Int)) ∧ u.cell? ⟨w.heap.size, 6, none⟩ = some (.int .u32 (A 6 : Int)) ∧ u.cell? ⟨w.heap.size, 7, none⟩ = some (.int .u32 (A 7 : Int)) ∧ u.cell? ⟨w.heap.size + 1, 0, none⟩ = some (.int .u32 (B 0 : Int)) ∧ u.cell? ⟨w.heap.size + 1, 1, none⟩ = some (.int .u32 (B 1 : Int)) ∧ u.cell? ⟨w.heap.size + 1, 2, none⟩ = some (.int .u32 (B 2 : Int)) ∧ u.cell? ⟨w.heap.size + 1, 3, none⟩ = some (.int .u32 (B 3 : Int)) ∧ u.cell? ⟨w.heap.size + 1, 4, none⟩ = some (.int .u32 (B 4 : Int)) ∧ u.cell? ⟨w.heap.size + 1, 5, none⟩ = some (.int .u32 (B 5 : Int)) ∧ u.cell? ⟨w.heap.size + 1, 6, none⟩ = some (.int .u32 (B 6 : Int)) ∧ u.cell? ⟨w.heap.size + 1, 7, none⟩ = some (.int .u32 (B 7 : Int)) ∧ u.cell? ⟨w.heap.size + 1 + 1, 0, none⟩ = some (.int .u32 (C 0 : Int)) ∧ u.cell? ⟨w.heap.size + 1 + 1, 1, none⟩ = some (.int .u32 (C 1 : Int)) ∧ u.cell? ⟨w.heap.size + 1 + 1, 2, none⟩ = some (.int .u32 (C 2 : Int)) ∧ u.cell? ⟨w.heap.size + 1 + 1, 3, none⟩ = some (.int .u32 (C 3 : Int)) ∧ u.cell? ⟨w.heap.size + 1 + 1, 4, none⟩ = some (.int .u32 (C 4 : Int)) ∧ u.cell? ⟨w.heap.size + 1 + 1, 5, none⟩ = some (.int .u32 (C 5 : Int)) ∧ u.cell? ⟨w.heap.size + 1 + 1, 6, none⟩ = some (.int .u32 (C 6 : Int)) ∧ u.cell? ⟨w.heap.size + 1 + 1, 7, none⟩ = some (.int .u32 (C 7 : Int)))
    (first | (with_reducible exact ⟨(Below.refl _ _).drew, xA0d, xA1d, xA2d, xA3d, xA4d, xA5d, xA6d, xA7d, xB0d, xB1d, xB2d, xB3d, xB4d, xB5d, xB6d, xB7d, xC0d, xC1d, xC2d, xC3d, xC4d, xC5d, xC6d, xC7d⟩) | (with_reducible assumption) | (go_split_ands; with_reducible exact ⟨below_on (by assumption) hb5, cell_then hb5 (by assumption), cell_then hb5 (by assumption), cell_then hb5 (by assumption), cell_then hb5 (by assumption), cell_then hb5 (by assumption), cell_then hb5 (by assumption), cell_then hb5 (by assumption), cell_then hb5 (by assumption), cell_then hb5 (by assumption), cell_then hb5 (by assumption), cell_then hb5 (by assumption), cell_then hb5 (by assumption), cell_then hb5 (by assumption), cell_then hb5 (by assumption), cell_then hb5 (by assumption), cell_then hb5 (by assumption), cell_then hb5 (by assumption), cell_then hb5 (by assumption), cell_then hb5 (by assumption), cell_then hb5 (by assumption), cell_then hb5 (by assumption), cell_then hb5 (by assumption), cell_then hb5 (by assumption), cell_then hb5 (by assumption)⟩) | (go_split_ands; with_reducible exact ⟨below_on (by assumption) hb4, cell_then hb4 (by assumption), cell_then hb4 (by assumption), cell_then hb4 (by assumption), cell_then hb4 (by assumption), cell_then hb4 (by assumption), cell_then hb4 (by assumption), cell_then hb4 (by assumption), cell_then hb4 (by assumption), cell_then hb4 (by assumption), cell_then hb4 (by assumption), cell_then hb4 (by assumption), cell_then hb4 (by assumption), cell_then hb4 (by assumption), cell_then hb4 (by assumption), cell_then hb4 (by assumption), cell_then hb4 (by assumption), cell_then hb4 (by assumption), cell_then hb4 (by assumption), cell_then hb4 (by assumption), cell_then hb4 (by assumption), cell_then hb4 (by assumption), cell_then hb4 (by assumption), cell_then hb4 (by assumption), cell_then hb4 (by assumption)⟩) | (go_split_ands; with_reducible exact ⟨below_on (by assumption) hb3, cell_then hb3 (by assumption), cell_then hb3 (by assumption), cell_then hb3 (by assumption), cell_then hb3 (by assumption), cell_then hb3 (by assumption), cell_then hb3 (by assumption), cell_then hb3 (by assumption), cell_then hb3 (by assumption), cell_then hb3 (by assumption), cell_then hb3 (by assumption), cell_then hb3 (by assumption), cell_then hb3 (by assumption), cell_then hb3 (by assumption), cell_then hb3 (by assumption), cell_then hb3 (by assumption), cell_then hb3 (by assumption), cell_then hb3 (by assumption), cell_then hb3 (by assumption), cell_then hb3 (by assumption), cell_then hb3 (by assumption), cell_then hb3 (by assumption), cell_then hb3 (by assumption), cell_then hb3 (by assumption), cell_then hb3 (by assumption)⟩))
    (first | (go_at_call 10; (first | (with_reducible refine (Hs1.out _).mono ?_; rintro e w3 ⟨A3, c3, rfl, hl3, hm3, hr3, hb3⟩) | (with_reducible refine (Hs2.out _).mono ?_; rintro e w4 ⟨A4, c4, rfl, hl4, hm4, hr4, hb4⟩))) | (go_at_call 15; refine (Ho.out A3 c3 A4 c4 _ hl3 hm3 (by first | exact hr3 | exact hr3.grow (by assumption)) hl4 hm4 (by first | exact hr4 | exact hr4.grow (by assumption))).mono ?_; rintro e w5 ⟨rfl, hb5⟩))
  go_wp2_with (go_at_call 16; (with_reducible refine (Hro.out _).mono ?_); rintro e w7 ⟨rfl, hb7⟩)
  go_ret
  exact ⟨rfl, below_call (below_call hb01 (And.left (by assumption))) hb7⟩
end Go.Proofs.Ytpfhhkdmgkkidaa
