/-
  span.Order: how two vectors stand, by their bytes.
-/
import Derived.Test.YtpfhhkdmgkkidaaSpGrow
namespace Go.Proofs.Ytpfhhkdmgkkidaa
open Go.RowKit
set_option maxRecDepth 100000

/-- What Order answers. -/
def ordS (a b : List UInt8) : Int × Nat := if (readD a).2 ≠ 0 then (0, (readD a).2) else if (readD b).2 ≠ 0 then (0, (readD b).2) else (orderD (readD a).1 (readD b).1, 0)
def OrdPost (a b : List UInt8) (w : World) (e : Ending) (w' : World) : Prop :=
  e = .returned (.tuple #[.int .i64 (ordS a b).1, .int .i64 ((ordS a b).2 : Int)]) ∧ Below w.heap.size w w'
theorem OrdPost.of {a b : List UInt8} {w w' : World} {o : Int} {e : Nat} (h : ordS a b = (o, e)) (hb : Below w.heap.size w w') : OrdPost a b w (.returned (.tuple #[.int .i64 o, .int .i64 (e : Int)])) w' := by
  refine ⟨?_, hb⟩
  rw [h]
/-- The first ones of where D is greater than E. -/
theorem over_step {D E : Nat → Int} {k : Nat} (hk : k < 8) : (av (cutV (overV D E) k)).setIfInBounds k (.int .u32 ((overV D E k : Nat) : Int)) = av (cutV (overV D E) (k + 1)) := cutV_step _ hk
theorem over_skip {D E : Nat → Int} {k : Nat} (h : ¬ E k < D k) : av (cutV (overV D E) (k + 1)) = av (cutV (overV D E) k) := av_congr fun i _ => by
  unfold cutV
  by_cases e : i = k
  · subst e
    rw [if_pos (by omega), if_neg (by omega)]
    unfold overV
    rw [if_neg h]
  · by_cases h : i < k
    · rw [if_pos h, if_pos (by omega)]
    · rw [if_neg h, if_neg (by omega)]
theorem over_one {D E : Nat → Int} {k : Nat} (h : E k < D k) : overV D E k = 1 := if_pos h

set_option maxHeartbeats 400000 in
theorem sporder_any (ok : Nat → Prop) (A1 : Option Addr) (c1 : Nat) (a : List UInt8) (A2 : Option Addr) (c2 : Nat) (b : List UInt8) (w : World) (hl1 : a.length ≤ c1) (hm1 : c1 ≤ maxLen) (hr1 : Rd w ok A1 (a.map u8)) (hl2 : b.length ≤ c2) (hm2 : c2 ≤ maxLen) (hr2 : Rd w ok A2 (b.map u8)) :
    Calls Try.prog 15 #[.slice A1 a.length c1, .slice A2 b.length c2] w (OrdPost a b w) := by
  have hov : ordS a b = if (readD a).2 ≠ 0 then (0, (readD a).2) else if (readD b).2 ≠ 0 then (0, (readD b).2) else (orderD (readD a).1 (readD b).1, 0) := rfl
  have hrd1 := spread_any ok A1 c1 a w hl1 hm1 hr1
  have hrd2 := fun w1 (hb : Below w.heap.size w w1) => spread_any ok A2 c2 b w1 hl2 hm2 (hr2.grow hb)
  unfold RDPost at hrd1 hrd2
  generalize readD a = R1 at hov hrd1
  generalize readD b = R2 at hov hrd2
  obtain ⟨D, q1⟩ := R1
  obtain ⟨E, q2⟩ := R2
  simp only [] at hov hrd1 hrd2
  have Hrd1 := Lib.hid hrd1
  have Hrd2 := Lib.hid hrd2
  clear hrd1 hrd2 hr1 hr2
  by_cases hq1 : q1 = 0
  · subst hq1
    rw [if_neg (by simp)] at hov
    by_cases hq2 : q2 = 0
    · subst hq2
      rw [if_neg (by simp)] at hov
      have Hov := Lib.hid hov
      clear hov
      go_enter Try.func15, Try.ntmps15
      go_wp2_with fail
      refine Hrd1.out.mono ?_
      rintro e w1 ⟨rfl, hb1⟩
      have hD0 : Blk (w1.alloc (.cells (ai zeroD) 47)) w1.heap.size 47 (ai zeroD) := Blk.new w1 _ _
      obtain ⟨Z, hZ⟩ : ∃ Z, Z = ((w1.alloc (.cells (ai zeroD) 47)).setRow w1.heap.size (ai D)) := ⟨_, rfl⟩
      have hZ1 : Blk Z w1.heap.size 47 (ai D) := by rw [hZ]; exact hD0.setRow_ (ai D)
      have hbZ : Below w.heap.size w Z := by rw [hZ]; exact below_setRow (hb1.alloc hb1.size _) hb1.size _
      have HD0 := Lib.hid hD0
      have HZ := Lib.hid hZ
      rw [show (ai zeroD) = #[.int .i64 0, .int .i64 0, .int .i64 0, .int .i64 0, .int .i64 0, .int .i64 0, .int .i64 0, .int .i64 0] from rfl] at HZ
      clear hZ hD0
      go_wp2_with (refine wpList_store_row rfl 47 (.tmp 6) (.tmp 15) rfl w1.heap.size (ai D) rfl rfl 47 (ai zeroD) (by exact HD0.out) diff_info rfl (ai_one _) ?_; rw [← HZ.out])
      refine (Hrd2.out Z hbZ).mono ?_
      rintro e w2 ⟨rfl, hb2⟩
      have hs1 := hb1.size
      have hsZ := hZ1.lt
      have hs2 := hb2.size
      have hE0 : Blk (w2.alloc (.cells (ai zeroD) 47)) w2.heap.size 47 (ai zeroD) := Blk.new w2 _ _
      obtain ⟨Y, hY⟩ : ∃ Y, Y = ((w2.alloc (.cells (ai zeroD) 47)).setRow w2.heap.size (ai E)) := ⟨_, rfl⟩
      have hY1 : Blk Y w1.heap.size 47 (ai D) := by rw [hY]; exact Blk.setRowFar ((hZ1.grow hb2).alloc _) (by omega) _
      have hY2 : Blk Y w2.heap.size 47 (ai E) := by rw [hY]; exact hE0.setRow_ (ai E)
      have hYs : Y.heap.size = w2.heap.size + 1 := by rw [hY, setRow_size]; simp
      have hbY : Below w.heap.size w Y := by rw [hY]; exact below_setRow ((below_call hbZ hb2).alloc (by omega) _) (by omega) _
      have HE0 := Lib.hid hE0
      have HY := Lib.hid hY
      rw [show (ai zeroD) = #[.int .i64 0, .int .i64 0, .int .i64 0, .int .i64 0, .int .i64 0, .int .i64 0, .int .i64 0, .int .i64 0] from rfl] at HY
      have HYs := Lib.hid hYs
      clear hY hE0 hYs
      go_wp2_with (refine wpList_store_row rfl 47 (.tmp 8) (.tmp 23) rfl w2.heap.size (ai E) rfl rfl 47 (ai zeroD) (by exact HE0.out) diff_info rfl (ai_one _) ?_; rw [← HY.out])
      obtain ⟨X, hX⟩ : ∃ X, X = ((Y.alloc (.cells (av zeroV) 24)).alloc (.cells (av zeroV) 24)) := ⟨_, rfl⟩
      obtain ⟨h1, h2, h3⟩ := boxes2 zeroV zeroV Y
      rw [← hX] at h1 h2 h3
      have hX1 := hY1.grow h3
      have hX2 := hY2.grow h3
      have hbX := below_call hbY h3
      have hyl := hY2.lt
      have hyw := hbY.size
      have HX := Lib.hid hX
      rw [zero_av] at HX
      rw [← HX.out]
      rw [← cutV_zero (overV D E)] at h1
      rw [← cutV_zero (overV E D)] at h2
      clear hX h3 hY1 hY2 hbY hb2 hbZ hb1 hZ1
      go_loopw [28] (fun i wr => ∃ k : Nat, k ≤ 8 ∧ i = .int .i64 (k : Int) ∧ Blk wr w1.heap.size 47 (ai D) ∧ Blk wr w2.heap.size 47 (ai E) ∧ Blk wr Y.heap.size 24 (av (cutV (overV D E) k)) ∧ Blk wr (Y.heap.size + 1) 24 (av (cutV (overV E D) k)) ∧ Below w.heap.size w wr) (fun i _ => 8 - (intOf i).toNat)
      case atStart => exact ⟨0, by omega, rfl, hX1, hX2, h1, h2, hbX⟩
      case round =>
        obtain ⟨k, hk, rfl, hbD, hbE, hbL, hbR, hbw⟩ := hrel
        clear hX1 hX2 h1 h2 hbX
        have HbD := Lib.hid hbD
        have HbE := Lib.hid hbE
        have HbL := Lib.hid hbL
        have HbR := Lib.hid hbR
        by_cases hlt : k < 8
        · have hcD := hbD.cell k
          rw [ai_get D hlt] at hcD
          have hcE := hbE.cell k
          rw [ai_get E hlt] at hcE
          have hcL := hbL.cell k
          rw [av_get _ hlt] at hcL
          have hcR := hbR.cell k
          rw [av_get _ hlt] at hcR
          have hfL := hbL.frozen k
          have hfR := hbR.frozen k
          clear hbD hbE hbL hbR
          by_cases h1 : E k < D k
          · have hd1 : decide (E k < D k) = true := by rw [decide_eq_true_iff]; exact h1
            have hset := HbL.out.set_ k (.int .u32 ((overV D E k : Nat) : Int))
            rw [cutV_step _ hlt, over_one h1] at hset
            have hfar := HbR.out.far (p := ⟨Y.heap.size, k, none⟩) (by show Y.heap.size + 1 ≠ Y.heap.size; omega) (.int .u32 ((1 : Nat) : Int))
            rw [← over_skip (D := E) (E := D) (k := k) (by omega)] at hfar
            have Hset := Lib.hid hset
            have Hfar := Lib.hid hfar
            clear hset hfar h1
            go_wp2_with fail
            go_quiet (fail)
            go_wp2_with fail
            go_roundw
            case rel => exact ⟨k + 1, by omega, by go_num, HbD.out.far (by show w1.heap.size ≠ Y.heap.size; omega) _, HbE.out.far (by show w2.heap.size ≠ Y.heap.size; omega) _, Hset.out, Hfar.out, (below_drewN hbw _).setCell (by show w.heap.size ≤ Y.heap.size; omega) _⟩
            case measure => simp [intOf]; omega
          · have hd1 : decide (E k < D k) = false := by rw [decide_eq_false_iff_not]; exact h1
            by_cases h2 : D k < E k
            · have hd2 : decide (D k < E k) = true := by rw [decide_eq_true_iff]; exact h2
              have hset := HbR.out.set_ k (.int .u32 ((overV E D k : Nat) : Int))
              rw [cutV_step _ hlt, over_one h2] at hset
              have hfar := HbL.out.far (p := ⟨Y.heap.size + 1, k, none⟩) (by show Y.heap.size ≠ Y.heap.size + 1; omega) (.int .u32 ((1 : Nat) : Int))
              rw [← over_skip (D := D) (E := E) (k := k) h1] at hfar
              have Hset := Lib.hid hset
              have Hfar := Lib.hid hfar
              clear hset hfar h1 h2
              go_wp2_with fail
              go_quiet (fail)
              go_wp2_with fail
              go_quiet (fail)
              go_wp2_with fail
              go_roundw
              case rel => exact ⟨k + 1, by omega, by go_num, HbD.out.far (by show w1.heap.size ≠ Y.heap.size + 1; omega) _, HbE.out.far (by show w2.heap.size ≠ Y.heap.size + 1; omega) _, Hfar.out, Hset.out, (below_drewN hbw _).setCell (by show w.heap.size ≤ Y.heap.size + 1; omega) _⟩
              case measure => simp [intOf]; omega
            · have hd2 : decide (D k < E k) = false := by rw [decide_eq_false_iff_not]; exact h2
              have hsL := HbL.out
              have hsR := HbR.out
              rw [← over_skip (D := D) (E := E) (k := k) h1] at hsL
              rw [← over_skip (D := E) (E := D) (k := k) h2] at hsR
              have HsL := Lib.hid hsL
              have HsR := Lib.hid hsR
              clear hsL hsR h1 h2
              go_wp2_with fail
              go_quiet (fail)
              go_wp2_with fail
              go_quiet (fail)
              go_wp2_with fail
              go_roundw
              case rel => exact ⟨k + 1, by omega, by go_num, HbD.out, HbE.out, HsL.out, HsR.out, below_drewN hbw _⟩
              case measure => simp [intOf]; omega
        · obtain rfl : k = 8 := by omega
          have hL := HbL.out
          have hR := HbR.out
          rw [cutV_full] at hL hR
          have HL := Lib.hid hL
          have HR := Lib.hid hR
          have ho := fun w' => order_any (overV D E) (overV E D) w'
          unfold vv at ho
          rw [show orderV (overV D E) (overV E D) = orderD D E from rfl] at ho
          have Ho := Lib.hid ho
          clear hL hR hbD hbE hbL hbR ho
          go_wp2_with (first | (refine wpList_load_row rfl 24 (.tmp 9) rfl Y.heap.size rfl 24 (av (overV D E)) (0, 0) _ (by exact HL.out) Try.underlying24 rfl vec_info ?_) | (refine wpList_load_row rfl 24 (.tmp 10) rfl (Y.heap.size + 1) rfl 24 (av (overV E D)) (0, 0) _ (by exact HR.out) Try.underlying24 rfl vec_info ?_) | (go_at_call 22; refine (Ho.out _).mono ?_; rintro e w3 ⟨rfl, hb3⟩))
          go_ret2
          exact OrdPost.of Hov.out (below_call hbw hb3)
    · rw [if_pos hq2] at hov
      have Hov := Lib.hid hov
      have hq' : ((q2 : Int) != 0) = true := by rw [bne_iff_ne]; omega
      clear hov hq2
      go_enter Try.func15, Try.ntmps15
      go_wp2_with fail
      refine Hrd1.out.mono ?_
      rintro e w1 ⟨rfl, hb1⟩
      have hD0 : Blk (w1.alloc (.cells (ai zeroD) 47)) w1.heap.size 47 (ai zeroD) := Blk.new w1 _ _
      obtain ⟨Z, hZ⟩ : ∃ Z, Z = ((w1.alloc (.cells (ai zeroD) 47)).setRow w1.heap.size (ai D)) := ⟨_, rfl⟩
      have hZ1 : Blk Z w1.heap.size 47 (ai D) := by rw [hZ]; exact hD0.setRow_ (ai D)
      have hbZ : Below w.heap.size w Z := by rw [hZ]; exact below_setRow (hb1.alloc hb1.size _) hb1.size _
      have HD0 := Lib.hid hD0
      have HZ := Lib.hid hZ
      rw [show (ai zeroD) = #[.int .i64 0, .int .i64 0, .int .i64 0, .int .i64 0, .int .i64 0, .int .i64 0, .int .i64 0, .int .i64 0] from rfl] at HZ
      clear hZ hD0
      go_wp2_with (refine wpList_store_row rfl 47 (.tmp 6) (.tmp 15) rfl w1.heap.size (ai D) rfl rfl 47 (ai zeroD) (by exact HD0.out) diff_info rfl (ai_one _) ?_; rw [← HZ.out])
      refine (Hrd2.out Z hbZ).mono ?_
      rintro e w2 ⟨rfl, hb2⟩
      have hE0 : Blk (w2.alloc (.cells (ai zeroD) 47)) w2.heap.size 47 (ai zeroD) := Blk.new w2 _ _
      have hsw := (below_call hbZ hb2).size
      have hbY : Below w.heap.size w ((w2.alloc (.cells (ai zeroD) 47)).setRow w2.heap.size (ai E)) := below_setRow ((below_call hbZ hb2).alloc hsw _) hsw _
      have HE0 := Lib.hid hE0
      clear hE0
      go_wp2_with (refine wpList_store_row rfl 47 (.tmp 8) (.tmp 23) rfl w2.heap.size (ai E) rfl rfl 47 (ai zeroD) (by exact HE0.out) diff_info rfl (ai_one _) ?_)
      go_ret2
      exact OrdPost.of Hov.out hbY
  · rw [if_pos hq1] at hov
    have Hov := Lib.hid hov
    have hq' : ((q1 : Int) != 0) = true := by rw [bne_iff_ne]; omega
    clear hov hq1
    go_enter Try.func15, Try.ntmps15
    go_wp2_with fail
    refine Hrd1.out.mono ?_
    rintro e w1 ⟨rfl, hb1⟩
    have hD0 : Blk (w1.alloc (.cells (ai zeroD) 47)) w1.heap.size 47 (ai zeroD) := Blk.new w1 _ _
    have hbZ : Below w.heap.size w ((w1.alloc (.cells (ai zeroD) 47)).setRow w1.heap.size (ai D)) := below_setRow (hb1.alloc hb1.size _) hb1.size _
    have HD0 := Lib.hid hD0
    clear hD0
    go_wp2_with (refine wpList_store_row rfl 47 (.tmp 6) (.tmp 15) rfl w1.heap.size (ai D) rfl rfl 47 (ai zeroD) (by exact HD0.out) diff_info rfl (ai_one _) ?_)
    go_ret2
    exact OrdPost.of Hov.out hbZ
end Go.Proofs.Ytpfhhkdmgkkidaa
