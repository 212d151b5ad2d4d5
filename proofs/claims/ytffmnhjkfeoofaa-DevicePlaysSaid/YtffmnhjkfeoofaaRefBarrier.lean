/-
  wardshipref03: Barrier.
-/
import Derived.Test.YtffmnhjkfeoofaaRefPut
namespace Go.Proofs.Ytffmnhjkfeoofaa
open Go.RowKit
set_option maxRecDepth 100000

/-- The sectors of which the first k are as they were written last. -/
def partS (D : Dev) (k : Nat) : List (List UInt8) := (applyW D.sure D.loose).take k ++ D.sure.drop k
theorem partS_length (D : Dev) (k : Nat) (h : k ≤ D.sure.length) : (partS D k).length = D.sure.length := by
  unfold partS
  rw [List.length_append, List.length_take, List.length_drop, applyW_length]
  omega
theorem partS_zero (D : Dev) : partS D 0 = D.sure := rfl
theorem partS_all (D : Dev) : partS D D.sure.length = applyW D.sure D.loose := by
  unfold partS
  rw [List.take_of_length_le (by rw [applyW_length]; exact Nat.le_refl _), List.drop_length, List.append_nil]
theorem partS_now (D : Dev) (k : Nat) (h : k < D.sure.length) : ({ D with sure := partS D k } : Dev).now k = (applyW D.sure D.loose).getD k [] := by
  rw [applyW_at _ _ _ h]
  unfold Dev.now partS
  show lastW k (List.getD _ k []) D.loose = _
  congr 1
  rw [List.getD_eq_getElem?_getD, List.getElem?_append_right (by rw [List.length_take, applyW_length]; omega), List.getElem?_drop, List.length_take, applyW_length, List.getD_eq_getElem?_getD]
  congr 2
  omega
theorem partS_set (D : Dev) (k : Nat) (h : k < D.sure.length) : (partS D k).set k ((applyW D.sure D.loose).getD k []) = partS D (k + 1) := by
  have hl : k < (applyW D.sure D.loose).length := by rw [applyW_length]; exact h
  unfold partS
  rw [List.set_append_right _ _ (by rw [List.length_take, applyW_length]; omega), List.length_take, applyW_length, Nat.min_eq_left (by omega), Nat.sub_self,
    List.drop_eq_getElem_cons h, List.set_cons_zero, List.take_succ_eq_append_getElem hl, List.append_assoc]
  congr 2
  rw [List.getD_eq_getElem?_getD, List.getElem?_eq_getElem hl]
  rfl

set_option maxHeartbeats 4000000 in
theorem refbarrier_any (ok : Nat → Prop) (v : Value) (D : Dev) (w : World) (hv : IsDev w ok v D) (hwf : D.Wf) (hn : D.sure.length ≤ 1099511627776) (hl : D.loose.length ≤ 1099511627776) (hcn : D.changes ≤ 1099511627776) (hlt : D.left ≤ 9223372036854775807) :
    Calls Try.prog 40 #[v] w fun e w' => ∃ v', e = .returned (.tuple #[v', .int .i64 D.barrier.2]) ∧ IsDev w' (fun k => ok k ∨ w.heap.size ≤ k) v' D.barrier.1 ∧ Below w.heap.size w w' := by
  obtain ⟨A1, c1, A2, c2, A3, c3, rfl, h1, h2, h3⟩ := hv
  have G1 := Lib.hid (h1.move (w' := w) (ok' := fun k => ok k ∧ k < w.heap.size) (fun k h hl => ⟨⟨h, hl⟩, rfl⟩))
  have G2 := Lib.hid (h2.move (w' := w) (ok' := fun k => ok k ∧ k < w.heap.size) (fun k h hl => ⟨⟨h, hl⟩, rfl⟩))
  have G3 := Lib.hid (h3.move (w' := w) (ok' := fun k => ok k ∧ k < w.heap.size) (fun k h hl => ⟨⟨h, hl⟩, rfl⟩))
  have Hwf := Lib.hid hwf
  cases hoff : D.off with
  | true =>
    have hbar : D.barrier = (D, 6) := by unfold Dev.barrier; rw [if_pos hoff]
    have Hbar := Lib.hid hbar
    clear hbar
    go_enter Try.func40, Try.ntmps40
    go_wp2
    have hb0 : Below w.heap.size w ((w.alloc (.cells #[.slice A1 D.sure.length c1, .slice A2 D.loose.length c2, .int .i64 D.left, .slice A3 D.choice.kept.length c3, .int .i64 D.choice.torn, .int .i64 D.choice.half, .int .i64 (D.changes : Int), .bool true] 36)).alloc (.cells #[.slice A1 D.sure.length c1, .slice A2 D.loose.length c2, .int .i64 D.left, .slice A3 D.choice.kept.length c3, .int .i64 D.choice.torn, .int .i64 D.choice.half, .int .i64 (D.changes : Int), .bool true] 36)) := (((Below.refl _ _).alloc (Nat.le_refl _) _).alloc (by simp) _)
    refine bodyPost_ret (v := .tuple #[.agg #[.slice A1 D.sure.length c1, .slice A2 D.loose.length c2, .int .i64 D.left, .slice A3 D.choice.kept.length c3, .int .i64 D.choice.torn, .int .i64 D.choice.half, .int .i64 (D.changes : Int), .bool true], .int .i64 6]) (by simp [results, Try.results40, go_sem]) rfl ?_
    refine ⟨_, by rw [Hbar.out], ?_, hb0⟩
    rw [Hbar.out]
    exact ⟨A1, c1, A2, c2, A3, c3, by rw [hoff], (G1.out.grow hb0).weaken fun _ h => .inl h.1, (G2.out.grow hb0).weaken fun _ h => .inl h.1, (G3.out.grow hb0).weaken fun _ h => .inl h.1⟩
  | false =>
    have hbA : Below w.heap.size w ((w.alloc (.cells #[.slice A1 D.sure.length c1, .slice A2 D.loose.length c2, .int .i64 D.left, .slice A3 D.choice.kept.length c3, .int .i64 D.choice.torn, .int .i64 D.choice.half, .int .i64 (D.changes : Int), .bool false] 36)).alloc (.cells #[.slice none 0 0, .slice none 0 0, .int .i64 0, .slice none 0 0, .int .i64 0, .int .i64 0, .int .i64 0, .bool false] 36)) := (((Below.refl _ _).alloc (Nat.le_refl _) _).alloc (by simp) _)
    have hB0 : Blk ((w.alloc (.cells #[.slice A1 D.sure.length c1, .slice A2 D.loose.length c2, .int .i64 D.left, .slice A3 D.choice.kept.length c3, .int .i64 D.choice.torn, .int .i64 D.choice.half, .int .i64 (D.changes : Int), .bool false] 36)).alloc (.cells #[.slice none 0 0, .slice none 0 0, .int .i64 0, .slice none 0 0, .int .i64 0, .int .i64 0, .int .i64 0, .bool false] 36)) w.heap.size 36 #[.slice A1 D.sure.length c1, .slice A2 D.loose.length c2, .int .i64 D.left, .slice A3 D.choice.kept.length c3, .int .i64 D.choice.torn, .int .i64 D.choice.half, .int .i64 (D.changes : Int), .bool false] := (Blk.new w _ _).alloc _
    have hBr : Blk ((w.alloc (.cells #[.slice A1 D.sure.length c1, .slice A2 D.loose.length c2, .int .i64 D.left, .slice A3 D.choice.kept.length c3, .int .i64 D.choice.torn, .int .i64 D.choice.half, .int .i64 (D.changes : Int), .bool false] 36)).alloc (.cells #[.slice none 0 0, .slice none 0 0, .int .i64 0, .slice none 0 0, .int .i64 0, .int .i64 0, .int .i64 0, .bool false] 36)) (w.heap.size + 1) 36 #[.slice none 0 0, .slice none 0 0, .int .i64 0, .slice none 0 0, .int .i64 0, .int .i64 0, .int .i64 0, .bool false] := by
      have := Blk.new (w.alloc (.cells #[.slice A1 D.sure.length c1, .slice A2 D.loose.length c2, .int .i64 D.left, .slice A3 D.choice.kept.length c3, .int .i64 D.choice.torn, .int .i64 D.choice.half, .int .i64 (D.changes : Int), .bool false] 36)) 36 #[.slice none 0 0, .slice none 0 0, .int .i64 0, .slice none 0 0, .int .i64 0, .int .i64 0, .int .i64 0, .bool false]
      simpa using this
    obtain ⟨W, hW⟩ : ∃ W, W = (w.alloc (.cells #[.slice A1 D.sure.length c1, .slice A2 D.loose.length c2, .int .i64 D.left, .slice A3 D.choice.kept.length c3, .int .i64 D.choice.torn, .int .i64 D.choice.half, .int .i64 (D.changes : Int), .bool false] 36)).alloc (.cells #[.slice none 0 0, .slice none 0 0, .int .i64 0, .slice none 0 0, .int .i64 0, .int .i64 0, .int .i64 0, .bool false] 36) := ⟨_, rfl⟩
    have hWs : W.heap.size = w.heap.size + 2 := by rw [hW]; simp
    rw [← hW] at hbA hBr hB0
    have HW := Lib.hid hW
    have HbA := Lib.hid hbA
    have HBr := Lib.hid hBr
    have HWs := Lib.hid hWs
    obtain ⟨R, hR⟩ : ∃ R : Dev × Int, R = D.change := ⟨_, rfl⟩
    have HR := Lib.hid hR
    clear h1 h2 h3 hwf hW hbA hBr hB0 hWs hR
    go_enter Try.func40, Try.ntmps40
    go_wp2_with fail
    rw [← HW.out]
    refine (refchange_any (fun k => ok k ∧ k < w.heap.size) _ D W ⟨A1, c1, A2, c2, A3, c3, by rw [hoff], G1.out.grow HbA.out, G2.out.grow HbA.out, G3.out.grow HbA.out⟩ Hwf.out hn hl hcn hlt).mono ?_
    rintro e w5 ⟨v5, rfl, hdev5, hb5⟩
    rw [← HR.out] at hdev5 ⊢
    obtain ⟨a1, d1, a2, d2, a3, d3, rfl, k1, k2, k3⟩ := hdev5
    have hr5 := HBr.out.grow hb5
    have hb05 := below_call HbA.out hb5
    have hbW5 : W.heap.size ≤ w5.heap.size := hb5.size
    have hws5 : w.heap.size + 2 ≤ w5.heap.size := by have := HWs.out; omega
    have hwc : w5.heap.size < (w5.alloc (.cells #[.slice a1 R.1.sure.length d1, .slice a2 R.1.loose.length d2, .int .i64 R.1.left, .slice a3 R.1.choice.kept.length d3, .int .i64 R.1.choice.torn, .int .i64 R.1.choice.half, .int .i64 (R.1.changes : Int), .bool R.1.off] 36)).heap.size := by simp
    have hbC : Below w5.heap.size w5 (w5.alloc (.cells #[.slice a1 R.1.sure.length d1, .slice a2 R.1.loose.length d2, .int .i64 R.1.left, .slice a3 R.1.choice.kept.length d3, .int .i64 R.1.choice.torn, .int .i64 R.1.choice.half, .int .i64 (R.1.changes : Int), .bool R.1.off] 36)) := (Below.refl _ _).alloc (Nat.le_refl _) _
    have hBc : Blk (w5.alloc (.cells #[.slice a1 R.1.sure.length d1, .slice a2 R.1.loose.length d2, .int .i64 R.1.left, .slice a3 R.1.choice.kept.length d3, .int .i64 R.1.choice.torn, .int .i64 R.1.choice.half, .int .i64 (R.1.changes : Int), .bool R.1.off] 36)) w5.heap.size 36 #[.slice a1 R.1.sure.length d1, .slice a2 R.1.loose.length d2, .int .i64 R.1.left, .slice a3 R.1.choice.kept.length d3, .int .i64 R.1.choice.torn, .int .i64 R.1.choice.half, .int .i64 (R.1.changes : Int), .bool R.1.off] := Blk.new _ _ _
    have hr6 := hr5.grow hbC
    have hb06 := below_call hb05 hbC
    have hPk : ∀ q, ((ok q ∧ q < w.heap.size) ∨ W.heap.size ≤ q) → q < w5.heap.size → (fun q => (ok q ∧ q < w.heap.size) ∨ (w.heap.size + 2 ≤ q ∧ q ≠ w5.heap.size)) q ∧ (w5.alloc (.cells #[.slice a1 R.1.sure.length d1, .slice a2 R.1.loose.length d2, .int .i64 R.1.left, .slice a3 R.1.choice.kept.length d3, .int .i64 R.1.choice.torn, .int .i64 R.1.choice.half, .int .i64 (R.1.changes : Int), .bool R.1.off] 36)).heap[q]? = w5.heap[q]? := fun q hq hlt => ⟨by rcases hq with h | h; exact .inl h; exact .inr ⟨by rw [← HWs.out]; exact h, by omega⟩, hbC.block q hlt⟩
    have K1 := Lib.hid (k1.move hPk)
    have K2 := Lib.hid (k2.move hPk)
    have K3 := Lib.hid (k3.move hPk)
    have HR6 := Lib.hid hr6
    have HBc := Lib.hid hBc
    have Hb06 := Lib.hid hb06
    clear k1 k2 k3 hPk hr5 hb05 hb06 hr6 hBc hbC hb5
    by_cases he : R.2 = 0
    · have hbar : D.barrier = ({ R.1 with sure := applyW R.1.sure R.1.loose, loose := [] }, 0) := by
        unfold Dev.barrier
        rw [if_neg (by rw [hoff]; decide), ← HR.out, if_neg (by rw [he]; decide)]
      have Hbar := Lib.hid hbar
      have hRs : R.1.sure.length = D.sure.length := by rw [HR.out]; exact change_length D
      have hRn : R.1.sure.length ≤ 1099511627776 := by omega
      have hRwf : R.1.Wf := by rw [HR.out]; exact change_wf Hwf.out
      have HRwf := Lib.hid hRwf
      rw [he]
      clear hbar he hRs hRwf
      go_wp2_with fail
      go_loopw [6] (fun i wr => ∃ (k : Nat) (As : Option Addr) (cs : Nat), k ≤ R.1.sure.length ∧ i = .int .i64 (k : Int) ∧ Blk wr w5.heap.size 36 #[.slice As R.1.sure.length cs, .slice a2 R.1.loose.length d2, .int .i64 R.1.left, .slice a3 R.1.choice.kept.length d3, .int .i64 R.1.choice.torn, .int .i64 R.1.choice.half, .int .i64 (R.1.changes : Int), .bool R.1.off] ∧ Blk wr (w.heap.size + 1) 36 #[.slice none 0 0, .slice none 0 0, .int .i64 0, .slice none 0 0, .int .i64 0, .int .i64 0, .int .i64 0, .bool false] ∧ IsL kStr wr (fun q => (ok q ∧ q < w.heap.size) ∨ (w.heap.size + 2 ≤ q ∧ q ≠ w5.heap.size)) (.slice As R.1.sure.length cs) (partS R.1 k) ∧ IsL kWrite wr (fun q => (ok q ∧ q < w.heap.size) ∨ (w.heap.size + 2 ≤ q ∧ q ≠ w5.heap.size)) (.slice a2 R.1.loose.length d2) R.1.loose ∧ IsL (kInt .i64) wr (fun q => (ok q ∧ q < w.heap.size) ∨ (w.heap.size + 2 ≤ q ∧ q ≠ w5.heap.size)) (.slice a3 R.1.choice.kept.length d3) R.1.choice.kept ∧ Below w.heap.size w wr) (fun i _ => R.1.sure.length - (intOf i).toNat)
      case atStart => exact ⟨0, a1, d1, Nat.zero_le _, rfl, HBc.out, HR6.out, K1.out, K2.out, K3.out, Hb06.out⟩
      case round =>
        obtain ⟨k, As, cs, hk, rfl, hblk, hres, hsl, hlo, hke, hbw⟩ := hrel
        clear HBc HR6 K1 K2 K3 Hb06
        have x0 := hblk.cell 0
        have x1 := hblk.cell 1
        have x2 := hblk.cell 2
        have x3 := hblk.cell 3
        have x4 := hblk.cell 4
        have x5 := hblk.cell 5
        have x6 := hblk.cell 6
        have x7 := hblk.cell 7
        have xf0 := hblk.frozen 0
        have xf1 := hblk.frozen 1
        simp at x0 x1 x2 x3 x4 x5 x6 x7
        have hbl := hblk.lt
        have Hblk := Lib.hid hblk
        have Hres := Lib.hid hres
        have Hsl := Lib.hid hsl
        have Hlo := Lib.hid hlo
        have Hke := Lib.hid hke
        have Hbw := Lib.hid hbw
        clear hblk hres hsl hlo hke hbw
        by_cases hlt : k < R.1.sure.length
        · have hnow := partS_now R.1 k hlt
          have hset := partS_set R.1 k hlt
          have hpl := partS_length R.1 k (by omega)
          obtain ⟨x, hx⟩ : ∃ x, x = (applyW R.1.sure R.1.loose).getD k [] := ⟨_, rfl⟩
          rw [← hx] at hnow hset
          have hxl : x.length = 256 := by
            rw [hx, applyW_at _ _ _ hlt]
            refine lastW_wf _ _ _ ?_ (fun y hy => (HRwf.out.loose y hy).2)
            rw [List.getD_eq_getElem?_getD, List.getElem?_eq_getElem hlt]
            exact HRwf.out.sure _ (List.getElem_mem hlt)
          have Hnow := Lib.hid hnow
          have Hset := Lib.hid hset
          have Hpl := Lib.hid hpl
          clear hnow hset hpl hx
          have hnowc := fun (u : World) (hu : Below wr.heap.size wr u) => now_any (fun q => (ok q ∧ q < w.heap.size) ∨ (w.heap.size + 2 ≤ q ∧ q ≠ w5.heap.size)) (.agg #[.slice As R.1.sure.length cs, .slice a2 R.1.loose.length d2, .int .i64 R.1.left, .slice a3 R.1.choice.kept.length d3, .int .i64 R.1.choice.torn, .int .i64 R.1.choice.half, .int .i64 (R.1.changes : Int), .bool R.1.off]) ({ R.1 with sure := partS R.1 k } : Dev) k u ⟨As, cs, a2, d2, a3, d3, by rw [show ({ R.1 with sure := partS R.1 k } : Dev).sure.length = R.1.sure.length from Hpl.out], by rw [show ({ R.1 with sure := partS R.1 k } : Dev).sure.length = R.1.sure.length from Hpl.out]; exact Hsl.out.grow hu, Hlo.out.grow hu, Hke.out.grow hu⟩ (by rw [show ({ R.1 with sure := partS R.1 k } : Dev).sure.length = R.1.sure.length from Hpl.out]; exact hlt)
          have hwith := fun (u : World) (hu : Below wr.heap.size wr u) => with_any (fun q => (ok q ∧ q < w.heap.size) ∨ (w.heap.size + 2 ≤ q ∧ q ≠ w5.heap.size)) (.slice As R.1.sure.length cs) (partS R.1 k) k x u (Hsl.out.grow hu) (by rw [Hpl.out]; exact hlt) (by rw [Hpl.out]; exact hRn) (by rw [hxl]; unfold maxLen; omega)
          have Hnowc := Lib.hid hnowc
          have Hwith := Lib.hid hwith
          clear hnowc hwith
          go_wp2_with fail
          go_region_with (first | (go_at_call 20; refine (Hnowc.out wr.drew ((Below.refl _ _).drew)).mono ?_; rintro e w6 ⟨rfl, hb6⟩; rw [Hnow.out]; have y0 := cell_then hb6 (show wr.drew.cell? _ = _ from x0); have y1 := cell_then hb6 (show wr.drew.cell? _ = _ from x1); have y2 := cell_then hb6 (show wr.drew.cell? _ = _ from x2); have y3 := cell_then hb6 (show wr.drew.cell? _ = _ from x3); have y4 := cell_then hb6 (show wr.drew.cell? _ = _ from x4); have y5 := cell_then hb6 (show wr.drew.cell? _ = _ from x5); have y6 := cell_then hb6 (show wr.drew.cell? _ = _ from x6); have y7 := cell_then hb6 (show wr.drew.cell? _ = _ from x7); have Hb6 := Lib.hid (below_drew_then hb6); clear hb6) | (go_at_call 64; refine (Hwith.out _ Hb6.out).mono ?_; rintro e w7 ⟨v7, rfl, how7, hb7⟩; obtain ⟨A7, n7, _, hv7, _, _, _, _⟩ := how7.isL; rw [List.length_set, Hpl.out] at hv7; subst hv7; have q0 := cell_then hb7 y0; have hblk7 := (Hblk.out.grow Hb6.out).grow hb7; have qf := hblk7.frozen 0; have H7 := Lib.hid how7; have Hb7 := Lib.hid hb7; have Hblk7 := Lib.hid hblk7; clear how7 hb7 hblk7))
          all_goals
            go_wp2
            go_roundw
            case rel =>
              have hs67 : wr.heap.size ≤ w6.heap.size := Hb6.out.size
              have hst : ∀ q, q ≠ w5.heap.size → (w7.setCell ⟨w5.heap.size, 0, none⟩ (.slice A7 R.1.sure.length n7)).heap[q]? = w7.heap[q]? := fun q hq => Below.heap_setCell _ _ _ _ hq
              have hkeep : ∀ q, (fun q => (ok q ∧ q < w.heap.size) ∨ (w.heap.size + 2 ≤ q ∧ q ≠ w5.heap.size)) q → q < wr.heap.size → (fun q => (ok q ∧ q < w.heap.size) ∨ (w.heap.size + 2 ≤ q ∧ q ≠ w5.heap.size)) q ∧ (w7.setCell ⟨w5.heap.size, 0, none⟩ (.slice A7 R.1.sure.length n7)).heap[q]? = wr.heap[q]? := fun q hq hlt => ⟨hq, (hst q (by rcases hq with h | h; omega; exact h.2)).trans ((Hb7.out.block q (by omega)).trans (Hb6.out.block q hlt))⟩
              have hset := Hblk7.out.set_ 0 (.slice A7 R.1.sure.length n7)
              have how := H7.out
              rw [Hset.out] at how
              refine ⟨k + 1, A7, n7, by omega, by go_num, by simpa using hset, ((Hres.out.grow Hb6.out).grow Hb7.out).keep (hst _ (by omega)), how.isL.move (fun q hq _ => ⟨.inr ⟨by have := (how.lt q hq).1; omega, by have := (how.lt q hq).1; omega⟩, hst q (by have := (how.lt q hq).1; omega)⟩), Hlo.out.move hkeep, Hke.out.move hkeep, (below_call (below_call Hbw.out Hb6.out) Hb7.out).setCell (by show w.heap.size ≤ w5.heap.size; omega) _⟩
            case measure => simp [intOf]; omega
        · obtain rfl : k = R.1.sure.length := by omega
          have hall := partS_all R.1
          have Hall := Lib.hid hall
          clear hall
          obtain ⟨wa, rfl⟩ : ∃ x, x = wr := ⟨wr, rfl⟩
          have hst : ∀ q, q ≠ w5.heap.size → (wa.setCell ⟨w5.heap.size, 1, none⟩ (.slice none 0 0)).heap[q]? = wa.heap[q]? := fun q hq => Below.heap_setCell _ _ _ _ hq
          have hres8 := Hres.out.keep (hst (w.heap.size + 1) (by omega))
          have hb8 := Hbw.out.setCell (p := ⟨w5.heap.size, 1, none⟩) (by show w.heap.size ≤ w5.heap.size; omega) (.slice none 0 0)
          have Hst := Lib.hid hst
          have Hres8 := Lib.hid hres8
          have Hb8 := Lib.hid hb8
          clear hst hres8 hb8
          go_wp2_with (with_reducible refine wpList_store_fr (op := ⟨none, .store 36 (.tmp 2) (.tmp 35), _, _, _, _⟩) rfl _ _ _ rfl (w.heap.size + 1) 36 [.slice none 0 0, .slice none 0 0, .int .i64 0, .slice none 0 0, .int .i64 0, .int .i64 0, .int .i64 0, .bool false] [.slice As R.1.sure.length cs, .slice none 0 0, .int .i64 R.1.left, .slice a3 R.1.choice.kept.length d3, .int .i64 R.1.choice.torn, .int .i64 R.1.choice.half, .int .i64 (R.1.changes : Int), .bool R.1.off] rfl rfl Hres8.out rfl (by kernel_rfl) (by simp [Value.oneCell']) ?_; intro w9 hblk9 hfr9)
          have z0 := hblk9.cell 0
          have z1 := hblk9.cell 1
          have z2 := hblk9.cell 2
          have z3 := hblk9.cell 3
          have z4 := hblk9.cell 4
          have z5 := hblk9.cell 5
          have z6 := hblk9.cell 6
          have z7 := hblk9.cell 7
          simp at z0 z1 z2 z3 z4 z5 z6 z7
          have hb9 : Below w.heap.size w w9 := Hb8.out.trans (hfr9.below (fun q (hq : q = w.heap.size + 1) => by omega) Hb8.out.size)
          refine bodyPost_ret (v := .tuple #[.agg #[.slice As R.1.sure.length cs, .slice none 0 0, .int .i64 R.1.left, .slice a3 R.1.choice.kept.length d3, .int .i64 R.1.choice.torn, .int .i64 R.1.choice.half, .int .i64 (R.1.changes : Int), .bool R.1.off], .int .i64 0]) (by simp [results, Try.results40, go_sem, z0, z1, z2, z3, z4, z5, z6, z7]) rfl ?_
          refine ⟨_, by rw [Hbar.out], ?_, hb9⟩
          rw [Hbar.out]
          have hkeep : ∀ q, (fun q => (ok q ∧ q < w.heap.size) ∨ (w.heap.size + 2 ≤ q ∧ q ≠ w5.heap.size)) q → q < wa.heap.size → (ok q ∨ w.heap.size ≤ q) ∧ w9.heap[q]? = wa.heap[q]? := fun q hq hlt => ⟨by rcases hq with h | h; exact .inl h.1; exact .inr (by omega), ((hfr9.block q (by simpa [World.setCell] using hlt) (fun (e : q = w.heap.size + 1) => by rcases hq with h | h <;> omega)).2).trans (Hst.out q (by rcases hq with h | h; omega; exact h.2))⟩
          have hsl9 := Hsl.out.move hkeep
          rw [Hall.out] at hsl9
          have hal : (applyW R.1.sure R.1.loose).length = R.1.sure.length := applyW_length _ _
          exact ⟨As, cs, none, 0, a3, d3, by show _ = Value.agg #[.slice As (applyW R.1.sure R.1.loose).length cs, _, _, _, _, _, _, _]; rw [hal]; rfl, by show IsL kStr w9 _ (.slice As (applyW R.1.sure R.1.loose).length cs) (applyW R.1.sure R.1.loose); rw [hal]; exact hsl9, IsL.nil, Hke.out.move hkeep⟩
    · have hbar : D.barrier = R := by
        unfold Dev.barrier
        rw [if_neg (by rw [hoff]; decide), ← HR.out, if_pos he]
      have Hbar := Lib.hid hbar
      have he1 : (R.2 == 0) = false := by rw [beq_eq_false_iff_ne]; exact he
      clear hbar he
      go_wp2_with (with_reducible refine wpList_store_fr (op := ⟨none, .store 36 (.tmp 2) (.tmp 17), _, _, _, _⟩) rfl _ _ _ rfl (w.heap.size + 1) 36 [.slice none 0 0, .slice none 0 0, .int .i64 0, .slice none 0 0, .int .i64 0, .int .i64 0, .int .i64 0, .bool false] [.slice a1 R.1.sure.length d1, .slice a2 R.1.loose.length d2, .int .i64 R.1.left, .slice a3 R.1.choice.kept.length d3, .int .i64 R.1.choice.torn, .int .i64 R.1.choice.half, .int .i64 (R.1.changes : Int), .bool R.1.off] rfl rfl HR6.out rfl (by kernel_rfl) (by simp [Value.oneCell']) ?_; intro w9 hblk9 hfr9)
      have z0 := hblk9.cell 0
      have z1 := hblk9.cell 1
      have z2 := hblk9.cell 2
      have z3 := hblk9.cell 3
      have z4 := hblk9.cell 4
      have z5 := hblk9.cell 5
      have z6 := hblk9.cell 6
      have z7 := hblk9.cell 7
      simp at z0 z1 z2 z3 z4 z5 z6 z7
      have hb9 : Below w.heap.size w w9 := Hb06.out.trans (hfr9.below (fun q (hq : q = w.heap.size + 1) => by omega) Hb06.out.size)
      refine bodyPost_ret (v := .tuple #[.agg #[.slice a1 R.1.sure.length d1, .slice a2 R.1.loose.length d2, .int .i64 R.1.left, .slice a3 R.1.choice.kept.length d3, .int .i64 R.1.choice.torn, .int .i64 R.1.choice.half, .int .i64 (R.1.changes : Int), .bool R.1.off], .int .i64 R.2]) (by simp [results, Try.results40, go_sem, z0, z1, z2, z3, z4, z5, z6, z7]) rfl ?_
      refine ⟨_, by rw [Hbar.out], ?_, hb9⟩
      rw [Hbar.out]
      have hkeep : ∀ q, (fun q => (ok q ∧ q < w.heap.size) ∨ (w.heap.size + 2 ≤ q ∧ q ≠ w5.heap.size)) q → q < (w5.alloc (.cells #[.slice a1 R.1.sure.length d1, .slice a2 R.1.loose.length d2, .int .i64 R.1.left, .slice a3 R.1.choice.kept.length d3, .int .i64 R.1.choice.torn, .int .i64 R.1.choice.half, .int .i64 (R.1.changes : Int), .bool R.1.off] 36)).heap.size → (ok q ∨ w.heap.size ≤ q) ∧ w9.heap[q]? = (w5.alloc (.cells #[.slice a1 R.1.sure.length d1, .slice a2 R.1.loose.length d2, .int .i64 R.1.left, .slice a3 R.1.choice.kept.length d3, .int .i64 R.1.choice.torn, .int .i64 R.1.choice.half, .int .i64 (R.1.changes : Int), .bool R.1.off] 36)).heap[q]? := fun q hq hlt => ⟨by rcases hq with h | h; exact .inl h.1; exact .inr (by omega), (hfr9.block q hlt (fun (e : q = w.heap.size + 1) => by rcases hq with h | h <;> omega)).2⟩
      exact ⟨a1, d1, a2, d2, a3, d3, rfl, K1.out.move hkeep, K2.out.move hkeep, K3.out.move hkeep⟩
end Go.Proofs.Ytffmnhjkfeoofaa
