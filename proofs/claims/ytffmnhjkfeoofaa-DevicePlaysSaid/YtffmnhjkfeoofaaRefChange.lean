/-
  wardshipref03: change.
-/
import Derived.Test.YtffmnhjkfeoofaaRefCut
namespace Go.Proofs.Ytffmnhjkfeoofaa
open Go.RowKit
set_option maxRecDepth 100000

set_option maxHeartbeats 2000000 in
theorem refchange_any (ok : Nat → Prop) (v : Value) (D : Dev) (w : World) (hv : IsDev w ok v D) (hwf : D.Wf) (hn : D.sure.length ≤ 1099511627776) (hl : D.loose.length ≤ 1099511627776) (hcn : D.changes ≤ 1099511627776) (hlt : D.left ≤ 9223372036854775807) :
    Calls Try.prog 63 #[v] w fun e w' => ∃ v', e = .returned (.tuple #[v', .int .i64 D.change.2]) ∧ IsDev w' (fun k => ok k ∨ w.heap.size ≤ k) v' D.change.1 ∧ Below w.heap.size w w' := by
  obtain ⟨A1, c1, A2, c2, A3, c3, rfl, h1, h2, h3⟩ := hv
  have H1 := Lib.hid h1
  have H2 := Lib.hid h2
  have H3 := Lib.hid h3
  have Hwf := Lib.hid hwf
  clear h1 h2 h3 hwf
  rcases Int.lt_trichotomy D.left 0 with h0 | h0 | h0
  · have hch : D.change = ({ D with changes := D.changes + 1 }, 0) := by unfold Dev.change; rw [if_neg (by omega), if_neg (by omega)]
    have Hch := Lib.hid hch
    have hb1 : (D.left == 0) = false := by rw [beq_eq_false_iff_ne]; omega
    have hb2 : ¬ 0 < D.left := by omega
    clear hch
    go_enter Try.func63, Try.ntmps63
    go_wp2
    have hb0 : Below w.heap.size w ((w.alloc (.cells #[.slice A1 D.sure.length c1, .slice A2 D.loose.length c2, .int .i64 D.left, .slice A3 D.choice.kept.length c3, .int .i64 D.choice.torn, .int .i64 D.choice.half, .int .i64 ((D.changes : Int) + 1), .bool D.off] 36)).alloc (.cells #[.slice A1 D.sure.length c1, .slice A2 D.loose.length c2, .int .i64 D.left, .slice A3 D.choice.kept.length c3, .int .i64 D.choice.torn, .int .i64 D.choice.half, .int .i64 ((D.changes : Int) + 1), .bool D.off] 36)) := (((Below.refl _ _).alloc (Nat.le_refl _) _).alloc (by simp) _)
    refine bodyPost_ret (v := .tuple #[.agg #[.slice A1 D.sure.length c1, .slice A2 D.loose.length c2, .int .i64 D.left, .slice A3 D.choice.kept.length c3, .int .i64 D.choice.torn, .int .i64 D.choice.half, .int .i64 ((D.changes : Int) + 1), .bool D.off], .int .i64 0]) (by simp [results, Try.results63, go_sem]) rfl ?_
    refine ⟨_, by rw [Hch.out], ?_, hb0⟩
    rw [Hch.out]
    exact ⟨A1, c1, A2, c2, A3, c3, by go_num, (H1.out.grow hb0).weaken fun _ h => .inl h, (H2.out.grow hb0).weaken fun _ h => .inl h, (H3.out.grow hb0).weaken fun _ h => .inl h⟩
  · have hch : D.change = (({ D with changes := D.changes + 1 } : Dev).cut D.choice, 6) := by unfold Dev.change; rw [if_pos h0]
    have Hch := Lib.hid hch
    have hb1 : (D.left == 0) = true := by rw [h0]; rfl
    have G1 := Lib.hid (H1.out.move (w' := w) (ok' := fun k => ok k ∧ k < w.heap.size) (fun k h hl => ⟨⟨h, hl⟩, rfl⟩))
    have G2 := Lib.hid (H2.out.move (w' := w) (ok' := fun k => ok k ∧ k < w.heap.size) (fun k h hl => ⟨⟨h, hl⟩, rfl⟩))
    have G3 := Lib.hid (H3.out.move (w' := w) (ok' := fun k => ok k ∧ k < w.heap.size) (fun k h hl => ⟨⟨h, hl⟩, rfl⟩))
    have hbA : Below w.heap.size w ((w.alloc (.cells #[.slice A1 D.sure.length c1, .slice A2 D.loose.length c2, .int .i64 D.left, .slice A3 D.choice.kept.length c3, .int .i64 D.choice.torn, .int .i64 D.choice.half, .int .i64 ((D.changes : Int) + 1), .bool D.off] 36)).alloc (.cells #[.slice none 0 0, .slice none 0 0, .int .i64 0, .slice none 0 0, .int .i64 0, .int .i64 0, .int .i64 0, .bool false] 36)) := (((Below.refl _ _).alloc (Nat.le_refl _) _).alloc (by simp) _)
    have hBr : Blk ((w.alloc (.cells #[.slice A1 D.sure.length c1, .slice A2 D.loose.length c2, .int .i64 D.left, .slice A3 D.choice.kept.length c3, .int .i64 D.choice.torn, .int .i64 D.choice.half, .int .i64 ((D.changes : Int) + 1), .bool D.off] 36)).alloc (.cells #[.slice none 0 0, .slice none 0 0, .int .i64 0, .slice none 0 0, .int .i64 0, .int .i64 0, .int .i64 0, .bool false] 36)) (w.heap.size + 1) 36 #[.slice none 0 0, .slice none 0 0, .int .i64 0, .slice none 0 0, .int .i64 0, .int .i64 0, .int .i64 0, .bool false] := by
      have := Blk.new (w.alloc (.cells #[.slice A1 D.sure.length c1, .slice A2 D.loose.length c2, .int .i64 D.left, .slice A3 D.choice.kept.length c3, .int .i64 D.choice.torn, .int .i64 D.choice.half, .int .i64 ((D.changes : Int) + 1), .bool D.off] 36)) 36 #[.slice none 0 0, .slice none 0 0, .int .i64 0, .slice none 0 0, .int .i64 0, .int .i64 0, .int .i64 0, .bool false]
      simpa using this
    obtain ⟨W, hW⟩ : ∃ W, W = ((w.alloc (.cells #[.slice A1 D.sure.length c1, .slice A2 D.loose.length c2, .int .i64 D.left, .slice A3 D.choice.kept.length c3, .int .i64 D.choice.torn, .int .i64 D.choice.half, .int .i64 ((D.changes : Int) + 1), .bool D.off] 36)).alloc (.cells #[.slice none 0 0, .slice none 0 0, .int .i64 0, .slice none 0 0, .int .i64 0, .int .i64 0, .int .i64 0, .bool false] 36)) := ⟨_, rfl⟩
    rw [← hW] at hbA hBr
    have hsW := hBr.lt
    have HW := Lib.hid hW
    have HbA := Lib.hid hbA
    have HBr := Lib.hid hBr
    have hwf1 : ({ D with changes := D.changes + 1 } : Dev).Wf := ⟨Hwf.out.sure, Hwf.out.loose, Hwf.out.left⟩
    have Hwf1 := Lib.hid hwf1
    clear hch hW hbA hBr h0 hwf1
    go_enter Try.func63, Try.ntmps63
    go_wp2_with fail
    rw [← HW.out]
    refine (refcut_any (fun k => ok k ∧ k < w.heap.size) _ ({ D with changes := D.changes + 1 } : Dev) _ D.choice W ⟨A1, c1, A2, c2, A3, c3, by go_num, G1.out.grow HbA.out, G2.out.grow HbA.out, G3.out.grow HbA.out⟩ ⟨_, rfl, G3.out.grow HbA.out⟩ Hwf1.out hn hl).mono ?_
    rintro e w5 ⟨v5, rfl, hdev5, hb5⟩
    obtain ⟨E, hE⟩ : ∃ E : Dev, E = ({ D with changes := D.changes + 1 } : Dev).cut D.choice := ⟨_, rfl⟩
    rw [← hE] at hdev5
    obtain ⟨a1, d1, a2, d2, a3, d3, rfl, k1, k2, k3⟩ := hdev5
    have HE := Lib.hid hE
    have HBr5 := Lib.hid (HBr.out.grow hb5)
    have K1 := Lib.hid k1
    have K2 := Lib.hid k2
    have K3 := Lib.hid k3
    have Hb5 := Lib.hid hb5
    clear hb5 k1 k2 k3 hE
    go_wp2_with (with_reducible refine wpList_store_fr (op := ⟨none, .store 36 (.tmp 2) (.tmp 14), _, _, _, _⟩) rfl _ _ _ rfl (w.heap.size + 1) 36 [.slice none 0 0, .slice none 0 0, .int .i64 0, .slice none 0 0, .int .i64 0, .int .i64 0, .int .i64 0, .bool false] [.slice a1 E.sure.length d1, .slice a2 E.loose.length d2, .int .i64 E.left, .slice a3 E.choice.kept.length d3, .int .i64 E.choice.torn, .int .i64 E.choice.half, .int .i64 (E.changes : Int), .bool E.off] rfl rfl HBr5.out rfl (by kernel_rfl) (by simp [Value.oneCell']) ?_; intro w9 hblk9 hfr9)
    have z0 := hblk9.cell 0
    have z1 := hblk9.cell 1
    have z2 := hblk9.cell 2
    have z3 := hblk9.cell 3
    have z4 := hblk9.cell 4
    have z5 := hblk9.cell 5
    have z6 := hblk9.cell 6
    have z7 := hblk9.cell 7
    simp at z0 z1 z2 z3 z4 z5 z6 z7
    have hb05 := below_call HbA.out Hb5.out
    have hb9 : Below w.heap.size w w9 := hb05.trans (hfr9.below (fun q (hq : q = w.heap.size + 1) => by omega) hb05.size)
    refine bodyPost_ret (v := .tuple #[.agg #[.slice a1 E.sure.length d1, .slice a2 E.loose.length d2, .int .i64 E.left, .slice a3 E.choice.kept.length d3, .int .i64 E.choice.torn, .int .i64 E.choice.half, .int .i64 (E.changes : Int), .bool E.off], .int .i64 6]) (by simp [results, Try.results63, go_sem, z0, z1, z2, z3, z4, z5, z6, z7]) rfl ?_
    have hsw0 : w.heap.size + 1 < W.heap.size := hsW
    refine ⟨_, by rw [Hch.out], ?_, hb9⟩
    rw [Hch.out, ← HE.out]
    have hkeep : ∀ q, ((ok q ∧ q < w.heap.size) ∨ W.heap.size ≤ q) → q < w5.heap.size → (ok q ∨ w.heap.size ≤ q) ∧ w9.heap[q]? = w5.heap[q]? := fun q hq hlt => ⟨by rcases hq with h | h; exact .inl h.1; exact .inr (by omega), (hfr9.block q hlt (fun (e : q = w.heap.size + 1) => by rcases hq with h | h <;> omega)).2⟩
    exact ⟨a1, d1, a2, d2, a3, d3, rfl, K1.out.move hkeep, K2.out.move hkeep, K3.out.move hkeep⟩
  · have hch : D.change = ({ D with changes := D.changes + 1, left := D.left - 1 }, 0) := by unfold Dev.change; rw [if_neg (by omega), if_pos h0]
    have Hch := Lib.hid hch
    have hb1 : (D.left == 0) = false := by rw [beq_eq_false_iff_ne]; omega
    clear hch
    go_enter Try.func63, Try.ntmps63
    go_wp2
    have hb0 : Below w.heap.size w ((w.alloc (.cells #[.slice A1 D.sure.length c1, .slice A2 D.loose.length c2, .int .i64 (D.left - 1), .slice A3 D.choice.kept.length c3, .int .i64 D.choice.torn, .int .i64 D.choice.half, .int .i64 ((D.changes : Int) + 1), .bool D.off] 36)).alloc (.cells #[.slice A1 D.sure.length c1, .slice A2 D.loose.length c2, .int .i64 (D.left - 1), .slice A3 D.choice.kept.length c3, .int .i64 D.choice.torn, .int .i64 D.choice.half, .int .i64 ((D.changes : Int) + 1), .bool D.off] 36)) := (((Below.refl _ _).alloc (Nat.le_refl _) _).alloc (by simp) _)
    refine bodyPost_ret (v := .tuple #[.agg #[.slice A1 D.sure.length c1, .slice A2 D.loose.length c2, .int .i64 (D.left - 1), .slice A3 D.choice.kept.length c3, .int .i64 D.choice.torn, .int .i64 D.choice.half, .int .i64 ((D.changes : Int) + 1), .bool D.off], .int .i64 0]) (by simp [results, Try.results63, go_sem]) rfl ?_
    refine ⟨_, by rw [Hch.out], ?_, hb0⟩
    rw [Hch.out]
    exact ⟨A1, c1, A2, c2, A3, c3, by go_num, (H1.out.grow hb0).weaken fun _ h => .inl h, (H2.out.grow hb0).weaken fun _ h => .inl h, (H3.out.grow hb0).weaken fun _ h => .inl h⟩
end Go.Proofs.Ytffmnhjkfeoofaa
