/-
  Vectors where the seat holds of layer 6 but Order and Leq: these two, the document's Order, boxes, results by a cell.
-/
import Derived.Test.YtpfhhkdmgkkidaaVecKit
import Derived.Laws.Rows
import Derived.Test.YtpfhhkdmgkkidaaGrow
import Derived.Test.YtpfhhkdmgkkidaaRegionInv
import Derived.BigRegion
namespace Go.Proofs.Ytpfhhkdmgkkidaa
open Go.RowKit
set_option maxRecDepth 100000

theorem leq_any (A B : Nat → Nat) (w : World) :
    Calls Try.prog 26 #[vv A, vv B] w fun e w' => e = .returned (.bool (leqV A B)) ∧ Below w.heap.size w w' := by
  obtain ⟨b, hb⟩ : ∃ b, b = leqV A B := ⟨_, rfl⟩
  rw [← hb]
  have Hb := Lib.hid hb
  clear hb
  have hA0 : Blk ((w.alloc (.cells (av A) 24)).alloc (.cells (av B) 24)) w.heap.size 24 (av A) := (Blk.new w _ _).alloc _
  have hB0 : Blk ((w.alloc (.cells (av A) 24)).alloc (.cells (av B) 24)) (w.heap.size + 1) 24 (av B) := by
    have := Blk.new (w.alloc (.cells (av A) 24)) 24 (av B)
    simpa using this
  have hbel : Below w.heap.size w ((w.alloc (.cells (av A) 24)).alloc (.cells (av B) 24)) := ((Below.refl _ _).alloc (Nat.le_refl _) _).alloc (by simp) _
  have HA := Lib.hid hA0
  have HB := Lib.hid hB0
  clear hA0 hB0
  unfold vv
  go_enter Try.func26, Try.ntmps26
  go_wp2_with (refine wpList_load_row rfl 24 _ rfl w.heap.size rfl 24 _ (0, 0) _ HA.out Try.underlying24 rfl vec_info ?_)
  go_loop [8] (fun i => ∃ k : Nat, k ≤ 8 ∧ i = .int .i64 (k : Int) ∧ ∀ j, j < k → A j ≤ B j) (fun i => 8 - (intOf i).toNat)
  case atStart => exact ⟨0, by omega, rfl, fun j hj => by omega⟩
  case round =>
    obtain ⟨k, hk, rfl, hall⟩ := hrel
    have Hall := Lib.hid hall
    clear hall
    by_cases hlt : k < 8
    · have hi := fun w => index_run A k hlt w
      unfold vv at hi
      have hc : ((w.alloc (.cells (av A) 24)).alloc (.cells (av B) 24)).cell? ⟨w.heap.size + 1, k, none⟩ = some (.int .u32 (B k : Int)) := by rw [HB.out.cell, av_get B hlt]
      by_cases hg : (B k : Int) < (A k : Int)
      · have hf : b = false := by
          rw [Hb.out, leqV_not]
          exact ⟨k, hlt, by omega⟩
        have Hf := Lib.hid hf
        clear hf
        go_wp2
        go_ret
        exact ⟨by rw [Hf.out]; rfl, hbel⟩
      · go_wp2
        go_round
        case rel => exact ⟨k + 1, by omega, by go_num, fun j hj => by
          by_cases e : j = k
          · subst e; omega
          · exact Hall.out j (by omega)⟩
        case measure => simp [intOf]; omega
    · obtain rfl : k = 8 := by omega
      have hf : b = true := by rw [Hb.out, leqV_iff]; exact Hall.out
      have Hf := Lib.hid hf
      clear hf
      go_wp2
      go_ret
      exact ⟨by rw [Hf.out]; rfl, hbel⟩

theorem order_any (A B : Nat → Nat) (w : World) :
    Calls Try.prog 22 #[vv A, vv B] w fun e w' => e = .returned (.int .i64 (orderV A B)) ∧ Below w.heap.size w w' := by
  obtain ⟨n, hn⟩ : ∃ n, n = orderV A B := ⟨_, rfl⟩
  rw [← hn]
  have hA0 : Blk ((w.alloc (.cells (av A) 24)).alloc (.cells (av B) 24)) w.heap.size 24 (av A) := (Blk.new w _ _).alloc _
  have hB0 : Blk ((w.alloc (.cells (av A) 24)).alloc (.cells (av B) 24)) (w.heap.size + 1) 24 (av B) := by
    have := Blk.new (w.alloc (.cells (av A) 24)) 24 (av B)
    simpa using this
  have hbel : Below w.heap.size w ((w.alloc (.cells (av A) 24)).alloc (.cells (av B) 24)) := ((Below.refl _ _).alloc (Nat.le_refl _) _).alloc (by simp) _
  have HA := Lib.hid hA0
  have HB := Lib.hid hB0
  have heq := eql_run A B
  clear hA0 hB0
  unfold orderV at hn
  have HL1 := Lib.hid (fun w => leq_any A B w)
  have HL2 := Lib.hid (fun w => leq_any B A w)
  unfold vv at heq ⊢
  generalize h0 : eqV A B = b0 at hn heq
  generalize h1 : leqV A B = b1 at hn HL1
  generalize h2 : leqV B A = b2 at hn HL2
  unfold vv at HL1 HL2
  clear h0 h1 h2
  have key : ∀ m : Int, (if b0 = true then (0 : Int) else if b1 = true then -1 else if b2 = true then 1 else 2) = m → n = m := fun m h => hn.trans h
  have Hn := Lib.hid key
  clear hn key
  cases b0 <;> cases b1 <;> cases b2
  all_goals go_enter Try.func22, Try.ntmps22
  all_goals go_wp2_with (first | (refine wpList_load_row rfl 24 (.tmp 2) rfl w.heap.size rfl 24 (av A) (0, 0) _ (by first | exact HA.out | exact HA.out.grow (by assumption)) Try.underlying24 rfl vec_info ?_) | (refine wpList_load_row rfl 24 (.tmp 3) rfl (w.heap.size + 1) rfl 24 (av B) (0, 0) _ (by first | exact HB.out | exact HB.out.grow (by assumption)) Try.underlying24 rfl vec_info ?_) | (go_at_call 26; (with_reducible refine (HL1.out _).mono ?_); rintro e w1 ⟨rfl, hb1⟩) | (go_at_call 26; (with_reducible refine (HL2.out _).mono ?_); rintro e w2 ⟨rfl, hb2⟩))
  all_goals go_ret
  all_goals refine ⟨?_, ?_⟩
  all_goals first | (exact hbel) | (exact below_call (below_call hbel hb1) hb2) | (exact below_call hbel hb1) | (exact below_call hbel hb2) | (rw [Hn.out 0 rfl]; rfl) | (rw [Hn.out (-1) rfl]; rfl) | (rw [Hn.out 1 rfl]; rfl) | (rw [Hn.out 2 rfl]; rfl)
/-- Is one of the first numbers less? -/
def anyLess (A B : Nat → Nat) : Nat → Bool
  | 0 => false
  | k + 1 => anyLess A B k || decide (A k < B k)
theorem anyLess_iff (A B : Nat → Nat) (k : Nat) : anyLess A B k = false ↔ ∀ i, i < k → B i ≤ A i := by
  induction k with
  | zero => exact ⟨fun _ i hi => by omega, fun _ => rfl⟩
  | succ k ih =>
    show (anyLess A B k || decide (A k < B k)) = false ↔ _
    rw [Bool.or_eq_false_iff, ih, decide_eq_false_iff_not]
    exact ⟨fun h i hi => by
      by_cases e : i = k
      · subst e; omega
      · exact h.1 i (by omega), fun h => ⟨fun i hi => h i (by omega), by have := h k (by omega); omega⟩⟩
theorem anyLess_leq (A B : Nat → Nat) : anyLess A B 8 = !leqV B A := by
  cases h : leqV B A
  · cases h2 : anyLess A B 8
    · rw [anyLess_iff, ← leqV_iff, h] at h2
      cases h2
    · rfl
  · exact (anyLess_iff A B 8).2 (leqV_iff.1 h)
theorem orderV_any (A B : Nat → Nat) : orderV A B = if (anyLess A B 8 && anyLess B A 8) = true then 2 else if anyLess A B 8 = true then -1 else if anyLess B A 8 = true then 1 else 0 := by
  rw [anyLess_leq, anyLess_leq]
  unfold orderV
  have he := eqV_leq A B
  cases h1 : leqV A B <;> cases h2 : leqV B A <;> rw [h1, h2] at he <;> simp at he <;> simp [he]

set_option maxHeartbeats 1000000 in
theorem reforder_any (A B : Nat → Nat) (w : World) :
    Calls Try.prog 16 #[vv A, vv B] w fun e w' => e = .returned (.int .i64 (orderV A B)) ∧ Below w.heap.size w w' := by
  obtain ⟨n, hn⟩ : ∃ n, n = orderV A B := ⟨_, rfl⟩
  rw [← hn]
  rw [orderV_any] at hn
  have key : ∀ m : Int, (if (anyLess A B 8 && anyLess B A 8) = true then (2 : Int) else if anyLess A B 8 = true then -1 else if anyLess B A 8 = true then 1 else 0) = m → n = m := fun m h => hn.trans h
  have Hn := Lib.hid key
  clear hn key
  have hA0 : Blk ((w.alloc (.cells (av A) 24)).alloc (.cells (av B) 24)) w.heap.size 24 (av A) := (Blk.new w _ _).alloc _
  have hB0 : Blk ((w.alloc (.cells (av A) 24)).alloc (.cells (av B) 24)) (w.heap.size + 1) 24 (av B) := by
    have := Blk.new (w.alloc (.cells (av A) 24)) 24 (av B)
    rw [World.size_alloc] at this
    exact this
  have hbel : Below w.heap.size w ((w.alloc (.cells (av A) 24)).alloc (.cells (av B) 24)) := ((Below.refl _ _).alloc (Nat.le_refl _) _).alloc (by simp) _
  unfold vv
  go_enter Try.func16, Try.ntmps16
  go_wp2_with fail
  go_loopw [5, 6, 7] (fun l m i wr => ∃ k : Nat, k ≤ 8 ∧ i = .int .i64 (k : Int) ∧ l = .bool (anyLess A B k) ∧ m = .bool (anyLess B A k) ∧ Blk wr w.heap.size 24 (av A) ∧ Blk wr (w.heap.size + 1) 24 (av B) ∧ Below w.heap.size w wr) (fun _ _ i _ => 8 - (intOf i).toNat)
  case atStart => exact ⟨0, by omega, rfl, rfl, rfl, hA0, hB0, hbel⟩
  case round =>
    obtain ⟨k, hk, rfl, rfl, rfl, hbA, hbB, hbw⟩ := hrel
    by_cases hlt : k < 8
    · have hcA : wr.cell? ⟨w.heap.size, k, none⟩ = some (.int .u32 (A k : Int)) := by rw [hbA.cell, av_get _ hlt]
      have hcB : wr.cell? ⟨w.heap.size + 1, k, none⟩ = some (.int .u32 (B k : Int)) := by rw [hbB.cell, av_get _ hlt]
      have hl : anyLess A B (k + 1) = (anyLess A B k || decide (A k < B k)) := rfl
      have hm : anyLess B A (k + 1) = (anyLess B A k || decide (B k < A k)) := rfl
      generalize anyLess A B k = bl at hl ⊢
      generalize anyLess B A k = bm at hm ⊢
      have Hl := Lib.hid hl
      have Hm := Lib.hid hm
      have HA := Lib.hid hbA
      have HB := Lib.hid hbB
      clear hl hm hbA hbB hA0 hB0 hbel Hn
      cases bl <;> cases bm
      all_goals go_wp2_with fail
      all_goals go_quiet (fail)
      all_goals go_wp2_with fail
      all_goals go_quiet (fail)
      all_goals go_wp2
      all_goals go_roundw
      all_goals first | (exact ⟨k + 1, by omega, by go_num, by rw [Hl.out]; rfl, by rw [Hm.out]; rfl, HA.out, HB.out, below_drewN hbw _⟩) | (simp [intOf]; omega)
    · obtain rfl : k = 8 := by omega
      have Hk := Hn.out
      generalize anyLess A B 8 = bl at Hk ⊢
      generalize anyLess B A 8 = bm at Hk ⊢
      have HK := Lib.hid Hk
      clear Hk Hn hbA hbB hA0 hB0 hbel
      cases bl <;> cases bm
      all_goals go_wp2
      all_goals go_ret
      all_goals refine ⟨?_, hbw⟩
      all_goals first | (rw [HK.out 0 rfl]; rfl) | (rw [HK.out (-1) rfl]; rfl) | (rw [HK.out 1 rfl]; rfl) | (rw [HK.out 2 rfl]; rfl)

theorem eql_same (V : Nat → Nat) (w : World) : (binOp .eql 24 (.agg (av V)) (.agg (av V))).run Try.prog w = .ok (.bool true) w := by
  have := eql_run V V w
  rwa [show eqV V V = true from eqV_iff.2 fun _ _ => rfl] at this
/-- Two vectors in boxes of their own. -/
theorem boxes2 (A B : Nat → Nat) (w : World) : Blk ((w.alloc (.cells (av A) 24)).alloc (.cells (av B) 24)) w.heap.size 24 (av A) ∧ Blk ((w.alloc (.cells (av A) 24)).alloc (.cells (av B) 24)) (w.heap.size + 1) 24 (av B) ∧ Below w.heap.size w ((w.alloc (.cells (av A) 24)).alloc (.cells (av B) 24)) := by
  refine ⟨(Blk.new w _ _).alloc _, ?_, ((Below.refl _ _).alloc (Nat.le_refl _) _).alloc (by simp) _⟩
  have := Blk.new (w.alloc (.cells (av A) 24)) 24 (av B)
  rw [World.size_alloc] at this
  exact this
theorem Blk.reads {W : World} {g : Nat} {V : Nat → Nat} (h : Blk W g 24 (av V)) : ∀ (y : Ext W) (i : Nat), i < 8 → y.now.cell? ⟨g, i, none⟩ = some (.int .u32 (V i : Int)) := fun y i hi => by rw [(h.grow y.out).cell, av_get V hi]

theorem boxes3 (A B C : Nat → Nat) (w : World) : Blk (((w.alloc (.cells (av A) 24)).alloc (.cells (av B) 24)).alloc (.cells (av C) 24)) w.heap.size 24 (av A) ∧ Blk (((w.alloc (.cells (av A) 24)).alloc (.cells (av B) 24)).alloc (.cells (av C) 24)) (w.heap.size + 1) 24 (av B) ∧ Blk (((w.alloc (.cells (av A) 24)).alloc (.cells (av B) 24)).alloc (.cells (av C) 24)) (w.heap.size + 1 + 1) 24 (av C) ∧ Below w.heap.size w (((w.alloc (.cells (av A) 24)).alloc (.cells (av B) 24)).alloc (.cells (av C) 24)) := by
  obtain ⟨h1, h2, h3⟩ := boxes2 A B w
  refine ⟨h1.alloc _, h2.alloc _, ?_, h3.alloc (by simp; omega) _⟩
  have := Blk.new ((w.alloc (.cells (av A) 24)).alloc (.cells (av B) 24)) 24 (av C)
  rw [World.size_alloc, World.size_alloc] at this
  exact this
theorem results_cell_tmp {P : Program} {fn : Func} {p q : Tmp} {ty : TypeId} (h : fn.results = #[.cell p ty, .tmp q]) (tmps : Array Value) (w : World) (g : Nat) (t : TypeId) (cs : Array Value) (fr : Nat × Nat) (d : TypeDesc) (v : Value)
    (hp : tmps.getD p undef = .pointer (some ⟨g, 0, none⟩)) (hq : tmps.getD q undef = v) (hg : w.heap[g]? = some (.cells cs t fr))
    (hu : P.underlying ty = some d) (hd : (match d with | .struct _ | .array _ _ => true | _ => false) = true) (hi : (P.info? ty).map (·.size) = some cs.size) :
    (results fn tmps).run P w = .ok (.tuple #[.agg cs, v]) w := by
  have hp' : tmps[p]?.getD undef = .pointer (some ⟨g, 0, none⟩) := by simpa using hp
  have hq' : tmps[q]?.getD undef = v := by simpa using hq
  simp [results, h, hp', hq', asAddr, run_loadVar_row w g t ty cs fr d hg hu hd hi]

end Go.Proofs.Ytpfhhkdmgkkidaa
