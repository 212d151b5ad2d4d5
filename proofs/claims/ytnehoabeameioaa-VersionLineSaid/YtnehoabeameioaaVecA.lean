/-
  The document's vectors: One, With.
-/
import Derived.Test.YtnehoabeameioaaVec9
import Derived.Deep.RegionWith
namespace Go.Proofs.Ytnehoabeameioaa
open Go.RowKit
set_option maxRecDepth 100000

def oneV (r : Int) (s : Nat) : Nat → Nat := fun i => if (i : Int) + 1 = r then s else 0
theorem joinV_one (V : Nat → Nat) (r : Int) (s : Nat) : av (joinV V (oneV r s)) = av (withV V r s) := av_congr fun i hi => by
  unfold joinV oneV withV
  by_cases h : (i : Int) + 1 = r
  · have hr : repV r = true := repV_iff.2 (by omega)
    have hk : (r - 1).toNat = i := by omega
    rw [if_pos h, if_pos hr, hk]
    unfold updV
    rw [if_pos rfl]
  · rw [if_neg h, Nat.max_zero]
    split
    · rename_i hr
      rw [repV_iff] at hr
      unfold updV
      rw [if_neg (by omega)]
    · rfl
theorem mix_one_hit {r : Int} {s k : Nat} (h : (k : Int) + 1 = r) : updV (mixV (oneV r s) zeroV k) k s = mixV (oneV r s) zeroV (k + 1) := by
  have e : oneV r s k = s := by unfold oneV; rw [if_pos h]
  have := mixV_succ (oneV r s) zeroV k
  rwa [e] at this
theorem mix_one_miss {r : Int} {s k : Nat} (h : ¬ (k : Int) + 1 = r) : mixV (oneV r s) zeroV k = mixV (oneV r s) zeroV (k + 1) := by
  have e : oneV r s k = 0 := by unfold oneV; rw [if_neg h]
  rw [← mixV_succ, e]
  funext i
  unfold updV
  split
  · rename_i hi
    rw [hi, mixV_at]
    rfl
  · rfl

set_option maxHeartbeats 1000000 in
theorem refone_any (r : Int) (s : Nat) (w : World) :
    Calls Try.prog 57 #[idv r s] w fun e w' => e = .returned (vv (oneV r s)) ∧ Below w.heap.size w w' := by
  obtain ⟨W, hW⟩ : ∃ W, W = (((w.alloc (.cells #[.int .i64 r, .int .u32 (s : Int)] 35)).alloc (.cells #[.int .u32 0, .int .u32 0, .int .u32 0, .int .u32 0, .int .u32 0, .int .u32 0, .int .u32 0, .int .u32 0] 37)).alloc (.cells #[.int .u32 0, .int .u32 0, .int .u32 0, .int .u32 0, .int .u32 0, .int .u32 0, .int .u32 0, .int .u32 0] 37)) := ⟨_, rfl⟩
  have hA : Blk W w.heap.size 35 #[.int .i64 r, .int .u32 (s : Int)] := by rw [hW]; exact ((Blk.new w _ _).alloc _).alloc _
  have hC : Blk W (w.heap.size + 1) 37 (av zeroV) := by
    have := (Blk.new (w.alloc (.cells #[.int .i64 r, .int .u32 (s : Int)] 35)) 37 (av zeroV)).alloc (.cells #[.int .u32 0, .int .u32 0, .int .u32 0, .int .u32 0, .int .u32 0, .int .u32 0, .int .u32 0, .int .u32 0] 37)
    rw [World.size_alloc] at this
    rw [hW]; exact this
  have hD : Blk W (w.heap.size + 1 + 1) 37 (av zeroV) := by
    have := Blk.new ((w.alloc (.cells #[.int .i64 r, .int .u32 (s : Int)] 35)).alloc (.cells (av zeroV) 37)) 37 (av zeroV)
    rw [World.size_alloc, World.size_alloc] at this
    rw [hW]; exact this
  have hbel : Below w.heap.size w W := by rw [hW]; exact (((Below.refl _ _).alloc (Nat.le_refl _) _).alloc (by simp) _).alloc (by simp; omega) _
  have HW := Lib.hid hW
  have HA := Lib.hid hA
  have HC := Lib.hid hC
  have HD := Lib.hid hD
  clear hW hA hC hD
  unfold vv idv
  go_enter Try.func57, Try.ntmps57
  go_wp2_with fail
  rw [← HW.out]
  go_loopw [4] (fun i wr => ∃ k : Nat, k ≤ 8 ∧ i = .int .i64 (k : Int) ∧ Blk wr w.heap.size 35 #[.int .i64 r, .int .u32 (s : Int)] ∧ Blk wr (w.heap.size + 1) 37 (av zeroV) ∧ Blk wr (w.heap.size + 1 + 1) 37 (av (mixV (oneV r s) zeroV k)) ∧ Below w.heap.size w wr) (fun i _ => 8 - (intOf i).toNat)
  case atStart => exact ⟨0, by omega, rfl, HA.out, HC.out, by rw [mixV_zero]; exact HD.out, hbel⟩
  case round =>
    clear HW HA HC HD hbel W
    obtain ⟨k, hk, rfl, hA, hC, hD, hbel⟩ := hrel
    by_cases hlt : k < 8
    · have z0 := hA.cell 0
      have z1 := hA.cell 1
      simp only [List.getElem?_toArray, List.getElem?_cons_zero, List.getElem?_cons_succ] at z0 z1
      have hcD := hD.cell k
      rw [av_get _ hlt] at hcD
      have hfD := hD.frozen k
      by_cases he : (k : Int) + 1 = r
      · have he1 : ((k : Int) + 1 == r) = true := by simpa using he
        have hs := hD.set_ k (.int .u32 ((s : Nat) : Int))
        rw [av_set _ _ _ hlt, mix_one_hit he] at hs
        have hA2 := hA.far (p := ⟨w.heap.size + 1 + 1, k, none⟩) (by show w.heap.size ≠ w.heap.size + 1 + 1; omega) (.int .u32 ((s : Nat) : Int))
        have hC2 := hC.far (p := ⟨w.heap.size + 1 + 1, k, none⟩) (by show w.heap.size + 1 ≠ w.heap.size + 1 + 1; omega) (.int .u32 ((s : Nat) : Int))
        have hbel2 := hbel.setCell (p := ⟨w.heap.size + 1 + 1, k, none⟩) (Nat.le_add_right w.heap.size 2) (.int .u32 ((s : Nat) : Int))
        have Hs := Lib.hid hs
        have HA2 := Lib.hid hA2
        have HC2 := Lib.hid hC2
        clear hs hA2 hC2 hA hC hD he
        go_wp2
        go_roundw
        case rel => exact ⟨k + 1, by omega, by go_num, HA2.out, HC2.out, Hs.out, hbel2⟩
        case measure => simp [intOf]; omega
      · have he1 : ((k : Int) + 1 == r) = false := by simpa using he
        rw [mix_one_miss he] at hD
        have HA := Lib.hid hA
        have HC := Lib.hid hC
        have HD := Lib.hid hD
        clear hA hC hD he
        go_wp2
        go_roundw
        case rel => exact ⟨k + 1, by omega, by go_num, HA.out, HC.out, HD.out, hbel⟩
        case measure => simp [intOf]; omega
    · obtain rfl : k = 8 := by omega
      rw [mixV_all] at hD
      have HD := Lib.hid hD
      have HC := Lib.hid hC
      clear hA hC hD
      go_wp2_with (first | (refine wpList_load_row rfl 37 (.tmp 3) rfl (w.heap.size + 1 + 1) rfl 37 (av (oneV r s)) (0, 0) _ HD.out Try.underlying37 rfl vec_info ?_) | (refine wpList_store_row rfl 37 (.tmp 2) (.tmp 19) rfl (w.heap.size + 1) (av (oneV r s)) rfl rfl 37 _ HC.out vec_info rfl (av_one _) ?_))
      have hend := HC.out.setRow_ (av (oneV r s))
      exact bodyPost_ret (v := vv (oneV r s)) (results_cell_row Try.results57 _ _ (w.heap.size + 1) 37 (av (oneV r s)) (0, 0) _ rfl hend Try.underlying37 rfl vec_info) rfl ⟨rfl, below_setRow hbel (by omega) _⟩

theorem cell_then {w u : World} {a : Addr} {v : Value} (hb : Below w.heap.size w u) (h : w.cell? a = some v) : u.cell? a = some v := (hb.cell (World.block_lt_of_cell? w _ h)).trans h
theorem store_vec (X : Nat → Nat) {z : World} {g : Nat} {old : Nat → Nat} (h : Blk z g 37 (av old)) : (storeCells ⟨g, 0, none⟩ (av X).toList).run Try.prog z = .ok () (z.setRow g (av X)) := by
  have := run_storeCells_from (P := Try.prog) g 37 (av X).toList 0 (av old) z h rfl (fun v hv => (Array.all_eq_true_iff_forall_mem.1 (av_one X)) v (by simpa using hv))
  simpa using this
set_option maxHeartbeats 1000000 in
theorem refwith_any (V : Nat → Nat) (r : Int) (s : Nat) (w : World) :
    Calls Try.prog 38 #[vv V, idv r s] w fun e w' => e = .returned (vv (withV V r s)) ∧ Below w.heap.size w w' := by
  obtain ⟨W, hW⟩ : ∃ W, W = (((w.alloc (.cells (av V) 37)).alloc (.cells #[.int .i64 r, .int .u32 (s : Int)] 35)).alloc (.cells #[.int .u32 0, .int .u32 0, .int .u32 0, .int .u32 0, .int .u32 0, .int .u32 0, .int .u32 0, .int .u32 0] 37)) := ⟨_, rfl⟩
  have hA : Blk W w.heap.size 37 (av V) := by rw [hW]; exact ((Blk.new w _ _).alloc _).alloc _
  have hB : Blk W (w.heap.size + 1) 35 #[.int .i64 r, .int .u32 (s : Int)] := by
    have := (Blk.new (w.alloc (.cells (av V) 37)) 35 #[.int .i64 r, .int .u32 (s : Int)]).alloc (.cells #[.int .u32 0, .int .u32 0, .int .u32 0, .int .u32 0, .int .u32 0, .int .u32 0, .int .u32 0, .int .u32 0] 37)
    rw [World.size_alloc] at this
    rw [hW]; exact this
  have hC : Blk W (w.heap.size + 1 + 1) 37 (av zeroV) := by
    have := Blk.new ((w.alloc (.cells (av V) 37)).alloc (.cells #[.int .i64 r, .int .u32 (s : Int)] 35)) 37 (av zeroV)
    rw [World.size_alloc, World.size_alloc] at this
    rw [hW]; exact this
  have hbel : Below w.heap.size w W := by rw [hW]; exact (((Below.refl _ _).alloc (Nat.le_refl _) _).alloc (by simp) _).alloc (by simp; omega) _
  have HW := Lib.hid hW
  have z0 := hB.cell 0
  have z1 := hB.cell 1
  simp only [List.getElem?_toArray, List.getElem?_cons_zero, List.getElem?_cons_succ] at z0 z1
  have v0 := hA.cell 0
  have v1 := hA.cell 1
  have v2 := hA.cell 2
  have v3 := hA.cell 3
  have v4 := hA.cell 4
  have v5 := hA.cell 5
  have v6 := hA.cell 6
  have v7 := hA.cell 7
  rw [av_get V (by omega)] at v0 v1 v2 v3 v4 v5 v6 v7
  have HC := Lib.hid hC
  have HA := Lib.hid hA
  clear hW hA hB hC
  have hone := fun z => refone_any r s z
  have hjoin := fun z => refjoin_any V (oneV r s) z
  have hj := joinV_one V r s
  unfold vv idv at *
  rw [hj] at hjoin
  have Hone := Lib.hid hone
  have Hjoin := Lib.hid hjoin
  clear hone hjoin hj
  go_enter Try.func38, Try.ntmps38
  go_wp2_with fail
  rw [← HW.out]
  go_region_with (first | (go_at_call 57; refine (Hone.out _).mono ?_; rintro e w1 ⟨rfl, hb1⟩; have hb1' := below_drew_then hb1; have u0 := (cell_then hb1' v0); have u1 := (cell_then hb1' v1); have u2 := (cell_then hb1' v2); have u3 := (cell_then hb1' v3); have u4 := (cell_then hb1' v4); have u5 := (cell_then hb1' v5); have u6 := (cell_then hb1' v6); have u7 := (cell_then hb1' v7)) | (go_at_call 56; refine (Hjoin.out _).mono ?_; rintro e w2 ⟨rfl, hb2⟩; have hC2 := (HC.out.grow hb1').grow hb2; have hsc := store_vec (withV V r s) hC2; have hfr0 := hC2.frozen 0; have hcl0 := hC2.cell 0; have HC2 := Lib.hid hC2; clear hC2))
  all_goals go_wp2
  all_goals exact bodyPost_ret (v := .agg (av (withV V r s))) (results_cell_row Try.results38 _ _ (w.heap.size + 1 + 1) 37 (av (withV V r s)) (0, 0) _ rfl (HC2.out.setRow_ (av (withV V r s))) Try.underlying37 rfl vec_info) rfl ⟨rfl, below_setRow (below_call (below_call hbel hb1') hb2) (Nat.le_add_right w.heap.size 2) _⟩
end Go.Proofs.Ytnehoabeameioaa
