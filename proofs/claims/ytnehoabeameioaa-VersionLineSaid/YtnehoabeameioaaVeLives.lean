/-
  wardshiplaw11.lives.
-/
import Derived.Test.YtnehoabeameioaaVeAdd
import Derived.Test.YtnehoabeameioaaVeBytes
namespace Go.Proofs.Ytnehoabeameioaa
open Go.RowKit
set_option maxRecDepth 100000

theorem id11_any (r : Int) (s : Nat) (w : World) : Calls Try.prog 27 #[.int .i64 r, .int .u32 (s : Int)] w fun e w' => e = .returned (.agg (idC r s)) ∧ Below w.heap.size w w' := by
  have hB : Blk (w.alloc (.cells (idC 0 0) 35)) w.heap.size 35 (idC 0 0) := Blk.new _ _ _
  have hbel : Below w.heap.size w (w.alloc (.cells (idC 0 0) 35)) := (Below.refl _ _).alloc (Nat.le_refl _) _
  have HB := Lib.hid hB
  have Hbel := Lib.hid hbel
  clear hB hbel
  go_enter Try.func27, Try.ntmps27
  go_wp2_with (refine wpList_store_row (o := ⟨none, _, _, _, _, _⟩) rfl 35 (.tmp 4) (.tmp 7) rfl w.heap.size (idC r s) rfl rfl 35 (idC 0 0) HB.out id_info rfl (idC_one _ _) ?_)
  have hend := HB.out.setRow_ (idC r s)
  exact bodyPost_ret (v := .agg (idC r s)) (results_cell_row Try.results27 _ _ w.heap.size 35 (idC r s) (0, 0) _ rfl hend Try.underlying35 rfl id_info) rfl ⟨rfl, below_setRow Hbel.out (Nat.le_refl _) _⟩

def verY : Ver := ⟨1, 2, [121], zeroV⟩
theorem verY_ok : VerOk verY := ⟨(by show (-9223372036854775808 : Int) ≤ 1 ∧ (1 : Int) ≤ 9223372036854775807; omega), by unfold verY; decide, by unfold verY maxLen; decide, okV_zero⟩
theorem addY : addV [] [] verY = ([verY], 0) := rfl
theorem patchY : patchV [97, 98, 99] 5 [120] = ([97, 98, 99, 0, 0, 120], 0) := by decide

set_option maxHeartbeats 1000000 in
theorem lives11_any (w : World) : Calls Try.prog 8 #[] w fun e w' => e = .returned (.bool true) ∧ Below w.heap.size w w' := by
  have hp := fun z => patch_any [97, 98, 99] 5 [120] z (by decide) (by decide) (by decide)
  rw [patchY] at hp
  have ha := fun z : World => add_any (fun _ => True) (fun _ => True) (.slice none 0 0) (.slice none 0 0) [] [] verY z IsL.nil IsL.nil (by simp) (by simp) (by unfold verY; simp) (fun i j hi => absurd hi (by simp)) verY_ok
  rw [addY] at ha
  have Hp := Lib.hid hp
  have Ha := Lib.hid (show ∀ z : World, Calls Try.prog 14 #[.slice none 0 0, .slice none 0 0, .agg #[.int .i64 1, .int .u32 2, .string ⟨#[121]⟩, .int .u32 0, .int .u32 0, .int .u32 0, .int .u32 0, .int .u32 0, .int .u32 0, .int .u32 0, .int .u32 0]] z _ from ha)
  have Hh := Lib.hid (show ∀ z : World, Calls Try.prog 21 #[.agg #[.int .i64 1, .int .u32 2, .string ⟨#[121]⟩, .int .u32 0, .int .u32 0, .int .u32 0, .int .u32 0, .int .u32 0, .int .u32 0, .int .u32 0, .int .u32 0]] z fun e w' => e = .returned (.bool true) ∧ Below z.heap.size z w' from fun z => head_any verY z)
  clear hp ha
  go_enter Try.func8, Try.ntmps8
  go_upto_region 3 with (first | (go_at_call 9; go_must (refine (Hp.out _).mono ?_; rintro e1 w1 ⟨rfl, hb1⟩)) | (go_at_call 27; go_must (refine (id11_any 1 2 _).mono ?_; rintro e2 w2 ⟨rfl, hb2⟩; unfold idC)) | (go_at_call 14; go_must (refine (Ha.out _).mono ?_; rintro e3 w3 ⟨⟨u, rfl, hown⟩, hb3⟩)))
  obtain ⟨g, cap, rfl, hc1, _, _, _, hr, _⟩ := hown.elem (k := 0) (by simp)
  have c := verCells hr
  have z0 : w3.cell? ⟨g, 0, none⟩ = some (.int .i64 1) := hr 0 _ rfl
  have z1 : w3.cell? ⟨g, 1, none⟩ = some (.int .u32 2) := hr 1 _ rfl
  have z2 : w3.cell? ⟨g, 2, none⟩ = some (.string ⟨#[121]⟩) := hr 2 _ rfl
  have z3 : w3.cell? ⟨g, 3, none⟩ = some (.int .u32 0) := hr 3 _ rfl
  have z4 : w3.cell? ⟨g, 4, none⟩ = some (.int .u32 0) := hr 4 _ rfl
  have z5 : w3.cell? ⟨g, 5, none⟩ = some (.int .u32 0) := hr 5 _ rfl
  have z6 : w3.cell? ⟨g, 6, none⟩ = some (.int .u32 0) := hr 6 _ rfl
  have z7 : w3.cell? ⟨g, 7, none⟩ = some (.int .u32 0) := hr 7 _ rfl
  have z8 : w3.cell? ⟨g, 8, none⟩ = some (.int .u32 0) := hr 8 _ rfl
  have z9 : w3.cell? ⟨g, 9, none⟩ = some (.int .u32 0) := hr 9 _ rfl
  have z10 : w3.cell? ⟨g, 10, none⟩ = some (.int .u32 0) := hr 10 _ rfl
  have Hb := Lib.hid (below_call (below_call hb1 hb2) hb3)
  clear hb1 hb2 hb3 hr hown c
  go_wp2_with (go_at_call 21; go_must (refine (Hh.out _).mono ?_; rintro e4 w4 ⟨rfl, hb4⟩))
  go_ret
  exact ⟨rfl, below_call Hb.out hb4⟩
end Go.Proofs.Ytnehoabeameioaa
