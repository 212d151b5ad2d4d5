/-
  The document's vectors: Join, Meet.
-/
import Derived.Test.YtnehoabeameioaaVec7
namespace Go.Proofs.Ytnehoabeameioaa
open Go.RowKit
set_option maxRecDepth 100000

theorem updV_twice (V : Nat → Nat) (k a b : Nat) : updV (updV V k a) k b = updV V k b := by
  funext i
  unfold updV
  by_cases h : i = k
  · rw [if_pos h, if_pos h]
  · rw [if_neg h, if_neg h, if_neg h]
theorem joinV_lt {A B : Nat → Nat} {k : Nat} (h : A k < B k) : joinV A B k = B k := by unfold joinV; omega
theorem joinV_ge {A B : Nat → Nat} {k : Nat} (h : ¬ A k < B k) : joinV A B k = A k := by unfold joinV; omega
theorem meetV_lt {A B : Nat → Nat} {k : Nat} (h : B k < A k) : meetV A B k = B k := by unfold meetV; omega
theorem meetV_ge {A B : Nat → Nat} {k : Nat} (h : ¬ B k < A k) : meetV A B k = A k := by unfold meetV; omega

set_option maxHeartbeats 1000000 in
theorem refjoin_any (A B : Nat → Nat) (w : World) :
    Calls Try.prog 56 #[vv A, vv B] w fun e w' => e = .returned (vv (joinV A B)) ∧ Below w.heap.size w w' := by
  obtain ⟨W, hW⟩ : ∃ W, W = ((((w.alloc (.cells (av A) 37)).alloc (.cells (av B) 37)).alloc (.cells #[.int .u32 0, .int .u32 0, .int .u32 0, .int .u32 0, .int .u32 0, .int .u32 0, .int .u32 0, .int .u32 0] 37)).alloc (.cells #[.int .u32 0, .int .u32 0, .int .u32 0, .int .u32 0, .int .u32 0, .int .u32 0, .int .u32 0, .int .u32 0] 37)) := ⟨_, rfl⟩
  have hA : Blk W w.heap.size 37 (av A) := by rw [hW]; exact (((Blk.new w _ _).alloc _).alloc _).alloc _
  have hB : Blk W (w.heap.size + 1) 37 (av B) := by
    have := ((Blk.new (w.alloc (.cells (av A) 37)) 37 (av B)).alloc (.cells #[.int .u32 0, .int .u32 0, .int .u32 0, .int .u32 0, .int .u32 0, .int .u32 0, .int .u32 0, .int .u32 0] 37)).alloc (.cells #[.int .u32 0, .int .u32 0, .int .u32 0, .int .u32 0, .int .u32 0, .int .u32 0, .int .u32 0, .int .u32 0] 37)
    rw [World.size_alloc] at this
    rw [hW]; exact this
  have hC : Blk W (w.heap.size + 1 + 1) 37 (av zeroV) := by
    have := (Blk.new ((w.alloc (.cells (av A) 37)).alloc (.cells (av B) 37)) 37 (av zeroV)).alloc (.cells #[.int .u32 0, .int .u32 0, .int .u32 0, .int .u32 0, .int .u32 0, .int .u32 0, .int .u32 0, .int .u32 0] 37)
    rw [World.size_alloc, World.size_alloc] at this
    rw [hW]; exact this
  have hD : Blk W (w.heap.size + 1 + 1 + 1) 37 (av zeroV) := by
    have := Blk.new (((w.alloc (.cells (av A) 37)).alloc (.cells (av B) 37)).alloc (.cells (av zeroV) 37)) 37 (av zeroV)
    rw [World.size_alloc, World.size_alloc, World.size_alloc] at this
    rw [hW]; exact this
  have hbel : Below w.heap.size w W := by rw [hW]; exact ((((Below.refl _ _).alloc (Nat.le_refl _) _).alloc (by simp) _).alloc (by simp; omega) _).alloc (by simp; omega) _
  have HW := Lib.hid hW
  have HA := Lib.hid hA
  have HB := Lib.hid hB
  have HC := Lib.hid hC
  have HD := Lib.hid hD
  clear hW hA hB hC hD
  unfold vv
  go_enter Try.func56, Try.ntmps56
  go_wp2_with fail
  rw [← HW.out]
  go_loopw [6] (fun i wr => ∃ k : Nat, k ≤ 8 ∧ i = .int .i64 (k : Int) ∧ Blk wr w.heap.size 37 (av A) ∧ Blk wr (w.heap.size + 1) 37 (av B) ∧ Blk wr (w.heap.size + 1 + 1) 37 (av zeroV) ∧ Blk wr (w.heap.size + 1 + 1 + 1) 37 (av (mixV (joinV A B) zeroV k)) ∧ Below w.heap.size w wr) (fun i _ => 8 - (intOf i).toNat)
  case atStart => exact ⟨0, by omega, rfl, HA.out, HB.out, HC.out, by rw [mixV_zero]; exact HD.out, hbel⟩
  case round =>
    clear HW HA HB HC HD hbel W
    obtain ⟨k, hk, rfl, hA, hB, hC, hD, hbel⟩ := hrel
    by_cases hlt : k < 8
    · have hcA := hA.cell k
      rw [av_get _ hlt] at hcA
      have hcB := hB.cell k
      rw [av_get _ hlt] at hcB
      have hcD := hD.cell k
      rw [av_get _ hlt] at hcD
      have hfD := hD.frozen k
      have hsA := hD.set_ k (.int .u32 ((A k : Nat) : Int))
      rw [av_set _ _ _ hlt] at hsA
      have hA2 := hA.far (p := ⟨w.heap.size + 1 + 1 + 1, k, none⟩) (by show w.heap.size ≠ w.heap.size + 1 + 1 + 1; omega) (.int .u32 ((A k : Nat) : Int))
      have hB2 := hB.far (p := ⟨w.heap.size + 1 + 1 + 1, k, none⟩) (by show w.heap.size + 1 ≠ w.heap.size + 1 + 1 + 1; omega) (.int .u32 ((A k : Nat) : Int))
      have hC2 := hC.far (p := ⟨w.heap.size + 1 + 1 + 1, k, none⟩) (by show w.heap.size + 1 + 1 ≠ w.heap.size + 1 + 1 + 1; omega) (.int .u32 ((A k : Nat) : Int))
      have hbel2 := hbel.setCell (p := ⟨w.heap.size + 1 + 1 + 1, k, none⟩) (Nat.le_add_right w.heap.size 3) (.int .u32 ((A k : Nat) : Int))
      have HsA := Lib.hid hsA
      have HA2 := Lib.hid hA2
      have HB2 := Lib.hid hB2
      have HC2 := Lib.hid hC2
      have Hbel2 := Lib.hid hbel2
      clear hsA hA2 hB2 hC2 hbel2 hA hB hC hD hbel
      go_wp2_with fail
      generalize hW2 : wr.setCell ⟨w.heap.size + 1 + 1 + 1, k, none⟩ (.int .u32 ((A k : Nat) : Int)) = W2 at HsA HA2 HB2 HC2 Hbel2 ⊢
      have hcA2 := HA2.out.cell k
      rw [av_get _ hlt] at hcA2
      have hcB2 := HB2.out.cell k
      rw [av_get _ hlt] at hcB2
      have hcD2 := HsA.out.cell k
      rw [av_get _ hlt] at hcD2
      have hfD2 := HsA.out.frozen k
      clear hW2 hcA hcB hfD hcD
      by_cases hg : A k < B k
      · have hgt : decide ((A k : Int) < (B k : Int)) = true := by simpa using hg
        have hs := HsA.out.set_ k (.int .u32 ((B k : Nat) : Int))
        rw [av_set _ _ _ hlt, updV_twice, ← joinV_lt hg, mixV_succ] at hs
        have hA3 := HA2.out.far (p := ⟨w.heap.size + 1 + 1 + 1, k, none⟩) (by show w.heap.size ≠ w.heap.size + 1 + 1 + 1; omega) (.int .u32 ((B k : Nat) : Int))
        have hB3 := HB2.out.far (p := ⟨w.heap.size + 1 + 1 + 1, k, none⟩) (by show w.heap.size + 1 ≠ w.heap.size + 1 + 1 + 1; omega) (.int .u32 ((B k : Nat) : Int))
        have hC3 := HC2.out.far (p := ⟨w.heap.size + 1 + 1 + 1, k, none⟩) (by show w.heap.size + 1 + 1 ≠ w.heap.size + 1 + 1 + 1; omega) (.int .u32 ((B k : Nat) : Int))
        have hbel3 := Hbel2.out.setCell (p := ⟨w.heap.size + 1 + 1 + 1, k, none⟩) (Nat.le_add_right w.heap.size 3) (.int .u32 ((B k : Nat) : Int))
        rw [joinV_lt hg] at hs
        have Hs := Lib.hid hs
        have HA3 := Lib.hid hA3
        have HB3 := Lib.hid hB3
        have HC3 := Lib.hid hC3
        have Hbel3 := Lib.hid hbel3
        clear hs hA3 hB3 hC3 hbel3
        go_quiet (fail)
        go_wp2
        go_roundw
        case rel => exact ⟨k + 1, by omega, by go_num, HA3.out, HB3.out, HC3.out, Hs.out, below_drewN Hbel3.out _⟩
        case measure => simp [intOf]; omega
      · have hgt : decide ((A k : Int) < (B k : Int)) = false := by simpa using hg
        have hs := HsA.out
        rw [← joinV_ge hg, mixV_succ] at hs
        have Hs := Lib.hid hs
        clear hs
        go_quiet (fail)
        go_wp2
        go_roundw
        case rel => exact ⟨k + 1, by omega, by go_num, HA2.out, HB2.out, HC2.out, Hs.out, below_drewN Hbel2.out _⟩
        case measure => simp [intOf]; omega
    · obtain rfl : k = 8 := by omega
      rw [mixV_all] at hD
      have HD := Lib.hid hD
      have HC := Lib.hid hC
      clear hA hB hC hD
      go_wp2_with (first | (refine wpList_load_row rfl 37 (.tmp 5) rfl (w.heap.size + 1 + 1 + 1) rfl 37 (av (joinV A B)) (0, 0) _ HD.out Try.underlying37 rfl vec_info ?_) | (refine wpList_store_row rfl 37 (.tmp 4) (.tmp 29) rfl (w.heap.size + 1 + 1) (av (joinV A B)) rfl rfl 37 _ HC.out vec_info rfl (av_one _) ?_))
      have hend := HC.out.setRow_ (av (joinV A B))
      exact bodyPost_ret (v := vv (joinV A B)) (results_cell_row Try.results56 _ _ (w.heap.size + 1 + 1) 37 (av (joinV A B)) (0, 0) _ rfl hend Try.underlying37 rfl vec_info) rfl ⟨rfl, below_setRow hbel (by omega) _⟩

end Go.Proofs.Ytnehoabeameioaa
