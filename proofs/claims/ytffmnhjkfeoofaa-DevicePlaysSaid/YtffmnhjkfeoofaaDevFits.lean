/-
  wardshiplaw03.fits.
-/
import Derived.Test.YtffmnhjkfeoofaaDevOpen
import Derived.Test.YtffmnhjkfeoofaaQuiet
import Derived.WalkSpells
import Derived.Deep.RegionHeld3
namespace Go.Proofs.Ytffmnhjkfeoofaa
open Go.RowKit
set_option maxRecDepth 100000

theorem all_take_succ {L : List OpM} {k : Nat} (h : k < L.length) : (L.take (k + 1)).all opFits = ((L.take k).all opFits && opFits L[k]) := by
  rw [List.take_succ_eq_append_getElem h, List.all_append]
  simp

set_option maxHeartbeats 1000000 in
theorem fits_any (ok : Nat → Prop) (v : Value) (n : Int) (L : List OpM) (w : World) (hv : IsL kOp w ok v L) :
    Calls Try.prog 10 #[.int .i64 n, v] w fun e w' => e = .returned (.bool (fitsB n L)) ∧ Below w.heap.size w w' := by
  obtain ⟨A, c, rfl, hc, hm, hel⟩ := op_at hv
  have Hel := Lib.hid hel
  unfold maxLen at hm
  have hLm : L.length ≤ 9223372036854775807 := by omega
  clear hel hv
  by_cases h1 : n < 1
  · have hf : fitsB n L = false := by unfold fitsB; rw [show decide (1 ≤ n) = false by simp; omega]; rfl
    have Hf := Lib.hid hf
    clear hf
    go_enter Try.func10, Try.ntmps10
    go_wp2
    go_ret
    exact ⟨by rw [Hf.out]; rfl, Below.refl _ _⟩
  · by_cases h2 : 10 < n
    · have hf : fitsB n L = false := by unfold fitsB; rw [show decide (n ≤ 10) = false by simp; omega, Bool.and_false]; rfl
      have Hf := Lib.hid hf
      clear hf
      go_enter Try.func10, Try.ntmps10
      go_wp2
      go_ret
      exact ⟨by rw [Hf.out]; rfl, Below.refl _ _⟩
    · by_cases h3 : (60 : Int) < (L.length : Int)
      · have hf : fitsB n L = false := by unfold fitsB; rw [show decide (L.length ≤ 60) = false by simp; omega, Bool.and_false]; rfl
        have Hf := Lib.hid hf
        clear hf
        go_enter Try.func10, Try.ntmps10
        go_wp2
        go_ret
        exact ⟨by rw [Hf.out]; rfl, Below.refl _ _⟩
      · have hf : fitsB n L = L.all opFits := by
          unfold fitsB
          rw [show decide (1 ≤ n) = true by simp; omega, show decide (n ≤ 10) = true by simp; omega, show decide (L.length ≤ 60) = true by simp; omega]
          rfl
        have Hf := Lib.hid hf
        clear hf
        go_enter Try.func10, Try.ntmps10
        go_wp2_with fail
        go_loopw [20] (fun i wr => ∃ k : Nat, k ≤ L.length ∧ i = .int .i64 (k : Int) ∧ (L.take k).all opFits = true ∧ Below w.heap.size w wr) (fun i _ => L.length - (intOf i).toNat)
        case atStart => exact ⟨0, by omega, rfl, rfl, Below.refl _ _⟩
        case round =>
          obtain ⟨k, hk, rfl, hall, hb⟩ := hrel
          by_cases hlt : k < L.length
          · obtain ⟨b, off, rfl, _, hbw, hcells⟩ := Hel.out (by intro e; rw [e] at hlt; simp at hlt)
            obtain ⟨Ak, nk, c0, c1, c2, c3, c4, c5, c6, c7, hkL, _, _, hsl⟩ := hcells k hlt
            have d0 := (hb.cell (p := ⟨b, off + k * 8, none⟩) hbw).trans c0
            have d1 := (hb.cell (p := ⟨b, off + k * 8 + 1, none⟩) hbw).trans c1
            have d2 := (hb.cell (p := ⟨b, off + k * 8 + 2, none⟩) hbw).trans c2
            have d3 := (hb.cell (p := ⟨b, off + k * 8 + 3, none⟩) hbw).trans c3
            have d4 := (hb.cell (p := ⟨b, off + k * 8 + 4, none⟩) hbw).trans c4
            have d5 := (hb.cell (p := ⟨b, off + k * 8 + 5, none⟩) hbw).trans c5
            have d6 := (hb.cell (p := ⟨b, off + k * 8 + 6, none⟩) hbw).trans c6
            have d7 := (hb.cell (p := ⟨b, off + k * 8 + 7, none⟩) hbw).trans c7
            have hstep := all_take_succ hlt
            have Hstep := Lib.hid hstep
            have Hall := Lib.hid hall
            have Hb := Lib.hid hb
            have hhs : w.heap.size ≤ wr.heap.size := hb.size
            unfold maxLen at hsl
            clear hcells c0 c1 c2 c3 c4 c5 c6 c7 hkL hstep hall hb
            by_cases g1 : L[k].s.length ≤ 300
            · by_cases g2 : L[k].choice.kept.length ≤ 70
              · have hok : opFits L[k] = true := by unfold opFits; simp [g1, g2]
                have Hok := Lib.hid hok
                have g1' : ¬ (300 : Int) < (L[k].s.length : Int) := by omega
                have g2' : ¬ (70 : Int) < (L[k].choice.kept.length : Int) := by omega
                clear hok
                go_wp2
                go_roundw
                case rel => exact ⟨k + 1, by omega, by go_num, by rw [Hstep.out, Hall.out, Hok.out]; rfl, Hb.out.alloc hhs _⟩
                case measure => simp [intOf]; omega
              · have hbad : L.all opFits = false := by
                  rw [List.all_eq_false]
                  exact ⟨L[k], List.getElem_mem hlt, by unfold opFits; simp [g1, g2]⟩
                have Hbad := Lib.hid hbad
                have g1' : ¬ (300 : Int) < (L[k].s.length : Int) := by omega
                have g2' : (70 : Int) < (L[k].choice.kept.length : Int) := by omega
                clear hbad
                go_wp2
                go_ret
                exact ⟨by rw [Hf.out, Hbad.out]; rfl, Hb.out.alloc hhs _⟩
            · have hbad : L.all opFits = false := by
                rw [List.all_eq_false]
                exact ⟨L[k], List.getElem_mem hlt, by unfold opFits; simp [g1]⟩
              have Hbad := Lib.hid hbad
              have g1' : (300 : Int) < (L[k].s.length : Int) := by omega
              clear hbad
              go_wp2
              go_ret
              exact ⟨by rw [Hf.out, Hbad.out]; rfl, Hb.out.alloc hhs _⟩
          · obtain rfl : k = L.length := by omega
            rw [List.take_length] at hall
            have Hall := Lib.hid hall
            clear hall
            go_wp2
            go_ret
            exact ⟨by rw [Hf.out, Hall.out]; rfl, hb⟩
end Go.Proofs.Ytffmnhjkfeoofaa
