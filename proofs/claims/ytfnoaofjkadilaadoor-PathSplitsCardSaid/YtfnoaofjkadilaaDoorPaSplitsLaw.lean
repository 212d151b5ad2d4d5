/-
  The walk of PathSplits.
-/
import Derived.Test.YtfnoaofjkadilaaDoorPaLives
namespace Go.Proofs.YtfnoaofjkadilaaDoor
open Go.RowKit
set_option maxRecDepth 100000

set_option maxHeartbeats 2000000 in
theorem pathsplits_walk (s p : List UInt8) (w : World) (_hs : s.length ≤ 9223372036854775807) (_hp : p.length ≤ 9223372036854775807) (he : Env w) :
    Calls Tryd.prog 3 #[.string ⟨s.toArray⟩, .string ⟨p.toArray⟩] w fun e w' => e = .returned (.bool true) ∧ Below w.heap.size w w' := by
  have He := Lib.hid he
  clear he _hs _hp
  go_enter Tryd.func3, Tryd.ntmps3
  go_wp2_with fail
  refine (lives_any w He.out).mono ?_
  rintro e w1 ⟨rfl, hb1⟩
  have hsh := short_any (fun _ => True) (some ⟨w1.heap.size, 0, none⟩) 2 [s, p] (w1.alloc (.cells #[.string ⟨s.toArray⟩, .string ⟨p.toArray⟩] 9)) (rd_new w1 9 [s, p])
  obtain ⟨B, hB⟩ : ∃ B, B = shortB [s, p] := ⟨_, rfl⟩
  rw [← hB] at hsh
  have hb1a : Below w.heap.size w (w1.alloc (.cells #[.string ⟨s.toArray⟩, .string ⟨p.toArray⟩] 9)) := hb1.alloc hb1.size _
  have Hsh := Lib.hid hsh
  clear hsh
  go_wp2_with fail
  refine Hsh.out.mono ?_
  rintro e w2 ⟨rfl, rfl⟩
  cases B with
  | false =>
    clear hB
    go_wp2_with fail
    refine (lives_any _ (He.out.grow hb1a)).mono ?_
    rintro e w3 ⟨rfl, hb3⟩
    go_wp2_with fail
    go_ret
    exact ⟨rfl, below_call hb1a hb3⟩
  | true =>
    obtain ⟨hs, hp⟩ := short_two hB.symm
    clear hB Hsh
    go_wp2_with fail
    refine (psplit_any s _ (He.out.grow hb1a)).mono ?_
    rintro e w3 ⟨hb3, hcase⟩
    have hb03 := below_call hb1a hb3
    rcases hcase with ⟨X, A, c, hX, hXc, hcm, rfl, hrX⟩ | ⟨hX, rfl⟩
    · have HX := Lib.hid hX
      have HrX := Lib.hid hrX
      clear hX hrX
      go_wp2_with fail
      refine (refsplit_any s w3).mono ?_
      rintro e w4 ⟨hb4, hcase⟩
      have hb04 := below_call hb03 hb4
      rcases hcase with ⟨Y, A', c', hY, hYc, hcm', rfl, hrY⟩ | ⟨hY, rfl⟩
      · rw [HX.out] at hY
        obtain rfl := Option.some.inj hY
        have hsame := same_any (fun _ => True) (fun _ => True) A A' c c' X X w4 (HrX.out.grow hb4) hrY (by have := split_few HX.out; omega)
        have Hsame := Lib.hid hsame
        clear hsame hY hrY
        go_wp2_with fail
        refine Hsame.out.mono ?_
        rintro e w5 ⟨rfl, hb5⟩
        have hb05 := below_call hb04 hb5
        have ht : (X == X) = true := beq_self_eq_true X
        rw [ht]
        clear ht
        go_wp2_with fail
        refine (part_any p (by omega) _ (He.out.grow hb05)).mono ?_
        rintro e w6 ⟨rfl, hb6⟩
        have hb06 := below_call hb05 hb6
        go_wp2_with fail
        refine (refpart_any p (by omega) _).mono ?_
        rintro e w7 ⟨rfl, hb7⟩
        have hb07 := below_call hb06 hb7
        go_wp2_with fail
        go_ret
        exact ⟨by simp, hb07⟩
      · rw [HX.out] at hY
        cases hY
    · have HX := Lib.hid hX
      clear hX
      go_wp2_with fail
      refine (refsplit_any s w3).mono ?_
      rintro e w4 ⟨hb4, hcase⟩
      have hb04 := below_call hb03 hb4
      rcases hcase with ⟨Y, A', c', hY, hYc, hcm', rfl, hrY⟩ | ⟨hY, rfl⟩
      · rw [HX.out] at hY
        cases hY
      · have hsame := same_any (fun _ => True) (fun _ => True) none none 0 0 [] [] w4 Rd.nil Rd.nil (by simp)
        have hsame2 : Calls Tryd.prog 12 #[.slice none 0 0, .slice none 0 0] w4 (SamePost [] [] w4) := hsame
        have Hsame := Lib.hid hsame2
        clear hsame hsame2 hY
        go_wp2_with fail
        refine Hsame.out.mono ?_
        rintro e w5 ⟨rfl, hb5⟩
        have hb05 := below_call hb04 hb5
        have ht : (([] : List (List UInt8)) == []) = true := rfl
        rw [ht]
        clear ht
        go_wp2_with fail
        refine (part_any p (by omega) _ (He.out.grow hb05)).mono ?_
        rintro e w6 ⟨rfl, hb6⟩
        have hb06 := below_call hb05 hb6
        go_wp2_with fail
        refine (refpart_any p (by omega) _).mono ?_
        rintro e w7 ⟨rfl, hb7⟩
        have hb07 := below_call hb06 hb7
        go_wp2_with fail
        go_ret
        exact ⟨by simp, hb07⟩
end Go.Proofs.YtfnoaofjkadilaaDoor
