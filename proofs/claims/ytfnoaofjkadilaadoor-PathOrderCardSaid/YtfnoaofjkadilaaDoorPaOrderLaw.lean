/-
  The walk of PathOrder.
-/
import Derived.Test.YtfnoaofjkadilaaDoorPaLives
namespace Go.Proofs.YtfnoaofjkadilaaDoor
open Go.RowKit
set_option maxRecDepth 100000

set_option maxHeartbeats 2000000 in
theorem pathorder_walk (a b : List UInt8) (w : World) (_ha : a.length ≤ 9223372036854775807) (_hb : b.length ≤ 9223372036854775807) (he : Env w) :
    Calls Tryd.prog 7 #[.string ⟨a.toArray⟩, .string ⟨b.toArray⟩] w fun e w' => e = .returned (.bool true) ∧ Below w.heap.size w w' := by
  have He := Lib.hid he
  clear he _ha _hb
  go_enter Tryd.func7, Tryd.ntmps7
  go_wp2_with fail
  refine (lives_any w He.out).mono ?_
  rintro e w1 ⟨rfl, hb1⟩
  have hsh := short_any (fun _ => True) (some ⟨w1.heap.size, 0, none⟩) 2 [a, b] (w1.alloc (.cells #[.string ⟨a.toArray⟩, .string ⟨b.toArray⟩] 9)) (rd_new w1 9 [a, b])
  obtain ⟨B, hB⟩ : ∃ B, B = shortB [a, b] := ⟨_, rfl⟩
  rw [← hB] at hsh
  have hb1a : Below w.heap.size w (w1.alloc (.cells #[.string ⟨a.toArray⟩, .string ⟨b.toArray⟩] 9)) := hb1.alloc hb1.size _
  have Hsh := Lib.hid hsh
  clear hsh
  go_wp2_with fail
  refine Hsh.out.mono ?_
  rintro e w2 ⟨rfl, rfl⟩
  cases B with
  | false =>
    clear hB
    go_wp2_with fail
    refine (lives_any _ (He.out.grow hb1a)).mono ?_
    rintro e w3 ⟨rfl, hb3⟩
    go_wp2_with fail
    go_ret
    exact ⟨rfl, below_call hb1a hb3⟩
  | true =>
    obtain ⟨ha, hb⟩ := short_two hB.symm
    clear hB Hsh
    go_wp2_with fail
    refine (pwithin_any a b _ (He.out.grow hb1a)).mono ?_
    rintro e w3 ⟨rfl, hb3⟩
    have hb03 := below_call hb1a hb3
    cases hW : withinV a b with
    | false =>
      clear hW
      go_wp2_with fail
      go_ret
      exact ⟨rfl, hb03⟩
    | true =>
      obtain ⟨X, Y, hX, hY, hYX, hba, htk⟩ := within_begins hW
      have hboth := fun h => within_both hW h
      have HX := Lib.hid hX
      have HY := Lib.hid hY
      have Hboth := Lib.hid hboth
      have hx : (⟨a.toArray⟩ : ByteArray).extract 0 b.length = ⟨b.toArray⟩ := by rw [ba_extract, htk]; rfl
      clear hX hY hboth hW htk
      go_wp2_with fail
      refine (psplit_any a _ (He.out.grow hb03)).mono ?_
      rintro e w4 ⟨hb4, hcase⟩
      have hb04 := below_call hb03 hb4
      rcases hcase with ⟨X', A, c, hX', hXc, hcm, rfl, hrX⟩ | ⟨hX', rfl⟩
      · rw [HX.out] at hX'
        obtain rfl := Option.some.inj hX'
        clear hX' hrX
        go_wp2_with fail
        refine (psplit_any b _ (He.out.grow hb04)).mono ?_
        rintro e w5 ⟨hb5, hcase⟩
        have hb05 := below_call hb04 hb5
        rcases hcase with ⟨Y', A', c', hY', hYc, hcm', rfl, hrY⟩ | ⟨hY', rfl⟩
        · rw [HY.out] at hY'
          obtain rfl := Option.some.inj hY'
          clear hY' hrY
          have n1 : ¬ (X.length : Int) < (Y.length : Int) := by omega
          have n2 : ¬ (a.length : Int) < (b.length : Int) := by omega
          have n3 : (b.length : Int) ≤ (a.length : Int) := by omega
          go_wp2_with fail
          refine (pwithin_any b a _ (He.out.grow hb05)).mono ?_
          rintro e w6 ⟨rfl, hb6⟩
          have hb06 := below_call hb05 hb6
          cases hV : withinV b a with
          | false =>
            clear hV
            go_wp2_with fail
            go_ret
            exact ⟨rfl, hb06⟩
          | true =>
            have he2 := Hboth.out hV
            have ht : (a == b) = true := by rw [he2]; exact beq_self_eq_true _
            clear hV he2
            go_wp2_with fail
            go_ret
            exact ⟨by simp, hb06⟩
        · rw [HY.out] at hY'
          cases hY'
      · rw [HX.out] at hX'
        cases hX'
end Go.Proofs.YtfnoaofjkadilaaDoor
